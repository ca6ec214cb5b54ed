import PyProof.Rows.All
import Wide.All
import OpenK.AllK
import Wide.FinOn
import Lean
import PyProof.EqAt
import PyProof.EqKinds
import PyProof.TupleCall
import PyProof.ZipIter
import PyProof.Rows.ZipGen
import PyProof.SumWalkG
import PyProof.EnumMake
import PyProof.EnumFor
import PyProof.FactsAll.int_6
import PyProof.AutoIntG2
import PyProof.RulesAs
import PyProof.Rows.TopTwo
import PyProof.ExcArgsOwn
import PyProof.ExcBaseAll.ValueError
import OpenK.KDescr
import KE.RegKIsAll
import PyProof.EqKinds
import KE.KRevIter
import PyProof.ListNew
import KE.KItemsList
import KE.KLam
import KE.KMinKey
import PyProof.MinMaxWalk
import PyProof.NeKinds
import PySem.Challenge.RW_limbtables_k33_ties_beyond
noncomputable section
abbrev Jaa:=@List.getElem?_eq_getElem
abbrev Jab:=@List.length_map
abbrev Jac:=@List.getD_eq_getElem?_getD
abbrev Jad:=@List.mem_of_getElem?
abbrev Jae:=@List.length_append
abbrev Jaf:=@Nat.le_refl
abbrev Jag:=@List.getElem?_eq_some_iff
abbrev Jah:=@List.getElem?_map
abbrev Jai:=@List.mem_append
abbrev Jaj:=@decide_eq_true
abbrev Jak:=@PySem.Heap.get?_push_of_some
abbrev Jal:=@List.getElem?_eq_none
abbrev Jam:=@PySem.Heap.lt_size
abbrev Jan:=@PySem.PassesOwn.never
abbrev Jao:=@List.getElem?_append_right
abbrev Jap:=@List.mem_iff_getElem
abbrev Jaq:=@List.mem_singleton
abbrev Jar:=@List.getElem?_append_left
abbrev Jas:=@PySem.wpAny_bind
abbrev Jat:=@List.size_toArray
abbrev Jau:=@Bool.false_ne_true
abbrev Jav:=@Nat.le_trans
abbrev Jaw:=@Nat.lt_of_lt_of_le
abbrev Jax:=@PySem.F.plainAttrs_list
abbrev Jay:=@PySem.F.slot_list_append
abbrev Jaz:=@PySem.F.type_list_append
abbrev Ja0:=@of_decide_eq_true
abbrev Ja1:=@List.map_append
abbrev Ja2:=@List.getElem_mem
abbrev Ja3:=@List.mem_map
abbrev Ja4:=@List.length_range
abbrev Ja5:=@List.lookup_cons
abbrev Ja6:=@PySem.Heap.get?_push_size
abbrev Ja7:=@Int.emod_lt_of_pos
abbrev Ja8:=@PySem.boot_len
abbrev Ja9:=@decide_eq_false
abbrev Jba:=@Int.toNat_natCast
abbrev Jbb:=@List.length_take
abbrev Jbc:=@List.mem_range
abbrev Jbd:=@Option.some.inj
abbrev Jbe:=@Nat.ne_of_lt
abbrev Jbf:=@List.mem_append_right
abbrev Jbg:=@List.length_replicate
abbrev Jbh:=@PySem.mem_of_lookup
abbrev Jbi:=@Int.emod_nonneg
abbrev Jbj:=@PySem.wpAny_pure
abbrev Jbk:=@Nat.lt_of_le_of_lt
abbrev Jbl:=@List.all_eq_true
abbrev Jbm:=@PySem.wpAny_truthy_bool
abbrev Jbn:=@Int.gcd_dvd_left
abbrev Jbo:=@List.mem_cons_of_mem
abbrev Jbp:=@List.mem_cons
abbrev Jbq:=@List.length_cons
abbrev Jbr:=@beq_iff_eq
abbrev Jbs:=@Int.gcd_dvd_right
abbrev Jbt:=@PyProof.Rows.boot_isinstance
abbrev Jbu:=@Int.fdiv_eq_ediv_of_nonneg
abbrev Jbv:=@Int.toNat_of_nonneg
abbrev Jbw:=@List.append_assoc
abbrev Jbx:=@List.mem_or_eq_of_mem_set
abbrev Jby:=@List.mem_of_mem_eraseIdx
abbrev Jbz:=@Int.natCast_add
abbrev Jb0:=@List.length_drop
abbrev Jb1:=@Nat.lt_irrefl
abbrev Jb2:=@Nat.zero_le
abbrev Jb3:=@Nat.le_of_lt
abbrev Jb4:=@PySem.F.plain_min_loop
abbrev Jb5:=@PySem.W.kia_one
abbrev Jb6:=@Classical.byContradiction
abbrev Jb7:=@List.range_succ
abbrev Jb8:=@Int.natCast_mul
abbrev Jb9:=@Int.ediv_mul_cancel
abbrev Jca:=@Nat.mul_le_mul
abbrev Jcb:=@List.mem_cons_self
abbrev Jcc:=@PyProof.Rows.callWith_type1
abbrev Jcd:=@List.length_set
abbrev Jce:=@Bool.and_eq_true
abbrev Jcf:=@List.replicate_succ
abbrev Jcg:=@Nat.lt_succ_of_lt
abbrev Jch:=@List.getElem?_range
abbrev Jci:=@List.eraseIdx_eq_take_drop_succ
abbrev Jcj:=@List.length_nil
abbrev Jck:=@List.getElem?_take_of_lt
abbrev Jcl:=@List.take_length
abbrev Jcm:=@Nat.pow_le_pow_right
abbrev Jcn:=@Int.gcd_pos_of_ne_zero_right
abbrev Jco:=@Nat.le_of_succ_le
abbrev Jcp:=@List.append_nil
abbrev Jcq:=@PySem.F.slot_int_bit_length
abbrev Jcr:=@PySem.F.type_int_bit_length
abbrev Jcs:=@PySem.wpAny_mono
abbrev Jct:=@decide_eq_decide
abbrev Jcu:=@Int.natAbs_mul
abbrev Jcv:=@List.mem_of_mem_take
abbrev Jcw:=@PySem.wpAny_passesOwn
abbrev Jcx:=@Bool.eq_iff_iff
abbrev Jcy:=@if_true
abbrev Jcz:=@Bool.or_eq_true
abbrev Jc0:=@Int.emod_eq_of_lt
abbrev Jc1:=@PyProof.Rows.boot_list
abbrev Jc2:=@Int.mul_le_mul_of_nonneg_right
abbrev Jc3:=@Int.zero_add
abbrev Jc4:=@List.getElem?_replicate
abbrev Jc5:=@Int.mul_pos
abbrev Jc6:=@List.length_zipWith
abbrev Jc7:=@Nat.add_mul
abbrev Jc8:=@Nat.le_add_right
abbrev Jc9:=@Int.natCast_emod
abbrev Jda:=@PySem.Heap.size_push
abbrev Jdb:=@Int.mul_nonneg
abbrev Jdc:=@PySem.wpAny_tryCatch
abbrev Jdd:=@PySem.W.cellsFrom_some
abbrev Jde:=@PySem.F.plainAttrs_int
abbrev Jdf:=@PySem.wpAny_Call_Name_kw
abbrev Jdg:=@Int.mul_comm
abbrev Jdh:=@Classical.choose_spec
abbrev Jdi:=@List.take_append_drop
abbrev Jdj:=@PySem.wpAny_holding
abbrev Jdk:=@List.flatten_cons
abbrev Jdl:=@List.take_add_one
abbrev Jdm:=@List.getElem?_set_ne
abbrev Jdn:=@Int.natAbs_of_nonneg
abbrev Jdo:=@PySem.intBits_le_iff
abbrev Jdp:=@Nat.lt_succ_self
abbrev Jdq:=@beq_eq_false_iff_ne
abbrev Jdr:=@Ne.symm
abbrev Jds:=@Option.isSome_iff_exists
abbrev Jdt:=@congrArg
abbrev Jdu:=@Nat.two_pow_pos
abbrev Jdv:=@List.getElem?_drop
abbrev Jdw:=@List.mem_replicate
abbrev Jdx:=@PySem.wpAny_pyNext_list_item
abbrev Jdy:=@PySem.F.entry_min_loop
abbrev Jdz:=@Int.fmod_nonneg_of_pos
abbrev Jd0:=@PySem.wpAny_pyIter_list
abbrev Jd1:=@Nat.add_le_add
abbrev Jd2:=@PySem.wpAny_isTrue_Compare1
abbrev Jd3:=@PySem.wpAny_pyNext_list_end
abbrev Jd4:=@Int.emod_add_mul_ediv
abbrev Jd5:=@PySem.Around.under_plainId
abbrev Jd6:=@List.mem_of_mem_drop
abbrev Jd7:=@Nat.pow_lt_pow_right
abbrev Jd8:=@List.all_cons
abbrev Jd9:=@Bool.true_and
abbrev Jea:=@List.filterMap_cons
abbrev Jeb:=@Array.length_toList
abbrev Jec:=@PySem.wpAny_execs_nil
abbrev Jed:=@PySem.W.plainGet_of
abbrev Jee:=@List.nodup_cons
abbrev Jef:=@Int.ediv_nonneg
abbrev Jeg:=@PySem.Heap.SameBut.update
abbrev Jeh:=@Bool.decide_and
abbrev Jei:=@Nat.ne_of_gt
abbrev Jej:=@Int.natCast_nonneg
abbrev Jek:=@PySem.W.callWith_K
abbrev Jel:=@Nat.succ_mul
abbrev Jem:=@PySem.SeqAt.EqAt.of_refs
abbrev Jen:=@Int.gcd_comm
abbrev Jeo:=@Nat.pow_succ
abbrev Jep:=@PyProof.Rows.boot_abs
abbrev Jeq:=@Int.fmod_lt_of_pos
abbrev Jer:=@Bool.false_and
abbrev Jes:=@Int.lt_trichotomy
abbrev Jet:=@List.ext_getElem?
abbrev Jeu:=@PySem.wpAny_standAt
abbrev Jev:=@Int.mul_one
abbrev Jew:=@List.map_cons
abbrev Jex:=@if_false
abbrev Jey:=@Bool.and_true
abbrev Jez:=@PySem.plainId_quiet
abbrev Je0:=@PySem.call_meets
set_option compiler.postponeCompile true
set_option bootstrap.genMatcherCode false
set_option genSizeOf false
set_option Elab.async false
set_option linter.all false
namespace L2
theorem Zp1 {p f1 f2 f3 f4 f5 f6 f7 f8 f9:Prop} {G:Prop} (h:p/\f1/\f2/\f3/\f4/\f5/\f6/\f7/\f8/\f9) (f:p->f1->f2->f3->f4->f5->f6->f7->f8->f9->G):G:=let ⟨h0,h1,h2,h3,h4,h5,h6,h7,h8,h9⟩:=h; f h0 h1 h2 h3 h4 h5 h6 h7 h8 h9
theorem xE0_11 {p f1 f2 f3 f4 f5 f6 f7 f8 f9 g0:Prop} {G:Prop} (h:p/\f1/\f2/\f3/\f4/\f5/\f6/\f7/\f8/\f9/\g0) (f:p->f1->f2->f3->f4->f5->f6->f7->f8->f9->g0->G):G:=let ⟨h0,h1,h2,h3,h4,h5,h6,h7,h8,h9,h10⟩:=h; f h0 h1 h2 h3 h4 h5 h6 h7 h8 h9 h10
theorem Za9 {p f1 f2:Prop} {G:Prop} (h:p/\f1/\f2) (f:p->f1->f2->G):G:=let ⟨h0,h1,h2⟩:=h; f h0 h1 h2
theorem Zcj {p f1 f2 f3:Prop} {G:Prop} (h:p/\f1/\f2/\f3) (f:p->f1->f2->f3->G):G:=let ⟨h0,h1,h2,h3⟩:=h; f h0 h1 h2 h3
theorem Zcv {p f1 f2 f3 f4:Prop} {G:Prop} (h:p/\f1/\f2/\f3/\f4) (f:p->f1->f2->f3->f4->G):G:=let ⟨h0,h1,h2,h3,h4⟩:=h; f h0 h1 h2 h3 h4
theorem Zdd {p f1 f2 f3 f4 f5:Prop} {G:Prop} (h:p/\f1/\f2/\f3/\f4/\f5) (f:p->f1->f2->f3->f4->f5->G):G:=let ⟨h0,h1,h2,h3,h4,h5⟩:=h; f h0 h1 h2 h3 h4 h5
theorem Zto {p f1 f2 f3 f4 f5 f6:Prop} {G:Prop} (h:p/\f1/\f2/\f3/\f4/\f5/\f6) (f:p->f1->f2->f3->f4->f5->f6->G):G:=let ⟨h0,h1,h2,h3,h4,h5,h6⟩:=h; f h0 h1 h2 h3 h4 h5 h6
theorem xE0_8 {p f1 f2 f3 f4 f5 f6 f7:Prop} {G:Prop} (h:p/\f1/\f2/\f3/\f4/\f5/\f6/\f7) (f:p->f1->f2->f3->f4->f5->f6->f7->G):G:=let ⟨h0,h1,h2,h3,h4,h5,h6,h7⟩:=h; f h0 h1 h2 h3 h4 h5 h6 h7
theorem Ztn {p f1 f2 f3 f4 f5 f6 f7 f8:Prop} {G:Prop} (h:p/\f1/\f2/\f3/\f4/\f5/\f6/\f7/\f8) (f:p->f1->f2->f3->f4->f5->f6->f7->f8->G):G:=let ⟨h0,h1,h2,h3,h4,h5,h6,h7,h8⟩:=h; f h0 h1 h2 h3 h4 h5 h6 h7 h8
theorem xE10_2 {A B C D E F I J K L:Type} {p f1:A->B->C->D->E->F->I->J->K->L->Prop} {G:Prop} (h:∃ a b c d e i j k l m,p a b c d e i j k l m/\f1 a b c d e i j k l m) (f:∀ a b c d e i j k l m,p a b c d e i j k l m->f1 a b c d e i j k l m->G):G:=let ⟨a,b,c,d,e,i,j,k,l,m,h0,h1⟩:=h; f a b c d e i j k l m h0 h1
theorem Zp0 {A B C D E F I J K L:Type} {p f1 f2 f3:A->B->C->D->E->F->I->J->K->L->Prop} {G:Prop} (h:∃ a b c d e i j k l m,p a b c d e i j k l m/\f1 a b c d e i j k l m/\f2 a b c d e i j k l m/\f3 a b c d e i j k l m) (f:∀ a b c d e i j k l m,p a b c d e i j k l m->f1 a b c d e i j k l m->f2 a b c d e i j k l m->f3 a b c d e i j k l m->G):G:=let ⟨a,b,c,d,e,i,j,k,l,m,h0,h1,h2,h3⟩:=h; f a b c d e i j k l m h0 h1 h2 h3
theorem Zvz {A B C D E F I J K L M:Type} {p f1:A->B->C->D->E->F->I->J->K->L->M->Prop} {G:Prop} (h:∃ a b c d e i j k l m n,p a b c d e i j k l m n/\f1 a b c d e i j k l m n) (f:∀ a b c d e i j k l m n,p a b c d e i j k l m n->f1 a b c d e i j k l m n->G):G:=let ⟨a,b,c,d,e,i,j,k,l,m,n,h0,h1⟩:=h; f a b c d e i j k l m n h0 h1
theorem Znn {A B C D E F I J K L M:Type} {p f1 f2 f3:A->B->C->D->E->F->I->J->K->L->M->Prop} {G:Prop} (h:∃ a b c d e i j k l m n,p a b c d e i j k l m n/\f1 a b c d e i j k l m n/\f2 a b c d e i j k l m n/\f3 a b c d e i j k l m n) (f:∀ a b c d e i j k l m n,p a b c d e i j k l m n->f1 a b c d e i j k l m n->f2 a b c d e i j k l m n->f3 a b c d e i j k l m n->G):G:=let ⟨a,b,c,d,e,i,j,k,l,m,n,h0,h1,h2,h3⟩:=h; f a b c d e i j k l m n h0 h1 h2 h3
theorem xE13_2 {A B C D E F I J K L M N O:Type} {p f1:A->B->C->D->E->F->I->J->K->L->M->N->O->Prop} {G:Prop} (h:∃ a b c d e i j k l m n o q,p a b c d e i j k l m n o q/\f1 a b c d e i j k l m n o q) (f:∀ a b c d e i j k l m n o q,p a b c d e i j k l m n o q->f1 a b c d e i j k l m n o q->G):G:=let ⟨a,b,c,d,e,i,j,k,l,m,n,o,q,h0,h1⟩:=h; f a b c d e i j k l m n o q h0 h1
theorem xE13_4 {A B C D E F I J K L M N O:Type} {p f1 f2 f3:A->B->C->D->E->F->I->J->K->L->M->N->O->Prop} {G:Prop} (h:∃ a b c d e i j k l m n o q,p a b c d e i j k l m n o q/\f1 a b c d e i j k l m n o q/\f2 a b c d e i j k l m n o q/\f3 a b c d e i j k l m n o q) (f:∀ a b c d e i j k l m n o q,p a b c d e i j k l m n o q->f1 a b c d e i j k l m n o q->f2 a b c d e i j k l m n o q->f3 a b c d e i j k l m n o q->G):G:=let ⟨a,b,c,d,e,i,j,k,l,m,n,o,q,h0,h1,h2,h3⟩:=h; f a b c d e i j k l m n o q h0 h1 h2 h3
theorem xE14_2 {A B C D E F I J K L M N O P:Type} {p f1:A->B->C->D->E->F->I->J->K->L->M->N->O->P->Prop} {G:Prop} (h:∃ a b c d e i j k l m n o q r,p a b c d e i j k l m n o q r/\f1 a b c d e i j k l m n o q r) (f:∀ a b c d e i j k l m n o q r,p a b c d e i j k l m n o q r->f1 a b c d e i j k l m n o q r->G):G:=let ⟨a,b,c,d,e,i,j,k,l,m,n,o,q,r,h0,h1⟩:=h; f a b c d e i j k l m n o q r h0 h1
theorem xE14_4 {A B C D E F I J K L M N O P:Type} {p f1 f2 f3:A->B->C->D->E->F->I->J->K->L->M->N->O->P->Prop} {G:Prop} (h:∃ a b c d e i j k l m n o q r,p a b c d e i j k l m n o q r/\f1 a b c d e i j k l m n o q r/\f2 a b c d e i j k l m n o q r/\f3 a b c d e i j k l m n o q r) (f:∀ a b c d e i j k l m n o q r,p a b c d e i j k l m n o q r->f1 a b c d e i j k l m n o q r->f2 a b c d e i j k l m n o q r->f3 a b c d e i j k l m n o q r->G):G:=let ⟨a,b,c,d,e,i,j,k,l,m,n,o,q,r,h0,h1,h2,h3⟩:=h; f a b c d e i j k l m n o q r h0 h1 h2 h3
theorem xE15_2 {A B C D E F I J K L M N O P Q:Type} {p f1:A->B->C->D->E->F->I->J->K->L->M->N->O->P->Q->Prop} {G:Prop} (h:∃ a b c d e i j k l m n o q r s,p a b c d e i j k l m n o q r s/\f1 a b c d e i j k l m n o q r s) (f:∀ a b c d e i j k l m n o q r s,p a b c d e i j k l m n o q r s->f1 a b c d e i j k l m n o q r s->G):G:=let ⟨a,b,c,d,e,i,j,k,l,m,n,o,q,r,s,h0,h1⟩:=h; f a b c d e i j k l m n o q r s h0 h1
theorem xE15_4 {A B C D E F I J K L M N O P Q:Type} {p f1 f2 f3:A->B->C->D->E->F->I->J->K->L->M->N->O->P->Q->Prop} {G:Prop} (h:∃ a b c d e i j k l m n o q r s,p a b c d e i j k l m n o q r s/\f1 a b c d e i j k l m n o q r s/\f2 a b c d e i j k l m n o q r s/\f3 a b c d e i j k l m n o q r s) (f:∀ a b c d e i j k l m n o q r s,p a b c d e i j k l m n o q r s->f1 a b c d e i j k l m n o q r s->f2 a b c d e i j k l m n o q r s->f3 a b c d e i j k l m n o q r s->G):G:=let ⟨a,b,c,d,e,i,j,k,l,m,n,o,q,r,s,h0,h1,h2,h3⟩:=h; f a b c d e i j k l m n o q r s h0 h1 h2 h3
theorem xE17_2 {A B C D E F I J K L M N O P Q R S:Type} {p f1:A->B->C->D->E->F->I->J->K->L->M->N->O->P->Q->R->S->Prop} {G:Prop} (h:∃ a b c d e i j k l m n o q r s t u,p a b c d e i j k l m n o q r s t u/\f1 a b c d e i j k l m n o q r s t u) (f:∀ a b c d e i j k l m n o q r s t u,p a b c d e i j k l m n o q r s t u->f1 a b c d e i j k l m n o q r s t u->G):G:=let ⟨a,b,c,d,e,i,j,k,l,m,n,o,q,r,s,t,u,h0,h1⟩:=h; f a b c d e i j k l m n o q r s t u h0 h1
theorem xE17_4 {A B C D E F I J K L M N O P Q R S:Type} {p f1 f2 f3:A->B->C->D->E->F->I->J->K->L->M->N->O->P->Q->R->S->Prop} {G:Prop} (h:∃ a b c d e i j k l m n o q r s t u,p a b c d e i j k l m n o q r s t u/\f1 a b c d e i j k l m n o q r s t u/\f2 a b c d e i j k l m n o q r s t u/\f3 a b c d e i j k l m n o q r s t u) (f:∀ a b c d e i j k l m n o q r s t u,p a b c d e i j k l m n o q r s t u->f1 a b c d e i j k l m n o q r s t u->f2 a b c d e i j k l m n o q r s t u->f3 a b c d e i j k l m n o q r s t u->G):G:=let ⟨a,b,c,d,e,i,j,k,l,m,n,o,q,r,s,t,u,h0,h1,h2,h3⟩:=h; f a b c d e i j k l m n o q r s t u h0 h1 h2 h3
theorem xE18_2 {A B C D E F I J K L M N O P Q R S T:Type} {p f1:A->B->C->D->E->F->I->J->K->L->M->N->O->P->Q->R->S->T->Prop} {G:Prop} (h:∃ a b c d e i j k l m n o q r s t u v,p a b c d e i j k l m n o q r s t u v/\f1 a b c d e i j k l m n o q r s t u v) (f:∀ a b c d e i j k l m n o q r s t u v,p a b c d e i j k l m n o q r s t u v->f1 a b c d e i j k l m n o q r s t u v->G):G:=let ⟨a,b,c,d,e,i,j,k,l,m,n,o,q,r,s,t,u,v,h0,h1⟩:=h; f a b c d e i j k l m n o q r s t u v h0 h1
theorem xE18_4 {A B C D E F I J K L M N O P Q R S T:Type} {p f1 f2 f3:A->B->C->D->E->F->I->J->K->L->M->N->O->P->Q->R->S->T->Prop} {G:Prop} (h:∃ a b c d e i j k l m n o q r s t u v,p a b c d e i j k l m n o q r s t u v/\f1 a b c d e i j k l m n o q r s t u v/\f2 a b c d e i j k l m n o q r s t u v/\f3 a b c d e i j k l m n o q r s t u v) (f:∀ a b c d e i j k l m n o q r s t u v,p a b c d e i j k l m n o q r s t u v->f1 a b c d e i j k l m n o q r s t u v->f2 a b c d e i j k l m n o q r s t u v->f3 a b c d e i j k l m n o q r s t u v->G):G:=let ⟨a,b,c,d,e,i,j,k,l,m,n,o,q,r,s,t,u,v,h0,h1,h2,h3⟩:=h; f a b c d e i j k l m n o q r s t u v h0 h1 h2 h3
theorem Zad {A:Type} {p f1:A->Prop} {G:Prop} (h:∃ a,p a/\f1 a) (f:∀ a,p a->f1 a->G):G:=let ⟨a,h0,h1⟩:=h; f a h0 h1
theorem Zav {A:Type} {p f1 f2:A->Prop} {G:Prop} (h:∃ a,p a/\f1 a/\f2 a) (f:∀ a,p a->f1 a->f2 a->G):G:=let ⟨a,h0,h1,h2⟩:=h; f a h0 h1 h2
theorem xE1_4 {A:Type} {p f1 f2 f3:A->Prop} {G:Prop} (h:∃ a,p a/\f1 a/\f2 a/\f3 a) (f:∀ a,p a->f1 a->f2 a->f3 a->G):G:=let ⟨a,h0,h1,h2,h3⟩:=h; f a h0 h1 h2 h3
theorem Zpz {A:Type} {p f1 f2 f3 f4:A->Prop} {G:Prop} (h:∃ a,p a/\f1 a/\f2 a/\f3 a/\f4 a) (f:∀ a,p a->f1 a->f2 a->f3 a->f4 a->G):G:=let ⟨a,h0,h1,h2,h3,h4⟩:=h; f a h0 h1 h2 h3 h4
theorem Ztm {A:Type} {p f1 f2 f3 f4 f5:A->Prop} {G:Prop} (h:∃ a,p a/\f1 a/\f2 a/\f3 a/\f4 a/\f5 a) (f:∀ a,p a->f1 a->f2 a->f3 a->f4 a->f5 a->G):G:=let ⟨a,h0,h1,h2,h3,h4,h5⟩:=h; f a h0 h1 h2 h3 h4 h5
theorem Zla {A B:Type} {p:A->B->Prop} {G:Prop} (h:∃ a b,p a b) (f:∀ a b,p a b->G):G:=let ⟨a,b,h0⟩:=h; f a b h0
theorem Zbo {A B:Type} {p f1:A->B->Prop} {G:Prop} (h:∃ a b,p a b/\f1 a b) (f:∀ a b,p a b->f1 a b->G):G:=let ⟨a,b,h0,h1⟩:=h; f a b h0 h1
theorem Zbl {A B:Type} {p f1 f2:A->B->Prop} {G:Prop} (h:∃ a b,p a b/\f1 a b/\f2 a b) (f:∀ a b,p a b->f1 a b->f2 a b->G):G:=let ⟨a,b,h0,h1,h2⟩:=h; f a b h0 h1 h2
theorem Zdv {A B:Type} {p f1 f2 f3:A->B->Prop} {G:Prop} (h:∃ a b,p a b/\f1 a b/\f2 a b/\f3 a b) (f:∀ a b,p a b->f1 a b->f2 a b->f3 a b->G):G:=let ⟨a,b,h0,h1,h2,h3⟩:=h; f a b h0 h1 h2 h3
theorem Zic {A B:Type} {p f1 f2 f3 f4:A->B->Prop} {G:Prop} (h:∃ a b,p a b/\f1 a b/\f2 a b/\f3 a b/\f4 a b) (f:∀ a b,p a b->f1 a b->f2 a b->f3 a b->f4 a b->G):G:=let ⟨a,b,h0,h1,h2,h3,h4⟩:=h; f a b h0 h1 h2 h3 h4
theorem Zib {A B:Type} {p f1 f2 f3 f4 f5:A->B->Prop} {G:Prop} (h:∃ a b,p a b/\f1 a b/\f2 a b/\f3 a b/\f4 a b/\f5 a b) (f:∀ a b,p a b->f1 a b->f2 a b->f3 a b->f4 a b->f5 a b->G):G:=let ⟨a,b,h0,h1,h2,h3,h4,h5⟩:=h; f a b h0 h1 h2 h3 h4 h5
theorem xE3_1 {A B C:Type} {p:A->B->C->Prop} {G:Prop} (h:∃ a b c,p a b c) (f:∀ a b c,p a b c->G):G:=let ⟨a,b,c,h0⟩:=h; f a b c h0
theorem Zdu {A B C:Type} {p f1:A->B->C->Prop} {G:Prop} (h:∃ a b c,p a b c/\f1 a b c) (f:∀ a b c,p a b c->f1 a b c->G):G:=let ⟨a,b,c,h0,h1⟩:=h; f a b c h0 h1
theorem Zia {A B C:Type} {p f1 f2:A->B->C->Prop} {G:Prop} (h:∃ a b c,p a b c/\f1 a b c/\f2 a b c) (f:∀ a b c,p a b c->f1 a b c->f2 a b c->G):G:=let ⟨a,b,c,h0,h1,h2⟩:=h; f a b c h0 h1 h2
theorem Zbj {A B C:Type} {p f1 f2 f3:A->B->C->Prop} {G:Prop} (h:∃ a b c,p a b c/\f1 a b c/\f2 a b c/\f3 a b c) (f:∀ a b c,p a b c->f1 a b c->f2 a b c->f3 a b c->G):G:=let ⟨a,b,c,h0,h1,h2,h3⟩:=h; f a b c h0 h1 h2 h3
theorem Zml {A B C D:Type} {p f1:A->B->C->D->Prop} {G:Prop} (h:∃ a b c d,p a b c d/\f1 a b c d) (f:∀ a b c d,p a b c d->f1 a b c d->G):G:=let ⟨a,b,c,d,h0,h1⟩:=h; f a b c d h0 h1
theorem Zk9 {A B C D:Type} {p f1 f2:A->B->C->D->Prop} {G:Prop} (h:∃ a b c d,p a b c d/\f1 a b c d/\f2 a b c d) (f:∀ a b c d,p a b c d->f1 a b c d->f2 a b c d->G):G:=let ⟨a,b,c,d,h0,h1,h2⟩:=h; f a b c d h0 h1 h2
theorem Zdc {A B C D:Type} {p f1 f2 f3:A->B->C->D->Prop} {G:Prop} (h:∃ a b c d,p a b c d/\f1 a b c d/\f2 a b c d/\f3 a b c d) (f:∀ a b c d,p a b c d->f1 a b c d->f2 a b c d->f3 a b c d->G):G:=let ⟨a,b,c,d,h0,h1,h2,h3⟩:=h; f a b c d h0 h1 h2 h3
theorem Ztl {A B C D E:Type} {p:A->B->C->D->E->Prop} {G:Prop} (h:∃ a b c d e,p a b c d e) (f:∀ a b c d e,p a b c d e->G):G:=let ⟨a,b,c,d,e,h0⟩:=h; f a b c d e h0
theorem Ztk {A B C D E:Type} {p f1:A->B->C->D->E->Prop} {G:Prop} (h:∃ a b c d e,p a b c d e/\f1 a b c d e) (f:∀ a b c d e,p a b c d e->f1 a b c d e->G):G:=let ⟨a,b,c,d,e,h0,h1⟩:=h; f a b c d e h0 h1
theorem Zgh {A B C D E:Type} {p f1 f2 f3:A->B->C->D->E->Prop} {G:Prop} (h:∃ a b c d e,p a b c d e/\f1 a b c d e/\f2 a b c d e/\f3 a b c d e) (f:∀ a b c d e,p a b c d e->f1 a b c d e->f2 a b c d e->f3 a b c d e->G):G:=let ⟨a,b,c,d,e,h0,h1,h2,h3⟩:=h; f a b c d e h0 h1 h2 h3
theorem Ztj {A B C D E F:Type} {p f1:A->B->C->D->E->F->Prop} {G:Prop} (h:∃ a b c d e i,p a b c d e i/\f1 a b c d e i) (f:∀ a b c d e i,p a b c d e i->f1 a b c d e i->G):G:=let ⟨a,b,c,d,e,i,h0,h1⟩:=h; f a b c d e i h0 h1
theorem xE6_3 {A B C D E F:Type} {p f1 f2:A->B->C->D->E->F->Prop} {G:Prop} (h:∃ a b c d e i,p a b c d e i/\f1 a b c d e i/\f2 a b c d e i) (f:∀ a b c d e i,p a b c d e i->f1 a b c d e i->f2 a b c d e i->G):G:=let ⟨a,b,c,d,e,i,h0,h1,h2⟩:=h; f a b c d e i h0 h1 h2
theorem Zpy {A B C D E F:Type} {p f1 f2 f3:A->B->C->D->E->F->Prop} {G:Prop} (h:∃ a b c d e i,p a b c d e i/\f1 a b c d e i/\f2 a b c d e i/\f3 a b c d e i) (f:∀ a b c d e i,p a b c d e i->f1 a b c d e i->f2 a b c d e i->f3 a b c d e i->G):G:=let ⟨a,b,c,d,e,i,h0,h1,h2,h3⟩:=h; f a b c d e i h0 h1 h2 h3
theorem Zmk {A B C D E F I:Type} {p:A->B->C->D->E->F->I->Prop} {G:Prop} (h:∃ a b c d e i j,p a b c d e i j) (f:∀ a b c d e i j,p a b c d e i j->G):G:=let ⟨a,b,c,d,e,i,j,h0⟩:=h; f a b c d e i j h0
theorem Zti {A B C D E F I:Type} {p f1:A->B->C->D->E->F->I->Prop} {G:Prop} (h:∃ a b c d e i j,p a b c d e i j/\f1 a b c d e i j) (f:∀ a b c d e i j,p a b c d e i j->f1 a b c d e i j->G):G:=let ⟨a,b,c,d,e,i,j,h0,h1⟩:=h; f a b c d e i j h0 h1
theorem Zmj {A B C D E F I:Type} {p f1 f2 f3:A->B->C->D->E->F->I->Prop} {G:Prop} (h:∃ a b c d e i j,p a b c d e i j/\f1 a b c d e i j/\f2 a b c d e i j/\f3 a b c d e i j) (f:∀ a b c d e i j,p a b c d e i j->f1 a b c d e i j->f2 a b c d e i j->f3 a b c d e i j->G):G:=let ⟨a,b,c,d,e,i,j,h0,h1,h2,h3⟩:=h; f a b c d e i j h0 h1 h2 h3
theorem xE8_2 {A B C D E F I J:Type} {p f1:A->B->C->D->E->F->I->J->Prop} {G:Prop} (h:∃ a b c d e i j k,p a b c d e i j k/\f1 a b c d e i j k) (f:∀ a b c d e i j k,p a b c d e i j k->f1 a b c d e i j k->G):G:=let ⟨a,b,c,d,e,i,j,k,h0,h1⟩:=h; f a b c d e i j k h0 h1
theorem xE8_3 {A B C D E F I J:Type} {p f1 f2:A->B->C->D->E->F->I->J->Prop} {G:Prop} (h:∃ a b c d e i j k,p a b c d e i j k/\f1 a b c d e i j k/\f2 a b c d e i j k) (f:∀ a b c d e i j k,p a b c d e i j k->f1 a b c d e i j k->f2 a b c d e i j k->G):G:=let ⟨a,b,c,d,e,i,j,k,h0,h1,h2⟩:=h; f a b c d e i j k h0 h1 h2
theorem xE8_4 {A B C D E F I J:Type} {p f1 f2 f3:A->B->C->D->E->F->I->J->Prop} {G:Prop} (h:∃ a b c d e i j k,p a b c d e i j k/\f1 a b c d e i j k/\f2 a b c d e i j k/\f3 a b c d e i j k) (f:∀ a b c d e i j k,p a b c d e i j k->f1 a b c d e i j k->f2 a b c d e i j k->f3 a b c d e i j k->G):G:=let ⟨a,b,c,d,e,i,j,k,h0,h1,h2,h3⟩:=h; f a b c d e i j k h0 h1 h2 h3
theorem Zo1 {A B C D E F I J K:Type} {p f1:A->B->C->D->E->F->I->J->K->Prop} {G:Prop} (h:∃ a b c d e i j k l,p a b c d e i j k l/\f1 a b c d e i j k l) (f:∀ a b c d e i j k l,p a b c d e i j k l->f1 a b c d e i j k l->G):G:=let ⟨a,b,c,d,e,i,j,k,l,h0,h1⟩:=h; f a b c d e i j k l h0 h1
theorem Zpx {A B C D E F I J K:Type} {p f1 f2:A->B->C->D->E->F->I->J->K->Prop} {G:Prop} (h:∃ a b c d e i j k l,p a b c d e i j k l/\f1 a b c d e i j k l/\f2 a b c d e i j k l) (f:∀ a b c d e i j k l,p a b c d e i j k l->f1 a b c d e i j k l->f2 a b c d e i j k l->G):G:=let ⟨a,b,c,d,e,i,j,k,l,h0,h1,h2⟩:=h; f a b c d e i j k l h0 h1 h2
theorem Zpw {A B C D E F I J K:Type} {p f1 f2 f3:A->B->C->D->E->F->I->J->K->Prop} {G:Prop} (h:∃ a b c d e i j k l,p a b c d e i j k l/\f1 a b c d e i j k l/\f2 a b c d e i j k l/\f3 a b c d e i j k l) (f:∀ a b c d e i j k l,p a b c d e i j k l->f1 a b c d e i j k l->f2 a b c d e i j k l->f3 a b c d e i j k l->G):G:=let ⟨a,b,c,d,e,i,j,k,l,h0,h1,h2,h3⟩:=h; f a b c d e i j k l h0 h1 h2 h3
theorem Zvy {A B C D E F I J K L:Type} {p:A->B->C->D->E->F->I->J->K->L->Prop} (a:A) (b:B) (c:C) (d:D) (e:E) (i:F) (j:I) (k:J) (l:K) (m:L) (h0:p a b c d e i j k l m):∃ a b c d e i j k l m,p a b c d e i j k l m:=⟨a,b,c,d,e,i,j,k,l,m,h0⟩
theorem Znm {A B C D E F I J K L M:Type} {p:A->B->C->D->E->F->I->J->K->L->M->Prop} (a:A) (b:B) (c:C) (d:D) (e:E) (i:F) (j:I) (k:J) (l:K) (m:L) (n:M) (h0:p a b c d e i j k l m n):∃ a b c d e i j k l m n,p a b c d e i j k l m n:=⟨a,b,c,d,e,i,j,k,l,m,n,h0⟩
theorem xI14_1 {A B C D E F I J K L M N O P:Type} {p:A->B->C->D->E->F->I->J->K->L->M->N->O->P->Prop} (a:A) (b:B) (c:C) (d:D) (e:E) (i:F) (j:I) (k:J) (l:K) (m:L) (n:M) (o:N) (q:O) (r:P) (h0:p a b c d e i j k l m n o q r):∃ a b c d e i j k l m n o q r,p a b c d e i j k l m n o q r:=⟨a,b,c,d,e,i,j,k,l,m,n,o,q,r,h0⟩
theorem xI15_1 {A B C D E F I J K L M N O P Q:Type} {p:A->B->C->D->E->F->I->J->K->L->M->N->O->P->Q->Prop} (a:A) (b:B) (c:C) (d:D) (e:E) (i:F) (j:I) (k:J) (l:K) (m:L) (n:M) (o:N) (q:O) (r:P) (s:Q) (h0:p a b c d e i j k l m n o q r s):∃ a b c d e i j k l m n o q r s,p a b c d e i j k l m n o q r s:=⟨a,b,c,d,e,i,j,k,l,m,n,o,q,r,s,h0⟩
theorem Zau {A B:Type} {p:A->B->Prop} (a:A) (b:B) (h0:p a b):∃ a b,p a b:=⟨a,b,h0⟩
theorem Zby {A B C:Type} {p:A->B->C->Prop} (a:A) (b:B) (c:C) (h0:p a b c):∃ a b c,p a b c:=⟨a,b,c,h0⟩
theorem Zke {A B C D:Type} {p:A->B->C->D->Prop} (a:A) (b:B) (c:C) (d:D) (h0:p a b c d):∃ a b c d,p a b c d:=⟨a,b,c,d,h0⟩
theorem Zg0 {A B C D E:Type} {p:A->B->C->D->E->Prop} (a:A) (b:B) (c:C) (d:D) (e:E) (h0:p a b c d e):∃ a b c d e,p a b c d e:=⟨a,b,c,d,e,h0⟩
theorem xI6_1 {A B C D E F:Type} {p:A->B->C->D->E->F->Prop} (a:A) (b:B) (c:C) (d:D) (e:E) (i:F) (h0:p a b c d e i):∃ a b c d e i,p a b c d e i:=⟨a,b,c,d,e,i,h0⟩
theorem Zth {A B C D E F I:Type} {p:A->B->C->D->E->F->I->Prop} (a:A) (b:B) (c:C) (d:D) (e:E) (i:F) (j:I) (h0:p a b c d e i j):∃ a b c d e i j,p a b c d e i j:=⟨a,b,c,d,e,i,j,h0⟩
theorem Zmi {A B C D E F I J K:Type} {p:A->B->C->D->E->F->I->J->K->Prop} (a:A) (b:B) (c:C) (d:D) (e:E) (i:F) (j:I) (k:J) (l:K) (h0:p a b c d e i j k l):∃ a b c d e i j k l,p a b c d e i j k l:=⟨a,b,c,d,e,i,j,k,l,h0⟩
end L2
-- CHANGE: your row's module here,as the last of these rows
set_option Elab.async false
set_option linter.all false
set_option maxRecDepth 100000
namespace L2
open PySem PySem.Spec PyProof.Rows
abbrev Key:=Sum Int Str
def keyIs:Key->Value->Bool
 | .inl k,v=>Value.isInt k v
 | .inr x,v=>Value.isStrOf x v
def keyH (w:World):Key->Int
 | .inl k=>hashInt k
 | .inr x=>hashStr w x
theorem Zbu:∀ {k:Key} {v:Value},keyIs k v = true->(∃ i t,k = Sum.inl i/\v = Value.int i t)\/(∃ x t,k = Sum.inr x/\v = Value.str x t)
 | .inl i,v,h=>by
  obtain ⟨t,e⟩:=Value.isInt_shape (k:=i) (v:=v) h;exact .inl ⟨i,t,rfl,e⟩
 | .inr x,v,h=>by
  obtain ⟨t,e⟩:=Value.isStrOf_shape (x:=x) (v:=v) h;exact .inr ⟨x,t,rfl,e⟩
theorem key_ll (a b:Int):decide ((Sum.inl a:Key) = Sum.inl b) = (a == b):=by
 by_cases e:a = b
 .subst e; simp
 .have h:¬ (Sum.inl a:Key) = Sum.inl b:=λq=>e (Sum.inl.inj q);rw [Ja9 h];exact (Jdq.mpr e).symm
theorem key_rr (a b:Str):decide ((Sum.inr a:Key) = Sum.inr b) = decide (a = b):=by
 by_cases e:a = b
 .subst e; simp
 .have h:¬ (Sum.inr a:Key) = Sum.inr b:=λq=>e (Sum.inr.inj q);rw [Ja9 h,Ja9 e]
theorem key_lr (a:Int) (b:Str):decide ((Sum.inl a:Key) = Sum.inr b) = false:=Ja9 (λq=>nomatch q)
theorem key_rl (a:Str) (b:Int):decide ((Sum.inr a:Key) = Sum.inl b) = false:=Ja9 (λq=>nomatch q)
def Zna (prog:Program) (w:World):PySem.KeyKind prog w Key where
 is:=keyIs
 hash:=keyH w
 inj:=λv a b ha hb=>by
  rcases Zbu ha with ⟨i,t,rfl,rfl⟩ | ⟨x,t,rfl,rfl⟩
  .rcases Zbu hb with ⟨j,u,rfl,e⟩ | ⟨y,u,rfl,e⟩
   .injection e with e1 _; rw [e1]
   .exact nomatch e
  .rcases Zbu hb with ⟨j,u,rfl,e⟩ | ⟨y,u,rfl,e⟩
   .exact nomatch e
   .injection e with e1 _; rw [e1]
 byValue:=λk v h=>by
  rcases Zbu h with ⟨i,t,rfl,rfl⟩ | ⟨x,t,rfl,rfl⟩ <;> rfl
 pyHash:=λhv h=>by
  rcases Zbu hv with ⟨i,t,rfl,rfl⟩ | ⟨x,t,rfl,rfl⟩
  .exact wpAny_pyHash_int h
  .exact wpAny_pyHash_str h
 eqBool:=λhu hv h=>by
  rcases Zbu hu with ⟨i,t,rfl,rfl⟩ | ⟨x,t,rfl,rfl⟩
  .rcases Zbu hv with ⟨j,u,rfl,rfl⟩ | ⟨y,u,rfl,rfl⟩
   .rw [key_ll] at h; exact wpAny_eqBool_int h
   .rw [key_lr] at h; exact SeqAt.EqAt.int_str i t y u _ _ _ _ h
  .rcases Zbu hv with ⟨j,u,rfl,rfl⟩ | ⟨y,u,rfl,rfl⟩
   .rw [key_rl] at h; exact SeqAt.EqAt.str_int x t j u _ _ _ _ h
   .rw [key_rr] at h; exact wpAny_eqBool_str h
 «strs»:=λk x t v h=>by
  rcases Zbu h with ⟨i,u,rfl,e⟩ | ⟨y,u,rfl,e⟩
  .exact nomatch e
  .injection e with e1 _
   subst e1;cases v <;> rfl
inductive V where
 | non | bl (b:Bool) | int (i:Int) | str (x:Str) | byt (b:Array UInt8) | flt (b:UInt64) | ref (a:Addr) | ty (n:String)
 deriving DecidableEq
def RelV:V->Value->Prop
 | .non,u=>u = Value.none
 | .bl b,u=>u = Value.bool b
 | .int i,u=>∃ t,u = Value.int i t
 | .str x,u=>∃ t,u = Value.str x t
 | .byt b,u=>∃ t,u = Value.bytes b t
 | .flt b,u=>∃ t,u = Value.float b t
 | .ref a,u=>u = Value.ref a
 | .ty n,u=>u = Value.type n
abbrev Vals:List V->List Value->Prop:=Paired RelV
theorem Vals.length {xs:List V} {us:List Value} (r:Vals xs us):xs.length = us.length:=Paired.length r
theorem Vals.get:∀ {xs:List V} {us:List Value} {i:Nat} {x:V},Vals xs us->xs[i]? = some x->∃ u,us[i]? = some u/\RelV x u
 | _,_,_,_,.nil,e=>by simp at e
 | _,_,0,_,.cons r _,e=>by simp at e; subst e; exact ⟨_,rfl,r⟩
 | _,_,i + 1,x,.cons _ t,e=>by
  refine Zad (Vals.get (i:=i) (x:=x) t (by simpa using e)) λu h1 h2=>?_;exact ⟨u,by simpa using h1,h2⟩
theorem Vals.set {x:V} {u:Value} (r:RelV x u):∀ {xs:List V} {us:List Value} (i:Nat),Vals xs us->Vals (xs.set i x) (us.set i u)
 | _,_,_,.nil=>.nil
 | _,_,0,.cons _ t=>.cons r t
 | _,_,i + 1,.cons q t=>.cons q (Vals.set r i t)
theorem Vals.append:∀ {xs ys:List V} {us ws:List Value},Vals xs us->Vals ys ws->Vals (xs ++ ys) (us ++ ws)
 | _,_,_,_,.nil,s=>s
 | _,_,_,_,.cons r t,s=>.cons r (Vals.append t s)
theorem Vals.take:∀ {xs:List V} {us:List Value} (n:Nat),Vals xs us->Vals (xs.take n) (us.take n)
 | _,_,0,_=>.nil
 | _,_,_ + 1,.nil=>.nil
 | _,_,n + 1,.cons r t=>.cons r (Vals.take n t)
theorem Vals.drop:∀ {xs:List V} {us:List Value} (n:Nat),Vals xs us->Vals (xs.drop n) (us.drop n)
 | _,_,0,r=>r
 | _,_,_ + 1,.nil=>.nil
 | _,_,n + 1,.cons _ t=>Vals.drop n t
def RelO:Option V->Option Value->Prop
 | some v,some u=>RelV v u
 | none,none=>True
 | _,_=>False
def KV {κ:Type}:List (κ × V)->List (κ × Value)->Prop:=Paired λ(p:κ × V) (q:κ × Value)=>p.1 = q.1/\RelV p.2 q.2
def kV:Key->V
 | .inl i=>.int i
 | .inr x=>.str x
inductive HO where
  | lst (xs:List V)
  | tup (xs:List V)
  | dK (kvs:List (Key × V)) | dT (kvs:List (List Key × V))
  | set (S:Int->Bool) (n:Nat)
  | ins (C dx:Addr) (fs:List (Str × V))
  | own (x:Addr)
  | xd (fs:List (Str × V))
  | met (f x:Addr)
  | rng (lo hi:Int)
  | frz (o:Obj) (u:HO)
  | tbl (ps:Array Value)
  | ext (φ:Heap->Prop)
  | tab (l c:Int) (q:Str)
abbrev Hp:=Addr->Option HO
def upd (H:Hp) (a:Addr) (o:HO):Hp:=λb=>if b = a then some o else H b
theorem Zac {H:Hp} {a:Addr} {o:HO}:upd H a o a = some o:=by unfold upd; rw [if_pos rfl]
theorem Zah {H:Hp} {a b:Addr} {o:HO} (h:b ≠ a):upd H a o b = H b:=by unfold upd; rw [if_neg h]
theorem upd_upd {H:Hp} {a:Addr} {o u:HO}:upd (upd H a o) a u = upd H a u:=by
 funext b; unfold upd; split <;> rfl
theorem Zeh {H:Hp} {a b:Addr} {o u:HO} (h:H a = some o) (h':H b = some u) (d:o ≠ u):a ≠ b:=by
 intro e; subst e; rw [h] at h'; exact d (Jbd h')
theorem Zag {H:Hp} {a b:Addr} {o:HO} (h:H a = some o) (h':H b = none):a ≠ b:=by
 intro e; subst e; rw [h] at h'; cases h'
section
variable (P:Program) (w:World)
def ObjOk (H:Hp) (h:Heap) (a:Addr):HO->Prop
 | .lst xs=>xs.length<=sizeLine/\∃ (its:List Value) (n:Nat),Vals xs its/\h.get? a = some { cls:=.type "list",data:=.seq its.toArray n }
 | .tup xs=>xs.length<=sizeLine/\∃ its:List Value,Vals xs its/\IsTup h a its.toArray
 | .dK kvs=>kvs.length<=sizeLine/\(a == sysModules) = false/\∃ vs,KV kvs vs/\h.DictOf (Zna P w) a vs
 | .dT kvs=>kvs.length<=sizeLine/\(a == sysModules) = false/\∃ xs:List (List Key × Addr × Value),
   Paired (λ(p:List Key × V) (q:List Key × Addr × Value)=>p.1 = q.1/\H q.2.1 = some (.tup (p.1.map kV))/\RelV p.2 q.2.2) kvs xs /\
   ∃ o es ep,h.get? a = some o/\o.ExactDict/\o.data = .dict es ep/\es.toList = xs.map (entryOfKey (tupleKind (Zna P w)))/\(xs.map (·.1)).Nodup
 | .set S n=>h.SetOf (intKind P w) a S n
 | .ins C dx fs=>H dx = some (.own a)/\fs.length<=1000/\dx ≠ a/\h.get? a = some (PySem.W.instObj C dx) /\
   ∃ mA,h.Ns1 dx mA/\(∀ f,RelO (fs.lookup f) (mA f))/\PySem.Within mA (fs.map (·.1))
 | .own _=>∃ o,h.get? a = some o
 | .xd fs=>∃ mA,h.Ns1 a mA/\∀ f,RelO (fs.lookup f) (mA f)
 | .rng lo hi=>∃ t u v,h.get? a = some { cls:=.type "range",data:=.fields #[.int lo t,.int hi u,.int 1 v] }
 | .frz o u=>h.get? a = some o/\ObjOk H h a u
 | .tbl ps=>h.get? a = some { cls:=.none,data:=.fields ps }
 | .met f x=>h.get? a = some (PySem.W.methodObj (.ref f) (.ref x))
 | .ext φ=>φ h/\(∃ o,h.get? a = some o)/\∀ h1 h2:Heap,φ h1->(∀ o,h1.get? a = some o->h2.get? a = some o)->φ h2
 | .tab l c q=>h.get? a = some { cls:=.none,data:=.fields #[] }\/∃ c' oc vs t,h.get? a = some { cls:=.none,data:=.fields #[rawInt l,rawInt c,.ref c'] }/\c' ≠ a/\H c' = some (.frz oc (.own a))/\oc.data = .fields vs/\vs[1]? = some (.str q t)
def HOk (H:Hp) (h:Heap):Prop:=∀ a o,H a = some o->ObjOk P w H h a o
end
section
variable {P:Program} {w:World} {H H':Hp} {h h':Heap} {a:Addr} {o:HO}
theorem ObjOk.lt (x:ObjOk P w H h a o):a < h.objs.size:=by
 cases o with
 | lst xs=>obtain ⟨_,_,_,_,e⟩:=x; exact Jam e
 | tup xs=>obtain ⟨_,_,_,p⟩:=x; exact p.lt
 | dK kvs=>obtain ⟨_,_,_,_,o,_,_,e,_⟩:=x; exact Jam e
 | dT kvs=>obtain ⟨_,_,_,_,o,_,_,e,_⟩:=x; exact Jam e
 | set S n=>obtain ⟨o,_,_,_,e,_⟩:=x; exact Jam e
 | ins C dx fs=>obtain ⟨_,_,_,e,_⟩:=x; exact Jam e
 | own y=>obtain ⟨_,e⟩:=x; exact Jam e
 | xd fs=>obtain ⟨_,⟨_,_,_,e,_⟩,_⟩:=x; exact Jam e
 | rng lo hi=>obtain ⟨_,_,_,e⟩:=x; exact Jam e
 | frz ob u=>obtain ⟨e,_⟩:=x; exact Jam e
 | tbl ps=>exact Jam (show h.get? a = some _ from x)
 | met f y=>exact Jam (show h.get? a = some _ from x)
 | ext φ=>obtain ⟨_,⟨_,e⟩,_⟩:=x; exact Jam e
 | tab l c q=>
  rcases x with e | ⟨_,_,_,_,e,_⟩
  .exact Jam e
  .exact Jam e
theorem Paired.mapP {α β:Type} {F G:α->β->Prop}:∀ {l₁:List α} {l₂:List β},Paired F l₁ l₂->(∀ a b,F a b->G a b)->Paired G l₁ l₂
 | _,_,.nil,_=>.nil
 | _,_,.cons r t,f=>.cons (f _ _ r) (Paired.mapP t f)
theorem ObjOk.stay (x:ObjOk P w H h a o) (k:∀ b u,(b = a\/H b = some (.own a))->h.get? b = some u->h'.get? b = some u)
  (ho:∀ b,H b = some (.own a)->H' b = some (.own a)) (ht:∀ b xs,H b = some (.tup xs)->H' b = some (.tup xs)) (hz:∀ b o' u,H b = some (.frz o' u)->H' b = some (.frz o' u)):ObjOk P w H' h' a o:=by
 induction o with
 | lst xs=>obtain ⟨z,its,n,r,e⟩:=x; exact ⟨z,its,n,r,k _ _ (.inl rfl) e⟩
 | tup xs=>obtain ⟨z,its,r,ob,e,c⟩:=x; exact ⟨z,its,r,ob,k _ _ (.inl rfl) e,c⟩
 | dK kvs=>obtain ⟨z,y,vs,r,ob,es,ep,e,c⟩:=x; exact ⟨z,y,vs,r,ob,es,ep,k _ _ (.inl rfl) e,c⟩
 | dT kvs=>
  refine Za9 x λz y e916=>?_;clear x;obtain ⟨xs,r,ob,es,ep,e,c⟩:=e916;exact ⟨z,y,xs,Paired.mapP r λp q z=>⟨z.1,ht _ _ z.2.1,z.2.2⟩,ob,es,ep,k _ _ (.inl rfl) e,c⟩
 | set S n=>obtain ⟨ob,es,ep,t,e,c⟩:=x; exact ⟨ob,es,ep,t,k _ _ (.inl rfl) e,c⟩
 | ins C dx fs=>
  refine Zcv x λd z ne e e917=>?_;clear x;obtain ⟨mA,⟨od,es,ep,e2,c⟩,r⟩:=e917;exact ⟨ho _ d,z,ne,k _ _ (.inl rfl) e,mA,⟨od,es,ep,k _ _ (.inr d) e2,c⟩,r⟩
 | own y=>obtain ⟨ob,e⟩:=x; exact ⟨ob,k _ _ (.inl rfl) e⟩
 | xd fs=>obtain ⟨mA,⟨od,es,ep,e,c⟩,r⟩:=x; exact ⟨mA,⟨od,es,ep,k _ _ (.inl rfl) e,c⟩,r⟩
 | rng lo hi=>obtain ⟨t,u,v,e⟩:=x; exact ⟨t,u,v,k _ _ (.inl rfl) e⟩
 | frz ob u ih=>obtain ⟨e,q⟩:=x; exact ⟨k _ _ (.inl rfl) e,ih q⟩
 | tbl ps=>
  have e:h.get? a = some { cls:=.none,data:=.fields ps }:=x;show h'.get? a = some { cls:=.none,data:=.fields ps };exact k a _ (.inl rfl) e
 | met f y=>
  have e:h.get? a = some (PySem.W.methodObj (.ref f) (.ref y)):=x;show h'.get? a = some (PySem.W.methodObj (.ref f) (.ref y));exact k a _ (.inl rfl) e
 | ext φ=>obtain ⟨p,⟨o,e⟩,st⟩:=x; exact ⟨st _ _ p λo q=>k _ _ (.inl rfl) q,⟨o,k _ _ (.inl rfl) e⟩,st⟩
 | tab l c q=>
  rcases x with e | ⟨c',oc,vs,t,e,ne,e2,r⟩
  .exact .inl (k _ _ (.inl rfl) e)
  .exact .inr ⟨c',oc,vs,t,k _ _ (.inl rfl) e,ne,hz _ _ _ e2,r⟩
theorem HOk.lt (x:HOk P w H h) (e:H a = some o):a < h.objs.size:=(x a o e).lt
theorem HOk.fresh (x:HOk P w H h) (e:h.objs.size<=a):H a = none:=by
 cases q:H a with
 | none=>rfl
 | some u=>exact absurd (Jaw (x.lt q) e) (Jb1 _)
theorem HOk.kept (x:HOk P w H h) (k:∀ b u,h.get? b = some u->h'.get? b = some u):HOk P w H h':=λa o e=>
 (x a o e).stay (λb u _ q=>k b u q) (λ_ q=>q) (λ_ _ q=>q) λ_ _ _ q=>q
theorem HOk.laid (x:HOk P w H h) (k:∀ b u,h.get? b = some u->h'.get? b = some u) (hp:h.objs.size<=a) (new:ObjOk P w (upd H a o) h' a o):HOk P w (upd H a o) h':=λb u e=>by
 have hn:=x.fresh hp;by_cases hb:b = a
 .subst hb; rw [Zac] at e; cases e; exact new
 .rw [Zah hb] at e;exact (x b u e).stay (λc v _ q=>k c v q) (λc q=>by rw [Zah (Zag q hn)]; exact q) (λc xs q=>by rw [Zah (Zag q hn)]; exact q) λc _ _ q=>by rw [Zah (Zag q hn)]; exact q
end
def Rd (H:Hp) (a:Addr) (u:HO):Prop:=H a = some u\/∃ o,H a = some (.frz o u)
theorem Rd.of {H:Hp} {a:Addr} {u:HO} (h:H a = some u):Rd H a u:=.inl h
theorem Rd.ok {P:Program} {w:World} {H:Hp} {h:Heap} {a:Addr} {u:HO} (r:Rd H a u) (x:HOk P w H h):ObjOk P w H h a u:=by
 rcases r with r | ⟨o,r⟩
 .exact x a u r
 .obtain ⟨_,q⟩:=x a _ r;exact q
def Mut:Option HO->Prop
 | some (.lst _)=>True
 | some (.dK _)=>True
 | some (.dT _)=>True
 | some (.set _ _)=>True
 | some (.ins _ _ _)=>True
 | some (.ext _)=>True
 | some (.tab _ _ _)=>True
 | _=>False
section
variable {P:Program} {w:World} {H:Hp} {h h':Heap} {x e:Addr} {o':HO}
theorem HOk.write (ok:HOk P w H h) (mu:Mut (H x)) (he:e = x\/H e = some (.own x)) (k:∀ b u,b ≠ e->h.get? b = some u->h'.get? b = some u) (heo:∃ u,h'.get? e = some u)
  (new:ObjOk P w (upd H x o') h' x o'):HOk P w (upd H x o') h':=λb u q=>by
 have nown:∀ c y,H c = some (.own y)->c ≠ x:=λc y r z=>by subst z; rw [r] at mu; exact mu
 have ntup:∀ c xs,H c = some (.tup xs)->c ≠ x:=λc xs r z=>by subst z; rw [r] at mu; exact mu
 have nfrz:∀ c o' u',H c = some (.frz o' u')->c ≠ x:=λc o' u' r z=>by subst z; rw [r] at mu; exact mu
 by_cases hb:b = x
 .subst hb; rw [Zac] at q; cases q; exact new
 .rw [Zah hb] at q;by_cases hbe:b = e
  .have q':H b = some (.own x):=by
    rcases he with z | z
    .exact absurd (hbe.trans z) hb
    .rw [hbe]; exact z
   rw [q] at q'; cases q';obtain ⟨v,hv⟩:=heo;exact ⟨v,by rw [hbe]; exact hv⟩
  .refine (ok b u q).stay (λc v hc r=>k c v ?_ r) (λc r=>by rw [Zah (nown c b r)]; exact r) (λc xs r=>by rw [Zah (ntup c xs r)]; exact r) λc o' u' r=>by rw [Zah (nfrz c o' u' r)]; exact r
   rcases hc with rfl | hc
   .exact hbe
   .rintro rfl;rcases he with z | z
    .exact nown c b hc z
    .rw [hc] at z; cases z; exact hb rfl
end
structure Un (fs ex:List Addr) (H H':Hp) (h h':Heap):Prop where
 keep:∀ b o,h.get? b = some o->H b = none->b ∉ fs->b ∉ ex->h'.get? b = some o
 slot:∀ b o,h.get? b = some o->H b = none->b ∈ fs->b ∉ ex->∃ sl,h'.get? b = some { o with slots:=sl }
 free:∀ b o,h.get? b = some o->H b = none->b ∉ ex->H' b = none
 there:∀ b o,h.get? b = some o->b ∉ ex->∃ o',h'.get? b = some o'
 tups:∀ b xs,H b = some (.tup xs)->H' b = some (.tup xs)
 frzs:∀ b o u,H b = some (.frz o u)->H' b = some (.frz o u)
 tbls:∀ b ps,H b = some (.tbl ps)->∃ more,H' b = some (.tbl (ps ++ more))
section
variable {fs fs' ex ex':List Addr} {H H1 H2:Hp} {h h1 h2 h':Heap} {a x e:Addr} {o:HO}
theorem Un.any (u:Un fs ex H H1 h h1) {b:Addr} {ob:Obj} (q:h.get? b = some ob) (n:H b = none) (hx:b ∉ ex):∃ sl,h1.get? b = some { ob with slots:=sl }:=by
 by_cases hb:b ∈ fs
 .exact u.slot b ob q n hb hx
 .exact ⟨ob.slots,u.keep b ob q n hb hx⟩
theorem Un.kept (k:∀ b u,h.get? b = some u->h'.get? b = some u):Un fs ex H H h h':=
 ⟨λb ob q _ _ _=>k b ob q,λb ob q _ _ _=>⟨ob.slots,k b ob q⟩,λ_ _ _ n _=>n,λb ob q _=>⟨ob,k b ob q⟩,λ_ _ q=>q,λ_ _ _ q=>q,λ_ ps q=>⟨#[],by rw [q]; simp⟩⟩
theorem Un.refl:Un fs ex H H h h:=Un.kept λ_ _ q=>q
theorem Un.laid (k:∀ b u,h.get? b = some u->h'.get? b = some u) (hp:h.objs.size<=a) (hn:H a = none):Un fs ex H (upd H a o) h h' where
 keep:=λb u q _ _ _=>k b u q
 slot:=λb u q _ _ _=>⟨u.slots,k b u q⟩
 free:=λb u q n _=>by rw [Zah (Jbe (Jaw (Jam q) hp))]; exact n
 there:=λb u q _=>⟨u,k b u q⟩
 tups:=λb xs q=>by rw [Zah (Zag q hn)]; exact q
 frzs:=λb u xs q=>by rw [Zah (Zag q hn)]; exact q
 tbls:=λb ps q=>⟨#[],by rw [Zah (Zag q hn),q]; simp⟩
theorem Un.write (mu:Mut (H x)) (he:e = x\/H e = some (.own x)) (k:∀ b u,b ≠ e->h.get? b = some u->h'.get? b = some u) (heo:∃ u,h'.get? e = some u):Un fs ex H (upd H x o) h h':=by
 have hx:∀ b,H b = none->b ≠ x:=λb n z=>by subst z; rw [n] at mu; exact mu
 have hb:∀ b,H b = none->b ≠ e:=λb n z=>by
  subst z;rcases he with r | r
  .exact hx b n r
  .rw [n] at r; cases r
 have hm:∀ b u,H b = some u->¬ Mut (some u)->b ≠ x:=λb u q nm z=>by subst z; rw [q] at mu; exact nm mu
 refine ⟨λb u q n _ _=>k b u (hb b n) q,λb u q n _ _=>⟨u.slots,k b u (hb b n) q⟩,λb u q n _=>by rw [Zah (hx b n)]; exact n,λb u q _=>?_,
  λb xs q=>by rw [Zah (hm b _ q λz=>z)]; exact q,λb u xs q=>by rw [Zah (hm b _ q λz=>z)]; exact q,λb ps q=>⟨#[],by rw [Zah (hm b _ q λz=>z),q]; simp⟩⟩
 by_cases hbe:b = e
 .subst hbe; exact heo
 .exact ⟨u,k b u hbe q⟩
theorem Un.mono (u:Un fs ex H H1 h h1) (hs:∀ b ∈ fs,b ∈ fs') (hx:∀ b ∈ ex,b ∈ ex'):Un fs' ex' H H1 h h1:=
 ⟨λb ob q n hb he=>u.keep b ob q n (λz=>hb (hs b z)) λz=>he (hx b z),λ_ _ q n _ he=>u.any q n λz=>he (hx _ z),λb ob q n he=>u.free b ob q n λz=>he (hx b z),λb ob q he=>u.there b ob q λz=>he (hx b z),u.tups,u.frzs,u.tbls⟩
end
def trk (h:Heap) (H:Hp):List Addr:=(List.range h.objs.size).filter λa=>(H a).isSome
def Zte (h:Heap) (H:Hp):Heap:=PySem.W.hideAll h (trk h H)
theorem Zsf (h:Heap) (H:Hp):(Zte h H).objs.size = h.objs.size:=PySem.W.hideAll_size _ _
theorem Zve {h:Heap} {H:Hp} {b:Addr} {o:Obj} (e:h.get? b = some o) (n:H b = none):(Zte h H).get? b = some o:=
 PySem.W.hideAll_get _ e λhm=>by
  have q:(H b).isSome = true:=(List.mem_filter.mp hm).2;rw [n] at q; simp at q
theorem of_hidT {h:Heap} {H:Hp} {b:Addr} {o:Obj} (e:(Zte h H).get? b = some o):h.get? b = some o/\H b = none:=by
 have e':h.get? b = some o:=PySem.W.of_hideAll (trk h H) e;refine ⟨e',?_⟩;cases q:H b with
 | none=>rfl
 | some x=>
  have hm:b ∈ trk h H:=List.mem_filter.mpr ⟨Jbc.mpr (Jam e'),by simp [q]⟩;have z:(Zte h H).get? b = none:=PySem.W.hideAll_none (trk h H) hm;rw [z] at e; cases e
def allNews (g h:Heap) (L:Addr):List (Addr × Obj):=(List.range h.objs.size).filterMap λa=>if a = L\/(g.get? a).isSome = true then none else (h.get? a).map λo=>(a,o)
def rest (g h:Heap) (L d:Addr):List (Addr × Obj):=(allNews g h L).filter λp=>decide (p.1 ≠ d)
structure Mod (K:PySem.W.Frag) (mg:Str->Option Value) (base:Heap):Prop where
 kin:K.In base
 glob:base.Ns mainGlobals mg
 blt:∃ mb,base.Ns builtinsNs mb/\∀ x:Str,x ≠ "__name__" -> mb x = bootBuiltins x
 nolimit:base.NoLimit
 seer:base.NoSeer
 bmain:∃ bm ob,mg "__builtins__" = some (.ref bm)/\bm ≠ builtinsNs/\base.get? bm = some ob/\ob.cls = .type "module" /\ ob.dict = some builtinsNs/\ob.data = .plain
def Seen (l:List Env):Prop:=∃ e r,l = e :: r/\e.scope.isGenerator = false/\e.scope.isCoroutine = false/\e.builtins = builtinsNs/\e.globals = mainGlobals
structure Cx where
 prog:Program
 w:World
 K:PySem.W.Frag
 mg:Str->Option Value
 base:Heap
 A:Around
 N:List Str
 s₀:Shared
 H₀:Hp
 env:Env
 outer:List Env
 stack:List Env
 ex:List Addr
 fn:Str->Bool
 calm:Bool
 pn:List (Addr × Obj)
 xe:Value->Shared->Prop
def frs (l:List Env):List Addr:=l.filterMap (·.frame)
abbrev Cx.fs (X:Cx):List Addr:=frs X.outer
def Vis (sc:Scope) (x:Str):Prop:=sc.names.lookup x = some .local\/sc.names.lookup x = some .cell\/sc.names.lookup x = some .free
def Loc (sc:Scope) (x:Str):Prop:=sc.names.lookup x = some .local\/sc.names.lookup x = some .cell
def Look (env:Env) (h:Heap) (m:Str->Option Value) (x:Str) (u:Value):Prop:=
 (env.kindOf x = some .local/\m x = some u)\/((env.kindOf x = some .cell\/env.kindOf x = some .free)/\∃ c,env.cells.lookup x = some c/\h.IsCell c (some u))
structure Cx.Ok (X:Cx):Prop where
 mod:Mod X.K X.mg X.base
 kind:X.env.scope.kind = .function
 glob:X.env.globals = mainGlobals
 blt:X.env.builtins = builtinsNs
 above:X.s₀.heap.objs.size<=X.env.locals
 inj:∀ x y c,X.env.cells.lookup x = some c->X.env.cells.lookup y = some c->x = y
 has:∀ x,(X.env.kindOf x = some .cell\/X.env.kindOf x = some .free)->∃ c,X.env.cells.lookup x = some c
 cab:∀ x c,X.fn x = true->X.env.cells.lookup x = some c->X.s₀.heap.objs.size<=c
 hd:X.calm = true->X.A.handled = none
 frames:X.A.frames = some X.stack
 stk:X.stack = X.outer\/(X.stack = X.env :: X.outer/\X.env.frame = some X.env.locals)
 exf:∀ b ∈ X.ex,b ≠ X.env.locals/\∀ x c,X.env.cells.lookup x = some c->c ≠ b
 bs:∀ b o,X.base.get? b = some o->X.s₀.heap.get? b = some o/\X.H₀ b = none
 bsz:X.base.objs.size<=X.s₀.heap.objs.size
 noex:∀ b o,X.base.get? b = some o->b ∉ X.ex
 exfs:∀ b ∈ X.ex,b ∉ X.fs
 funs:X.s₀.heap.FunFrames X.base X.outer
 frf:∀ b ∈ X.fs,X.H₀ b = none
 top:Seen X.stack
structure Inv (X:Cx) (pins:List (Addr × Obj)) (σ:List (Option V)) (H:Hp) (s:Shared):Prop where
 ok:X.Ok
 os:s.os = X.s₀.os
 bare:AllBare s.gens
 base:Un X.fs X.ex X.H₀ H X.s₀.heap s.heap
 loc:∃ m,s.heap.Ns X.env.locals m/\∀ (i:Nat) (x:Str) (v:V),X.N[i]? = some x->σ[i]? = some (some v)->Vis X.env.scope x->∃ u,RelV v u/\Look X.env s.heap m x u
 cell:∀ x c,X.env.cells.lookup x = some c->∃ v,s.heap.IsCell c v
 free:H X.env.locals = none
 freeC:∀ x c,X.env.cells.lookup x = some c->H c = none
 pin:∀ p ∈ X.pn ++ pins,s.heap.get? p.1 = some p.2/\H p.1 = none/\p.1 ≠ X.env.locals/\p.1 ∉ X.fs/\∀ v,p.2.data ≠ .cell v
 hok:HOk X.prog X.w H s.heap
 len:σ.length = X.N.length
section
variable {X:Cx} {pins:List (Addr × Obj)} {σ:List (Option V)} {H H':Hp} {s:Shared} {h':Heap}
theorem Cx.Ok.nofr (ok:X.Ok) {b:Addr} {o:Obj} (e:X.base.get? b = some o):b ∉ X.fs:=λhb=>by
 have:=(ok.funs.mem hb).1;rw [e] at this; cases this
theorem Inv.bs (I:Inv X pins σ H s):∀ b o,X.base.get? b = some o->s.heap.get? b = some o/\H b = none:=λb o e=>
 ⟨I.base.keep b o (I.ok.bs b o e).1 (I.ok.bs b o e).2 (I.ok.nofr e) (I.ok.noex b o e),I.base.free b o (I.ok.bs b o e).1 (I.ok.bs b o e).2 (I.ok.noex b o e)⟩
theorem Inv.bk (I:Inv X pins σ H s):∀ b o,X.base.get? b = some o->s.heap.get? b = some o:=λb o e=>(I.bs b o e).1
theorem Inv.mod (I:Inv X pins σ H s):Mod X.K X.mg X.base:=I.ok.mod
theorem Inv.kIn (I:Inv X pins σ H s):X.K.In s.heap:=I.ok.mod.kin.keeps I.bk
theorem Inv.nolimit (I:Inv X pins σ H s):s.heap.NoLimit:=I.ok.mod.nolimit.keeps I.bk
theorem Inv.long (I:Inv X pins σ H s) (ht:X.prog.given.tree = none) (hd:X.A.depth + Builtin.pylongFrames < recursionLimit):PySem.PylongRoom (model X.prog X.w) X.A s:=by
 refine Zic I.ok.top λe r hs h1 h2 h3 h4=>?_;exact PySem.PylongRoom.of I.nolimit hd (PySem.SeerAt.of (I.ok.mod.seer.keeps I.bk) ht (by rw [I.ok.frames,hs]) h1 h2 h3 h4)
theorem Inv.lt (I:Inv X pins σ H s):X.env.locals < s.heap.objs.size:=let ⟨_,hn,_⟩:=I.loc; hn.lt
theorem Inv.sz (I:Inv X pins σ H s):X.s₀.heap.objs.size<=s.heap.objs.size:=Jav I.ok.above (Jb3 I.lt)
theorem Inv.nofs (I:Inv X pins σ H s) {a:Addr} (h:s.heap.objs.size<=a):a ∉ X.fs:=λhb=>by
 obtain ⟨_,o,ho,_⟩:=I.ok.funs.mem hb;exact absurd (Jaw (Jam ho) (Jav I.sz h)) (Jb1 _)
theorem Inv.cne (I:Inv X pins σ H s):∀ x c,X.env.cells.lookup x = some c->c ≠ X.env.locals:=λx c e z=>by
 obtain ⟨v,o,ho,hd⟩:=I.cell x c e;refine Zad I.loc λm e918 _=>?_;obtain ⟨o',es,ep,ho',hd',_⟩:=e918;rw [z,ho'] at ho; cases ho; rw [hd'] at hd; cases hd
theorem Inv.funs (I:Inv X pins σ H s):s.heap.FunFrames X.base X.outer:=by
 have all:∀ (l:List Env),(∀ b ∈ frs l,b ∈ X.fs)->X.s₀.heap.FunFrames X.base l->s.heap.FunFrames X.base l:=by
  intro l
  induction l with
  | nil=>intro _ _; trivial
  | cons env r ih=>
   intro hs hl;refine Za9 hl λhk e919 hr=>?_;clear hl;obtain ⟨L,o,hf,hn,ho,hd⟩:=e919;have hL:L ∈ X.fs:=hs L (by unfold frs; rw [Jea,hf]; exact Jcb);obtain ⟨sl,e⟩:=I.base.slot L o ho (I.ok.frf L hL) hL λz=>I.ok.exfs L z hL;exact ⟨hk,⟨L,_,hf,hn,e,hd⟩,ih (λb hb=>hs b (by unfold frs; rw [Jea,hf]; exact Jbo _ hb)) hr⟩
 exact all X.outer (λ_ hb=>hb) I.ok.funs
theorem Inv.stack (I:Inv X pins σ H s):s.heap.FunFrames X.base X.stack:=by
 rcases I.ok.stk with e | ⟨e,hf⟩
 .rw [e]; exact I.funs
 .rw [e];refine Zad I.loc λm hn _=>?_;refine .cons (by rw [I.ok.kind]; decide) hf hn ?_ I.funs;exact Heap.get?_none_of_le (Jav I.ok.bsz I.ok.above)
theorem Inv.stkSub (I:Inv X pins σ H s):∀ b ∈ frs X.stack,b ∈ X.env.locals :: X.fs:=λb hb=>by
 rcases I.ok.stk with e | ⟨e,hf⟩
 .rw [e] at hb; exact Jbo _ hb
 .rw [e] at hb;unfold frs at hb;rw [Jea,hf] at hb;exact hb
theorem Inv.stkFree (I:Inv X pins σ H s):∀ b ∈ frs X.stack,H b = none:=λb hb=>by
 rcases Jbp.mp (I.stkSub b hb) with e | hb
 .rw [e]; exact I.free
 .obtain ⟨_,o,ho,_⟩:=I.ok.funs.mem hb;exact I.base.free b o ho (I.ok.frf b hb) λz=>I.ok.exfs b z hb
theorem Inv.step {g':Array GenState} {t':Nat} {d':Drawn} {ch:List Addr} (I:Inv X pins σ H s)
  (hch:∀ b ∈ ch,(b ∈ X.ex\/X.s₀.heap.objs.size<=b)/\b ≠ X.env.locals/\(∀ x c,X.env.cells.lookup x = some c->c ≠ b)/\∀ p ∈ X.pn ++ pins,p.1 ≠ b)
  (keep:∀ b o,b ≠ X.env.locals->b ∉ X.fs->b ∉ ch->s.heap.get? b = some o->H b = none->h'.get? b = some o)
  (slot:∀ b o,b ≠ X.env.locals->b ∈ X.fs->b ∉ ch->s.heap.get? b = some o->H b = none->∃ sl,h'.get? b = some { o with slots:=sl }) (free:∀ b o,b ∉ ch->s.heap.get? b = some o->H b = none->H' b = none)
  (there:∀ b o,b ∉ ch->s.heap.get? b = some o->∃ o',h'.get? b = some o')
  (tups:∀ b xs,H b = some (.tup xs)->H' b = some (.tup xs)) (frzs:∀ b o u,H b = some (.frz o u)->H' b = some (.frz o u)) (tbls:∀ b ps,H b = some (.tbl ps)->∃ more,H' b = some (.tbl (ps ++ more)))
  (ns:∀ m,s.heap.Ns X.env.locals m->h'.Ns X.env.locals m) (hok:HOk X.prog X.w H' h') (hg:AllBare g'):
  Inv X pins σ H' { s with heap:=h',gens:=g',drawn:=d',toks:=t' }:=by
 have neL:∀ b o,X.s₀.heap.get? b = some o->b ≠ X.env.locals:=λb o e=>Jbe (Jaw (Jam e) I.ok.above);have neC:∀ b o,X.s₀.heap.get? b = some o->b ∉ X.ex->b ∉ ch:=λb o e hx hb=>by
  rcases (hch b hb).1 with z | z
  .exact hx z
  .exact absurd (Jaw (Jam e) z) (Jb1 _)
 have cellK:∀ x c,X.env.cells.lookup x = some c->∀ v,s.heap.IsCell c v->h'.IsCell c v:=λx c e v ⟨o,ho,hd⟩=>by
  have nch:c ∉ ch:=λz=>(hch c z).2.2.1 x c e rfl;by_cases hc:c ∈ X.fs
  .obtain ⟨sl,q⟩:=slot c o (I.cne x c e) hc nch ho (I.freeC x c e);exact ⟨_,q,hd⟩
  .exact ⟨o,keep c o (I.cne x c e) hc nch ho (I.freeC x c e),hd⟩
 refine ⟨I.ok,I.os,hg,⟨λb o e n hb hx=>?_,λb o e n hb hx=>?_,λb o e n hx=>?_,λb o e hx=>?_,λb xs e=>tups b xs (I.base.tups b xs e),λb o xs e=>frzs b o xs (I.base.frzs b o xs e),λb ps e=>?_⟩,?_,λx c e=>?_,?_,λx c e=>?_,λp hp=>?_,hok,I.len⟩
 .exact keep b o (neL b o e) hb (neC b o e hx) (I.base.keep b o e n hb hx) (I.base.free b o e n hx)
 .obtain ⟨sl,e1⟩:=I.base.slot b o e n hb hx;obtain ⟨sl',e2⟩:=slot b _ (neL b o e) hb (neC b o e hx) e1 (I.base.free b o e n hx);exact ⟨sl',e2⟩
 .obtain ⟨o',e1⟩:=I.base.there b o e hx;exact free b o' (neC b o e hx) e1 (I.base.free b o e n hx)
 .obtain ⟨o',e1⟩:=I.base.there b o e hx;exact there b o' (neC b o e hx) e1
 .obtain ⟨m1,e1⟩:=I.base.tbls b ps e;obtain ⟨m2,e2⟩:=tbls b _ e1;exact ⟨m1 ++ m2,by rw [e2,Array.append_assoc]⟩
 .refine Zad I.loc λm hn hl=>?_;refine ⟨m,ns m hn,λi x v e1 e2 e3=>?_⟩;refine Zad (hl i x v e1 e2 e3) λu r l=>?_;refine ⟨u,r,?_⟩;rcases l with l | ⟨k,c,e,z⟩
  .exact .inl l
  .exact .inr ⟨k,c,e,cellK x c e _ z⟩
 .obtain ⟨v,z⟩:=I.cell x c e;exact ⟨v,cellK x c e v z⟩
 .refine Zad I.loc λm e920 _=>?_;obtain ⟨o,_,_,ho,_⟩:=e920;exact free _ o (λz=>(hch _ z).2.1 rfl) ho I.free
 .obtain ⟨v,o,ho,hd⟩:=I.cell x c e;exact free c o (λz=>(hch c z).2.2.1 x c e rfl) ho (I.freeC x c e)
 .refine Zcv (I.pin p hp) λe n ne nf d=>?_;have nch:p.1 ∉ ch:=λz=>(hch p.1 z).2.2.2 p hp rfl;exact ⟨keep p.1 p.2 ne nf nch e n,free p.1 p.2 nch e n,ne,nf,d⟩
theorem Inv.un {t':Nat} (I:Inv X pins σ H s) (u:Un X.fs [] H H' s.heap h') (hok:HOk X.prog X.w H' h'):Inv X pins σ H' { s with heap:=h',toks:=t' }:=by
 refine Zad (id I.loc) λm e921 _=>?_;obtain ⟨o,es,ep,ho,r⟩:=e921;obtain ⟨sl,hL⟩:=u.any ho I.free (by simp);exact I.step (g':=s.gens) (d':=s.drawn) (ch:=[]) (λ_ z=>nomatch z) (λb o _ hb _ e n=>u.keep b o e n hb (by simp)) (λb o _ hb _ e n=>u.slot b o e n hb (by simp)) (λb o _ e n=>u.free b o e n (by simp)) (λb o _ e=>u.there b o e (by simp)) u.tups u.frzs u.tbls (λm' hm=>by
  refine Zdu hm λo' es' ep' ho' r'=>?_;clear hm;rw [ho] at ho'; cases ho';exact ⟨_,es',ep',hL,r'⟩) hok I.bare
theorem Inv.call {g':Array GenState} {t':Nat} {d':Drawn} {ch:List Addr} (I:Inv X pins σ H s) (u:Un (frs X.stack) ch H H' s.heap h') (hok:HOk X.prog X.w H' h') (hg:AllBare g')
  (hch:∀ b ∈ ch,(b ∈ X.ex\/X.s₀.heap.objs.size<=b)/\b ≠ X.env.locals/\(∀ x c,X.env.cells.lookup x = some c->c ≠ b)/\∀ p ∈ X.pn ++ pins,p.1 ≠ b):
  Inv X pins σ H' { s with heap:=h',gens:=g',drawn:=d',toks:=t' }:=by
 refine Zad (id I.loc) λm e922 _=>?_;obtain ⟨o,es,ep,ho,r⟩:=e922;obtain ⟨sl,hL⟩:=u.any ho I.free λz=>(hch _ z).2.1 rfl;exact I.step (ch:=ch) hch (λb o hL hb hc e n=>u.keep b o e n (λz=>(Jbp.mp (I.stkSub b z)).elim hL hb) hc) (λb o _ _ hc e n=>u.any e n hc) (λb o hc e n=>u.free b o e n hc) (λb o hc e=>u.there b o e hc) u.tups u.frzs u.tbls (λm' hm=>by
  refine Zdu hm λo' es' ep' ho' r'=>?_;clear hm;rw [ho] at ho'; cases ho';exact ⟨_,es',ep',hL,r'⟩) hok hg
theorem Inv.turned {t':Nat} {it:Addr} (I:Inv X pins σ H s) (k:∀ b o,b ≠ it->s.heap.get? b = some o->h'.get? b = some o) (hn:H it = none) (hL:it ≠ X.env.locals)
  (h1:it ∈ X.ex\/X.s₀.heap.objs.size<=it) (h2:∀ x c,X.env.cells.lookup x = some c->c ≠ it) (h3:∀ p ∈ X.pn ++ pins,p.1 ≠ it):Inv X pins σ H { s with heap:=h',toks:=t' }:=by
 have nit:∀ b u,H b = some u->b ≠ it:=λb u e z=>by rw [z,hn] at e; cases e
 refine I.step (g':=s.gens) (d':=s.drawn) (ch:=[it]) (λb hb=>?_) (λb o _ _ hc e _=>k b o (λz=>hc (by simp [z])) e) (λb o _ _ hc e _=>⟨o.slots,k b o (λz=>hc (by simp [z])) e⟩) (λ_ _ _ _ n=>n)
  (λb o hc e=>⟨o,k b o (λz=>hc (by simp [z])) e⟩) (λ_ _ e=>e) (λ_ _ _ e=>e) (λb ps e=>⟨#[],by rw [e]; simp⟩) (λm hm=>?_) (λb u e=>?_) I.bare
 .have e:b = it:=by simpa using hb
  subst e;exact ⟨h1,hL,h2,h3⟩
 .refine Zdu hm λo es ep ho r=>?_;clear hm;exact Zby o es ep ⟨k _ o (Jdr hL) ho,r⟩
 .refine (I.hok b u e).stay (λc v hc q=>k c v ?_ q) (λ_ q=>q) (λ_ _ q=>q) λ_ _ _ q=>q;rcases hc with z | z
  .rw [z]; exact nit b u e
  .exact nit c _ z
theorem Inv.tok (I:Inv X pins σ H s) (t:Nat):Inv X pins σ H { s with toks:=t }:=I.un (h':=s.heap) (t':=t) Un.refl I.hok
theorem Inv.kept {t':Nat} (I:Inv X pins σ H s) (k:∀ b u,s.heap.get? b = some u->h'.get? b = some u):Inv X pins σ H { s with heap:=h',toks:=t' }:=I.un (Un.kept k) (I.hok.kept k)
theorem Inv.laid {a:Addr} {o:HO} {t':Nat} (I:Inv X pins σ H s) (k:∀ b u,s.heap.get? b = some u->h'.get? b = some u) (hp:s.heap.objs.size<=a) (new:ObjOk X.prog X.w (upd H a o) h' a o):
  Inv X pins σ (upd H a o) { s with heap:=h',toks:=t' }:=I.un (Un.laid k hp (I.hok.fresh hp)) (I.hok.laid k hp new)
theorem Inv.write {x e:Addr} {o:HO} {t':Nat} (I:Inv X pins σ H s) (mu:Mut (H x)) (he:e = x\/H e = some (.own x)) (k:∀ b u,b ≠ e->s.heap.get? b = some u->h'.get? b = some u) (heo:∃ u,h'.get? e = some u)
  (new:ObjOk X.prog X.w (upd H x o) h' x o):Inv X pins σ (upd H x o) { s with heap:=h',toks:=t' }:=I.un (Un.write mu he k heo) (I.hok.write mu he k heo new)
theorem Inv.pins_of {pins':List (Addr × Obj)} (I:Inv X pins σ H s) (h:∀ p ∈ pins',s.heap.get? p.1 = some p.2/\H p.1 = none/\p.1 ≠ X.env.locals/\p.1 ∉ X.fs/\∀ v,p.2.data ≠ .cell v):Inv X pins' σ H s:=
 ⟨I.ok,I.os,I.bare,I.base,I.loc,I.cell,I.free,I.freeC,λp hp=>(Jai.mp hp).elim (λz=>I.pin p (List.mem_append_left _ z)) (h p),I.hok,I.len⟩
theorem Zoi {N:List Str} (hN:N.Nodup) {i j:Nat} {x:Str} (a:N[i]? = some x) (b:N[j]? = some x):i = j:=by
 obtain ⟨h1,e1⟩:=Jag.mp a;obtain ⟨h2,e2⟩:=Jag.mp b;exact (List.getElem_inj hN).mp (e1.trans e2.symm)
theorem Zlf {M:Model} {A:Around} {E:Value->Shared->Prop} {i:Nat} {x:Str} {v:V} {u:Value} {Q:Unit->Shared->Prop} (I:Inv X pins σ H s) (hN:X.N.Nodup) (hi:X.N[i]? = some x) (hx:Loc X.env.scope x) (r:RelV v u)
  (h:∀ s',Inv X pins (σ.set i (some v)) H s'->(∃ a,Heap.SameBut a s.heap s'.heap/\(a = X.env.locals\/X.env.cells.lookup x = some a))->Q () s') (hf:X.fn x = true\/X.env.scope.names.lookup x = some .local:=by first | exact .inl rfl | exact .inr rfl | assumption):wpAny M A (storeName X.env x u) Q E s:=by
 refine Zad (id I.loc) λm hn hl=>?_;have hcls:(X.env.scope.kind == .class || (X.env.scope.kind == .module && X.env.locals != X.env.globals)) = false:=by rw [I.ok.kind]; rfl
 have hiσ:i < σ.length:=by rw [I.len]; exact (Jag.mp hi).1
 have cne:=I.cne;have tracked:∀ {a:Addr} {h':Heap},(∃ o,s.heap.get? a = some o/\H a = none)->Heap.SameBut a s.heap h'->HOk X.prog X.w H h':=λ{a h'} ha hs b ob e=>by
  refine Zad ha λ_ _ hfree=>?_;clear ha;refine (I.hok b ob e).stay (λc w' hc q=>(hs.2 c ?_).trans q) (λ_ q=>q) (λ_ _ q=>q) λ_ _ _ q=>q;rintro rfl;rcases hc with rfl | hc
  .rw [hfree] at e; cases e
  .rw [hfree] at hc; cases hc
 rcases hx with hk | hk
 .refine wpAny_storeName_local hk hn (λh' hn' hs=>?_) hcls;refine Zdu (id hn) λoL _ _ hoL _=>?_;refine h _ ⟨I.ok,I.os,I.bare,⟨λb o e n hb hx=>?_,λb o e n hb hx=>?_,I.base.free,λb o e hx=>?_,I.base.tups,I.base.frzs,I.base.tbls⟩,⟨_,hn',λj y v' e1 e2 e3=>?_⟩,λy c e=>?_,I.free,I.freeC,λp hp=>?_,tracked ⟨oL,hoL,I.free⟩ hs,by simpa using I.len⟩ ⟨_,hs,.inl rfl⟩
  .exact (hs.2 b (Jbe (Jaw (Jam e) I.ok.above))).trans (I.base.keep b o e n hb hx)
  .obtain ⟨sl,e1⟩:=I.base.slot b o e n hb hx;exact ⟨sl,(hs.2 b (Jbe (Jaw (Jam e) I.ok.above))).trans e1⟩
  .obtain ⟨o',e1⟩:=I.base.there b o e hx;exact ⟨o',(hs.2 b (Jbe (Jaw (Jam e) I.ok.above))).trans e1⟩
  .by_cases hj:j = i
   .subst hj;rw [hi] at e1; cases e1;rw [List.getElem?_set_self hiσ] at e2;cases e2;exact ⟨u,r,.inl ⟨hk,by simp⟩⟩
   .rw [Jdm (Jdr hj)] at e2;refine Zad (hl j y v' e1 e2 e3) λu' r' q=>?_;refine ⟨u',r',?_⟩;rcases q with ⟨k,e⟩ | ⟨k,c,e,z⟩
    .refine .inl ⟨k,?_⟩;have:y ≠ x:=λe=>hj (Zoi hN e1 (e ▸ hi));simp [this,e]
    .exact .inr ⟨k,c,e,z.sameBut hs (cne y c e)⟩
  .obtain ⟨w',z⟩:=I.cell y c e;exact ⟨w',z.sameBut hs (cne y c e)⟩
  .refine Zcv (I.pin p hp) λe n ne nf d=>?_;exact ⟨(hs.2 p.1 ne).trans e,n,ne,nf,d⟩
 .have hfn:X.fn x = true:=by
   rcases hf with z | z
   .exact z
   .rw [z] at hk; cases hk
  obtain ⟨c,hc⟩:=I.ok.has x (.inl hk);obtain ⟨w',z⟩:=I.cell x c hc;refine wpAny_storeName_cell I.ok.kind hk hc z (λh' hc' hs=>?_);refine Zad (id z) λoc hoc hocd=>?_;refine h { s with heap:=h' } ⟨I.ok,I.os,I.bare,⟨λb o e n hb hx=>?_,λb o e n hb hx=>?_,I.base.free,λb o e hx=>?_,I.base.tups,I.base.frzs,I.base.tbls⟩,⟨m,hn.sameBut hs (Jdr (cne x c hc)),λj y v' e1 e2 e3=>?_⟩,λy c' e=>?_,I.free,I.freeC,λp hp=>?_,tracked ⟨oc,hoc,I.freeC x c hc⟩ hs,by simpa using I.len⟩ ⟨c,hs,.inr hc⟩
  .exact (hs.2 b (Jbe (Jaw (Jam e) (I.ok.cab x c hfn hc)))).trans (I.base.keep b o e n hb hx)
  .obtain ⟨sl,e1⟩:=I.base.slot b o e n hb hx;exact ⟨sl,(hs.2 b (Jbe (Jaw (Jam e) (I.ok.cab x c hfn hc)))).trans e1⟩
  .obtain ⟨o',e1⟩:=I.base.there b o e hx;exact ⟨o',(hs.2 b (Jbe (Jaw (Jam e) (I.ok.cab x c hfn hc)))).trans e1⟩
  .by_cases hj:j = i
   .subst hj;rw [hi] at e1; cases e1;rw [List.getElem?_set_self hiσ] at e2;cases e2;exact ⟨u,r,.inr ⟨.inl hk,c,hc,hc'⟩⟩
   .rw [Jdm (Jdr hj)] at e2;refine Zad (hl j y v' e1 e2 e3) λu' r' q=>?_;refine ⟨u',r',?_⟩;rcases q with q | ⟨k,c',e,z'⟩
    .exact .inl q
    .refine .inr ⟨k,c',e,z'.sameBut hs ?_⟩;rintro rfl;exact hj (Zoi hN e1 (I.ok.inj _ _ _ e hc ▸ hi))
  .by_cases hcc:c' = c
   .subst hcc; exact ⟨_,hc'⟩
   .obtain ⟨w2,z2⟩:=I.cell y c' e;exact ⟨w2,z2.sameBut hs hcc⟩
  .refine Zcv (I.pin p hp) λe n ne nf d=>?_;refine ⟨(hs.2 p.1 ?_).trans e,n,ne,nf,d⟩;intro q;rw [q,hoc] at e;have q':oc = p.2:=Jbd e;exact d w' (by rw [<- q']; exact hocd)
theorem Zii {M:Model} {A:Around} {E:Value->Shared->Prop} {i:Nat} {x:Str} {v:V} {u:Value} {Q:Unit->Shared->Prop} (I:Inv X pins σ H s) (hN:X.N.Nodup) (hi:X.N[i]? = some x) (hx:Loc X.env.scope x) (r:RelV v u)
  (h:∀ s',Inv X pins (σ.set i (some v)) H s'->Q () s') (hf:X.fn x = true\/X.env.scope.names.lookup x = some .local:=by first | exact .inl rfl | exact .inr rfl | assumption):wpAny M A (storeName X.env x u) Q E s:=
 Zlf I hN hi hx r (λs' I' _=>h s' I') hf
theorem Inv.call' {s':Shared} {ch:List Addr} (I:Inv X pins σ H s) (ho:s'.os = s.os) (u:Un (frs X.stack) ch H H' s.heap s'.heap) (hok:HOk X.prog X.w H' s'.heap) (hg:AllBare s'.gens)
  (hch:∀ b ∈ ch,(b ∈ X.ex\/X.s₀.heap.objs.size<=b)/\b ≠ X.env.locals/\(∀ x c,X.env.cells.lookup x = some c->c ≠ b)/\∀ p ∈ X.pn ++ pins,p.1 ≠ b):Inv X pins σ H' s':=by
 obtain ⟨h',g',d',t',o'⟩:=s';have e:o' = s.os:=ho;subst e;exact I.call (g':=g') (t':=t') (d':=d') u hok hg hch
end
abbrev XK:=Value->Option Addr->Hp->Prop
abbrev St:=List (Option V)
abbrev VK:=V->Hp->Prop
abbrev TE:=St->Hp->VK->Prop
abbrev TT:=St->Hp->(Bool->Hp->Prop)->Prop
abbrev TA:=St->Hp->(List V->Hp->Prop)->Prop
structure Ends where
 nx:St->Hp->Prop
 rt:VK
 bk:St->Hp->Prop:=λ_ _=>False
 ct:St->Hp->Prop:=λ_ _=>False
abbrev TS:=Ends->St->Hp->Prop
def EP (X:Cx) (pins:List (Addr × Obj)) (σ:St) (Q:VK) (u:Value) (s':Shared):Prop:=∃ v H',Inv X pins σ H' s'/\RelV v u/\Q v H'
def TP (X:Cx) (pins:List (Addr × Obj)) (σ:St) (Q:Bool->Hp->Prop) (b:Bool) (s':Shared):Prop:=∃ H',Inv X pins σ H' s'/\Q b H'
def AP (X:Cx) (pins:List (Addr × Obj)) (σ:St) (Q:List V->Hp->Prop) (us:List Value) (s':Shared):Prop:=∃ vs H',Inv X pins σ H' s'/\Vals vs us/\Q vs H'
def SP (X:Cx) (pins:List (Addr × Obj)) (D:Ends) (f:Flow) (s':Shared):Prop:=
 match f with
 | .next=>∃ σ' H',Inv X pins σ' H' s'/\D.nx σ' H'
 | .brk=>∃ σ' H',Inv X pins σ' H' s'/\D.bk σ' H'
 | .cont=>∃ σ' H',Inv X pins σ' H' s'/\D.ct σ' H'
 | .ret u=>∃ v σ' H',Inv X pins σ' H' s'/\RelV v u/\D.rt v H'
def PE (X:Cx) (e:Expr) (t:TE):Prop:=
 ∀ (pins:List (Addr × Obj)) (s:Shared) (σ:St) (H:Hp) (Q:VK),Inv X pins σ H s->t σ H Q->wpAny (model X.prog X.w) X.A (eval e X.env) (EP X pins σ Q) X.xe s
def PT (X:Cx) (e:Expr) (t:TT):Prop:=
 ∀ (pins:List (Addr × Obj)) (s:Shared) (σ:St) (H:Hp) (Q:Bool->Hp->Prop),Inv X pins σ H s->t σ H Q->wpAny (model X.prog X.w) X.A (isTrue e X.env (eval e X.env)) (TP X pins σ Q) X.xe s
def PW (X:Cx) (e:Expr) (t:TT):Prop:=
 ∀ (whole:Sem Value) (pins:List (Addr × Obj)) (s:Shared) (σ:St) (H:Hp) (Q:Bool->Hp->Prop),Inv X pins σ H s->t σ H Q->wpAny (model X.prog X.w) X.A (isTrue e X.env whole) (TP X pins σ Q) X.xe s
theorem PW.pt {X:Cx} {e:Expr} {t:TT} (h:PW X e t):PT X e t:=h _
def PA (X:Cx) (es:List Expr) (t:TA):Prop:=
 ∀ (pos:Pos) (pins:List (Addr × Obj)) (s:Shared) (σ:St) (H:Hp) (Q:List V->Hp->Prop),Inv X pins σ H s->t σ H Q->wpAny (model X.prog X.w) X.A (spliced (backTo pos (starEach es X.env))) (AP X pins σ Q) X.xe s
def PS (X:Cx) (st:Stmt) (t:TS):Prop:=
 ∀ (pins:List (Addr × Obj)) (s:Shared) (σ:St) (H:Hp) (D:Ends),Inv X pins σ H s->t D σ H->wpAny (model X.prog X.w) X.A (exec st X.env) (SP X pins D) X.xe s
def PSs (X:Cx) (st:List Stmt) (t:TS):Prop:=
 ∀ (pins:List (Addr × Obj)) (s:Shared) (σ:St) (H:Hp) (D:Ends),Inv X pins σ H s->t D σ H->wpAny (model X.prog X.w) X.A (execs st X.env) (SP X pins D) X.xe s
theorem thn {α:Type} {t:Sem α} {Q Q':α->Shared->Prop} {M:Model} {A:Around} {E:Value->Shared->Prop} {s:Shared} (h:wpAny M A t Q E s) (hQ:∀ a s,Q a s->Q' a s):wpAny M A t Q' E s:=Jcs h hQ λ_ _ x=>x
section
variable {X:Cx}
theorem bin {a b:Expr} {ta tb:TE} (ha:PE X a ta) (hb:PE X b tb) {pins:List (Addr × Obj)} {s:Shared} {σ:St} {H:Hp} {R:V->V->Hp->Prop} (I:Inv X pins σ H s) (h:ta σ H λx H1=>tb σ H1 λy H2=>R x y H2)
  {α:Type} {Q:α->Shared->Prop} {f:Value->Value->Sem α}
  (hf:∀ v u s2 x y H2,Inv X pins σ H2 s2->RelV x v->RelV y u->R x y H2->wpAny (model X.prog X.w) X.A (f v u) Q X.xe s2):
  wpAny (model X.prog X.w) X.A (eval a X.env) (λv s₁=>wpAny (model X.prog X.w) X.A (eval b X.env) (λu s₂=>wpAny (model X.prog X.w) X.A (f v u) Q X.xe s₂) X.xe s₁) X.xe s:=by
 refine thn (ha pins s σ H _ I h) λv s1 ⟨x,H1,I1,r1,q1⟩=>?_;refine thn (hb pins s1 σ H1 _ I1 q1) λu s2 ⟨y,H2,I2,r2,q2⟩=>?_;exact hf v u s2 x y H2 I2 r1 r2 q2
def Zho (i:Nat):TE:=λσ H Q=>∃ v,σ[i]? = some (some v)/\Q v H
def tC (v:V):TE:=λ_ H Q=>Q v H
theorem pe_var {i:Nat} {x:Str} {pos:Pos} (hN:X.N[i]? = some x) (hv:Vis X.env.scope x) (hd:(x == ("__debug__" : Str)) = false:=by decide) (hcd:(x == ("__classdict__" : Str)) = false:=by decide):PE X (.Name x pos) (Zho i):=by
 intro pins s σ H Q I h;obtain ⟨v,e,h⟩:=h;obtain ⟨m,hn,hl⟩:=I.loc;obtain ⟨u,r,l⟩:=hl i x v hN e hv;have fin:EP X pins σ Q u s:=⟨v,H,I,r,h⟩
 rcases l with ⟨hk,hm⟩ | ⟨hk,c,hc,hcell⟩
 .exact wpAny_Name (wpAny_loadName_local I.ok.kind hk hn hm fin) hd
 .rcases hk with hk | hk
  .exact wpAny_Name (wpAny_loadName_cell I.ok.kind hk hc hcell fin) hd
  .exact wpAny_Name (wpAny_loadName_free I.ok.kind hk hc hcell fin hcd) hd
theorem Zab {i j pos}:PE X (.Constant (.int i) j pos) (tC (.int i)):=λ_ _ _ H _ I h=>wpAny_Constant_int ⟨.int i,H,I.tok _,⟨_,rfl⟩,h⟩
theorem Zfg {b j pos}:PE X (.Constant (.bool b) j pos) (tC (.bl b)):=λ_ _ _ H _ I h=>Constant_bool ⟨.bl b,H,I,rfl,h⟩
theorem pe_non {j pos}:PE X (.Constant .none j pos) (tC .non):=λ_ _ _ H _ I h=>Constant_none ⟨.non,H,I,rfl,h⟩
def Gl (X:Cx) (x:Str):Prop:=X.env.kindOf x = some .globalImplicit
theorem Znc {E:Value->Shared->Prop} {pins:List (Addr × Obj)} {s:Shared} {σ:St} {H:Hp} {x:Str} {u:Value} {pos:Pos} {Q:Value->Shared->Prop} (I:Inv X pins σ H s) (hg:Gl X x) (hm:X.mg x = some u) (h:Q u s)
  (hd:(x == ("__debug__" : Str)) = false:=by decide):wpAny (model X.prog X.w) X.A (eval (.Name x pos) X.env) Q E s:=
 Calls.Name_function_global I.ok.kind hg (Calls.loadGlobal_global (by rw [I.ok.glob]; exact I.mod.glob.keeps I.bk) hm h) hd
theorem Zh7 {E:Value->Shared->Prop} {pins:List (Addr × Obj)} {s:Shared} {σ:St} {H:Hp} {x:Str} {u:Value} {pos:Pos} {Q:Value->Shared->Prop} (I:Inv X pins σ H s) (hg:Gl X x) (hm:X.mg x = none) (hv:bootBuiltins x = some u) (h:Q u s)
  (hn:x ≠ "__name__" := by decide) (hd:(x == ("__debug__" : Str)) = false:=by decide):wpAny (model X.prog X.w) X.A (eval (.Name x pos) X.env) Q E s:=by
 refine Zad I.mod.blt λmb h1 h2=>?_;exact Calls.Name_function_global I.ok.kind hg (Calls.loadGlobal_builtin (by rw [I.ok.glob]; exact I.mod.glob.keeps I.bk) hm (by rw [I.ok.blt]; exact h1.keeps I.bk) ((h2 x hn).trans hv) h) hd
theorem pe_glob {x:Str} {v:V} {u:Value} {pos:Pos} (hg:Gl X x) (hm:X.mg x = some u) (r:RelV v u) (hd:(x == ("__debug__" : Str)) = false:=by decide):PE X (.Name x pos) (tC v):=
 λ_ _ _ H _ I h=>Znc I hg hm ⟨v,H,I,r,h⟩ hd
theorem pe_bltn {x:Str} {v:V} {u:Value} {pos:Pos} (hg:Gl X x) (hm:X.mg x = none) (hv:bootBuiltins x = some u) (r:RelV v u) (hn:x ≠ "__name__" := by decide) (hd:(x == ("__debug__" : Str)) = false:=by decide):PE X (.Name x pos) (tC v):=
 λ_ _ _ H _ I h=>Zh7 I hg hm hv ⟨v,H,I,r,h⟩ hn hd
variable {a b:Expr} {ta tb:TE} {pos:Pos}
def PC (X:Cx) (op:CmpOp) (a b:Expr) (t:TE):Prop:=
 ∀ (pins:List (Addr × Obj)) (s:Shared) (σ:St) (H:Hp) (Q:VK),Inv X pins σ H s->t σ H Q->
  wpAny (model X.prog X.w) X.A (eval a X.env) (λv s₁=>wpAny (model X.prog X.w) X.A (eval b X.env) (λu s₂=>wpAny (model X.prog X.w) X.A (compareOp op v u) (EP X pins σ Q) X.xe s₂) X.xe s₁) X.xe s
theorem Zu3 (b:Expr) {op:CmpOp} (h:op ≠ .In) (h2:op ≠ .NotIn):behindInMarks op b = false:=by
 have e1:(op == CmpOp.In) = false:=by cases op <;> first | rfl | exact absurd rfl h
 have e2:(op == CmpOp.NotIn) = false:=by cases op <;> first | rfl | exact absurd rfl h2
 cases b <;> simp [behindInMarks,e1,e2]
def tB (t:TE):TT:=λσ H Q=>t σ H λx H1=>∃ c,x = .bl c/\Q c H1
theorem pt_cmp {op:CmpOp} {t:TE} (h:PC X op a b t) (h1:behindInMarks op b = false:=by first | exact Zu3 _ (by decide) (by decide) | rfl):PT X (.Compare a [op] [b] pos) (tB t):=by
 intro pins s σ H Q I hw;refine Jd2 (thn (h pins s σ H _ I hw) λv s1 h1=>thn h1 λu s2 h2=>thn h2 λc s3 ⟨x,H1,I1,r1,q1⟩=>?_) h1;refine Zad q1 λd e923 q=>?_;clear q1;obtain rfl:=e923;cases r1;exact Jbm ⟨H1,I1,q⟩
theorem Zb1 {e:Expr} {t:TE} (h:PE X e t) (he:∀ whole,isTrue e X.env whole = (do let v <- whole; standAt e.pos; holding [v] (truthy v)):=by intro _; rfl):PT X e (tB t):=by
 intro pins s σ H Q I hw;refine isTrue_plain (thn (h pins s σ H _ I hw) λv s1 ⟨x,H1,I1,r1,q1⟩=>?_) (he _);refine Zad q1 λd e924 q=>?_;clear q1;obtain rfl:=e924;cases r1;exact Jbm ⟨H1,I1,q⟩
variable {tA tB':TT} {rest:List Expr}
def tAnd (t u:TT):TT:=λσ H Q=>t σ H λc H1=>if c = true then u σ H1 Q else Q false H1
def tOr (t u:TT):TT:=λσ H Q=>t σ H λc H1=>if c = true then Q true H1 else u σ H1 Q
def tNot (t:TT):TT:=λσ H Q=>t σ H λc H1=>Q (!c) H1
theorem Zm5 (ha:PT X a tA):PW X (.BoolOp .And [a] pos) tA:=by
 intro wh pins s σ H Q I h;refine isTrue_and (thn (ha pins s σ H Q I h) λc s1 e=>?_);cases c with
 | true=>exact isTrue_and_nil e
 | false=>exact e
theorem Zdb (ha:PT X a tA):PW X (.BoolOp .Or [a] pos) tA:=by
 intro wh pins s σ H Q I h;refine isTrue_or (thn (ha pins s σ H Q I h) λc s1 e=>?_);cases c with
 | false=>exact isTrue_or_nil e
 | true=>exact e
theorem Zln (ha:PT X a tA) (hb:PW X (.BoolOp .And (b :: rest) pos) tB'):PW X (.BoolOp .And (a :: b :: rest) pos) (tAnd tA tB'):=by
 intro wh pins s σ H Q I h;refine isTrue_and (thn (ha pins s σ H _ I h) λc s1 ⟨H1,I1,q1⟩=>?_);cases c with
 | true=>exact hb wh pins s1 σ H1 Q I1 q1
 | false=>exact ⟨H1,I1,q1⟩
theorem Zec (ha:PT X a tA) (hb:PW X (.BoolOp .Or (b :: rest) pos) tB'):PW X (.BoolOp .Or (a :: b :: rest) pos) (tOr tA tB'):=by
 intro wh pins s σ H Q I h;refine isTrue_or (thn (ha pins s σ H _ I h) λc s1 ⟨H1,I1,q1⟩=>?_);cases c with
 | true=>exact ⟨H1,I1,q1⟩
 | false=>exact hb wh pins s1 σ H1 Q I1 q1
theorem Zbz (ha:PT X a tA):PT X (.UnaryOp .Not a pos) (tNot tA):=by
 intro pins s σ H Q I h;exact isTrue_not (ha pins s σ H (λc H1=>Q (!c) H1) I h)
def tAndV (ta tb:TE):TE:=λσ H Q=>ta σ H λx H1=>∃ c,x = .bl c/\if c = true then tb σ H1 Q else Q (.bl false) H1
def tOrV (ta tb:TE):TE:=λσ H Q=>ta σ H λx H1=>∃ c,x = .bl c/\if c = true then Q (.bl true) H1 else tb σ H1 Q
def tNotV (ta:TE):TE:=λσ H Q=>ta σ H λx H1=>∃ c,x = .bl c/\Q (.bl (!c)) H1
theorem Zh5 {op} {t:TE} (h:PE X a t):PE X (.BoolOp op [a] pos) t:=λpins s σ H Q I hw=>BoolOp_one (h pins s σ H Q I hw)
theorem Zh6 (ha:PE X a ta) (hb:PE X (.BoolOp .And (b :: rest) pos) tb):PE X (.BoolOp .And (a :: b :: rest) pos) (tAndV ta tb):=by
 intro pins s σ H Q I h;refine BoolOp_and (thn (ha pins s σ H _ I h) λv s1 ⟨x,H1,I1,r1,q1⟩=>?_);obtain ⟨c,rfl,q1⟩:=q1;cases r1;refine Jbm ?_;cases c with
 | true=>exact hb pins s1 σ H1 Q I1 q1
 | false=>exact ⟨.bl false,H1,I1,rfl,q1⟩
theorem pe_or (ha:PE X a ta) (hb:PE X (.BoolOp .Or (b :: rest) pos) tb):PE X (.BoolOp .Or (a :: b :: rest) pos) (tOrV ta tb):=by
 intro pins s σ H Q I h;refine BoolOp_or (thn (ha pins s σ H _ I h) λv s1 ⟨x,H1,I1,r1,q1⟩=>?_);obtain ⟨c,rfl,q1⟩:=q1;cases r1;refine Jbm ?_;cases c with
 | false=>exact hb pins s1 σ H1 Q I1 q1
 | true=>exact ⟨.bl true,H1,I1,rfl,q1⟩
theorem Zv9 (ha:PE X a ta):PE X (.UnaryOp .Not a pos) (tNotV ta):=by
 intro pins s σ H Q I h;refine UnaryOp_ (thn (ha pins s σ H _ I h) λv s1 ⟨x,H1,I1,r1,q1⟩=>?_);obtain ⟨c,rfl,q1⟩:=q1;cases r1;exact not_of (Jbm ⟨.bl (!c),H1,I1,rfl,q1⟩)
def tIf (t:TT) (ta tb:TE):TE:=λσ H Q=>t σ H λc H1=>if c = true then ta σ H1 Q else tb σ H1 Q
end
def SqL (K:PySem.W.Frag) (H:Hp) (a:Addr) (xs:List V):Prop:=
 Rd H a (.lst xs) \/
  ∃ (o:Obj) (its:Array Value) (n:Nat),K.lookup a = some o/\o.cls = .type "list" /\ o.dict = none/\o.data = .seq its n/\its.size<=sizeLine/\Vals xs its.toList
def SqT (K:PySem.W.Frag) (H:Hp) (a:Addr) (xs:List V):Prop:=
 Rd H a (.tup xs) \/
  ∃ (o:Obj) (its:Array Value) (n:Nat),K.lookup a = some o/\o.cls = .type "tuple" /\ o.data = .seq its n/\its.size<=sizeLine/\Vals xs its.toList
def absV:Value->Option V
 | .none=>some .non
 | .bool b=>some (.bl b)
 | .int i _=>some (.int i)
 | .str x _=>some (.str x)
 | .bytes b _=>some (.byt b)
 | .float b _=>some (.flt b)
 | .ref a=>some (.ref a)
 | .type n=>some (.ty n)
 | _=>none
theorem RelV.abs {x:V} {u:Value} (r:RelV x u):absV u = some x:=by
 cases x with
 | non=>cases r; rfl
 | bl _=>cases r; rfl
 | int _=>obtain ⟨t,rfl⟩:=r; rfl
 | str _=>obtain ⟨t,rfl⟩:=r; rfl
 | byt _=>obtain ⟨t,rfl⟩:=r; rfl
 | flt _=>obtain ⟨t,rfl⟩:=r; rfl
 | ref _=>cases r; rfl
 | ty _=>cases r; rfl
theorem RelV.inj {x y:V} {u:Value} (r:RelV x u) (q:RelV y u):x = y:=Jbd (r.abs.symm.trans q.abs)
theorem Vals.inj:∀ {xs ys:List V} {us:List Value},Vals xs us->Vals ys us->xs = ys
 | _,_,_,.nil,.nil=>rfl
 | _,_,_,.cons r t,.cons r' t'=>by rw [r.inj r',Vals.inj t t']
section
variable {X:Cx} {pins:List (Addr × Obj)} {σ:St} {H:Hp} {s:Shared} {a:Addr} {xs ys:List V}
theorem SqL.of {K:PySem.W.Frag} (h:H a = some (.lst xs)):SqL K H a xs:=.inl (.inl h)
theorem SqT.of {K:PySem.W.Frag} (h:H a = some (.tup xs)):SqT K H a xs:=.inl (.inl h)
theorem Inv.list (I:Inv X pins σ H s) (h:SqL X.K H a xs):∃ its:List Value,Vals xs its/\PlainL s.heap a its.toArray/\xs.length<=sizeLine:=by
 rcases h with h | ⟨o,its,n,hk,hc,hd,hs,hz,r⟩
 .obtain ⟨z,its,n,r,e⟩:=h.ok I.hok;exact ⟨its,r,⟨_,n,e,rfl,rfl,rfl⟩,z⟩
 .refine ⟨its.toList,r,⟨o,n,I.kIn a o hk,hc,hd,by simpa using hs⟩,?_⟩;have e:=r.length;simp only [Jeb] at e;omega
theorem Inv.tuple (I:Inv X pins σ H s) (h:SqT X.K H a xs):∃ its:List Value,Vals xs its/\IsTup s.heap a its.toArray/\xs.length<=sizeLine:=by
 rcases h with h | ⟨o,its,n,hk,hc,hs,hz,r⟩
 .obtain ⟨z,its,r,p⟩:=h.ok I.hok;exact ⟨its,r,p,z⟩
 .refine ⟨its.toList,r,⟨o,I.kIn a o hk,hc,n,by simpa using hs⟩,?_⟩;have e:=r.length;simp only [Jeb] at e;omega
theorem Inv.list_inj (I:Inv X pins σ H s) (h:SqL X.K H a xs) (h':SqL X.K H a ys):xs = ys:=by
 refine Zav (I.list h) λits r e925 _=>?_;obtain ⟨o,n,e,_,_,d⟩:=e925;refine Zav (I.list h') λits' r' e926 _=>?_;obtain ⟨o',n',e',_,_,d'⟩:=e926;rw [e] at e'; cases e';rw [d] at d'
 injection d' with d1 _
 have:its = its':=by simpa using Jdt Array.toList d1
 subst this;exact r.inj r'
theorem Inv.tuple_inj (I:Inv X pins σ H s) (h:SqT X.K H a xs) (h':SqT X.K H a ys):xs = ys:=by
 refine Zav (I.tuple h) λits r e927 _=>?_;obtain ⟨o,e,_,n,d⟩:=e927;refine Zav (I.tuple h') λits' r' e928 _=>?_;obtain ⟨o',e',_,n',d'⟩:=e928;rw [e] at e'; cases e';rw [d] at d'
 injection d' with d1 _
 have:its = its':=by simpa using Jdt Array.toList d1
 subst this;exact r.inj r'
end
abbrev Cx.wish (X:Cx) (E:Value->Shared->Prop):Cx:={ X with xe:=E }
abbrev Cx.nox (X:Cx):Cx:=X.wish λ_ _=>False
theorem Cx.Ok.wish {X:Cx} (ok:X.Ok) (E:Value->Shared->Prop):(X.wish E).Ok:=
 ⟨ok.mod,ok.kind,ok.glob,ok.blt,ok.above,ok.inj,ok.has,ok.cab,ok.hd,ok.frames,ok.stk,ok.exf,ok.bs,ok.bsz,ok.noex,ok.exfs,ok.funs,ok.frf,ok.top⟩
theorem Cx.Ok.unwish {X:Cx} {E:Value->Shared->Prop} (ok:(X.wish E).Ok):X.Ok:=
 ⟨ok.mod,ok.kind,ok.glob,ok.blt,ok.above,ok.inj,ok.has,ok.cab,ok.hd,ok.frames,ok.stk,ok.exf,ok.bs,ok.bsz,ok.noex,ok.exfs,ok.funs,ok.frf,ok.top⟩
section
variable {X:Cx} {pins:List (Addr × Obj)} {σ:St} {H:Hp} {s:Shared} {E:Value->Shared->Prop}
theorem Inv.wish (I:Inv X pins σ H s) (E:Value->Shared->Prop):Inv (X.wish E) pins σ H s:=⟨I.ok.wish E,I.os,I.bare,I.base,I.loc,I.cell,I.free,I.freeC,I.pin,I.hok,I.len⟩
theorem Inv.unwish (I:Inv (X.wish E) pins σ H s):Inv X pins σ H s:=⟨I.ok.unwish,I.os,I.bare,I.base,I.loc,I.cell,I.free,I.freeC,I.pin,I.hok,I.len⟩
theorem SP.unwish {D:Ends} {f:Flow} {s':Shared} (h:SP (X.wish E) pins D f s'):SP X pins D f s':=by
 cases f with
 | next=>obtain ⟨σ',H',I,q⟩:=h; exact ⟨σ',H',I.unwish,q⟩
 | brk=>obtain ⟨σ',H',I,q⟩:=h; exact ⟨σ',H',I.unwish,q⟩
 | cont=>obtain ⟨σ',H',I,q⟩:=h; exact ⟨σ',H',I.unwish,q⟩
 | ret u=>obtain ⟨v,σ',H',I,r,q⟩:=h; exact ⟨v,σ',H',I.unwish,r,q⟩
theorem PSs.nox {st:List Stmt} {t:TS} (h:PSs X.nox st t):PSs X st t:=λpins s σ H D I hw=>
 Jcs (h pins s σ H D (I.wish _) hw) (λ_ _ q=>q.unwish) λ_ _ z=>False.elim z
end
section
variable {X:Cx} {st:Stmt} {rest:List Stmt} {t u:TS} {e:Expr} {te:TE} {pos:Pos}
def tNext:TS:=λD σ H=>D.nx σ H
def Zmo (t u:TS):TS:=λD σ H=>t { D with nx:=u D } σ H
theorem Zan:PSs X [] tNext:=λ_ _ σ H _ I h=>Jec ⟨σ,H,I,h⟩
theorem Zue (h1:PS X st t) (h2:PSs X rest u):PSs X (st :: rest) (Zmo t u):=by
 intro pins s σ H D I h;refine wpAny_execs_cons (thn (h1 pins s σ H { D with nx:=u D } I h) λf s1 q=>?_);cases f with
 | next=>
  obtain ⟨σ',H',I',q⟩:=q;exact h2 pins s1 σ' H' D I' q
 | ret v=>exact q
 | brk=>exact q
 | cont=>exact q
theorem Zal (h1:PS X st t):PSs X [st] t:=by
 intro pins s σ H D I h;refine wpAny_execs_cons (thn (h1 pins s σ H D I h) λf s1 q=>?_);cases f with
 | next=>exact Jec q
 | ret v=>exact q
 | brk=>exact q
 | cont=>exact q
theorem Inv.quiet {pins:List (Addr × Obj)} {σ:St} {H:Hp} {s:Shared} (I:Inv X pins σ H s):interactive X.env = false:=by simp [interactive,I.ok.kind]
def tDrop (te:TE):TS:=λD σ H=>te σ H λ_ H1=>D.nx σ H1
theorem Zb2 (he:PE X e te) (hs:swapsWith e none pos.line X.env = pure false:=by rfl):PS X (.Expr e pos) (tDrop te):=by
 intro pins s σ H D I h;exact wpAny_Expr_any (thn (he pins s σ H _ I h) λv s1 ⟨x,H1,I1,r1,q1⟩=>⟨σ,H1,I1,q1⟩) I.quiet hs
def tRet (te:TE):TS:=λD σ H=>te σ H D.rt
theorem ps_ret (he:PE X e te):PS X (.Return (some e) pos) (tRet te):=by
 intro pins s σ H D I h;exact wpAny_Return_some (thn (he pins s σ H _ I h) λv s1 ⟨x,H1,I1,r1,q1⟩=>⟨x,σ,H1,I1,r1,q1⟩)
def tRetN:TS:=λD _ H=>D.rt .non H
def tIfS (c:TT) (t u:TS):TS:=λD σ H=>c σ H λb H1=>if b = true then t D σ H1 else u D σ H1
theorem Za1 {c:Expr} {a b:List Stmt} {tc:TT} (hc:PT X c tc) (ha:PSs X a t) (hb:PSs X b u):PS X (.If c a b pos) (tIfS tc t u):=by
 intro pins s σ H D I h;refine wpAny_If (thn (hc pins s σ H _ I h) λd s1 ⟨H1,I1,q1⟩=>?_);cases d with
 | true=>exact ha pins s1 σ H1 D I1 q1
 | false=>exact hb pins s1 σ H1 D I1 q1
def tNever:TS:=λ_ _ _=>False
theorem Zee:PS X st tNever:=λ_ _ _ _ _ _ h=>h.elim
end
abbrev TG:=V->St->Hp->(St->Hp->Prop)->Prop
abbrev TGs:=List V->St->Hp->(St->Hp->Prop)->Prop
def PG (X:Cx) (target:Expr) (t:TG):Prop:=
 ∀ (pins:List (Addr × Obj)) (s:Shared) (σ:St) (H:Hp) (v:V) (u:Value) (Q:St->Hp->Prop),Inv X pins σ H s->RelV v u->t v σ H Q->
  wpAny (model X.prog X.w) X.A (assign target X.env u) (λ_ s'=>∃ σ' H',Inv X pins σ' H' s'/\Q σ' H') X.xe s
def PGs (X:Cx) (ts:List Expr) (t:TGs):Prop:=
 ∀ (pins:List (Addr × Obj)) (s:Shared) (σ:St) (H:Hp) (vs:List V) (us:List Value) (Q:St->Hp->Prop),Inv X pins σ H s->Vals vs us->t vs σ H Q->
  wpAny (model X.prog X.w) X.A (assignInOrder ((assignEach ts X.env).map (·.2)) us) (λ_ s'=>∃ σ' H',Inv X pins σ' H' s'/\Q σ' H') X.xe s
abbrev TSet:=V->V->V->Hp->(Hp->Prop)->Prop
def PSet (X:Cx) (t:TSet):Prop:=
 ∀ (pins:List (Addr × Obj)) (s:Shared) (σ:St) (H:Hp) (o i v:V) (ov iv u:Value) (Q:Hp->Prop),Inv X pins σ H s->RelV o ov->RelV i iv->RelV v u->t o i v H Q->
  wpAny (model X.prog X.w) X.A (setItem ov iv u) (λ_ s'=>∃ H',Inv X pins σ H' s'/\Q H') X.xe s
abbrev TIp:=V->V->Hp->VK->Prop
section
variable {X:Cx} {pos:Pos}
def Zbi (i:Nat):TG:=λv σ H Q=>Q (σ.set i (some v)) H
theorem Zae {i:Nat} {x:Str} (hN:X.N.Nodup) (hi:X.N[i]? = some x) (hx:Loc X.env.scope x) (hf:X.fn x = true\/X.env.scope.names.lookup x = some .local:=by first | exact .inl rfl | exact .inr rfl | assumption):PG X (.Name x pos) (Zbi i):=by
 intro pins s σ H v u Q I r h;exact wpAny_assign_Name (Zii I hN hi hx r (λs' I'=>⟨_,H,I',h⟩) hf)
def Ztf:TGs:=λvs σ H Q=>vs = []/\Q σ H
def Zge (t:TG) (u:TGs):TGs:=λvs σ H Q=>∃ v r,vs = v :: r/\t v σ H λσ' H'=>u r σ' H' Q
theorem Za0:PGs X [] Ztf:=by
 intro pins s σ H vs us Q I r h;obtain ⟨e,h⟩:=h;subst e;cases r;exact assignInOrder_nil ⟨σ,H,I,h⟩
theorem Zai {e:Expr} {es:List Expr} {t:TG} {u:TGs} (h1:PG X e t) (h2:PGs X es u)
  (hs:(assignEach (e :: es) X.env).map (·.2) = assign e X.env :: (assignEach es X.env).map (·.2):=by rfl):PGs X (e :: es) (Zge t u):=by
 intro pins s σ H vs us Q I r h;obtain ⟨v,vr,e1,h⟩:=h;subst e1;cases r with
 | cons r rr=>
  rw [hs];refine assignInOrder_cons (thn (h1 pins s σ H _ _ _ I r h) λ_ s1 ⟨σ1,H1,I1,q1⟩=>?_);exact h2 pins s1 σ1 H1 _ _ Q I1 rr q1
def Zps (K:PySem.W.Frag) (n:Nat) (t:TGs):TG:=λv σ H Q=>∃ a xs,v = .ref a/\SqT K H a xs/\xs.length = n/\t xs σ H Q
theorem Zbv {es:List Expr} {k:Nat} {t:TGs} {n:Nat} (hc:X.calm = true) (h:PGs X es t)
  (hn:(assignEach es X.env).length = n:=by rfl) (hst:(assignEach es X.env).findIdx? (·.1) = none:=by rfl):PG X (.Tuple es k pos) (Zps X.K n t):=by
 intro pins s σ H v u Q I r hw;obtain ⟨a,xs,e1,hq,hl,hw⟩:=hw;subst e1;cases r;obtain ⟨its,rv,ht,hz⟩:=I.tuple hq;refine assign_Tuple_tuple (I.ok.hd hc) ht (by simp [hn,<- hl,rv.length]) hst λh' hx=>?_;have I1:Inv X pins σ H { s with heap:=h' }:=I.kept (t':=s.toks) λb o e=>hx b o (Jbe (Jam e)) e;exact h pins _ σ H xs _ Q I1 (by simpa using rv) hw
def gSub (to ti:TE) (t:TSet):TG:=λv σ H Q=>to σ H λo H1=>ti σ H1 λi H2=>t o i v H2 λH3=>Q σ H3
theorem Zh4 {o i:Expr} {to ti:TE} {t:TSet} (ho:PE X o to) (hi:PE X i ti) (hs:PSet X t)
  (ha:∀ v,assign (.Subscript o i pos) X.env v = (do
   let ov <- holding [v] (eval o X.env)
   let iv <- holding [v,ov] (eval i X.env)
   standAt pos
   holding [v,ov,iv] (setItem ov iv v)
   release [v,ov,iv] []):=by intro _; rfl):PG X (.Subscript o i pos) (gSub to ti t):=by
 intro pins s σ H v u Q I r h;rw [ha];refine Jas (Jdj (thn (ho pins s σ H _ I h) λov s1 ⟨x,H1,I1,r1,q1⟩=>?_));refine Jas (Jdj (thn (hi pins s1 σ H1 _ I1 q1) λiv s2 ⟨y,H2,I2,r2,q2⟩=>?_));refine Jas (Jeu (Jas (Jdj (thn (hs pins s2 σ H2 x y v ov iv u _ I2 r1 r2 r q2) λ_ s3 ⟨H3,I3,q3⟩=>?_))));exact wpAny_release ⟨σ,H3,I3,q3⟩
def tAsg (te:TE) (g:TG):TS:=λD σ H=>te σ H λx H1=>g x σ H1 D.nx
theorem Zb3 {tg e:Expr} {te:TE} {g:TG} (he:PE X e te) (hg:PG X tg g) (hs:swapsWithSole [tg] e pos.line X.env = pure false:=by rfl) (hw:swappedStores [tg] e X.env = pure none:=by rfl)
  (h1:(assignEach [tg] X.env).map (·.2) = [assign tg X.env]:=by rfl):PS X (.Assign [tg] e pos) (tAsg te g):=by
 intro pins s σ H D I h;refine wpAny_Assign_stores (thn (he pins s σ H _ I h) λv s1 ⟨x,H1,I1,r1,q1⟩=>?_) hs hw;rw [h1];exact thn (hg pins s1 σ H1 x v _ I1 r1 q1) λ_ s2 q=>q
theorem Zak {i:Nat} {x:Str} {e:Expr} {te:TE} {pos':Pos} (hN:X.N.Nodup) (hi:X.N[i]? = some x) (hx:Loc X.env.scope x) (he:PE X e te) (hs:swapsWith e (some (.Name x pos')) pos.line X.env = pure false:=by rfl) (hf:X.fn x = true\/X.env.scope.names.lookup x = some .local:=by first | exact .inl rfl | exact .inr rfl | assumption):
  PS X (.Assign [.Name x pos'] e pos) (tAsg te (Zbi i)):=by
 intro pins s σ H D I h;refine wpAny_Assign_Name (thn (he pins s σ H _ I h) λv s1 ⟨y,H1,I1,r1,q1⟩=>?_) hs;exact Zii I1 hN hi hx r1 (λs2 I2=>⟨_,H1,I2,q1⟩) hf
def tPar (i j:Nat) (ta:TA):TS:=λD σ H=>ta σ H λvs H1=>∃ v w,vs = [v,w]/\D.nx ((σ.set i (some v)).set j (some w)) H1
theorem Zh3 {i j:Nat} {x y:Str} {a b:Expr} {ta:TA} {px py pt:Pos} {kt k2 pt2} (hc:X.calm = true) (hN:X.N.Nodup) (hi:X.N[i]? = some x) (hj:X.N[j]? = some y) (hij:i ≠ j)
  (hx:X.env.scope.names.lookup x = some .local) (hy:X.env.scope.names.lookup y = some .local) (ha:PA X [a,b] ta)
  (hw:swappedStores [.Tuple [.Name x px,.Name y py] kt pt] (.Tuple [a,b] k2 pt2) X.env = pure (some [x,y]))
  (hs:swapsWithSole [.Tuple [.Name x px,.Name y py] kt pt] (.Tuple [a,b] k2 pt2) pos.line X.env = pure false:=by rfl):
  PS X (.Assign [.Tuple [.Name x px,.Name y py] kt pt] (.Tuple [a,b] k2 pt2) pos) (tPar i j ta):=by
 intro pins s σ H D I h;rw [exec_Assign_arm];refine Jas (Jeu ?_);rw [hs];refine Jas (Jbj ?_);rw [if_neg (by decide)];refine Jas (Tuple_ (thn (ha _ pins s σ H _ I h) λus s1 ⟨vs,H1,I1,r1,q1⟩=>?_));obtain ⟨v,w,e1,q1⟩:=q1;subst e1;obtain ⟨u1,u2,rfl,rv,rw'⟩:∃ u1 u2,us = [u1,u2]/\RelV v u1/\RelV w u2:=by
  cases r1 with
  | cons p q=>
   cases q with
   | cons p' q'=>
    cases q';exact ⟨_,_,rfl,p,p'⟩
 refine wpAny_newObj_type ?_ (by show 2<=sizeLine; decide);have I2:Inv X pins σ H1 { s1 with heap:=s1.heap.push { cls:=.type "tuple",data:=.seq [u1,u2].toArray } }:=I1.kept (t':=s1.toks) λb o e=>Jak _ e;rw [hw];refine Jas (Jbj ?_);show wpAny (model X.prog X.w) X.A (do rule "assign.swapped-stores"; let items <- unpackItems (.ref s1.heap.objs.size) 2 none; assignInOrder [λv=>bindName X.env y v,λv=>bindName X.env x v] items.reverse; pure Flow.next) _ _ _;refine Jas (wpAny_rule (Jas (unpackItems_tuple (items:=#[u1,u2]) (I.ok.hd hc) (IsTup.new s1.heap _) λh' hx'=>?_)));have I3:=I2.kept (h':=h') (t':=s1.toks) λb o e=>hx' b o (Jbe (Jam e)) e;show wpAny _ _ (assignInOrder [λv=>bindName X.env y v,λv=>bindName X.env x v] [u2,u1] >>= λ_=>pure Flow.next) _ _ _;refine Jas (assignInOrder_cons (wpAny_bindName (Zii I3 hN hj (.inl hy) rw' (λs2 I4=>?_) (.inr hy))));refine assignInOrder_cons (wpAny_bindName (Zii I4 hN hi (.inl hx) rv (λs3 I5=>assignInOrder_nil (Jbj ?_)) (.inr hx)));rw [List.set_comm _ _ (Jdr hij)] at I5;exact ⟨_,H1,I5,q1⟩
def tAug (i:Nat) (te:TE) (ti:TIp):TS:=λD σ H=>∃ x,σ[i]? = some (some x)/\te σ H λy H1=>ti x y H1 λz H2=>D.nx (σ.set i (some z)) H2
def tAugS (to ti te:TE) (tget:V->V->Hp->VK->Prop) (tip:TIp) (tset:TSet):TS:=λD σ H=>to σ H λo H1=>ti σ H1 λi H2=>tget o i H2 λx H3=>te σ H3 λy H4=>tip x y H4 λz H5=>tset o i z H5 λH6=>D.nx σ H6
def ipI (f:Int->Int->Int):TIp:=λx y H Q=>∃ i j,x = .int i/\y = .int j/\Q (.int (f i j)) H
end
section
variable {X:Cx} {pos:Pos}
def tWhile (c:TT) (tb:TS):TS:=λD σ H=>∃ W:Nat->St->Hp->Prop,(∃ m,W m σ H)/\∀ m σ H,W m σ H->
 c σ H λb H1=>if b = true then ∃ N:St->Hp->Prop,(∀ σ' H',N σ' H'->∃ m',m' < m/\W m' σ' H')/\tb { D with nx:=N,ct:=N,bk:=D.nx } σ H1 else D.nx σ H1
theorem Zc0 {c:Expr} {body:List Stmt} {tc:TT} {tb:TS} (hp:PassesOwn (model X.prog X.w) X.A X.env X.xe) (hc:PT X c tc) (hb:PSs X body tb):PS X (.While c body [] pos) (tWhile tc tb):=by
 intro pins s σ H D I h;refine Zad h λW e929 turn=>?_;clear h;obtain ⟨m0,w0⟩:=e929;refine wpAny_While (codeAny_whileLoop (λn s'=>∃ σ' H',Inv X pins σ' H' s'/\W n σ' H') ?_ m0 ⟨σ,H,I,w0⟩);intro n s1 e91;refine Zbo e91 λσ1 H1 I1 w1=>?_;clear e91;refine Jcw hp (thn (hc pins s1 σ1 H1 _ I1 (turn n σ1 H1 w1)) λb s2 ⟨H2,I2,q2⟩=>?_);cases b with
 | true=>
  obtain ⟨N,hN,q2⟩:=q2;rw [if_pos rfl];refine Jcw hp (thn (hb pins s2 σ1 H2 _ I2 q2) λf s3 q3=>?_);cases f with
  | next=>
   refine Zbo q3 λσ3 H3 I3 n3=>?_;clear q3;refine Zad (hN σ3 H3 n3) λm' hm w3=>?_;exact ⟨m',hm,σ3,H3,I3,w3⟩
  | cont=>
   refine Zbo q3 λσ3 H3 I3 n3=>?_;clear q3;refine Zad (hN σ3 H3 n3) λm' hm w3=>?_;exact ⟨m',hm,σ3,H3,I3,w3⟩
  | brk=>exact q3
  | ret v=>exact q3
 | false=>
  rw [if_neg Jau];exact Jec ⟨σ1,H2,I2,q2⟩
end
structure It where
 go:Nat->Hp->Prop
 yld:Nat->Hp->V->Hp->Prop
 stop:Nat->Hp->Prop
def FpOk (X:Cx) (pins:List (Addr × Obj)) (H:Hp) (b:Addr):Prop:=
 H b = none/\b ≠ X.env.locals/\b ∉ X.fs/\(b ∈ X.ex\/X.s₀.heap.objs.size<=b)/\(∀ x c,X.env.cells.lookup x = some c->c ≠ b)/\∀ p ∈ X.pn ++ pins,p.1 ≠ b
theorem Inv.fpOk {X:Cx} {pins:List (Addr × Obj)} {σ:St} {H H':Hp} {s:Shared} {b:Addr} (I:Inv X pins σ H s) (hb:s.heap.objs.size<=b) (hn:H' b = none):FpOk X pins H' b:=by
 refine ⟨hn,Jei (Jaw I.lt hb),I.nofs hb,.inr (Jav I.sz hb),λx c e z=>?_,λp hp z=>?_⟩
 .obtain ⟨v,q⟩:=I.cell x c e;exact absurd (Jaw q.lt (by rw [z]; exact hb)) (Jb1 _)
 .exact absurd (Jaw (Jam (I.pin p hp).1) (by rw [z]; exact hb)) (Jb1 _)
structure Turn (P:Program) (w:World) (K:PySem.W.Frag) (tg:Expr) (J:It) (fp:List Addr) (it:Addr) (tn:Nat->Heap->Prop):Prop where
 mem:it ∈ fp
 obj:∀ i h,tn i h->∀ b ∈ fp,∃ o,h.get? b = some o/\∀ v,o.data ≠ .cell v
 keep:∀ i h h',tn i h->(∀ b ∈ fp,∀ o,h.get? b = some o->h'.get? b = some o)->tn i h'
 item:∀ (X:Cx),X.prog = P->X.w = w->X.K = K->X.calm = true->∀ (i:Nat) (pins:List (Addr × Obj)) (s:Shared) (σ:St) (H:Hp) (E:Value->Shared->Prop),Inv X pins σ H s->(∀ b ∈ fp,FpOk X pins H b)->tn i s.heap->J.go i H->
  wpAny (model P w) X.A (pyNext (.ref it)) (λr s1=>∃ u,r = some u /\
   wpAny (model P w) X.A (letOwnedTupleGo tg (.ref it) u) (λ_ s2=>∃ x H',Inv X pins σ H' s2/\RelV x u/\J.yld i H x H'/\tn (i + 1) s2.heap/\∀ b ∈ fp,H' b = none) E s1) E s
 done:∀ (X:Cx),X.prog = P->X.w = w->X.K = K->X.calm = true->∀ (i:Nat) (pins:List (Addr × Obj)) (s:Shared) (σ:St) (H:Hp) (E:Value->Shared->Prop),Inv X pins σ H s->(∀ b ∈ fp,FpOk X pins H b)->tn i s.heap->J.stop i H->
  wpAny (model P w) X.A (pyNext (.ref it)) (λr s1=>r = none/\Inv X pins σ H s1) E s
 self:∀ (A:Around) (i:Nat) (s:Shared) (Q:Value->Shared->Prop) (E:Value->Shared->Prop),tn i s.heap->Q (.ref it) s->wpAny (model P w) A (pyIter (.ref it)) Q E s
abbrev TI:=St->Hp->(It->Hp->Prop)->Prop
def PIE (X:Cx) (pins:List (Addr × Obj)) (σ:St) (tg:Expr) (R:It->Hp->Prop) (itv:Value) (s2:Shared):Prop:=
 ∃ (it:Addr) (fp:List Addr) (tn:Nat->Heap->Prop) (J:It) (H':Hp),itv = .ref it/\Inv X pins σ H' s2/\Turn X.prog X.w X.K tg J fp it tn/\tn 0 s2.heap/\(∀ b ∈ fp,FpOk X pins H' b)/\R J H'
def PI (X:Cx) (tg iter:Expr) (wi:TI):Prop:=
 ∀ (pins:List (Addr × Obj)) (s:Shared) (σ:St) (H:Hp) (R:It->Hp->Prop),Inv X pins σ H s->wi σ H R->
  wpAny (model X.prog X.w) X.A (eval iter X.env) (λv s1=>wpAny (model X.prog X.w) X.A (pyIter v) (PIE X pins σ tg R) X.xe s1) X.xe s
theorem go_of {M:Model} {A:Around} {E:Value->Shared->Prop} {s:Shared} {tg:Expr} {it:Addr} {u:Value} {o:Obj} {n:String} {vs:Array Value} {Q:Unit->Shared->Prop} (ho:s.heap.get? it = some o) (hc:o.cls = .type n) (hd:o.data = .fields vs)
  (hn:["enumerate","zip","dict_itemiterator","dict_reverseitemiterator","odict_iterator","itertools.zip_longest","itertools.pairwise"].contains n = false) (hQ:Q () s):wpAny M A (letOwnedTupleGo tg (.ref it) u) Q E s:=by
 unfold letOwnedTupleGo;cases tg <;> first
  | exact Jbj hQ
  | (cases u <;> first
    | exact Jbj hQ
    | (refine Jas (wpAny_load ho ?_); rw [hc,hd]; show wpAny M A (if (["enumerate","zip","dict_itemiterator","dict_reverseitemiterator","odict_iterator","itertools.zip_longest","itertools.pairwise"].contains n && vs[0]? == some (rawInt _)) = true then _ else _) Q E s; rw [if_neg (by intro h; rw [hn,Jer] at h; cases h)]; exact Jbj hQ))
def Itl (K:PySem.W.Frag) (a:Addr):It:=
 ⟨λi H=>∃ xs x,SqL K H a xs/\xs[i]? = some x,λi H x H'=>H' = H/\∀ xs,SqL K H a xs->xs[i]? = some x,λi H=>∃ xs,SqL K H a xs/\xs.length<=i⟩
def Itt (K:PySem.W.Frag) (a:Addr):It:=
 ⟨λi H=>∃ xs x,SqT K H a xs/\xs[i]? = some x,λi H x H'=>H' = H/\∀ xs,SqT K H a xs->xs[i]? = some x,λi H=>∃ xs,SqT K H a xs/\xs.length<=i⟩
def Itr (lo:Int) (n:Nat):It:=⟨λi _=>i < n,λi H x H'=>H' = H/\x = .int (lo + i),λi _=>n<=i⟩
theorem Zp4 {P:Program} {w:World} {K:PySem.W.Frag} {tg:Expr} (a it:Addr):Turn P w K tg (Itl K a) [it] it (λi h=>h.IsListIter it a i) where
 mem:=by simp
 obj:=λi h st b hb=>by
  have e:b = it:=by simpa using hb
  subst e;refine Zav st λo e c d=>?_;clear st;exact ⟨o,e,λv z=>by rw [d] at z; cases z⟩
 keep:=λi h h' st k=>st.at λo e=>k it (by simp) o e
 item:=by
  intro X hP hw hK hc i pins s σ H E I hf st hg;subst hP hw hK;refine Zbo hg λxs x hq hx=>?_;clear hg;refine Zav (I.list hq) λits rv p hz=>?_;refine Zad (rv.get hx) λu hu ru=>?_;refine Zdd (hf it (by simp)) λf0 f1 f2 f3 f4 f5=>?_;refine Jdx st p.isList (x:=u) (by simpa using hu) λh' st' sb=>?_;have I1:Inv X pins σ H { s with heap:=h' }:=I.turned (t':=s.toks) (λb o hb e=>(sb.2 b hb).trans e) f0 f1 f3 f4 f5;refine Zav (id st') λo e c d=>?_;exact ⟨u,rfl,go_of (s:={ s with heap:=h' }) e c d (by decide) ⟨x,H,I1,ru,⟨rfl,λys hy=>by rw [I.list_inj hy hq]; exact hx⟩,st',λb hb=>(hf b hb).1⟩⟩
 done:=by
  intro X hP hw hK hc i pins s σ H E I hf st hg;subst hP hw hK;refine Zad hg λxs hq hx=>?_;clear hg;refine Zav (I.list hq) λits rv p hz=>?_;refine Zdd (hf it (by simp)) λf0 f1 f2 f3 f4 f5=>?_;have hl:=rv.length;exact Jd3 (I.ok.hd hc) st p.isList (by simp; omega) λh' eb=>⟨rfl,I.turned (t':=s.toks) (λb o hb e=>eb b o hb e) f0 f1 f3 f4 f5⟩
 self:=λ_ _ _ _ _ st h=>wpAny_pyIter_listiter st h
theorem Zo2 {P:Program} {w:World} {K:PySem.W.Frag} {tg:Expr} (a it:Addr):Turn P w K tg (Itt K a) [it] it (λi h=>h.IsTupleIter it a i) where
 mem:=by simp
 obj:=λi h st b hb=>by
  have e:b = it:=by simpa using hb
  subst e;refine Zav st λo e c d=>?_;clear st;exact ⟨o,e,λv z=>by rw [d] at z; cases z⟩
 keep:=λi h h' st k=>st.at λo e=>k it (by simp) o e
 item:=by
  intro X hP hw hK hc i pins s σ H E I hf st hg;subst hP hw hK;refine Zbo hg λxs x hq hx=>?_;clear hg;refine Zav (I.tuple hq) λits rv p hz=>?_;refine Zad (rv.get hx) λu hu ru=>?_;refine Zdd (hf it (by simp)) λf0 f1 f2 f3 f4 f5=>?_;refine wpAny_pyNext_tuple_item st (show s.heap.IsTuple a its.toArray from p) (x:=u) (by simpa using hu) λh' st' sb=>?_;have I1:Inv X pins σ H { s with heap:=h' }:=I.turned (t':=s.toks) (λb o hb e=>(sb.2 b hb).trans e) f0 f1 f3 f4 f5;refine Zav (id st') λo e c d=>?_;exact ⟨u,rfl,go_of (s:={ s with heap:=h' }) e c d (by decide) ⟨x,H,I1,ru,⟨rfl,λys hy=>by rw [I.tuple_inj hy hq]; exact hx⟩,st',λb hb=>(hf b hb).1⟩⟩
 done:=by
  intro X hP hw hK hc i pins s σ H E I hf st hg;subst hP hw hK;refine Zad hg λxs hq hx=>?_;clear hg;refine Zav (I.tuple hq) λits rv p hz=>?_;refine Zdd (hf it (by simp)) λf0 f1 f2 f3 f4 f5=>?_;have hl:=rv.length;exact wpAny_pyNext_tuple_end (I.ok.hd hc) st (show s.heap.IsTuple a its.toArray from p) (by simp; omega) λh' eb=>⟨rfl,I.turned (t':=s.toks) (λb o hb e=>eb b o hb e) f0 f1 f3 f4 f5⟩
 self:=λ_ _ _ _ _ st h=>wpAny_pyIter_tupleiter st h
theorem Zo3 {P:Program} {w:World} {K:PySem.W.Frag} {tg:Expr} (it:Addr) (lo:Int) (n:Nat):Turn P w K tg (Itr lo n) [it] it (λi h=>IsRangeIter h it (lo + (i:Nat) * 1) ((n:Int) - (i:Nat)) 1) where
 mem:=by simp
 obj:=λi h st b hb=>by
  have e:b = it:=by simpa using hb
  subst e;exact ⟨_,st,λv z=>by
   have z':Data.fields _ = Data.cell v:=z;cases z'⟩
 keep:=λi h h' st k=>k it (by simp) _ st
 item:=by
  intro X hP hw hK hc i pins s σ H E I hf st hg;subst hP hw hK;refine Zdd (hf it (by simp)) λf0 f1 f2 f3 f4 f5=>?_;have W:=Walks.range (prog:=X.prog) (w:=X.w) (I.ok.hd hc) it lo 1 n;refine W.item i s _ _ hg st λv h' tk hv st' kk=>?_;obtain ⟨t,rfl⟩:=hv;have I1:Inv X pins σ H { s with heap:=h',toks:=tk }:=I.turned (λb o hb e=>kk b o (by simpa using hb) e) f0 f1 f3 f4 f5;refine ⟨_,rfl,go_of (s:={ s with heap:=h',toks:=tk }) (n:="range_iterator") st' rfl rfl (by decide) ⟨.int (lo + i),H,I1,⟨t,?_⟩,⟨rfl,rfl⟩,st',λb hb=>(hf b hb).1⟩⟩;rw [Jev]
 done:=by
  intro X hP hw hK hc i pins s σ H E I hf st hg;subst hP hw hK;refine Zdd (hf it (by simp)) λf0 f1 f2 f3 f4 f5=>?_;exact wpAny_pyNext_range_end (I.ok.hd hc) st (by have:n<=i:=hg; omega) λh' eb=>⟨rfl,I.turned (t':=s.toks) (λb o hb e=>eb b o hb e) f0 f1 f3 f4 f5⟩
 self:=λ_ _ _ _ _ st h=>wpAny_pyIter_rangeiter st h
section
variable {X:Cx} {tg:Expr}
def Zse (K:PySem.W.Frag) (tl:TE):TI:=λσ H R=>tl σ H λx H1=>∃ a,x = .ref a/\(∃ xs,SqL K H1 a xs)/\R (Itl K a) H1
def iTup (K:PySem.W.Frag) (tl:TE):TI:=λσ H R=>tl σ H λx H1=>∃ a,x = .ref a/\(∃ xs,SqT K H1 a xs)/\R (Itt K a) H1
theorem Zbt {l:Expr} {tl:TE} (hl:PE X l tl):PI X tg l (Zse X.K tl):=by
 intro pins s σ H R I h;refine thn (hl pins s σ H _ I h) λv s1 ⟨x,H1,I1,r1,q1⟩=>?_;refine Zav q1 λa e e930 q=>?_;clear q1;obtain ⟨xs,hq⟩:=e930;subst e;cases r1;refine Zav (I1.list hq) λits rv p hz=>?_;refine Jd0 p.isList ?_;refine Zg0 s1.heap.objs.size [s1.heap.objs.size] _ _ H1 ⟨rfl,I1.kept (t':=s1.toks) λb o e=>Jak _ e,Zp4 a _,⟨_,Ja6 _ rfl,rfl,rfl⟩,λb hb=>?_,q⟩;have e:b = s1.heap.objs.size:=by simpa using hb
 subst e;exact I1.fpOk (Jaf _) (I1.hok.fresh (Jaf _))
theorem pi_tup {l:Expr} {tl:TE} (hl:PE X l tl):PI X tg l (iTup X.K tl):=by
 intro pins s σ H R I h;refine thn (hl pins s σ H _ I h) λv s1 ⟨x,H1,I1,r1,q1⟩=>?_;refine Zav q1 λa e e931 q=>?_;clear q1;obtain ⟨xs,hq⟩:=e931;subst e;cases r1;refine Zav (I1.tuple hq) λits rv p hz=>?_;refine wpAny_pyIter_tuple (show s1.heap.IsTuple a its.toArray from p) ?_;refine Zg0 s1.heap.objs.size [s1.heap.objs.size] _ _ H1 ⟨rfl,I1.kept (t':=s1.toks) λb o e=>Jak _ e,Zo2 a _,⟨_,Ja6 _ rfl,rfl,rfl⟩,λb hb=>?_,q⟩;have e:b = s1.heap.objs.size:=by simpa using hb
 subst e;exact I1.fpOk (Jaf _) (I1.hok.fresh (Jaf _))
theorem Zn4 {pins:List (Addr × Obj)} {σ:St} {H:Hp} {s:Shared} {R:It->Hp->Prop} {E:Value->Shared->Prop} {lo hi:Int} {t u v:Tok} {tk:Nat} (I:Inv X pins σ H s) (h1:-(2 ^ 62)<=lo) (h2:lo < 2 ^ 62) (h3:-(2 ^ 62)<=hi) (h4:hi < 2 ^ 62)
  (q:R (Itr lo (hi - lo).toNat) H):wpAny (model X.prog X.w) X.A (pyIter (.ref s.heap.objs.size)) (PIE X pins σ tg R) E { s with heap:=s.heap.push { cls:=.type "range",data:=.fields #[.int lo t,.int hi u,.int 1 v] },toks:=tk }:=by
 refine wpAny_pyIter_range (IsRange.new ..) (small_one h1 h2 h3 h4) ?_;have I1:Inv X pins σ H { s with heap:=s.heap.push { cls:=.type "range",data:=.fields #[.int lo t,.int hi u,.int 1 v] },toks:=tk }:=I.kept λb o e=>Jak _ e;refine Zg0 ((s.heap.push { cls:=.type "range",data:=.fields #[.int lo t,.int hi u,.int 1 v] }).objs.size) [(s.heap.push { cls:=.type "range",data:=.fields #[.int lo t,.int hi u,.int 1 v] }).objs.size] _ _ H ⟨rfl,I1.kept (t':=tk) λb o e=>Jak _ e,Zo3 _ lo (hi - lo).toNat,?_,λb hb=>?_,q⟩
 .have e1:lo + ((0:Nat):Int) * 1 = lo:=by simp
  have e2:(((hi - lo).toNat:Nat):Int) - ((0:Nat):Int) = Builtin.Range.rangeSize lo hi 1:=by rw [rangeSize_one]; split <;> omega
  show IsRangeIter _ _ (lo + ((0:Nat):Int) * 1) ((((hi - lo).toNat:Nat):Int) - ((0:Nat):Int)) 1;rw [e1,e2];exact Ja6 _ rfl
 .have e:b = (s.heap.push { cls:=.type "range",data:=.fields #[.int lo t,.int hi u,.int 1 v] }).objs.size:=by simpa using hb
  subst e;exact I1.fpOk (Jaf _) (I1.hok.fresh (Jaf _))
def Zsd (ta:TA):TI:=λσ H R=>ta σ H λvs H1=>∃ j:Int,vs = [.int j]/\-(2 ^ 62)<=j/\j < 2 ^ 62/\R (Itr 0 j.toNat) H1
def Zvd (ta:TA):TI:=λσ H R=>ta σ H λvs H1=>∃ i j:Int,vs = [.int i,.int j]/\(-(2 ^ 62)<=i/\i < 2 ^ 62/\-(2 ^ 62)<=j/\j < 2 ^ 62)/\R (Itr i (j - i).toNat) H1
theorem Zre {a:Expr} {ta:TA} {p pos:Pos} (hg:Gl X "range") (hm:X.mg "range" = none) (ha:PA X [a] ta) (hs:starEach [a] X.env = [(false,eval a X.env)]:=by rfl):PI X tg (.Call (.Name "range" p) [a] [] pos) (Zsd ta):=by
 intro pins s σ H R I h;refine Call_ (Zh7 I hg hm boot_range (Jcc (thn (ha pos pins s σ H _ I h) λus s1 ⟨vs,H1,I1,r1,q1⟩=>?_) hs rfl));obtain ⟨j,e,q1,q2,q⟩:=q1;subst e;cases r1 with
 | cons r rr=>
  cases rr;obtain ⟨t,rfl⟩:=r;exact call_range_1 (Zn4 I1 (by omega) (by omega) q1 q2 (by simpa using q))
theorem Zrd {a b:Expr} {ta:TA} {p pos:Pos} (hg:Gl X "range") (hm:X.mg "range" = none) (ha:PA X [a,b] ta) (hs:starEach [a,b] X.env = [(false,eval a X.env),(false,eval b X.env)]:=by rfl) (hs2:starEach [b] X.env = [(false,eval b X.env)]:=by rfl):
  PI X tg (.Call (.Name "range" p) [a,b] [] pos) (Zvd ta):=by
 intro pins s σ H R I h;refine Call_ (Zh7 I hg hm boot_range (Jcc (thn (ha pos pins s σ H _ I h) λus s1 ⟨vs,H1,I1,r1,q1⟩=>?_) (by rw [hs,hs2]) (by rw [hs2]; rfl)));refine Zbl q1 λi j e e932 q=>?_;clear q1;obtain ⟨q1,q2,q3,q4⟩:=e932;subst e;cases r1 with
 | cons r rr=>
  cases rr with
  | cons r' rr=>
   cases rr;obtain ⟨t,rfl⟩:=r;obtain ⟨t',rfl⟩:=r';exact call_range_2 (Zn4 I1 q1 q2 q3 q4 q)
def tFor (wi:TI) (g:TG) (tb:TS):TS:=λD σ H=>wi σ H λJ H1=>∃ W:Nat->Nat->St->Hp->Prop,(∃ m,W 0 m σ H1)/\∀ i m σ H,W i m σ H->
 (J.stop i H/\D.nx σ H)\/(J.go i H/\∃ N:St->Hp->Prop,(∀ σ' H',N σ' H'->∃ m',m' < m/\W (i + 1) m' σ' H')/\∀ x H',J.yld i H x H'->g x σ H' λσ2 H2=>tb { D with nx:=N,ct:=N,bk:=D.nx } σ2 H2)
def Zlo (fp:List Addr) (h:Heap):List (Addr × Obj):=fp.filterMap λb=>(h.get? b).map λo=>(b,o)
theorem Zdz {fp:List Addr} {h:Heap} {b:Addr} {o:Obj} (hb:b ∈ fp) (e:h.get? b = some o):(b,o) ∈ Zlo fp h:=List.mem_filterMap.mpr ⟨b,hb,by rw [e]; rfl⟩
theorem Zro {fp:List Addr} {h:Heap} {p:Addr × Obj} (hp:p ∈ Zlo fp h):p.1 ∈ fp/\h.get? p.1 = some p.2:=by
 refine Zad (List.mem_filterMap.mp hp) λb hb e=>?_;cases q:h.get? b with
 | none=>rw [q] at e; cases e
 | some o=>
  rw [q] at e;have e':(b,o) = p:=Jbd e;subst e';exact ⟨hb,q⟩
theorem Inv.pinned {pins:List (Addr × Obj)} {σ:St} {H:Hp} {s:Shared} {fp:List Addr} (I:Inv X pins σ H s) (hf:∀ b ∈ fp,FpOk X pins H b) (ho:∀ b ∈ fp,∃ o,s.heap.get? b = some o/\∀ v,o.data ≠ .cell v):Inv X (pins ++ Zlo fp s.heap) σ H s:=
 I.pins_of λp hp=>(Jai.mp hp).elim (λz=>I.pin p (Jbf _ z)) λz=>by
  obtain ⟨hb,e⟩:=Zro z;refine Zcj (hf p.1 hb) λf0 f1 f2 _=>?_;refine Zad (ho p.1 hb) λo e' d=>?_;rw [e] at e'; cases e';exact ⟨e,f0,f1,f2,d⟩
theorem Inv.unpinned {pins pl:List (Addr × Obj)} {σ:St} {H:Hp} {s:Shared} (I:Inv X (pins ++ pl) σ H s):Inv X pins σ H s:=I.pins_of λp hp=>I.pin p (Jbf _ (List.mem_append_left _ hp))
theorem Zbh {iter:Expr} {body:List Stmt} {wi:TI} {g:TG} {tb:TS} {pos:Pos} (hp:PassesOwn (model X.prog X.w) X.A X.env X.xe) (hc:X.calm = true) (hi:PI X tg iter wi) (hg:PG X tg g) (hb:PSs X body tb)
  (hs:∀ x,foldedSetIterable iter X.env x = pure x:=by intro _; rfl):PS X (.For tg iter body [] pos) (tFor wi g tb):=by
 intro pins s σ H D I h;refine wpAny_For (thn (hi pins s σ H _ I h) λv s1 h1=>thn h1 λitv s2 h2=>?_) hs;refine Zgh h2 λit fp tn J H2 e I2 T e933=>?_;clear h2;refine Za9 e933 λst2 f2 e934=>?_;clear e933;obtain ⟨W,⟨m0,w0⟩,turn⟩:=e934;subst e
 -- what stays true of the iterator's objects Zmn the loop
 have stat:∀ {H':Hp},(∀ b ∈ fp,H' b = none)->∀ b ∈ fp,FpOk X pins H' b:=λhn b hb=>⟨hn b hb,(f2 b hb).2⟩
 refine codeAny_forLoop_any (λn s'=>∃ i σ' H',Inv X pins σ' H' s'/\tn i s'.heap/\(∀ b ∈ fp,H' b = none)/\W i n σ' H') ?_ m0 ⟨0,σ,H2,I2,st2,λb hb=>(f2 b hb).1,w0⟩;intro n s3 e92;refine Zbj e92 λi σ3 H3 I3 st3 fr3 w3=>?_;clear e92;rcases turn i n σ3 H3 w3 with ⟨stop,qn⟩ | ⟨go,N,hN,step⟩
 .refine Jcw hp (thn (T.done X rfl rfl rfl hc i pins s3 σ3 H3 X.xe I3 (stat fr3) st3 stop) λr s4 ⟨hr,I4⟩=>?_);subst hr;exact Jec ⟨σ3,H3,I4,qn⟩
 .refine Jcw hp (thn (T.item X rfl rfl rfl hc i pins s3 σ3 H3 X.xe I3 (stat fr3) st3 go) λr s4 ⟨u,hr,h4⟩=>?_);subst hr;refine Jcw hp (thn h4 λ_ s5 ⟨x,H5,I5,r5,y5,st5,fr5⟩=>?_);have I5':=I5.pinned (stat fr5) (T.obj _ _ st5);refine Jcw hp (thn (hg _ s5 σ3 H5 x u _ I5' r5 (step x H5 y5)) λ_ s6 ⟨σ6,H6,I6,q6⟩=>?_);refine Jcw hp (thn (hb _ s6 σ6 H6 _ I6 q6) λf s7 q7=>?_);have again:∀ {σ7:St} {H7:Hp},Inv X (pins ++ Zlo fp s5.heap) σ7 H7 s7->N σ7 H7->∃ m,m < n/\∃ i σ' H',Inv X pins σ' H' s7/\tn i s7.heap/\(∀ b ∈ fp,H' b = none)/\W i m σ' H':=λ{σ7 H7} I7 n7=>by
   refine Zad (hN σ7 H7 n7) λm' hm w7=>?_;refine ⟨m',hm,i + 1,σ7,H7,I7.unpinned,T.keep _ _ _ st5 λb hb o e=>(I7.pin (b,o) (Jbf _ (Jbf _ (Zdz hb e)))).1,λb hb=>?_,w7⟩;refine Zad (T.obj _ _ st5 b hb) λo e d=>?_;exact (I7.pin (b,o) (Jbf _ (Jbf _ (Zdz hb e)))).2.1
  cases f with
  | next=>obtain ⟨σ7,H7,I7,n7⟩:=q7; exact again I7 n7
  | cont=>obtain ⟨σ7,H7,I7,n7⟩:=q7; exact again I7 n7
  | brk=>obtain ⟨σ7,H7,I7,q7⟩:=q7; exact ⟨σ7,H7,I7.unpinned,q7⟩
  | ret v=>obtain ⟨x7,σ7,H7,I7,r7,q7⟩:=q7; exact ⟨x7,σ7,H7,I7.unpinned,r7,q7⟩
end
theorem Zik {K:PySem.W.Frag} {a:Addr} {xs:List V} {g:TG} {tb:TS} {D:Ends} {σ:St} {H:Hp} (Pv:Nat->St->Hp->Prop) (h0:Pv 0 σ H) (hl:∀ i σ H,i<=xs.length->Pv i σ H->SqL K H a xs)
  (hs:∀ i x σ H,xs[i]? = some x->Pv i σ H->g x σ H λσ2 H2=>tb { D with nx:=Pv (i + 1),ct:=Pv (i + 1),bk:=D.nx } σ2 H2) (hd:∀ σ H,Pv xs.length σ H->D.nx σ H):
  ∃ W:Nat->Nat->St->Hp->Prop,(∃ m,W 0 m σ H)/\∀ i m σ H,W i m σ H->
   ((Itl K a).stop i H/\D.nx σ H)\/((Itl K a).go i H/\∃ N:St->Hp->Prop,(∀ σ' H',N σ' H'->∃ m',m' < m/\W (i + 1) m' σ' H')/\∀ x H',(Itl K a).yld i H x H'->g x σ H' λσ2 H2=>tb { D with nx:=N,ct:=N,bk:=D.nx } σ2 H2):=by
 refine ⟨λi m σ H=>m = xs.length - i/\i<=xs.length/\Pv i σ H,⟨xs.length,by simp,Jb2 _,h0⟩,?_⟩;intro i m σ H e93;refine Za9 e93 λe935 hi p=>?_;clear e93;obtain rfl:=e935;have q:=hl i σ H hi p;by_cases hlt:i < xs.length
 .refine .inr ⟨⟨xs,xs[i],q,by simp [hlt]⟩,Pv (i + 1),λσ' H' p'=>⟨xs.length - (i + 1),by omega,rfl,hlt,p'⟩,λx H' y=>?_⟩;obtain ⟨e,y⟩:=y;subst e;exact hs i x σ _ (y xs q) p
 .have e:i = xs.length:=by omega
  subst e;exact .inl ⟨⟨xs,q,Jaf _⟩,hd σ H p⟩
theorem Za2 {lo:Int} {n:Nat} {g:TG} {tb:TS} {D:Ends} {σ:St} {H:Hp} (Pv:Nat->St->Hp->Prop) (h0:Pv 0 σ H)
  (hs:∀ i σ H,i < n->Pv i σ H->g (.int (lo + i)) σ H λσ2 H2=>tb { D with nx:=Pv (i + 1),ct:=Pv (i + 1),bk:=D.nx } σ2 H2) (hd:∀ σ H,Pv n σ H->D.nx σ H):
  ∃ W:Nat->Nat->St->Hp->Prop,(∃ m,W 0 m σ H)/\∀ i m σ H,W i m σ H->
   ((Itr lo n).stop i H/\D.nx σ H)\/((Itr lo n).go i H/\∃ N:St->Hp->Prop,(∀ σ' H',N σ' H'->∃ m',m' < m/\W (i + 1) m' σ' H')/\∀ x H',(Itr lo n).yld i H x H'->g x σ H' λσ2 H2=>tb { D with nx:=N,ct:=N,bk:=D.nx } σ2 H2):=by
 refine ⟨λi m σ H=>m = n - i/\i<=n/\Pv i σ H,⟨n,by simp,Jb2 _,h0⟩,?_⟩;intro i m σ H e95;refine Za9 e95 λe937 hi p=>?_;clear e95;obtain rfl:=e937;by_cases hlt:i < n
 .refine .inr ⟨hlt,Pv (i + 1),λσ' H' p'=>⟨n - (i + 1),by omega,rfl,hlt,p'⟩,λx H' y=>?_⟩;obtain ⟨e,y⟩:=y;subst e y;exact hs i σ _ hlt p
 .have e:i = n:=by omega
  subst e;exact .inl ⟨Jaf _,hd σ H p⟩
abbrev R2:=V->V->Hp->VK->Prop
def OpR (X:Cx) (f:Value->Value->Sem Value) (r:R2):Prop:=
 ∀ (pins:List (Addr × Obj)) (s:Shared) (σ:St) (H:Hp) (x y:V) (v u:Value) (Q:VK),Inv X pins σ H s->RelV x v->RelV y u->r x y H Q->
  wpAny (model X.prog X.w) X.A (f v u) (EP X pins σ Q) X.xe s
def UnR (X:Cx) (f:Value->Sem Value) (r:V->Hp->VK->Prop):Prop:=
 ∀ (pins:List (Addr × Obj)) (s:Shared) (σ:St) (H:Hp) (x:V) (v:Value) (Q:VK),Inv X pins σ H s->RelV x v->r x H Q->
  wpAny (model X.prog X.w) X.A (f v) (EP X pins σ Q) X.xe s
def Zgg (X:Cx) (f:Value) (r:List V->Hp->VK->Prop):Prop:=
 ∀ (pins:List (Addr × Obj)) (s:Shared) (σ:St) (H:Hp) (xs:List V) (us:List Value) (Q:VK),Inv X pins σ H s->Vals xs us->r xs H Q->
  wpAny (model X.prog X.w) X.A (call f us) (EP X pins σ Q) X.xe s
def TruR (X:Cx) (r:V->Hp->(Bool->Hp->Prop)->Prop):Prop:=
 ∀ (pins:List (Addr × Obj)) (s:Shared) (σ:St) (H:Hp) (x:V) (v:Value) (Q:Bool->Hp->Prop),Inv X pins σ H s->RelV x v->r x H Q->
  wpAny (model X.prog X.w) X.A (truthy v) (TP X pins σ Q) X.xe s
def tOp (r:R2) (ta tb:TE):TE:=λσ H Q=>ta σ H λx H1=>tb σ H1 λy H2=>r x y H2 Q
def tUn (r:V->Hp->VK->Prop) (ta:TE):TE:=λσ H Q=>ta σ H λx H1=>r x H1 Q
def rI (C:Int->Int->Prop) (g:Int->Int->V):R2:=λx y H Q=>∃ i j,x = .int i/\y = .int j/\C i j/\Q (g i j) H
def rI0 (g:Int->Int->V):R2:=λx y H Q=>∃ i j,x = .int i/\y = .int j/\Q (g i j) H
def rU (g:Int->V):V->Hp->VK->Prop:=λx H Q=>∃ i,x = .int i/\Q (g i) H
section
variable {X:Cx} {a b c:Expr} {ta tb tc:TE} {pos:Pos}
theorem binT (ha:PE X a ta) (hb:PE X b tb) {pins:List (Addr × Obj)} {s:Shared} {σ:St} {H:Hp} {R:V->V->Hp->Prop} (I:Inv X pins σ H s)
  (h:ta σ H λx H1=>tb σ H1 λy H2=>R x y H2) {Q:Value->Shared->Prop} {f:Value->Value->Sem Value}
  (hf:∀ v u s2 x y H2,Inv X pins σ H2 s2->RelV x v->RelV y u->R x y H2->wpAny (model X.prog X.w) X.A (f v u) Q X.xe s2):
  wpAny (model X.prog X.w) X.A (eval a X.env) (λv s₁=>wpAny (model X.prog X.w) X.A (eval b X.env) (λu s₂=>wpAny (model X.prog X.w) X.A (f v u) Q X.xe s₂) X.xe s₁) X.xe s:=by
 refine thn (ha pins s σ H _ I h) λv s1 ⟨x,H1,I1,r1,q1⟩=>?_;refine thn (hb pins s1 σ H1 _ I1 q1) λu s2 ⟨y,H2,I2,r2,q2⟩=>?_;exact hf v u s2 x y H2 I2 r1 r2 q2
theorem pe_op {op:Operator} {r:R2} (ho:OpR X (binaryOp op) r) (ha:PE X a ta) (hb:PE X b tb):PE X (.BinOp a op b pos) (tOp r ta tb):=by
 intro pins s σ H Q I h;exact wpAny_BinOp (binT ha hb I h λv u s2 x y H2 I2 rx ry q=>ho pins s2 σ H2 x y v u Q I2 rx ry q)
theorem Zjp {op:UnaryOp} {r:V->Hp->VK->Prop} (ho:UnR X (unaryOp op) r) (ha:PE X a ta):PE X (.UnaryOp op a pos) (tUn r ta):=by
 intro pins s σ H Q I h;exact UnaryOp_ (thn (ha pins s σ H _ I h) λv s1 ⟨x,H1,I1,r1,q1⟩=>ho pins s1 σ H1 x v Q I1 r1 q1)
theorem opI {f:Value->Value->Sem Value} {C:Int->Int->Prop} {g:Int->Int->Int}
  (rule:∀ (i j:Int) (t u:Tok) (s:Shared) (Q:Value->Shared->Prop) (E:Value->Shared->Prop),C i j->Q (.int (g i j) s.toks) { s with toks:=s.toks + 1 }->wpAny (model X.prog X.w) X.A (f (.int i t) (.int j u)) Q E s):
  OpR X f (rI C λi j=>.int (g i j)):=by
 intro pins s σ H x y v u Q I rx ry h;refine Zdv h λi j e938 e939 hc q=>?_;clear h;obtain rfl:=e938;obtain rfl:=e939;obtain ⟨t,rfl⟩:=rx;obtain ⟨t',rfl⟩:=ry;exact rule i j t t' s _ _ hc ⟨.int (g i j),H,I.tok _,⟨_,rfl⟩,q⟩
theorem opI0 {f:Value->Value->Sem Value} {g:Int->Int->Int}
  (rule:∀ (i j:Int) (t u:Tok) (s:Shared) (Q:Value->Shared->Prop) (E:Value->Shared->Prop),Q (.int (g i j) s.toks) { s with toks:=s.toks + 1 }->wpAny (model X.prog X.w) X.A (f (.int i t) (.int j u)) Q E s):
  OpR X f (rI0 λi j=>.int (g i j)):=by
 intro pins s σ H x y v u Q I rx ry h;refine Zbl h λi j e940 e941 q=>?_;clear h;obtain rfl:=e940;obtain rfl:=e941;obtain ⟨t,rfl⟩:=rx;obtain ⟨t',rfl⟩:=ry;exact rule i j t t' s _ _ ⟨.int (g i j),H,I.tok _,⟨_,rfl⟩,q⟩
theorem opB0 {f:Value->Value->Sem Value} {g:Int->Int->Bool}
  (rule:∀ (i j:Int) (t u:Tok) (s:Shared) (Q:Value->Shared->Prop) (E:Value->Shared->Prop),Q (.bool (g i j)) s->wpAny (model X.prog X.w) X.A (f (.int i t) (.int j u)) Q E s):
  OpR X f (rI0 λi j=>.bl (g i j)):=by
 intro pins s σ H x y v u Q I rx ry h;refine Zbl h λi j e942 e943 q=>?_;clear h;obtain rfl:=e942;obtain rfl:=e943;obtain ⟨t,rfl⟩:=rx;obtain ⟨t',rfl⟩:=ry;exact rule i j t t' s _ _ ⟨.bl (g i j),H,I,rfl,q⟩
def CDiv (i j:Int):Prop:=0 < j/\j < 1073741824
def CPow (i j:Int):Prop:=0<=j/\j<=1000000/\i.natAbs < 2 ^ 64
def CMul (i j:Int):Prop:=(-(2 ^ 64) < i/\i < 2 ^ 64)\/(-(2 ^ 64) < j/\j < 2 ^ 64)
theorem CMul.ok {i j:Int} (h:CMul i j):IntMulOk i j:=by
 rcases h with ⟨h1,h2⟩ | ⟨h1,h2⟩
 .exact .of_left (intBits_le_64 h1 h2)
 .exact .of_right (intBits_le_64 h1 h2)
theorem two_pow_nn (k:Nat):(0:Int)<=2 ^ k:=by
 rw [two_pow_cast];exact Jej _
theorem Zay:OpR X (binaryOp .Add) (rI0 λi j=>.int (i + j)):=opI0 λ_ _ _ _ _ _ _ q=>add_int q
theorem Zbp:OpR X (binaryOp .Sub) (rI0 λi j=>.int (i - j)):=opI0 λ_ _ _ _ _ _ _ q=>sub_int q
theorem Zgt:OpR X (binaryOp .Mult) (rI CMul λi j=>.int (i * j)):=opI λ_ _ _ _ _ _ _ hc q=>mul_int q hc.ok
theorem Zkp:OpR X (binaryOp .FloorDiv) (rI CDiv λi j=>.int (i / j)):=opI λi j _ _ _ _ _ hc q=>by
 have h1:(0:Int) < j:=hc.1;have h2:j < 1073741824:=hc.2;exact floordiv_int (by omega) (by rw [Jbu i (by omega)]; exact q) (.inl (PyProof.noPylong_small (by omega)))
theorem Zcb:OpR X (binaryOp .Mod) (rI (λ_ j=>0 < j) λi j=>.int (i % j)):=opI λi j _ _ _ _ _ hc q=>by
 have h1:(0:Int) < j:=hc;exact mod_int' (by omega) (by rw [Int.fmod_eq_emod_of_nonneg i (by omega)]; exact q)
theorem Zrh:OpR X (binaryOp .Mod) (rI (λ_ j=>j ≠ 0) λi j=>.int (i.fmod j)):=opI λ_ _ _ _ _ _ _ hc q=>mod_int' hc q
theorem Zoc:OpR X (binaryOp .Pow) (rI CPow λi j=>.int (i ^ j.toNat)):=opI λ_ _ _ _ _ _ _ hc q=>pow_int_small hc.1 hc.2.1 hc.2.2 q
theorem Zwb:OpR X (binaryOp .RShift) (rI (λ_ j=>0<=j) λi j=>.int (i / 2 ^ j.toNat)):=opI λi j _ _ _ _ _ hc q=>
 rshift_int hc (by rw [Jbu i (two_pow_nn _)]; exact q)
theorem unI {f:Value->Sem Value} {g:Int->Int}
  (rule:∀ (i:Int) (t:Tok) (s:Shared) (Q:Value->Shared->Prop) (E:Value->Shared->Prop),Q (.int (g i) s.toks) { s with toks:=s.toks + 1 }->wpAny (model X.prog X.w) X.A (f (.int i t)) Q E s):
  UnR X f (rU λi=>.int (g i)):=by
 intro pins s σ H x v Q I rx h;refine Zad h λi e944 q=>?_;clear h;obtain rfl:=e944;obtain ⟨t,rfl⟩:=rx;exact rule i t s _ _ ⟨.int (g i),H,I.tok _,⟨_,rfl⟩,q⟩
theorem Zfp:UnR X (unaryOp .USub) (rU λi=>.int (-i)):=unI λ_ _ _ _ _ q=>neg_int q
end
def scal:V->V->Bool
 | .non,.non=>true | .non,.int _=>true | .int _,.non=>true | .non,.bl _=>true | .bl _,.non=>true | .non,.str _=>true | .str _,.non=>true
 | .int _,.int _=>true | .bl _,.bl _=>true | .str _,.str _=>true | .byt _,.byt _=>true
 | .int _,.str _=>true | .str _,.int _=>true | .bl _,.str _=>true | .str _,.bl _=>true
 | _,_=>false
def rEq:R2:=λx y H Q=>scal x y = true/\Q (.bl (decide (x = y))) H
def rNe:R2:=λx y H Q=>scal x y = true/\Q (.bl (!decide (x = y))) H
theorem Zsp {i j:Int}:decide (V.int i = V.int j) = (i == j):=by
 rw [Jcx];simp
theorem Zwl {i j:Bool}:decide (V.bl i = V.bl j) = (i == j):=by
 rw [Jcx];simp
theorem Zso {i j:Str}:decide (V.str i = V.str j) = (i == j):=by
 rw [Jcx];simp
theorem Zsq {i j:Array UInt8}:decide (V.byt i = V.byt j) = (i.toList == j.toList):=by
 rw [Jcx];cases i;cases j;simp
section
variable {X:Cx} {a b c:Expr} {ta tb tc:TE} {pos:Pos}
theorem Zbg {pins:List (Addr × Obj)} {σ:St} {H:Hp} {s:Shared} {Q:VK} {k k':Bool} (I:Inv X pins σ H s) (q:Q (.bl k) H) (e:k = k'):EP X pins σ Q (.bool k') s:=by
 subst e;exact Zau (.bl k) H ⟨I,rfl,q⟩
theorem Zcc:OpR X (compareOp .Eq) rEq:=by
 intro pins s σ H x y v u Q I rx ry h;obtain ⟨hs,q⟩:=h;cases x with
 | non=>
  cases rx;cases y with
  | non=>cases ry; exact PySem.EqNone.eq_none_none (Zbg I q (by simp))
  | bl j=>cases ry; exact PySem.EqNone.eq_none_bool (Zbg I q (by simp))
  | int j=>obtain ⟨t',rfl⟩:=ry; exact PySem.EqNone.eq_none_int (Zbg I q (by simp))
  | str j=>obtain ⟨t',rfl⟩:=ry; exact PySem.EqNone.eq_none_str (Zbg I q (by simp))
  | _=>exact absurd (show false = true from hs) Jau
 | bl i=>
  cases rx;cases y with
  | non=>cases ry; exact PySem.EqNone.eq_bool_none (Zbg I q (by simp))
  | bl j=>cases ry; exact eq_bool (Zbg I q Zwl)
  | str j=>obtain ⟨t',rfl⟩:=ry; exact PySem.EqMixed.eq_bool_str (Zbg I q (by simp))
  | _=>exact absurd (show false = true from hs) Jau
 | int i=>
  obtain ⟨t,rfl⟩:=rx;cases y with
  | non=>cases ry; exact PySem.EqNone.eq_int_none (Zbg I q (by simp))
  | int j=>obtain ⟨t',rfl⟩:=ry; exact eq_int (Zbg I q Zsp)
  | str j=>obtain ⟨t',rfl⟩:=ry; exact PySem.EqMixed.eq_int_str (Zbg I q (by simp))
  | _=>exact absurd (show false = true from hs) Jau
 | str i=>
  obtain ⟨t,rfl⟩:=rx;cases y with
  | non=>cases ry; exact PySem.EqNone.eq_str_none (Zbg I q (by simp))
  | bl j=>cases ry; exact PySem.EqMixed.eq_str_bool (Zbg I q (by simp))
  | int j=>obtain ⟨t',rfl⟩:=ry; exact PySem.EqMixed.eq_str_int (Zbg I q (by simp))
  | str j=>obtain ⟨t',rfl⟩:=ry; exact eq_str (Zbg I q Zso)
  | _=>exact absurd (show false = true from hs) Jau
 | byt i=>
  obtain ⟨t,rfl⟩:=rx;cases y with
  | byt j=>obtain ⟨t',rfl⟩:=ry; exact PySem.W.eq_bytes (Zbg I q Zsq)
  | _=>exact absurd (show false = true from hs) Jau
 | _=>cases y <;> exact absurd (show false = true from hs) Jau
theorem Zfh:OpR X (compareOp .NotEq) rNe:=by
 intro pins s σ H x y v u Q I rx ry h;obtain ⟨hs,q⟩:=h;cases x with
 | non=>
  cases rx;cases y with
  | non=>cases ry; exact PySem.EqNone.ne_none_none (Zbg I q (by simp))
  | bl j=>cases ry; exact PySem.EqNone.ne_none_bool (Zbg I q (by simp))
  | int j=>obtain ⟨t',rfl⟩:=ry; exact PySem.EqNone.ne_none_int (Zbg I q (by simp))
  | str j=>obtain ⟨t',rfl⟩:=ry; exact PySem.EqNone.ne_none_str (Zbg I q (by simp))
  | _=>exact absurd (show false = true from hs) Jau
 | bl i=>
  cases rx;cases y with
  | non=>cases ry; exact PySem.EqNone.ne_bool_none (Zbg I q (by simp))
  | bl j=>cases ry; exact ne_bool (Zbg I q (Jdt not Zwl))
  | str j=>obtain ⟨t',rfl⟩:=ry; exact PySem.EqMixed.ne_bool_str (Zbg I q (by simp))
  | _=>exact absurd (show false = true from hs) Jau
 | int i=>
  obtain ⟨t,rfl⟩:=rx;cases y with
  | non=>cases ry; exact PySem.EqNone.ne_int_none (Zbg I q (by simp))
  | int j=>obtain ⟨t',rfl⟩:=ry; exact ne_int (Zbg I q (Jdt not Zsp))
  | str j=>obtain ⟨t',rfl⟩:=ry; exact PySem.EqMixed.ne_int_str (Zbg I q (by simp))
  | _=>exact absurd (show false = true from hs) Jau
 | str i=>
  obtain ⟨t,rfl⟩:=rx;cases y with
  | non=>cases ry; exact PySem.EqNone.ne_str_none (Zbg I q (by simp))
  | bl j=>cases ry; exact PySem.EqMixed.ne_str_bool (Zbg I q (by simp))
  | int j=>obtain ⟨t',rfl⟩:=ry; exact PySem.EqMixed.ne_str_int (Zbg I q (by simp))
  | str j=>obtain ⟨t',rfl⟩:=ry; exact ne_str (Zbg I q (Jdt not Zso))
  | _=>exact absurd (show false = true from hs) Jau
 | byt i=>
  obtain ⟨t,rfl⟩:=rx;cases y with
  | byt j=>obtain ⟨t',rfl⟩:=ry; exact PySem.W.ne_bytes (Zbg I q (Jdt not Zsq))
  | _=>exact absurd (show false = true from hs) Jau
 | _=>cases y <;> exact absurd (show false = true from hs) Jau
theorem Zhg:OpR X (compareOp .Lt) (rI0 λi j=>.bl (decide (i < j))):=opB0 λ_ _ _ _ _ _ _ q=>lt_int q
theorem Zpa:OpR X (compareOp .LtE) (rI0 λi j=>.bl (decide (i<=j))):=opB0 λ_ _ _ _ _ _ _ q=>le_int q
theorem Ze0:OpR X (compareOp .Gt) (rI0 λi j=>.bl (decide (j < i))):=opB0 λ_ _ _ _ _ _ _ q=>gt_int q
theorem Zuk:OpR X (compareOp .GtE) (rI0 λi j=>.bl (decide (j<=i))):=opB0 λ_ _ _ _ _ _ _ q=>ge_int q
theorem op_notN:OpR X (compareOp .IsNot) (λx y H Q=>y = .non/\Q (.bl (!decide (x = .non))) H):=by
 intro pins s σ H x y v u Q I rx ry h;obtain ⟨rfl,q⟩:=h;cases ry;refine isnot_none_gen (Zbg I q ?_);cases x <;> first
  | (cases rx; rfl)
  | (obtain ⟨t,rfl⟩:=rx; rfl)
theorem OpR.or {f:Value->Value->Sem Value} {r r':R2} (h:OpR X f r) (h':OpR X f r'):OpR X f (λx y H Q=>r x y H Q\/r' x y H Q):=by
 intro pins s σ H x y v u Q I rx ry q;rcases q with q | q
 .exact h pins s σ H x y v u Q I rx ry q
 .exact h' pins s σ H x y v u Q I rx ry q
theorem Zam (b:Expr) {op:CmpOp} (h:op ≠ .In:=by decide) (h2:op ≠ .NotIn:=by decide):behindInMarks op b = false:=by
 have e1:(op == CmpOp.In) = false:=by cases op <;> first | rfl | exact absurd rfl h
 have e2:(op == CmpOp.NotIn) = false:=by cases op <;> first | rfl | exact absurd rfl h2
 cases b <;> simp [behindInMarks,e1,e2]
theorem Zcy {op:CmpOp} {r:R2} (ho:OpR X (compareOp op) r) (ha:PE X a ta) (hb:PE X b tb) (hm:behindInMarks op b = false):PE X (.Compare a [op] [b] pos) (tOp r ta tb):=by
 intro pins s σ H Q I h;exact wpAny_Compare1 (binT ha hb I h λv u s2 x y H2 I2 rx ry q=>ho pins s2 σ H2 x y v u Q I2 rx ry q) hm
def Zt0 (t:TE):TT:=λσ H Q=>t σ H λx H'=>∃ k,x = .bl k/\Q k H'
theorem Zcl {op:CmpOp} {r:R2} (ho:OpR X (compareOp op) r) (ha:PE X a ta) (hb:PE X b tb) (hm:behindInMarks op b = false):PT X (.Compare a [op] [b] pos) (Zt0 (tOp r ta tb)):=by
 intro pins s σ H Q I h;refine Jd2 (thn (ha pins s σ H _ I h) λv s1 ⟨x,H1,I1,r1,q1⟩=>thn (hb pins s1 σ H1 _ I1 q1) λu s2 ⟨y,H2,I2,r2,q2⟩=>
  thn (ho pins s2 σ H2 x y v u _ I2 r1 r2 q2) λc s3 ⟨z,H3,I3,r3,k,e,q3⟩=>?_) hm
 subst e;cases r3;exact Jbm ⟨H3,I3,q3⟩
def Znr (r r':R2) (ta tb tc:TE):TE:=λσ H Q=>ta σ H λx H1=>tb σ H1 λy H2=>r x y H2 λz H3=>∃ k,z = .bl k /\
 (if k = true then tc σ H3 λw' H4=>r' y w' H4 Q else Q (.bl false) H3)
theorem Zn9 {op op':CmpOp} {r r':R2} (ho:OpR X (compareOp op) r) (ho':OpR X (compareOp op') r') (ha:PE X a ta) (hb:PE X b tb) (hc:PE X c tc)
  (hm:lastMarks [op,op'] [b,c] = false:=by with_unfolding_all rfl):PE X (.Compare a [op,op'] [b,c] pos) (Znr r r' ta tb tc):=by
 intro pins s σ H Q I h;refine Compare_chain (thn (ha pins s σ H _ I h) λv s1 ⟨x,H1,I1,r1,q1⟩=>chain_link (thn (hb pins s1 σ H1 _ I1 q1) λu s2 ⟨y,H2,I2,r2,q2⟩=>
  thn (ho pins s2 σ H2 x y v u _ I2 r1 r2 q2) λd s3 ⟨z,H3,I3,r3,k,e,q3⟩=>?_)) hm
 subst e;cases r3;refine Jbm ?_;cases k with
 | false=>exact ite_ff ⟨.bl false,H3,I3,rfl,q3⟩
 | true=>exact ite_tt (chain_last (thn (hc pins s3 σ H3 _ I3 q3) λw' s4 ⟨z',H4,I4,r4,q4⟩=>ho' pins s4 σ H4 y z' u w' Q I4 r2 r4 q4))
theorem Zn6 {op op':CmpOp} {r r':R2} (ho:OpR X (compareOp op) r) (ho':OpR X (compareOp op') r') (ha:PE X a ta) (hb:PE X b tb) (hc:PE X c tc)
  (hm:lastMarks [op,op'] [b,c] = false:=by with_unfolding_all rfl):PT X (.Compare a [op,op'] [b,c] pos) (Zt0 (Znr r r' ta tb tc)):=by
 intro pins s σ H Q I h;refine isTrue_chain (thn (ha pins s σ H _ I h) λv s1 ⟨x,H1,I1,r1,q1⟩=>test_link (thn (hb pins s1 σ H1 _ I1 q1) λu s2 ⟨y,H2,I2,r2,q2⟩=>
  thn (ho pins s2 σ H2 x y v u _ I2 r1 r2 q2) λd s3 ⟨z,H3,I3,r3,k,e,q3⟩=>?_)) hm
 subst e;cases r3;refine Jbm ?_;cases k with
 | false=>
  refine Zad q3 λk' e' q'=>?_;clear q3;cases e';exact ite_ff ⟨H3,I3,q'⟩
 | true=>
  refine ite_tt (test_last (thn (hc pins s3 σ H3 _ I3 q3) λw' s4 ⟨z',H4,I4,r4,q4⟩=>thn (ho' pins s4 σ H4 y z' u w' _ I4 r2 r4 q4) λd' s5 ⟨z2,H5,I5,r5,k2,e2,q5⟩=>?_));subst e2;cases r5;exact Jbm ⟨H5,I5,q5⟩
def TruV (K:PySem.W.Frag) (x:V) (H:Hp) (k:Bool):Prop:=
 match x with
 | .non=>k = false
 | .bl b=>k = b
 | .int i=>k = (i != 0)
 | .str y=>y.length<=sizeLine/\k = ((y.length:Int) != 0)
 | .byt y=>y.size<=sizeLine/\k = ((y.size:Int) != 0)
 | .ref p=>(∃ xs,SqL K H p xs/\k = !xs.isEmpty)\/(∃ xs,SqT K H p xs/\k = !xs.isEmpty)\/∃ kvs,H p = some (.dK kvs)/\k = !kvs.isEmpty
 | _=>False
theorem Zph {κ:Type} {kvs:List (κ × V)} {vs:List (κ × Value)} (r:KV kvs vs):(!vs.isEmpty) = !kvs.isEmpty:=by
 cases r <;> rfl
theorem Zj9 {xs:List V} {its:List Value} (r:Vals xs its):(!its.toArray.isEmpty) = !xs.isEmpty:=by
 cases r <;> simp
theorem Zlv:(sizeLine:Nat) < 2 ^ 63:=by rw [sizeLine_eq]; decide
theorem tru_ok:TruR X (λx H Q=>∃ k,TruV X.K x H k/\Q k H):=by
 intro pins s σ H x v Q I rx h;refine Zad h λk e q=>?_;clear h;have hl:=Zlv;have hs:sizeLine = 16777216:=sizeLine_eq;cases x with
 | non=>
  cases rx;have e':k = false:=e;subst e';exact truthy_none ⟨H,I,q⟩
 | bl b=>
  cases rx;have e':k = b:=e;subst e';exact Jbm ⟨H,I,q⟩
 | int i=>
  obtain ⟨t,rfl⟩:=rx;have e':k = (i != 0):=e;subst e';exact PySem.P.truthy_int ⟨H,I,q⟩
 | str y=>
  obtain ⟨t,rfl⟩:=rx;obtain ⟨hy,e'⟩:y.length<=sizeLine/\k = ((y.length:Int) != 0):=e;subst e';exact PySem.P.truthy_str (by omega) ⟨H,I.tok _,q⟩
 | byt y=>
  obtain ⟨t,rfl⟩:=rx;obtain ⟨hy,e'⟩:y.size<=sizeLine/\k = ((y.size:Int) != 0):=e;subst e';exact PySem.W.truthy_bytes (by omega) ⟨H,I.tok _,q⟩
 | ref p=>
  cases rx;have e':(∃ xs,SqL X.K H p xs/\k = !xs.isEmpty)\/(∃ xs,SqT X.K H p xs/\k = !xs.isEmpty)\/∃ kvs,H p = some (.dK kvs)/\k = !kvs.isEmpty:=e;rcases e' with ⟨xs,hx,e'⟩ | ⟨xs,hx,e'⟩ | ⟨kvs,hx,e'⟩
  .subst e';refine Zav (I.list hx) λits r pl hz=>?_;have hlen:=r.length;exact wpAny_truthy_list pl.isList (by simp only [Jat]; omega) ⟨H,I.tok _,by rw [Zj9 r]; exact q⟩
  .subst e';refine Zav (I.tuple hx) λits r pl hz=>?_;have hlen:=r.length;exact truthy_tuple pl (by simp only [Jat]; omega) ⟨H,I.tok _,by rw [Zj9 r]; exact q⟩
  .subst e';obtain ⟨hz,hS,vs,r,m⟩:kvs.length<=sizeLine/\(p == sysModules) = false/\∃ vs,KV kvs vs/\s.heap.DictOf (Zna X.prog X.w) p vs:=I.hok p _ hx;have hlen:kvs.length = vs.length:=Paired.length r;exact wpAny_truthy_dict hS m (by omega) ⟨H,I.tok _,by rw [Zph r]; exact q⟩
 | _=>exact (show False from e).elim
theorem Zud (ha:PE X a ta) (he:∀ whole,isTrue a X.env whole = (do let v <- whole; standAt a.pos; holding [v] (truthy v))):
  PT X a (λσ H Q=>ta σ H λx H'=>∃ k,TruV X.K x H' k/\Q k H'):=by
 intro pins s σ H Q I h;exact isTrue_plain (thn (ha pins s σ H _ I h) λv s1 ⟨x,H1,I1,r1,q1⟩=>tru_ok pins s1 σ H1 x v Q I1 r1 q1) (he _)
theorem Zkg {x:V} {us:List Value} (r:Vals [x] us):∃ u,us = [u]/\RelV x u:=by
 cases r with
 | cons r1 r2=>cases r2; exact ⟨_,rfl,r1⟩
theorem vals2 {x y:V} {us:List Value} (r:Vals [x,y] us):∃ u w',us = [u,w']/\RelV x u/\RelV y w':=by
 cases r with
 | cons r1 r2=>
  cases r2 with
  | cons r3 r4=>cases r4; exact ⟨_,_,rfl,r1,r3⟩
theorem Zc1:Zgg X (.builtin "abs") (λxs H Q=>∃ i,xs = [.int i]/\Q (.int (if i < 0 then -i else i)) H):=by
 intro pins s σ H xs us Q I r h;refine Zad h λi e968 q=>?_;clear h;obtain rfl:=e968;refine Zad (Zkg r) λu e969 e970=>?_;obtain rfl:=e969;obtain ⟨t,rfl⟩:=e970;exact call_abs_int λu tk=>⟨.int (if i < 0 then -i else i),H,I.tok _,⟨_,rfl⟩,q⟩
theorem Zji (hc:X.calm = true):Zgg X (.builtin "min") (λxs H Q=>∃ i j,xs = [.int i,.int j]/\Q (.int (if j < i then j else i)) H):=by
 intro pins s σ H xs us Q I r h;refine Zbo h λi j e975 q=>?_;clear h;obtain rfl:=e975;refine Zbl (vals2 r) λu w' e976 e977 e978=>?_;obtain rfl:=e976;obtain ⟨t,rfl⟩:=e977;obtain ⟨t',rfl⟩:=e978;refine min_two_ints (I.ok.hd hc) λh' tk k=>⟨_,H,I.kept k,?_,q⟩
 by_cases hj:j < i
 .rw [if_pos hj,if_pos hj]; exact ⟨_,rfl⟩
 .rw [if_neg hj,if_neg hj]; exact ⟨_,rfl⟩
theorem Zl9:Zgg X (.type "int") (λxs H Q=>(∃ i,xs = [.int i]/\Q (.int i) H)\/∃ k,xs = [.bl k]/\Q (.int (if k then 1 else 0)) H):=by
 intro pins s σ H xs us Q I r h;rcases h with ⟨i,rfl,q⟩ | ⟨k,rfl,q⟩
 .refine Zad (Zkg r) λu e979 e980=>?_;obtain rfl:=e979;obtain ⟨t,rfl⟩:=e980;exact call_int_int ⟨.int i,H,I,⟨_,rfl⟩,q⟩
 .refine Zad (Zkg r) λu e981 r1=>?_;obtain rfl:=e981;cases r1;exact call_int_bool ⟨.int (if k then 1 else 0),H,I.tok _,⟨_,rfl⟩,q⟩
end
structure ObjM (h:Heap) (x dx C:Addr) (mA:Str->Option Value):Prop where
 obj:h.get? x = some (PySem.W.instObj C dx)
 ns:h.Ns1 dx mA
 ne:dx ≠ x
theorem Zru {h:Heap} {dx:Addr} {mA:Str->Option Value} (n:h.Ns1 dx mA):∃ od,h.get? dx = some od/\∀ name,PySem.W.lookIn name od = some (mA name):=by
 refine Zbj n λo es ep ho hd hk e9101=>?_;clear n;obtain ⟨_,hm⟩:=e9101;refine ⟨o,ho,λname=>?_⟩;have e:=hm name;unfold nsFind findBy at e;rw [<- Array.find?_toList] at e;unfold PySem.W.lookIn;rw [hd];dsimp only;split
 .rename_i y q
  rw [q] at e;exact Jdt some e
 .rename_i q
  rw [q] at e;have a:es.toList.any (·.refKey) = false:=by
   rw [List.any_eq_false];intro y hy;refine Zla (hk y (Array.mem_toList_iff.mp hy)) λz t hkey=>?_;simp [DictEntry.refKey,hkey]
  have a':¬ es.toList.any (·.refKey) = true:=by rw [a]; exact Jau
  rw [if_neg a'];exact Jdt some e
theorem ObjM.look {h:Heap} {x dx C:Addr} {mA:Str->Option Value} (I:ObjM h x dx C mA):∃ od,PySem.W.InstAt h x (PySem.W.instObj C dx) C (some od)/\∀ name,PySem.W.lookIn name od = some (mA name):=
 let ⟨od,ho,hl⟩:=Zru I.ns
 ⟨od,⟨I.obj,rfl,rfl,ho⟩,hl⟩
section
variable {prog:Program} {w:World} {A:Around} {E:Value->Shared->Prop} {s:Shared} {K:PySem.W.Frag} {x dx C f:Addr} {mA:Str->Option Value} {name:Str} {v:Value}
theorem get_map {expr:Bool} {Q:Value->Shared->Prop} (X:K.In s.heap) (I:ObjM s.heap x dx C mA) (hg:PySem.W.plainGet K C name = true) (hh:PySem.W.hasDictIn K C = true)
  (ha:PySem.W.findIn K (.ref C) name = some none) (hv:mA name = some v) (hv':PySem.W.handedIn v = true) (h:Q v { s with toks:=s.toks + 1 }):
  wpAny (model prog w) A (getAttr (.ref x) name expr) Q E s:=by
 refine Zad I.look λod J hl=>?_;exact PySem.W.get_value X J (Jed hg).1 (PySem.W.findObj_own hh ha rfl (by rw [hl,hv])) hv' h
theorem Zvh {pl:Sem Bool} {Q:Value × List Value->Shared->Prop} (X:K.In s.heap) (I:ObjM s.heap x dx C mA) (hg:PySem.W.plainGet K C name = true)
  (hf:PySem.W.findIn K (.ref C) name = some (some (.ref f))) (ht:PySem.W.isFn K (.ref f) = true) (hv:mA name = none) (h:Q (.ref f,[.ref x]) s):
  wpAny (model prog w) A (getMethod (.ref x) name pl) Q E s:=by
 refine Zad I.look λod J hl=>?_;exact PySem.W.method_fn X J (Jed hg).1 (Jed hg).2 hf (Jbr.mp ht) (by show (PySem.W.lookIn name od).map (·.isSome) = some false; rw [hl,hv]; rfl) h
theorem set_map {ns:List Str} {Q:Unit->Shared->Prop} (X:K.In s.heap) (I:ObjM s.heap x dx C mA)
  (hs:PySem.W.findIn K (.ref C) "__setattr__" = some (some (.builtin "object.__setattr__"))) (hp:PySem.W.plainOver K C = true) (ht:PySem.W.takerIn K C name = some none) (hh:PySem.W.hasDictIn K C = true)
  (hw:PySem.Within mA ns) (hsz:ns.length<=sizeLine)
  (h:∀ h',ObjM h' x dx C (λy=>if y = name then some v else mA y)->Heap.SameBut dx s.heap h'->Q () { s with heap:=h',toks:=s.toks + 2 }):
  wpAny (model prog w) A (setAttr (.ref x) name v) Q E s:=by
 refine Zad I.look λod J hl=>?_;refine PySem.W.set_plain X J hs (PySem.W.osa_open (s:={ s with toks:=s.toks + 1 }) (r:=none) X J hp ht λb=>?_);refine Zad (PySem.W.any_some hh) λcd hc hd'=>?_;have hx:s.heap.get? x = some ⟨.ref C,some dx,.plain,#[]⟩:=I.obj;refine Jas (Jbj (Jas (Jas (wpAny_loadPart hx (Jas (PySem.W.Looks.here (s:={ s with toks:=s.toks + 1 }) (PySem.W.looks_clsIn X hc) ?_))))));rw [hd'];refine Jbj (a:=some dx) (Jas (Jbj (Jas ?_)));refine wpAny_nsSet1 (s:={ s with toks:=s.toks + 1 }) I.ns λh' hn2 hs2=>?_;refine Zia (hn2.count (PySem.Within.cons name v hw)) λoD esD epD hoD hdD hcD=>?_;refine Jas (wpAny_lookBehind hoD (by rw [hdD]; exact pastItsLine_dict (Jav hcD (by rw [Jbq]; omega))) ?_);exact Jbj (h _ ⟨(hs2.2 _ (Jdr I.ne)).trans I.obj,hn2,I.ne⟩ hs2)
theorem Zu8 {R:Result->Shared->Prop} {vs:List Value} {kw:List (Str × Value)} (X:K.In s.heap) (hm:PySem.W.makesIn K C = true)
  (hi:PySem.W.findIn K (.ref C) "__init__" = some (some (.ref f))) (hf:PySem.W.typeIn K (.ref f) = some (.type "function"))
  (h:codeAny (model prog w) (A.under (.builtin "type.__call__" ⟨.ref C :: vs,kw⟩)) (.call (.ref f) ⟨.ref (s.heap.objs.size + 1) :: vs,kw⟩) (PySem.W.InitBack (s.heap.objs.size + 1) R)
   { s with heap:=(s.heap.push PySem.W.emptyDict).push (PySem.W.instObj C s.heap.objs.size) }):
  codeAny (model prog w) A (.call (.ref C) ⟨vs,kw⟩) R s:=by
 obtain ⟨hh,g,d,t,os⟩:=s;exact PySem.W.make_core (PySem.W.makes_of X hm) (PySem.W.looks_findIn X hi) (λself=>PySem.W.bind_fn X self hf) (.inl rfl) h
end
def Zcs (f:Str) (v:V):List (Str × V)->List (Str × V)
 | []=>[(f,v)]
 | (g,x) :: r=>if g = f then (g,v) :: r else (g,x) :: Zcs f v r
theorem Zax (f g:Str) (v:V):∀ fs:List (Str × V),(Zcs f v fs).lookup g = if g = f then some v else fs.lookup g
 | []=>by
  show List.lookup g [(f,v)] = _;by_cases h:g = f
  .have hb:(g == f) = true:=Jbr.mpr h;simp only [List.lookup,hb,if_pos h]
  .have hb:(g == f) = false:=Jdq.mpr h;simp only [List.lookup,hb,if_neg h]
 | (k,x) :: r=>by
  have ih:=Zax f g v r;rw [show Zcs f v ((k,x) :: r) = (if k = f then (k,v) :: r else (k,x) :: Zcs f v r) from rfl];by_cases hk:k = f
  .rw [if_pos hk];by_cases h:g = k
   .have hb:(g == k) = true:=Jbr.mpr h;simp only [List.lookup,hb,if_pos (h.trans hk)]
   .have hb:(g == k) = false:=Jdq.mpr h;simp only [List.lookup,hb,if_neg (λe:g = f=>h (e.trans hk.symm))]
  .rw [if_neg hk];by_cases h:g = k
   .have hb:(g == k) = true:=Jbr.mpr h;simp only [List.lookup,hb,if_neg (λe:g = f=>hk (h.symm.trans e))]
   .have hb:(g == k) = false:=Jdq.mpr h;simp only [List.lookup,hb];exact ih
theorem Zja (f:Str) (v:V):∀ fs:List (Str × V),f ∈ (Zcs f v fs).map (·.1)/\∀ g,g ∈ fs.map (·.1)->g ∈ (Zcs f v fs).map (·.1)
 | []=>⟨by simp [Zcs],λg h=>by simp at h⟩
 | (k,x) :: r=>by
  obtain ⟨i1,i2⟩:=Zja f v r;rw [show Zcs f v ((k,x) :: r) = (if k = f then (k,v) :: r else (k,x) :: Zcs f v r) from rfl];by_cases hk:k = f
  .rw [if_pos hk];subst hk;exact ⟨by simp,λg h=>by simpa using h⟩
  .rw [if_neg hk];refine ⟨?_,λg h=>?_⟩
   .rw [Jew];exact Jbo _ i1
   .rw [Jew] at h ⊢;rcases Jbp.mp h with e | e
    .exact Jbp.mpr (.inl e)
    .exact Jbo _ (i2 g e)
theorem Zcf (f:Str) (v:V):∀ fs:List (Str × V),(Zcs f v fs).length<=fs.length + 1
 | []=>by simp [Zcs]
 | (k,x) :: r=>by
  have ih:=Zcf f v r;rw [show Zcs f v ((k,x) :: r) = (if k = f then (k,v) :: r else (k,x) :: Zcs f v r) from rfl];by_cases hk:k = f
  .rw [if_pos hk,Jbq,Jbq]; omega
  .rw [if_neg hk,Jbq,Jbq]; omega
theorem RelO.some_of {v:V} {o:Option Value} (r:RelO (some v) o):∃ u,o = some u/\RelV v u:=by
 cases o with
 | none=>exact (show False from r).elim
 | some u=>exact ⟨u,rfl,r⟩
theorem RelO.none_of {o:Option Value} (r:RelO none o):o = none:=by
 cases o with
 | none=>rfl
 | some u=>exact (show False from r).elim
theorem Zsg {v:V} {u:Value} (r:RelV v u):PySem.W.handedIn u = true:=by
 cases v with
 | non=>cases (show u = Value.none from r); rfl
 | bl b=>cases (show u = Value.bool b from r); rfl
 | int i=>obtain ⟨t,e⟩:=(show ∃ t,u = Value.int i t from r); cases e; rfl
 | str x=>obtain ⟨t,e⟩:=(show ∃ t,u = Value.str x t from r); cases e; rfl
 | byt b=>obtain ⟨t,e⟩:=(show ∃ t,u = Value.bytes b t from r); cases e; rfl
 | flt b=>obtain ⟨t,e⟩:=(show ∃ t,u = Value.float b t from r); cases e; rfl
 | ref a=>cases (show u = Value.ref a from r); rfl
 | ty n=>cases (show u = Value.type n from r); rfl
section
variable {P:Program} {w:World} {H H':Hp} {h h':Heap} {a C dx:Addr} {fs fs':List (Str × V)}
theorem Zku (hok:HOk P w H h) (e:H a = some (.ins C dx fs)):∃ mA,ObjM h a dx C mA/\(∀ f,RelO (fs.lookup f) (mA f))/\PySem.Within mA (fs.map (·.1))/\fs.length<=1000/\H dx = some (.own a):=by
 refine Zcv (show ObjOk P w H h a (.ins C dx fs) from hok a _ e) λd z ne ob e9102=>?_;obtain ⟨mA,n,r,q⟩:=e9102;exact ⟨mA,⟨ob,n,ne⟩,r,q,z,d⟩
end
structure Cls (K:PySem.W.Frag) (C:Addr):Prop where
 pg:PySem.W.plainGet K C Str.empty = true
 hd:PySem.W.hasDictIn K C = true
 po:PySem.W.plainOver K C = true
 sa:PySem.W.findIn K (.ref C) "__setattr__" = some (some (.builtin "object.__setattr__"))
theorem Cls.get {K:PySem.W.Frag} {C:Addr} (c:Cls K C) (f:Str):PySem.W.plainGet K C f = true:=c.pg
def NoAttr (K:PySem.W.Frag) (C:Addr) (f:Str):Prop:=PySem.W.findIn K (.ref C) f = some none
theorem NoAttr.taker {K:PySem.W.Frag} {C:Addr} {f:Str} (n:NoAttr K C f):PySem.W.takerIn K C f = some none:=by
 unfold PySem.W.takerIn;rw [show PySem.W.findIn K (.ref C) f = some none from n];rfl
structure Con (K:PySem.W.Frag) (C:Addr) (f:Str) (v:V) (u:Value):Prop where
 at_:PySem.W.findIn K (.ref C) f = some (some u)
 rel:RelV v u
 get:PySem.W.specialIn K u "__get__" = some none
 cp:PySem.W.copiedNames.contains f = false
structure Meth (K:PySem.W.Frag) (C:Addr) (m:Str) (f:Addr):Prop where
 at_:PySem.W.findIn K (.ref C) m = some (some (.ref f))
 fn:PySem.W.isFn K (.ref f) = true
 kp:PySem.W.keepIn K (.ref f) = true
section
variable {X:Cx} {pins:List (Addr × Obj)} {σ:St} {H:Hp} {s:Shared} {a C dx:Addr} {fs:List (Str × V)} {f:Str} {v:V} {A:Around} {E:Value->Shared->Prop}
theorem Zpi {b:Bool} {Q:Value->Shared->Prop} (I:Inv X pins σ H s) (e:H a = some (.ins C dx fs)) (c:Cls X.K C) (n:NoAttr X.K C f) (l:fs.lookup f = some v)
  (h:∀ u s',Inv X pins σ H s'->RelV v u->Q u s'):wpAny (model X.prog X.w) A (getAttr (.ref a) f b) Q E s:=by
 refine Zpz (Zku I.hok e) λmA O r _ _ _=>?_;obtain ⟨u,hu,ru⟩:=RelO.some_of (v:=v) (o:=mA f) (by rw [<- l]; exact r f);exact get_map I.kIn O (c.get f) c.hd n hu (Zsg ru) (h u _ (I.tok _) ru)
theorem Zka {m:Str} {g:Addr} {pl:Sem Bool} {Q:Value × List Value->Shared->Prop} (I:Inv X pins σ H s) (e:H a = some (.ins C dx fs)) (c:Cls X.K C) (k:Meth X.K C m g) (l:fs.lookup m = none)
  (h:Q (.ref g,[.ref a]) s):wpAny (model X.prog X.w) A (getMethod (.ref a) m pl) Q E s:=by
 refine Zpz (Zku I.hok e) λmA O r _ _ _=>?_;have hn:mA m = none:=RelO.none_of (by rw [<- l]; exact r m);exact Zvh I.kIn O (c.get m) k.at_ k.fn hn h
theorem Zo8 {y:V} {u:Value} {Q:Unit->Shared->Prop} (I:Inv X pins σ H s) (e:H a = some (.ins C dx fs)) (c:Cls X.K C) (n:NoAttr X.K C f) (hl:fs.length < 1000) (ry:RelV y u)
  (h:∀ s',Inv X pins σ (upd H a (.ins C dx (Zcs f y fs))) s'->Q () s'):wpAny (model X.prog X.w) A (setAttr (.ref a) f u) Q E s:=by
 refine Zpz (Zku I.hok e) λmA O r wi _ ho=>?_;have hz:(fs.map (·.1)).length<=sizeLine:=by rw [Jab,sizeLine_eq]; omega
 refine set_map I.kIn O c.sa c.po n.taker c.hd wi hz λh' O' sb=>h _ ?_;have hd:∃ o,h'.get? dx = some o:=let ⟨o,_,_,e',_⟩:=O'.ns; ⟨o,e'⟩;refine I.write (x:=a) (e:=dx) (by rw [e]; exact True.intro) (.inr ho) (λb q hb z=>(sb.2 b hb).trans z) hd ?_;refine ⟨by rw [Zah O.ne]; exact ho,?_,O.ne,O'.obj,_,O'.ns,λg=>?_,λg hg=>?_⟩
 .have:=Zcf f y fs; omega
 .show RelO ((Zcs f y fs).lookup g) (if g = f then some u else mA g);rw [Zax];by_cases q:g = f
  .rw [if_pos q,if_pos q]; exact ry
  .rw [if_neg q,if_neg q]; exact r g
 .by_cases q:g = f
  .rw [q]; exact (Zja f y fs).1
  .refine (Zja f y fs).2 g (wi g λz=>hg ?_);show (if g = f then some u else mA g) = none;rw [if_neg q]; exact z
theorem Inv.made (I:Inv X pins σ H s):Inv X pins σ (upd (upd H s.heap.objs.size (.own (s.heap.objs.size + 1))) (s.heap.objs.size + 1) (.ins C s.heap.objs.size []))
  { s with heap:=(s.heap.push PySem.W.emptyDict).push (PySem.W.instObj C s.heap.objs.size) }:=by
 have e1:(s.heap.push PySem.W.emptyDict).get? s.heap.objs.size = some PySem.W.emptyDict:=Ja6 s.heap rfl;have e2:((s.heap.push PySem.W.emptyDict).push (PySem.W.instObj C s.heap.objs.size)).get? (s.heap.objs.size + 1) = some (PySem.W.instObj C s.heap.objs.size):=by
  have:=Ja6 (s.heap.push PySem.W.emptyDict) (o:=PySem.W.instObj C s.heap.objs.size) rfl;rwa [Jda] at this
 have e3:(s.heap.push PySem.W.emptyDict).Ns s.heap.objs.size (λ_=>none):=⟨PySem.W.emptyDict,#[],_,e1,rfl,(λe he=>absurd he (by simp)),λ_=>rfl⟩
 have I1:=I.laid (a:=s.heap.objs.size) (o:=.own (s.heap.objs.size + 1)) (h':=s.heap.push PySem.W.emptyDict) (t':=s.toks) (λb u q=>Jak _ q) (Jaf _) ⟨_,e1⟩;refine I1.laid (a:=s.heap.objs.size + 1) (o:=.ins C s.heap.objs.size []) (t':=s.toks) (λb u q=>Jak _ q) (Nat.le_of_eq (Jda _ _)) ?_;have ne:s.heap.objs.size ≠ s.heap.objs.size + 1:=Jbe (Jdp _);refine ⟨by rw [Zah ne,Zac],Jb2 _,ne,e2,λ_=>none,(Heap.Ns1.of_empty e3).at λo q=>Jak _ q,λ_=>True.intro,λy hy=>absurd rfl hy⟩
theorem attr_of {prog:Program} {w:World} {env:Env} {e:Expr} {f:Str} {pos:Pos} {s:Shared} {Q:Value->Shared->Prop} (hb:attributeBase e f env (eval e env) = eval e env)
  (h:wpAny (model prog w) A (eval e env) (λo s₁=>wpAny (model prog w) A (getAttr o f true) Q E s₁) E s):wpAny (model prog w) A (eval (.Attribute e f pos) env) Q E s:=
 Attribute_any_ h (by rw [arm_eval_Attribute,hb])
end
def tFld (K:PySem.W.Frag) (ta:TE) (f:Str):TE:=λσ H Q=>ta σ H λx H1=>∃ a C dx fs v,x = .ref a/\H1 a = some (.ins C dx fs)/\Cls K C/\NoAttr K C f/\fs.lookup f = some v/\Q v H1
def sFld (K:PySem.W.Frag) (ta tv:TE) (f:Str):TS:=λD σ H=>tv σ H λy H1=>ta σ H1 λx H2=>∃ a C dx fs,x = .ref a/\H2 a = some (.ins C dx fs)/\Cls K C/\NoAttr K C f/\fs.length < 1000 /\
 D.nx σ (upd H2 a (.ins C dx (Zcs f y fs)))
section
variable {X:Cx} {o e value:Expr} {f:Str} {pos pos' tpos:Pos} {ta tv:TE}
theorem Zcz (he:PE X e ta) (hb:attributeBase e f X.env (eval e X.env) = eval e X.env):PE X (.Attribute e f pos) (tFld X.K ta f):=by
 intro pins s σ H Q I h;refine attr_of hb (thn (he pins s σ H _ I h) λu s1 ⟨x,H1,I1,rx,a,C,dx,fs,v,ex,ea,c,n,l,q⟩=>?_);subst ex;obtain rfl:u = Value.ref a:=rx;exact Zpi I1 ea c n l λu' s2 I2 ru=>⟨v,H1,I2,ru,q⟩
theorem Zi9 (ha:PE X o ta) (hv:PE X value tv) (hs:swapsWith value (some (.Attribute o f pos')) pos.line X.env = pure false):PS X (.Assign [.Attribute o f pos'] value pos) (sFld X.K ta tv f):=by
 intro pins s σ H D I h;refine plainObj_wpAny_Assign_Attribute (thn (hv pins s σ H _ I h) λu s1 ⟨y,H1,I1,ry,q⟩=>thn (ha pins s1 σ H1 _ I1 q) λov s2 ⟨x,H2,I2,rx,a,C,dx,fs,ex,ea,c,n,l,q2⟩=>?_) hs;subst ex;obtain rfl:ov = Value.ref a:=rx;exact Zo8 I2 ea c n l ry λs3 I3=>⟨σ,_,I3,q2⟩
theorem methcall_of {pl:Sem Bool} {m:Str} {apos:Pos} {args:List Expr} {pins:List (Addr × Obj)} {s:Shared} {σ:St} {H:Hp} {Q:Value->Shared->Prop} {te:TE} (he:PE X e te) (I:Inv X pins σ H s)
  (h:te σ H λx H1=>∃ a C dx fs g,x = .ref a/\H1 a = some (.ins C dx fs)/\Cls X.K C/\Meth X.K C m g/\fs.lookup m = none /\
   ∀ s1,Inv X pins σ H1 s1->wpAny (model X.prog X.w) X.A (callWith pos (.ref g) [.ref a] (backTo pos (starEach args X.env)) (backToKw pos (keywordEach [] X.env))) Q X.xe s1)
  (ht:eval (.Call (.Attribute e m apos) args [] pos) X.env = (do
   let ov <- eval e X.env
   standAt apos.atName
   let (f,first) <- holding [ov] (getMethod ov m pl)
   callWith pos f first (backTo pos (starEach args X.env)) (backToKw pos (keywordEach [] X.env)))):
  wpAny (model X.prog X.w) X.A (eval (.Call (.Attribute e m apos) args [] pos) X.env) Q X.xe s:=by
 refine PySem.W.methodCall_KW (pl:=pl) (thn (he pins s σ H _ I h) λu s1 ⟨x,H1,I1,rx,a,C,dx,fs,g,ex,ea,c,k,l,q⟩=>?_) ht;subst ex;obtain rfl:u = Value.ref a:=rx;exact Zka I1 ea c k l (q s1 I1)
end
section
variable {X:Cx} {pins:List (Addr × Obj)} {σ:St} {H:Hp} {s:Shared} {A:Around} {E:Value->Shared->Prop} {Q:Value->Shared->Prop} {c:Value} {b:Bool}
inductive TyOf (K:PySem.W.Frag) (H:Hp):V->Value->Prop where
 | non:TyOf K H .non (.type "NoneType")
 | bl (x:Bool):TyOf K H (.bl x) (.type "bool")
 | int (i:Int):TyOf K H (.int i) (.type "int")
 | str (x:Str):TyOf K H (.str x) (.type "str")
 | flt (x:UInt64):TyOf K H (.flt x) (.type "float")
 | lst {a:Addr} {xs:List V} (e:H a = some (.lst xs)):TyOf K H (.ref a) (.type "list")
 | frz {a:Addr} {o:Obj} {xs:List V} (e:H a = some (.frz o (.lst xs))):TyOf K H (.ref a) (.type "list")
 | tup {a:Addr} {xs:List V} (e:H a = some (.tup xs)):TyOf K H (.ref a) (.type "tuple")
 | dK {a:Addr} {kvs:List (Key × V)} (e:H a = some (.dK kvs)):TyOf K H (.ref a) (.type "dict")
 | dT {a:Addr} {kvs:List (List Key × V)} (e:H a = some (.dT kvs)):TyOf K H (.ref a) (.type "dict")
 | ins {a C dx:Addr} {fs:List (Str × V)} (e:H a = some (.ins C dx fs)) (cl:Cls K C) (ha:PySem.W.findIn K (.ref C) "__class__" = some (some (.builtin "object.__class__")))
   (hn:PySem.W.specialIn K (.builtin "object.__class__") "__get__" = some (some (.builtin "getset_descriptor.__get__"))) (htk:PySem.W.takesIn K (.builtin "object.__class__") = some true)
   (hm:PySem.W.mroIn K C (.type "object") = some true):TyOf K H (.ref a) (.ref C)
theorem Zr2 {x:V} {u t:Value} (I:Inv X pins σ H s) (rx:RelV x u) (ty:TyOf X.K H x t) (e:PySem.W.kitOne X.K t c = some b) (h:∀ tk,Q (.bool b) { s with toks:=tk }):
  wpAny (model X.prog X.w) A (call (.builtin "isinstance") [u,c]) Q E s:=by
 cases ty with
 | non=>cases (show u = Value.none from rx); exact Jb5 PySem.W.kitx_none I.kIn True.intro e (λz=>nomatch z) h
 | bl y=>cases (show u = Value.bool y from rx); exact Jb5 PySem.W.kitx_bool I.kIn True.intro e (λz=>nomatch z) h
 | int i=>obtain ⟨t,q⟩:=(show ∃ t,u = Value.int i t from rx); cases q; exact Jb5 PySem.W.kitx_int I.kIn True.intro e (λz=>nomatch z) h
 | str y=>obtain ⟨t,q⟩:=(show ∃ t,u = Value.str y t from rx); cases q; exact Jb5 PySem.W.kitx_str I.kIn True.intro e (λz=>nomatch z) h
 | flt y=>obtain ⟨t,q⟩:=(show ∃ t,u = Value.float y t from rx); cases q; exact Jb5 PySem.W.kitx_float I.kIn True.intro e (λz=>nomatch z) h
 | @lst a xs ea=>
  cases (show u = Value.ref a from rx);obtain ⟨_,_,n,_,h1⟩:=(show ObjOk X.prog X.w H s.heap a (.lst xs) from I.hok a _ ea)
  exact Jb5 PySem.W.kitx_list I.kIn ⟨_,h1,rfl⟩ e (λz=>nomatch z) h
 | @frz a ob xs ea=>
  cases (show u = Value.ref a from rx);obtain ⟨_,_,_,n,_,h1⟩:=(show ObjOk X.prog X.w H s.heap a (.frz ob (.lst xs)) from I.hok a _ ea)
  exact Jb5 PySem.W.kitx_list I.kIn ⟨_,h1,rfl⟩ e (λz=>nomatch z) h
 | @tup a xs ea=>
  cases (show u = Value.ref a from rx);obtain ⟨_,_,_,p⟩:=(show ObjOk X.prog X.w H s.heap a (.tup xs) from I.hok a _ ea)
  refine Zav p λo h1 h2 _=>?_;clear p;exact Jb5 PySem.W.kitx_tuple I.kIn ⟨o,h1,h2⟩ e (λz=>nomatch z) h
 | @dK a kvs ea=>
  cases (show u = Value.ref a from rx);refine Za9 (show ObjOk X.prog X.w H s.heap a (.dK kvs) from I.hok a _ ea) λ_ _ e9107=>?_;obtain ⟨vs,_,p⟩:=e9107;refine Zia p λo es ep h1 h2 _=>?_;clear p;exact Jb5 PySem.W.kitx_dict I.kIn ⟨o,h1,h2.1⟩ e (λz=>nomatch z) h
 | @dT a kvs ea=>
  cases (show u = Value.ref a from rx);refine Za9 (show ObjOk X.prog X.w H s.heap a (.dT kvs) from I.hok a _ ea) λ_ _ e9108=>?_;obtain ⟨xs,_,o,es,ep,h1,h2,_⟩:=e9108;exact Jb5 PySem.W.kitx_dict I.kIn ⟨o,h1,h2.1⟩ e (λz=>nomatch z) h
 | @ins a C dx fs ea cl ha hn htk hm=>
  cases (show u = Value.ref a from rx);refine Zad (Zku I.hok ea) λmA O _=>?_;refine Zad O.look λod J _=>?_;exact Jb5 (PySem.W.kitx_own (cl.get _) cl.hd ha hn htk hm) I.kIn J e (λz=>nomatch z) h
end
structure Room (k:Nat) (A:Around):Prop where
 hd:A.handled = none
 dp:A.depth + 3 * k + 205 < recursionLimit
 un:A.units + 16 * k + 200 < cLine
theorem Room.mono {j k:Nat} {A:Around} (r:Room k A) (h:j<=k):Room j A:=⟨r.hd,by have:=r.dp; omega,by have:=r.un; omega⟩
theorem Room.m {j k:Nat} {A:Around} (r:Room k A) (h:j<=k:=by decide):Room j A:=r.mono h
theorem Room.deeper {k:Nat} {A:Around} (r:Room (k + 1) A) (env:Env):Room k (A.deeper env):=
 ⟨r.hd,by have:=r.dp; show A.depth + 1 + 3 * k + 205 < _; omega,by have:=r.un; show A.units + 3 + 16 * k + 200 < _; omega⟩
theorem Zpd {A:Around} {C:Addr} {us:List Value} {kw:List (Str × Value)}:(A.under (.builtin "type.__call__" ⟨.ref C :: us,kw⟩)).depth = A.depth + 1:=by
 first | rfl | simp [Around.under,Code.weight,Code.isCreation,Code.isGuard,Code.isCaller,Code.frames,Code.isFrame,guardIds]
theorem Zpc {A:Around} {C:Addr} {us:List Value} {kw:List (Str × Value)}:(A.under (.builtin "type.__call__" ⟨.ref C :: us,kw⟩)).units = A.units + 1:=by
 first | rfl | simp [Around.under,Code.cUnits,Code.frames,Code.isFrame]
theorem Room.make {k:Nat} {A:Around} (r:Room (k + 1) A) (C:Addr) (us:List Value) (kw:List (Str × Value)):Room k (A.under (.builtin "type.__call__" ⟨.ref C :: us,kw⟩)):=
 ⟨r.hd,by have:=r.dp; rw [Zpd]; omega,by have:=r.un; rw [Zpc]; omega⟩
theorem Room.depth {k:Nat} {A:Around} (r:Room k A):A.depth < recursionLimit:=by have:=r.dp; omega
theorem Room.units {k:Nat} {A:Around} (r:Room k A):A.units + 64 < cLine:=by have:=r.un; omega
def Zp9:TA:=λ_ H Q=>Q [] H
def Ze1 (ta:TE) (tr:TA):TA:=λσ H Q=>ta σ H λx H1=>tr σ H1 λxs H2=>Q (x :: xs) H2
section
variable {X:Cx} {e:Expr} {es:List Expr} {te:TE} {t:TA} {pos:Pos}
theorem Zaa:PA X [] Zp9:=λ_ _ _ _ H Q I h=>Calls.spliced_nil ⟨[],H,I,.nil,h⟩
theorem pa_cons (ha:PE X e te) (hr:PA X es t) (hs:starEach (e :: es) X.env = (false,eval e X.env) :: starEach es X.env:=by rfl):PA X (e :: es) (Ze1 te t):=by
 intro pos pins s σ H Q I h;rw [hs];show wpAny _ _ (spliced ((false,eval e X.env) :: backTo pos (starEach es X.env))) _ _ s;refine Calls.spliced_cons (thn (ha pins s σ H _ I h) λu s1 ⟨x,H1,I1,r1,q1⟩=>?_);exact thn (hr pos pins s1 σ H1 _ I1 q1) λus s2 ⟨xs,H2,I2,r2,q2⟩=>⟨x :: xs,H2,I2,.cons r1 r2,q2⟩
def tTup (t:TA):TE:=λσ H Q=>t σ H λxs H1=>xs.length<=sizeLine/\∀ p,H1 p = none->Q (.ref p) (upd H1 p (.tup xs))
def tLst (t:TA):TE:=λσ H Q=>t σ H λxs H1=>xs.length<=sizeLine/\∀ p,H1 p = none->Q (.ref p) (upd H1 p (.lst xs))
theorem Zas {x1} (h:PA X es t):PE X (.Tuple es x1 pos) (tTup t):=by
 intro pins s σ H Q I hq;refine wpAny_Tuple_spliced (thn (h pos pins s σ H _ I hq) λus s1 ⟨xs,H1,I1,r,z,q⟩=>⟨by rw [<- r.length]; exact z,?_⟩);have hf:H1 s1.heap.objs.size = none:=I1.hok.fresh (Jaf _);refine Zau (.ref s1.heap.objs.size) (upd H1 s1.heap.objs.size (.tup xs)) ⟨I1.laid (t':=s1.toks) (λb u e=>Jak _ e) (Jaf _) ?_,rfl,q _ hf⟩;exact ⟨z,us,r,⟨_,Ja6 _ rfl,rfl,_,rfl⟩⟩
theorem Zbm (h:PA X es t):PE X (.List es pos) (tLst t):=by
 intro pins s σ H Q I hq;refine wpAny_List_spliced (thn (h pos pins s σ H _ I hq) λus s1 ⟨xs,H1,I1,r,z,q⟩=>⟨by rw [<- r.length]; exact z,?_⟩);have hf:H1 s1.heap.objs.size = none:=I1.hok.fresh (Jaf _);refine Zau (.ref s1.heap.objs.size) (upd H1 s1.heap.objs.size (.lst xs)) ⟨I1.laid (t':=s1.toks) (λb u e=>Jak _ e) (Jaf _) ?_,rfl,q _ hf⟩;exact ⟨z,us,0,r,Ja6 _ rfl⟩
end
abbrev Sp:=List V->Hp->VK->XK->Prop
abbrev CXT:=List Env->Hp->Shared->XK->Value->Shared->Prop
structure Env0 (P:Program) (w:World) (K:PySem.W.Frag) (mg:Str->Option Value) (base:Heap) (A:Around) (outer:List Env) (s:Shared) (H:Hp):Prop where
 frames:A.frames = some outer
 mod:Mod K mg base
 bs:∀ b o,base.get? b = some o->s.heap.get? b = some o/\H b = none
 bsz:base.objs.size<=s.heap.objs.size
 funs:s.heap.FunFrames base outer
 frf:∀ b ∈ frs outer,H b = none
 hok:HOk P w H s.heap
 bare:AllBare s.gens
def CE (outer:List Env) (P:Program) (w:World) (H:Hp) (s:Shared) (Q:VK) (u:Value) (s':Shared):Prop:=
 ∃ v H',s'.os = s.os/\AllBare s'.gens/\Un (frs outer) [] H H' s.heap s'.heap/\HOk P w H' s'.heap/\RelV v u/\Q v H'
def CR (CX:CXT) (outer:List Env) (P:Program) (w:World) (H:Hp) (s:Shared) (Q:VK) (E:XK) (r:Result) (s':Shared):Prop:=
 match r with
 | .ok (.ret u)=>CE outer P w H s Q u s'
 | .ok _=>False
 | .error e=>CX outer H s E e s'
structure FnOk (P:Program) (w:World) (K:PySem.W.Frag) (mg:Str->Option Value) (base:Heap) (CX:CXT) (k:Nat) (f:Addr) (fd:FuncData) (ps:List Str) (sp:Sp):Prop where
 len:∀ vs H Q E,sp vs H Q E->vs.length = ps.length
 run:∀ (A:Around) (outer:List Env) (s:Shared) (H:Hp) (args:Args) (us:List Value) (vs:List V) (Q:VK) (E:XK),Room k A->Env0 P w K mg base A outer s H->BindsTo s fd args (ps.zip us)->Vals vs us->sp vs H Q E->
  codeAny (model P w) A (.call (.ref f) args) (CR CX outer P w H s Q E) s
theorem FnOk.mono {P:Program} {w:World} {K:PySem.W.Frag} {mg:Str->Option Value} {base:Heap} {CX:CXT} {j k:Nat} {f:Addr} {fd:FuncData} {ps:List Str} {sp:Sp} (F:FnOk P w K mg base CX j f fd ps sp) (h:j<=k):
  FnOk P w K mg base CX k f fd ps sp:=⟨F.len,λA outer s H args us vs Q E hr=>F.run A outer s H args us vs Q E (hr.mono h)⟩
theorem FnOk.imp {P:Program} {w:World} {K:PySem.W.Frag} {mg:Str->Option Value} {base:Heap} {CX:CXT} {k:Nat} {f:Addr} {fd:FuncData} {ps:List Str} {sp sp':Sp} (F:FnOk P w K mg base CX k f fd ps sp)
  (h:∀ vs H Q E,sp' vs H Q E->sp vs H Q E):FnOk P w K mg base CX k f fd ps sp':=
 ⟨λvs H Q E q=>F.len vs H Q E (h _ _ _ _ q),λA outer s H args us vs Q E hr he hb hv hs=>F.run A outer s H args us vs Q E hr he hb hv (h _ _ _ _ hs)⟩
theorem Env0.make {P:Program} {w:World} {K:PySem.W.Frag} {mg:Str->Option Value} {base:Heap} {A:Around} {outer:List Env} {s:Shared} {H:Hp} (e:Env0 P w K mg base A outer s H) (C:Addr) (us:List Value) (kw:List (Str × Value)):
  Env0 P w K mg base (A.under (.builtin "type.__call__" ⟨.ref C :: us,kw⟩)) outer s H:=⟨by first | exact e.frames | (simpa [Around.under,Code.envs,Code.isFrame,pushEnvs] using e.frames),e.mod,e.bs,e.bsz,e.funs,e.frf,e.hok,e.bare⟩
section
variable {X:Cx} {pins:List (Addr × Obj)} {σ:St} {H:Hp} {s s':Shared}
theorem Inv.env0 (I:Inv X pins σ H s):Env0 X.prog X.w X.K X.mg X.base X.A X.stack s H:=
 ⟨I.ok.frames,I.ok.mod,I.bs,Jav I.ok.bsz I.sz,I.stack,I.stkFree,I.hok,I.bare⟩
theorem Inv.after {Q:VK} {u:Value} (I:Inv X pins σ H s) (h:CE X.stack X.prog X.w H s Q u s'):EP X pins σ Q u s':=by
 refine Zib h λv H' os bare un hok r q=>?_;clear h;obtain ⟨hh,g,d,t,os'⟩:=s';obtain rfl:os' = s.os:=os;exact Zau v H' ⟨I.call (h':=hh) (g':=g) (d':=d) (t':=t) (ch:=[]) un hok bare (λb z=>absurd z (by simp)),r,q⟩
end
def Zo4 (sp:Sp) (dvs:List V) (E:XK) (t:TA):TE:=λσ H Q=>t σ H λvs H1=>sp (vs ++ dvs) H1 Q E
def Zqa (C:Addr) (m:Str) (sp:Sp) (dvs:List V) (E:XK) (ta:TE) (t:TA):TE:=λσ H Q=>ta σ H λx H1=>∃ a dx fs,x = .ref a/\H1 a = some (.ins C dx fs)/\fs.lookup m = none /\
 t σ H1 λvs H2=>sp (x :: (vs ++ dvs)) H2 Q E
def Zqb (C:Addr) (sp:Sp) (dvs:List V) (E:XK) (t:TA):TE:=λσ H Q=>t σ H λvs H1=>∀ x dx,H1 x = none->H1 dx = none->dx ≠ x->
 sp (.ref x :: (vs ++ dvs)) (upd (upd H1 dx (.own x)) x (.ins C dx [])) (λv H2=>v = .non/\Q (.ref x) H2) E
def Binds (K:PySem.W.Frag) (fd:FuncData) (ps:List Str) (ds:List Value):Prop:=
 ∀ (s:Shared) (us:List Value),K.In s.heap->(us ++ ds).length = ps.length->BindsTo s fd ⟨us,[]⟩ (ps.zip (us ++ ds))
theorem Binds.all {K:PySem.W.Frag} {fd:FuncData} {ps:List Str} (h:∀ us:List Value,us.length = ps.length->bindArgs fd ⟨us,[]⟩ = pure (ps.zip us)):Binds K fd ps []:=λs us _ hl=>by
 rw [Jcp] at hl ⊢;exact .of_eq (h us hl)
def Zkd (CX:CXT) (X:Cx) (E:XK):Prop:=∀ (pins:List (Addr × Obj)) (σ:St) (H:Hp) (s:Shared) (e:Value) (s':Shared),Inv X pins σ H s->CX X.stack H s E e s'->X.xe e s'
section
variable {X:Cx} {CX:CXT} {k:Nat} {f C:Addr} {fd:FuncData} {ps:List Str} {sp:Sp} {dvs:List V} {ds:List Value} {E:XK} {x m:Str} {p pos apos:Pos} {e o:Expr} {es:List Expr} {ta:TE} {t:TA}
theorem Zv7 {pins:List (Addr × Obj)} {σ:St} {H:Hp} {s:Shared} {Q:VK} {us:List Value} {vs:List V} (F:FnOk X.prog X.w X.K X.mg X.base CX k f fd ps sp) (hr:Room k X.A) (hb:Binds X.K fd ps ds) (hd:Vals dvs ds) (hx:Zkd CX X E)
  (I:Inv X pins σ H s) (r:Vals vs us) (h:sp (vs ++ dvs) H Q E):wpAny (model X.prog X.w) X.A (call (.ref f) us) (EP X pins σ Q) X.xe s:=by
 have r2:Vals (vs ++ dvs) (us ++ ds):=r.append hd;have hl:(us ++ ds).length = ps.length:=by rw [<- r2.length]; exact F.len _ _ _ _ h
 refine wpAny_call (codeAny_mono (F.run X.A X.stack s H ⟨us,[]⟩ (us ++ ds) (vs ++ dvs) Q E hr I.env0 (hb s us I.kIn hl) r2 h) λr s' hq=>?_);cases r with
 | error e=>exact hx pins σ H s e s' I hq
 | ok fl=>
  cases fl with
  | ret u=>exact I.after hq
  | next=>exact False.elim hq
  | brk=>exact False.elim hq
  | cont=>exact False.elim hq
theorem pe_call (F:FnOk X.prog X.w X.K X.mg X.base CX k f fd ps sp) (hr:Room k X.A) (hg:Gl X x) (hm:X.mg x = some (.ref f)) (hk:PySem.W.keepIn X.K (.ref f) = true) (hb:Binds X.K fd ps ds) (hd:Vals dvs ds) (hx:Zkd CX X E)
  (ha:PA X (e :: es) t) (hdb:(x == ("__debug__" : Str)) = false:=by decide) (he:starEach (e :: es) X.env = (false,eval e X.env) :: starEach es X.env:=by rfl) (hpl:(backTo pos (starEach es X.env)).any (·.1) = false:=by rfl):
  PE X (.Call (.Name x p) (e :: es) [] pos) (Zo4 sp dvs E t):=by
 intro pins s σ H Q I h;refine Jdf (Znc I hg hm ?_ hdb);refine Jek (h₀:=X.base) I.ok.mod.kin hk (thn (ha pos pins s σ H _ I h) λus s1 ⟨vs,H1,I1,r,q⟩=>⟨I1.kIn,?_⟩) he hpl;exact Zv7 F hr hb hd hx I1 r q
theorem Zrf {pl:Sem Bool} (he:PE X o ta) (c:Cls X.K C) (hm:Meth X.K C m f) (F:FnOk X.prog X.w X.K X.mg X.base CX k f fd ps sp) (hr:Room k X.A) (hb:Binds X.K fd ps ds) (hd:Vals dvs ds) (hx:Zkd CX X E) (ha:PA X (e :: es) t)
  (hst:starEach (e :: es) X.env = (false,eval e X.env) :: starEach es X.env:=by rfl) (hpl:(backTo pos (starEach es X.env)).any (·.1) = false:=by rfl)
  (ht:eval (.Call (.Attribute o m apos) (e :: es) [] pos) X.env = (do
   let ov <- eval o X.env
   standAt apos.atName
   let (f,first) <- holding [ov] (getMethod ov m pl)
   callWith pos f first (backTo pos (starEach (e :: es) X.env)) (backToKw pos (keywordEach [] X.env))):=by rfl):
  PE X (.Call (.Attribute o m apos) (e :: es) [] pos) (Zqa C m sp dvs E ta t):=by
 intro pins s σ H Q I h;refine PySem.W.methodCall_KW (pl:=pl) (thn (he pins s σ H _ I h) λu s1 ⟨x,H1,I1,rx,a,dx,fs,ex,ea,l,q⟩=>?_) ht;subst ex;obtain rfl:u = Value.ref a:=rx;refine Zka I1 ea c hm l ?_;refine Jek (first:=[.ref a]) (h₀:=X.base) I.ok.mod.kin hm.kp (thn (ha pos pins s1 σ H1 _ I1 q) λus s2 ⟨vs,H2,I2,r,q2⟩=>⟨I2.kIn,?_⟩) hst hpl;exact Zv7 (us:=.ref a :: us) (vs:=.ref a :: vs) F hr hb hd hx I2 (.cons rfl r) q2
structure Mk (K:PySem.W.Frag) (C f:Addr):Prop where
 makes:PySem.W.makesIn K C = true
 init:PySem.W.findIn K (.ref C) "__init__" = some (some (.ref f))
 fn:PySem.W.isFn K (.ref f) = true
 kp:PySem.W.keepIn K (.ref C) = true
theorem Zt8 {pins:List (Addr × Obj)} {σ:St} {H:Hp} {s:Shared} {Q:VK} {us:List Value} {vs:List V} (M:Mk X.K C f) (F:FnOk X.prog X.w X.K X.mg X.base CX k f fd ps sp) (hr:Room (k + 1) X.A) (hb:Binds X.K fd ps ds) (hd:Vals dvs ds)
  (hx:Zkd CX X E) (I:Inv X pins σ H s) (r:Vals vs us)
  (h:∀ x dx,H x = none->H dx = none->dx ≠ x->sp (.ref x :: (vs ++ dvs)) (upd (upd H dx (.own x)) x (.ins C dx [])) (λv H2=>v = .non/\Q (.ref x) H2) E):
  wpAny (model X.prog X.w) X.A (call (.ref C) us) (EP X pins σ Q) X.xe s:=by
 have hq:=h (s.heap.objs.size + 1) s.heap.objs.size (I.hok.fresh (Nat.le_succ _)) (I.hok.fresh (Jaf _)) (Jbe (Jdp _));have I2:=Inv.made (C:=C) I;have r2:Vals (V.ref (s.heap.objs.size + 1) :: (vs ++ dvs)) (Value.ref (s.heap.objs.size + 1) :: (us ++ ds)):=.cons rfl (r.append hd);have hl:(Value.ref (s.heap.objs.size + 1) :: us ++ ds).length = ps.length:=by
  have e:=r2.length;rw [F.len _ _ _ _ hq] at e;exact e.symm
 refine wpAny_call (Zu8 (f:=f) I.kIn M.makes M.init (Jbr.mp M.fn) (codeAny_mono (F.run _ X.stack _ _ ⟨Value.ref (s.heap.objs.size + 1) :: us,[]⟩ (Value.ref (s.heap.objs.size + 1) :: (us ++ ds)) _ _ E (hr.make C us [])
  (I2.env0.make C us []) (hb _ (Value.ref (s.heap.objs.size + 1) :: us) I2.kIn hl) r2 hq) λr s' hq'=>?_))
 cases r with
 | error e=>exact hx pins σ _ _ e s' I2 hq'
 | ok fl=>
  cases fl with
  | ret u=>
   refine Zdv (I2.after hq') λv H' I3 rv ev q3=>?_;subst ev;exact ⟨rv,⟨V.ref (s.heap.objs.size + 1),H',I3,rfl,q3⟩⟩
  | next=>exact False.elim hq'
  | brk=>exact False.elim hq'
  | cont=>exact False.elim hq'
theorem pe_make (M:Mk X.K C f) (F:FnOk X.prog X.w X.K X.mg X.base CX k f fd ps sp) (hr:Room (k + 1) X.A) (hg:Gl X x) (hm:X.mg x = some (.ref C)) (hb:Binds X.K fd ps ds) (hd:Vals dvs ds) (hx:Zkd CX X E)
  (ha:PA X (e :: es) t) (hdb:(x == ("__debug__" : Str)) = false:=by decide) (he:starEach (e :: es) X.env = (false,eval e X.env) :: starEach es X.env:=by rfl) (hpl:(backTo pos (starEach es X.env)).any (·.1) = false:=by rfl):
  PE X (.Call (.Name x p) (e :: es) [] pos) (Zqb C sp dvs E t):=by
 intro pins s σ H Q I h;refine Jdf (Znc I hg hm ?_ hdb);refine Jek (h₀:=X.base) I.ok.mod.kin M.kp (thn (ha pos pins s σ H _ I h) λus s1 ⟨vs,H1,I1,r,q⟩=>⟨I1.kIn,?_⟩) he hpl;exact Zt8 M F hr hb hd hx I1 r q
end
section
variable {X:Cx} {CX:CXT} {k:Nat} {f C:Addr} {fd:FuncData} {ps ks:List Str} {sp:Sp} {E:XK} {x m:Str} {p pos apos kpos:Pos} {e o:Expr} {es:List Expr} {kws:List Keyword} {te ta:TE} {t tk:TA} {nm:Option Str}
structure KBinds (K:PySem.W.Frag) (fd:FuncData) (ps ks:List Str) (g:List Value->List Value->List Value) (gV:List V->List V->List V):Prop where
 to:∀ (s:Shared) (us ws:List Value),K.In s.heap->(g us ws).length = ps.length->BindsTo s fd ⟨us,ks.zip ws⟩ (ps.zip (g us ws))
 rel:∀ {vs:List V} {us:List Value} {zs:List V} {ws:List Value},Vals vs us->Vals zs ws->Vals (gV vs zs) (g us ws)
variable {g:List Value->List Value->List Value} {gV:List V->List V->List V}
end
structure FnScope (N P:List Str) (sc:Scope):Prop where
 kind:sc.kind = .function
 co:sc.isCoroutine = false
 gen:sc.isGenerator = false
 nd:N.Nodup
 pre:N.take P.length = P
 par:∀ x ∈ P,sc.names.lookup x = some .local\/sc.names.lookup x = some .cell
 nofree:∀ y ∈ sc.names,y.2 ≠ .free
theorem Zmb {kindOf:Str->Option NameKind} {x:Str}:∀ {binds:List (Str × Value)} {m:Str->Option Value},(∀ v,(x,v) ∉ binds)->bindL kindOf binds m x = m x
 | [],_,_=>rfl
 | (n,v) :: r,m,h=>by
  unfold bindL;rw [Zmb λw hw=>h w (Jbo _ hw)];split
  .have:x ≠ n:=by rintro rfl; exact h v Jcb
   simp [this]
  .rfl
theorem Zmd {kindOf:Str->Option NameKind} {x:Str}:∀ {binds:List (Str × Value)} {m:Str->Option Value},(∀ v,(x,v) ∉ binds)->bindC kindOf binds m x = m x
 | [],_,_=>rfl
 | (n,v) :: r,m,h=>by
  unfold bindC;rw [Zmd λw hw=>h w (Jbo _ hw)];split
  .rfl
  .have:x ≠ n:=by rintro rfl; exact h v Jcb
   simp [this]
theorem Zmc {kindOf:Str->Option NameKind} {x:Str} {v:Value}:∀ {P:List Str} {vs:List Value} {i:Nat} {m:Str->Option Value},P.Nodup->P[i]? = some x->vs[i]? = some v->kindOf x = some .local->
  bindL kindOf (P.zip vs) m x = some v
 | [],_,_,_,_,h,_,_=>by simp at h
 | _ :: _,[],_,_,_,_,h,_=>by simp at h
 | p :: P,w :: vs,0,m,nd,h1,h2,hk=>by
  simp at h1 h2; subst h1; subst h2;show bindL kindOf ((p,w) :: P.zip vs) m p = _;unfold bindL;rw [Zmb λv hv=>(Jee.mp nd).1 (List.of_mem_zip hv).1,if_pos hk];simp
 | p :: P,w :: vs,i + 1,m,nd,h1,h2,hk=>by
  show bindL kindOf ((p,w) :: P.zip vs) m x = _;unfold bindL;exact Zmc (i:=i) (Jee.mp nd).2 (by simpa using h1) (by simpa using h2) hk
theorem Zme {kindOf:Str->Option NameKind} {x:Str} {v:Value}:∀ {P:List Str} {vs:List Value} {i:Nat} {m:Str->Option Value},P.Nodup->P[i]? = some x->vs[i]? = some v->kindOf x ≠ some .local->
  bindC kindOf (P.zip vs) m x = some v
 | [],_,_,_,_,h,_,_=>by simp at h
 | _ :: _,[],_,_,_,_,h,_=>by simp at h
 | p :: P,w :: vs,0,m,nd,h1,h2,hk=>by
  simp at h1 h2; subst h1; subst h2;show bindC kindOf ((p,w) :: P.zip vs) m p = _;unfold bindC;rw [Zmd λv hv=>(Jee.mp nd).1 (List.of_mem_zip hv).1,if_neg hk];simp
 | p :: P,w :: vs,i + 1,m,nd,h1,h2,hk=>by
  show bindC kindOf ((p,w) :: P.zip vs) m x = _;unfold bindC;exact Zme (i:=i) (Jee.mp nd).2 (by simpa using h1) (by simpa using h2) hk
def start (N:List Str) (vs:List V):St:=vs.map some ++ List.replicate (N.length - vs.length) none
def Zvq (CX:CXT) (P:Program) (w:World) (K:PySem.W.Frag) (mg:Str->Option Value) (base:Heap) (N:List Str) (qual:Str) (scope:Scope) (f:Addr) (cd:Value) (A:Around) (outer:List Env) (s:Shared) (H:Hp) (E:XK):Cx where
 prog:=P
 w:=w
 K:=K
 mg:=mg
 base:=base
 A:=A.deeper (envOfC qual scope s.heap.objs.size f cd)
 N:=N
 s₀:=s
 H₀:=H
 env:=envOfC qual scope s.heap.objs.size f cd
 outer:=outer
 stack:=envOfC qual scope s.heap.objs.size f cd :: outer
 ex:=[]
 calm:=true
 fn:=λ_=>true
 pn:=[]
 xe:=λe s'=>wpAny (model P w) (A.deeper (envOfC qual scope s.heap.objs.size f cd)) (leaving (envOfC qual scope s.heap.objs.size f cd) e) (λ_ s''=>CX outer H s E e s'') (λe' s''=>CX outer H s E e' s'') s'
theorem Zow {sc:Scope} {n:Nat} {x:Str} (h:sc.names.lookup x = some .cell):∃ c,(cellsFrom n sc.names []).lookup x = some c:=by
 have q:=Jdd sc.names n [] (.inl h);exact Jds.mp q
theorem Zr6 {CX:CXT} {P:Program} {w:World} {K:PySem.W.Frag} {mg:Str->Option Value} {base:Heap} {N ps:List Str} {qual:Str} {scope:Scope} {f:Addr} {cd:Value} {A:Around} {outer:List Env} {s s1:Shared} {H:Hp} {E:XK} {us:List Value} {vs:List V}
  (S:FnScope N ps scope) (hd:A.handled = none) (e0:Env0 P w K mg base A outer s H) (hl:vs.length = ps.length) (r:Vals vs us)
  (x:InCallC s s.heap.objs.size (bindL (envOfC qual scope s.heap.objs.size f cd).kindOf (ps.zip us) λ_=>none) (cellsFrom (s.heap.objs.size + 1) scope.names []) (bindC (envOfC qual scope s.heap.objs.size f cd).kindOf (ps.zip us) λ_=>none) s1):
  Inv (Zvq CX P w K mg base N qual scope f cd A outer s H E) [] (start N vs) H s1:=by
 have hpl:ps.length<=N.length:=by have:=Jdt List.length S.pre; rw [Jbb] at this; omega
 refine Zbo x.done λh1 tk e9109 hk=>?_;obtain rfl:=e9109;have noA:∀ b:Addr,b ∉ (Zvq CX P w K mg base N qual scope f cd A outer s H E).ex:=λb z=>absurd (show b ∈ ([]:List Addr) from z) (by simp);refine ⟨⟨e0.mod,S.kind,rfl,rfl,Jaf _,λy z c h1 h2=>?_,λy hy=>?_,λy c _ h=>?_,λ_=>hd,Around.frames_deeper e0.frames,.inr ⟨rfl,rfl⟩,λb z=>absurd z (noA b),e0.bs,e0.bsz,λb _ _=>noA b,λb z=>absurd z (noA b),e0.funs,e0.frf,⟨_,_,rfl,S.gen,S.co,rfl,rfl⟩⟩,
  rfl,e0.bare,Un.kept hk,⟨_,x.toInCall.ns,λi y v h1 h2 h3=>?_⟩,λy c h=>⟨_,x.cell y c h⟩,e0.hok.fresh (Jaf _),λy c h=>?_,λp hp=>absurd (show p ∈ ([]:List (Addr × Obj)) from hp) (by simp),e0.hok.kept hk,?_⟩
 .exact name_of_addr x.apart (Jbh h1) (Jbh h2)
 .have hy:scope.names.lookup y = some .cell\/scope.names.lookup y = some .free:=hy;rcases hy with hy | hy
  .exact Zow hy
  .exact absurd rfl (S.nofree _ (Jbh hy))
 .exact Jb3 (x.above y c (Jbh h))
 .have hi:i < vs.length:=by
   unfold start at h2;by_cases hi:i < vs.length
   .exact hi
   .rw [Jao (by simpa using hi)] at h2;rw [Jc4] at h2;split at h2 <;> cases h2
  have ha:vs[i]? = some v:=by
   unfold start at h2;rw [Jar (by simpa using hi),Jah] at h2;cases e:vs[i]? with
   | none=>rw [e] at h2; cases h2
   | some a=>rw [e] at h2; cases h2; rfl
  refine Zad (r.get ha) λu hu rv=>?_;have hp:ps[i]? = some y:=by
   rw [<- S.pre,Jck (by omega)]; exact h1
  have ndP:ps.Nodup:=by rw [<- S.pre]; exact S.nd.sublist (List.take_sublist _ _)
  refine ⟨u,rv,?_⟩;rcases S.par y (Jad hp) with k | k
  .exact .inl ⟨k,Zmc ndP hp hu k⟩
  .obtain ⟨c,e⟩:=Zow (n:=s.heap.objs.size + 1) k;refine .inr ⟨.inl k,c,e,?_⟩;have q:=x.cell y c e;rw [Zme ndP hp hu (by show scope.names.lookup y ≠ _; rw [k]; decide)] at q;exact q
 .exact e0.hok.fresh (Jb3 (x.above y c (Jbh h)))
 .unfold start;show _ = N.length;rw [Jae,Jab,Jbg];omega
theorem fn_of {CX:CXT} {P:Program} {w:World} {K:PySem.W.Frag} {mg:Str->Option Value} {base:Heap} {k:Nat} {f:Addr} {name qual:Str} {params:Arguments} {body:List Stmt} {scope:Scope} {dV kV doc pm cdv ct oc:Value} {an od:Option Addr}
  {osl:Array (Option Value)} {N ps:List Str} {sp:Sp} (lk:K.lookup f = some ⟨oc,od,.func (PySem.W.fnOf name qual params body scope dV kV doc pm an cdv ct),osl⟩) (hcd:PySem.W.codeIn K cdv qual = true) (S:FnScope N ps scope)
  (len:∀ vs H Q E,sp vs H Q E->vs.length = ps.length)
  (hbody:∀ (A:Around) (outer:List Env) (s:Shared) (H:Hp) (vs:List V) (Q:VK) (E:XK),Room k (A.deeper (envOfC qual scope s.heap.objs.size f cdv))->sp vs H Q E->
   ∃ t,PSs (Zvq CX P w K mg base N qual scope f cdv A outer s H E) body t/\t { nx:=λ_ H'=>Q .non H',rt:=Q } (start N vs) H):
  FnOk P w K mg base CX (k + 1) f (PySem.W.fnOf name qual params body scope dV kV doc pm an cdv ct) ps sp:=by
 refine ⟨len,λA outer s H args us vs Q E hr e0 hb r hsp=>?_⟩;have hl:=len _ _ _ _ hsp;have KX:K.In s.heap:=e0.mod.kin.keeps λb o e=>(e0.bs b o e).1;have lim:s.heap.NoLimit:=e0.mod.nolimit.keeps λb o e=>(e0.bs b o e).1;have hkind:∀ y ∈ ps.zip us,scope.names.lookup y.1 = some .local\/(scope.names.lookup y.1 = some .cell/\((cellsFrom (s.heap.objs.size + 1) scope.names []).lookup y.1).isSome = true):=λ⟨n,v⟩ hy=>by
  rcases S.par n (List.of_mem_zip hy).1 with q | q
  .exact .inl q
  .exact .inr ⟨q,Jdd _ _ _ (.inl q)⟩
 refine codeAny_call_function hr.depth (KX _ _ lk) rfl S.co S.gen rfl (PySem.W.codeRec_of KX hcd) (hb _ _ _ _ ?_);refine wpAny_newFunctionEnv_cells S.kind hkind λenv he s1 x=>?_;subst he;refine ⟨lim.keeps x.toInCall.keep,codeAny_func ?_⟩;refine Zad (hbody A outer s H vs Q E (hr.deeper _) hsp) λt ht hq=>?_;have I:Inv (Zvq CX P w K mg base N qual scope f cdv A outer s H E) [] (start N vs) H s1:=Zr6 S hr.hd e0 hl r x;refine Jcs (ht [] s1 (start N vs) H _ I hq) (λfl s' hs=>?_) λe s' hs=>hs;have fin:∀ {σ':St} {H':Hp} {v:V} {u:Value},Inv (Zvq CX P w K mg base N qual scope f cdv A outer s H E) [] σ' H' s'->RelV v u->Q v H'->CE outer P w H s Q u s':=
  λ{σ' H' v u} J rv q=>⟨v,H',J.os,J.bare,J.base,J.hok,rv,q⟩
 cases fl with
 | ret u=>
  refine Zia hs λv σ' H' J rv q=>?_;clear hs;exact fin J rv q
 | next=>
  refine Zbo hs λσ' H' J q=>?_;clear hs;exact fin (v:=V.non) (u:=Value.none) J rfl q
 | brk=>
  refine Zbo hs λ_ _ _ q=>?_;clear hs;exact False.elim q
 | cont=>
  refine Zbo hs λ_ _ _ q=>?_;clear hs;exact False.elim q
section
variable {X:Cx} {x:Str} {p pos:Pos} {e:Expr} {es:List Expr} {t:TA} {id T:String} {r:List V->Hp->VK->Prop}
def tCB (r:List V->Hp->VK->Prop) (t:TA):TE:=λσ H Q=>t σ H λvs H1=>r vs H1 Q
theorem Zuh (hc:Zgg X (.builtin id) r) (hg:Gl X x) (hm:X.mg x = none) (hv:bootBuiltins x = some (.builtin id)) (ha:PA X (e :: es) t) (hn:x ≠ "__name__" := by decide) (hdb:(x == ("__debug__" : Str)) = false:=by decide)
  (he:starEach (e :: es) X.env = (false,eval e X.env) :: starEach es X.env:=by rfl) (hpl:(backTo pos (starEach es X.env)).any (·.1) = false:=by rfl):PE X (.Call (.Name x p) (e :: es) [] pos) (tCB r t):=by
 intro pins s σ H Q I h;refine Jdf (Zh7 I hg hm hv ?_ hn hdb);exact PyProof.Rows.callWith_builtin1 (thn (ha pos pins s σ H _ I h) λus s1 ⟨vs,H1,I1,r1,q1⟩=>hc pins s1 σ H1 vs us Q I1 r1 q1) he hpl
theorem Zrg (hc:Zgg X (.type T) r) (hg:Gl X x) (hm:X.mg x = none) (hv:bootBuiltins x = some (.type T)) (ha:PA X (e :: es) t) (hn:x ≠ "__name__" := by decide) (hdb:(x == ("__debug__" : Str)) = false:=by decide)
  (he:starEach (e :: es) X.env = (false,eval e X.env) :: starEach es X.env:=by rfl) (hpl:(backTo pos (starEach es X.env)).any (·.1) = false:=by rfl):PE X (.Call (.Name x p) (e :: es) [] pos) (tCB r t):=by
 intro pins s σ H Q I h;refine Jdf (Zh7 I hg hm hv ?_ hn hdb);exact Jcc (thn (ha pos pins s σ H _ I h) λus s1 ⟨vs,H1,I1,r1,q1⟩=>hc pins s1 σ H1 vs us Q I1 r1 q1) he hpl
end
end L2
namespace HT
open PySem PyProof.Rows
section
open PySem.SeqAt
open PySem.AutoSeq1 (wpAny_loadPart')
open PySem.MeetsSeq PySem.MeetsSeq2 PySem.MeetsSeq3
end
section
variable {prog:Program} {w:World} {A:Around} {E:Value->Shared->Prop} {s:Shared}
def sIx (n d:Nat):Option Int->Nat
 | none=>d
 | some v=>if v < 0 then (v + (n:Int)).toNat else min v.toNat n
end
end HT
namespace L2
open PySem PySem.Spec PyProof.Rows
abbrev TO:=St->Hp->(Option Int->Hp->Prop)->Prop
def PO (X:Cx) (e:Option Expr) (t:TO):Prop:=
 ∀ (pins:List (Addr × Obj)) (s:Shared) (σ:St) (H:Hp) (Q:Option Int->Hp->Prop),Inv X pins σ H s->t σ H Q->
  wpAny (model X.prog X.w) X.A (evalPart e X.env) (λu s'=>∃ o H',Inv X pins σ H' s'/\IsPart u o/\Q o H') X.xe s
def Zmp:TO:=λ_ H Q=>Q none H
def tPart (t:TE):TO:=λσ H Q=>t σ H λx H1=>∃ i,x = .int i/\Q (some i) H1
section
variable {X:Cx} {e:Expr} {te:TE} {lo hi:Option Expr} {tl th:TO} {pos p2:Pos}
theorem Zgd:PO X none Zmp:=by
 intro pins s σ H Q I h;rw [evalPart_none];exact Jbj ⟨none,H,I,.none,h⟩
theorem Zef (h:PE X e te):PO X (some e) (tPart te):=by
 intro pins s σ H Q I hw;rw [evalPart_some];refine thn (h pins s σ H _ I hw) λu s1 ⟨x,H1,I1,r1,q1⟩=>?_;refine Zad q1 λi e9110 q=>?_;clear q1;obtain rfl:=e9110;obtain ⟨t,rfl⟩:=r1;exact Zau (some i) H1 ⟨I1,.int i t,q⟩
def SlR (X:Cx) (r:V->Option Int->Option Int->Hp->VK->Prop):Prop:=
 ∀ (pins:List (Addr × Obj)) (s:Shared) (σ:St) (H:Hp) (x:V) (v vl vu:Value) (lo hi:Option Int) (sl:Addr) (Q:VK),Inv X pins σ H s->RelV x v->s.heap.IsSliceOf sl vl vu .none->IsPart vl lo->IsPart vu hi->r x lo hi H Q->
  ∃ T id,typeLookup (.type T) "__getitem__" = pure (some (.builtin id))/\s.TypeIs v T/\wpAny (model X.prog X.w) X.A (getItem v (.ref sl)) (EP X pins σ Q) X.xe s
def tSl (r:V->Option Int->Option Int->Hp->VK->Prop) (te:TE) (tl th:TO):TE:=λσ H Q=>te σ H λx H1=>tl σ H1 λl H2=>th σ H2 λu H3=>r x l u H3 Q
theorem Zdl {r:V->Option Int->Option Int->Hp->VK->Prop} (hr:SlR X r) (he:PE X e te) (hl:PO X lo tl) (hu:PO X hi th):PE X (.Subscript e (.Slice lo hi none p2) pos) (tSl r te tl th):=by
 intro pins s σ H Q I h;refine Subscript_ (thn (he pins s σ H _ I h) λv s1 ⟨x,H1,I1,r1,q1⟩=>?_);refine wpAny_Slice (thn (hl pins s1 σ H1 _ I1 q1) λvl s2 ⟨l,H2,I2,pl,q2⟩=>thn (hu pins s2 σ H2 _ I2 q2) λvu s3 ⟨u,H3,I3,pu,q3⟩=>?_);rw [evalPart_none];refine Jbj ?_;have I4:Inv X pins σ H3 { s3 with heap:=s3.heap.push { cls:=.type "slice",data:=.fields #[vl,vu,.none] } }:=I3.kept (t':=s3.toks) λb ob q=>Jak _ q;refine Zbl (hr pins { s3 with heap:=s3.heap.push { cls:=.type "slice",data:=.fields #[vl,vu,.none] } } σ H3 x v vl vu l u s3.heap.objs.size Q I4 r1 (Heap.IsSliceOf.new ..) pl pu q3) λT id hT ht hg=>?_;show wpAny (model X.prog X.w) X.A (subscriptTail e (.Slice lo hi none p2) v (.ref s3.heap.objs.size)) (EP X pins σ Q) X.xe { s3 with heap:=s3.heap.push { cls:=.type "slice",data:=.fields #[vl,vu,.none] } };exact tail_any (ops:=[.ref s3.heap.objs.size,v]) ht hT hg (by with_unfolding_all rfl)
def Zew (xs:List V) (lo hi:Option Int):List V:=(xs.drop (HT.sIx xs.length 0 lo)).take (HT.sIx xs.length xs.length hi - HT.sIx xs.length 0 lo)
theorem Zcr (xs:List V) (lo hi:Option Int):(Zew xs lo hi).length<=xs.length:=by
 unfold Zew;rw [Jbb,Jb0];omega
end
def ixN (n:Nat) (i:Int):Option Nat:=if 0<=i then (if i < n then some i.toNat else none) else if -(n:Int)<=i then some (i + n).toNat else none
def atI {α:Type} (xs:List α) (i:Int):Option α:=(ixN xs.length i).bind λj=>xs[j]?
theorem Zr0 {n:Nat} {i:Int} {j:Nat} (h:ixN n i = some j):seqIndex? i n = some j/\j < n/\-(n:Int)<=i/\i < n:=by
 unfold ixN at h;by_cases h0:0<=i
 .rw [if_pos h0] at h;by_cases h1:i < n
  .rw [if_pos h1] at h;have e:i.toNat = j:=Jbd h;exact ⟨by rw [seqIndex_of h0 h1,e],by omega,by omega,h1⟩
  .rw [if_neg h1] at h; cases h
 .rw [if_neg h0] at h;by_cases h1:-(n:Int)<=i
  .rw [if_pos h1] at h;have e:(i + n).toNat = j:=Jbd h;exact ⟨by rw [seqIndex_neg (by omega) h1,e],by omega,h1,by omega⟩
  .rw [if_neg h1] at h; cases h
theorem Zs9 {α:Type} {xs:List α} {i:Int} {v:α} (h:atI xs i = some v):∃ j,seqIndex? i xs.length = some j/\xs[j]? = some v/\j < xs.length/\-(xs.length:Int)<=i/\i < xs.length:=by
 unfold atI at h;cases e:ixN xs.length i with
 | none=>rw [e] at h; cases h
 | some j=>
  rw [e] at h;refine Zcj (Zr0 e) λh1 h2 h3 h4=>?_;exact ⟨j,h1,h,h2,h3,h4⟩
theorem atI_nat {α:Type} {xs:List α} {j:Nat} {v:α} (h:xs[j]? = some v):atI xs (j:Int) = some v:=by
 have hj:j < xs.length:=(Jag.mp h).1;have e:ixN xs.length (j:Int) = some j:=by
  unfold ixN;rw [if_pos (by omega),if_pos (by omega)]; simp
 unfold atI; rw [e]; exact h
def PlainIx (b:Expr):Prop:=∀ o i,subscripted b false o i = operate [o,i] (getItem o i)
def IxR (X:Cx) (r:R2):Prop:=
 ∀ (value slice:Expr) (pins:List (Addr × Obj)) (s:Shared) (σ:St) (H:Hp) (x y:V) (v u:Value) (Q:VK),Inv X pins σ H s->RelV x v->RelV y u->r x y H Q->
  subscripted slice false v u = operate [v,u] (getItem v u)->wpAny (model X.prog X.w) X.A (subscriptTail value slice v u) (EP X pins σ Q) X.xe s
def MtR (X:Cx) (id:String) (r:V->List V->Hp->VK->Prop):Prop:=
 ∀ (pins:List (Addr × Obj)) (s:Shared) (σ:St) (H:Hp) (x:V) (xs:List V) (v:Value) (us:List Value) (Q:VK),Inv X pins σ H s->RelV x v->Vals xs us->r x xs H Q->
  wpAny (model X.prog X.w) X.A (call (.builtin id) (v :: us)) (EP X pins σ Q) X.xe s
section
variable {X:Cx} {a b:Expr} {ta tb:TE} {pos:Pos}
theorem pe_ix {r:R2} (hr:IxR X r) (ha:PE X a ta) (hb:PE X b tb) (hs:PlainIx b):PE X (.Subscript a b pos) (tOp r ta tb):=by
 intro pins s σ H Q I h;exact Subscript_ (binT ha hb I h λv u s2 x y H2 I2 rx ry q=>hr a b pins s2 σ H2 x y v u Q I2 rx ry q (hs _ _))
def rIxL (K:PySem.W.Frag):R2:=λx y H Q=>∃ p xs i v,x = .ref p/\y = .int i/\SqL K H p xs/\atI xs i = some v/\Q v H
def rIxT (K:PySem.W.Frag):R2:=λx y H Q=>∃ p xs i v,x = .ref p/\y = .int i/\SqT K H p xs/\atI xs i = some v/\Q v H
theorem Zaj:IxR X (rIxL X.K):=by
 intro value slice pins s σ H x y v u Q I rx ry h hs;refine Zdc h λp xs i z e9120 e9121 hq e9122=>?_;clear h;obtain rfl:=e9120;obtain rfl:=e9121;obtain ⟨he,q⟩:=e9122;cases rx;obtain ⟨t,rfl⟩:=ry;refine Zav (I.list hq) λits r pl hz=>?_;refine Zpz (Zs9 he) λj h1 h2 h3 h4 h5=>?_;refine Zad (r.get h2) λw ew rw'=>?_;have hl:=r.length;have hn:=Zlv;have fin:EP X pins σ Q w s:=⟨z,H,I,rw',q⟩
 by_cases h0:0<=i
 .have hj:i.toNat = j:=by
   rw [seqIndex_of h0 h5] at h1;exact Jbd h1
  exact item_listR pl.isList h0 (by omega) (by rw [hj]; simpa using ew) fin hs
 .have hj:(i + (its.toArray.size:Int)).toNat = j:=by
   rw [seqIndex_neg (by omega) h4] at h1;rw [Jat,<- hl];exact Jbd h1
  exact subscriptTail_builtinR (x:=w) pl.isList.typeIs slot_list_getitem.lookup
   (wpAny_getItem_list_neg (Q:=λr s'=>r = w/\EP X pins σ Q r s') pl.isList (by omega) (by rw [Jat] <;> omega) (by omega) (by rw [hj]; simpa using ew) ⟨rfl,fin⟩) hs
theorem Zaz:IxR X (rIxT X.K):=by
 intro value slice pins s σ H x y v u Q I rx ry h hs;refine Zdc h λp xs i z e9123 e9124 hq e9125=>?_;clear h;obtain rfl:=e9123;obtain rfl:=e9124;obtain ⟨he,q⟩:=e9125;cases rx;obtain ⟨t,rfl⟩:=ry;refine Zav (I.tuple hq) λits r pl hz=>?_;refine Zpz (Zs9 he) λj h1 h2 h3 h4 h5=>?_;refine Zad (r.get h2) λw ew rw'=>?_;have hl:=r.length;have hn:=Zlv;have fin:EP X pins σ Q w s:=⟨z,H,I,rw',q⟩
 exact subscriptTail_builtinR (x:=w) pl.typeIs slot_tuple_getitem.lookup
  (getItem_tuple (j:=j) (Q:=λr s'=>r = w/\EP X pins σ Q r s') pl (by omega) (by omega) (by rw [Jat,<- hl]; exact h1) (by simpa using ew) ⟨rfl,fin⟩) hs
theorem Zpb (its:List Value) (n j:Nat) (u:Value):Obj.mapSeq (·.setIfInBounds j u) { cls:=.type "list",data:=.seq its.toArray n } = { cls:=.type "list",data:=.seq (its.set j u).toArray n }:=by
 simp [Obj.mapSeq]
theorem Inv.lst {pins:List (Addr × Obj)} {σ:St} {H:Hp} {s:Shared} {p:Addr} {xs:List V} (I:Inv X pins σ H s) (h:H p = some (.lst xs)):
  ∃ (its:List Value) (n:Nat),Vals xs its/\s.heap.get? p = some { cls:=.type "list",data:=.seq its.toArray n }/\xs.length<=sizeLine:=by
 obtain ⟨z,its,n,r,e⟩:=I.hok p _ h;exact Zau its n ⟨r,e,z⟩
theorem Inv.lstUpd {pins:List (Addr × Obj)} {σ:St} {H:Hp} {s:Shared} {p:Addr} {xs ys:List V} {its its':List Value} {n n':Nat} {f:Obj->Obj} (I:Inv X pins σ H s) (h:H p = some (.lst xs))
  (ho:s.heap.get? p = some { cls:=.type "list",data:=.seq its.toArray n }) (hf:f { cls:=.type "list",data:=.seq its.toArray n } = { cls:=.type "list",data:=.seq its'.toArray n' }) (r:Vals ys its') (hz:ys.length<=sizeLine) (t:Nat):
  Inv X pins σ (upd H p (.lst ys)) { s with heap:=s.heap.update p f,toks:=t }:=by
 have e:(s.heap.update p f).get? p = some { cls:=.type "list",data:=.seq its'.toArray n' }:=by
  rw [Heap.get?_update_self f ho (by rw [hf] <;> rfl),hf]
 refine I.write (x:=p) (e:=p) (by rw [h]; trivial) (.inl rfl) (λb u hb q=>(Heap.get?_update_other _ _ (Jdr hb)).trans q) ⟨_,e⟩ ?_;exact ⟨hz,its',n',r,e⟩
def rSetL:V->V->V->Hp->(Hp->Prop)->Prop:=λo i v H Q=>∃ p xs k j,o = .ref p/\i = .int k/\H p = some (.lst xs)/\ixN xs.length k = some j/\Q (upd H p (.lst (xs.set j v)))
theorem Zdj:PSet X rSetL:=by
 intro pins s σ H o i v ov iv u Q I ro ri rv h;refine Zdc h λp xs k j e9129 e9130 hp e9131=>?_;clear h;obtain rfl:=e9129;obtain rfl:=e9130;obtain ⟨hj,q⟩:=e9131;cases ro;obtain ⟨t,rfl⟩:=ri;refine Zbl (I.lst hp) λits n r ho hz=>?_;refine Zcj (Zr0 hj) λh1 h2 h3 h4=>?_;have hl:=r.length;have hn:=Zlv;have I':Inv X pins σ (upd H p (.lst (xs.set j v))) { s with heap:=s.heap.update p (Obj.mapSeq (·.setIfInBounds j u)) }:=
  I.lstUpd hp ho (Zpb its n j u) (r.set rv j) (by rw [Jcd]; exact hz) s.toks
 by_cases h0:0<=k
 .have hk:k.toNat = j:=by
   rw [seqIndex_of h0 h4] at h1;exact Jbd h1
  exact PySem.W.ki_setAt ho h0 (by omega) (by rw [Jat,<- hl]; exact h4) (by rw [hk]; exact ⟨_,I',q⟩)
 .have hk:(k + (its.toArray.size:Int)).toNat = j:=by
   rw [seqIndex_neg (by omega) h3] at h1;rw [Jat,<- hl];exact Jbd h1
  exact PySem.W.ki_setBack ho (by omega) (by rw [Jat,<- hl]; exact h3) (by omega) (by rw [hk]; exact ⟨_,I',q⟩)
theorem Zlj (lo hi:Option Int) (n:Nat):(sliceBounds lo hi none n).1 = ((HT.sIx n 0 lo:Nat):Int)/\(sliceBounds lo hi none n).2.1 = ((HT.sIx n n hi:Nat):Int)/\(sliceBounds lo hi none n).2.2 = 1:=by
 refine ⟨?_,?_,rfl⟩
 .cases lo with
  | none=>simp [sliceBounds,HT.sIx]
  | some i=>
   simp only [sliceBounds,HT.sIx,Option.getD_none,show (1:Int) > 0 by decide,Jcy];by_cases h:i < 0
   .simp only [h,Jcy] <;> omega
   .simp only [h,Jex] <;> omega
 .cases hi with
  | none=>simp [sliceBounds,HT.sIx]
  | some i=>
   simp only [sliceBounds,HT.sIx,Option.getD_none,show (1:Int) > 0 by decide,Jcy];by_cases h:i < 0
   .simp only [h,Jcy] <;> omega
   .simp only [h,Jex] <;> omega
theorem Zkk (its:List Value) (lo hi:Option Int):slicePick its.toArray lo hi none = ((its.drop (HT.sIx its.length 0 lo)).take (HT.sIx its.length its.length hi - HT.sIx its.length 0 lo)).toArray:=by
 refine Za9 (Zlj lo hi its.toArray.size) λh1 h2 h3=>?_;unfold slicePick;rw [h1,h2,h3];simp only [sliceRange_one,pick_run,Jat] <;> rfl
def rSlL (K:PySem.W.Frag):V->Option Int->Option Int->Hp->VK->Prop:=λx lo hi H Q=>∃ a xs,x = .ref a/\SqL K H a xs/\∀ p,H p = none->Q (.ref p) (upd H p (.lst (Zew xs lo hi)))
theorem Ze2:SlR X (rSlL X.K):=by
 intro pins s σ H x v vl vu lo hi sl Q I rx hs pl pu h;refine Zbl h λa xs e9132 hx q=>?_;clear h;obtain rfl:=e9132;cases rx;refine Zav (I.list hx) λits r ht hz=>?_;have hlen:=r.length;refine Zau ("list") _ ⟨slot_list_getitem.lookup,ht.isList.typeIs,?_⟩;refine wpAny_getItem_list_slice ht.isList hs pl pu .none (by simp) ?_ (by rw [Jat] <;> omega);rw [Zkk,<- hlen];refine Zau (.ref s.heap.objs.size) _ ⟨I.laid (t':=s.toks) (o:=.lst (Zew xs lo hi)) (λb ob q=>Jak _ q) (Jaf _) ?_,rfl,q _ (I.hok.fresh (Jaf _))⟩;exact ⟨Jav (Zcr xs lo hi) hz,_,0,(r.drop (HT.sIx xs.length 0 lo)).take (HT.sIx xs.length xs.length hi - HT.sIx xs.length 0 lo),Ja6 _ rfl⟩
def Zpl:V->Bool
 | .non=>true
 | .bl _=>true
 | .int _=>true
 | .str _=>true
 | _=>false
def eqV:V->V->Bool
 | .non,.non=>true
 | .bl a,.bl b=>a == b
 | .bl a,.int b=>(if a then 1 else 0) == b
 | .int a,.bl b=>a == (if b then 1 else 0)
 | .int a,.int b=>a == b
 | .str a,.str b=>a == b
 | _,_=>false
theorem eqAt_V {A:Around} {s:Shared} {y x:V} {u v:Value} (ry:RelV y u) (rx:RelV x v) (fy:Zpl y = true) (fx:Zpl x = true):SeqAt.EqAt A s u v (eqV y x):=by
 cases y with
 | non=>
  cases ry;cases x with
  | non=>cases rx; exact SeqAt.EqAt.same _
  | bl b=>cases rx; exact SeqAt.EqAt.none_bool b
  | int b=>obtain ⟨t,rfl⟩:=rx; exact SeqAt.EqAt.none_int b t
  | str b=>obtain ⟨t,rfl⟩:=rx; exact SeqAt.EqAt.none_str b t
  | _=>exact absurd (show false = true from fx) Jau
 | bl a=>
  cases ry;cases x with
  | non=>cases rx; exact SeqAt.EqAt.bool_none a
  | bl b=>cases rx; exact SeqAt.EqAt.bool_bool a b
  | int b=>obtain ⟨t,rfl⟩:=rx; exact SeqAt.EqAt.bool_int a b t
  | str b=>obtain ⟨t,rfl⟩:=rx; exact SeqAt.EqAt.bool_str a b t
  | _=>exact absurd (show false = true from fx) Jau
 | int a=>
  obtain ⟨t',rfl⟩:=ry;cases x with
  | non=>cases rx; exact SeqAt.EqAt.int_none a t'
  | bl b=>cases rx; exact SeqAt.EqAt.int_bool a t' b
  | int b=>obtain ⟨t,rfl⟩:=rx; exact SeqAt.EqAt.int_int a t' b t
  | str b=>obtain ⟨t,rfl⟩:=rx; exact SeqAt.EqAt.int_str a t' b t
  | _=>exact absurd (show false = true from fx) Jau
 | str a=>
  obtain ⟨t',rfl⟩:=ry;cases x with
  | non=>cases rx; exact SeqAt.EqAt.str_none a t'
  | bl b=>cases rx; exact SeqAt.EqAt.str_bool a t' b
  | int b=>obtain ⟨t,rfl⟩:=rx; exact SeqAt.EqAt.str_int a t' b t
  | str b=>obtain ⟨t,rfl⟩:=rx; exact SeqAt.EqAt.str_str a t' b t
  | _=>exact absurd (show false = true from fx) Jau
 | _=>exact absurd (show false = true from fy) Jau
def inV (x:V) (xs:List V):Bool:=xs.any λy=>eqV y x
def rIn (K:PySem.W.Frag) (neg:Bool):R2:=λx y H Q=>∃ p xs,y = .ref p/\(SqL K H p xs\/SqT K H p xs)/\Zpl x = true/\xs.all Zpl = true/\Q (.bl (if neg then !inV x xs else inV x xs)) H
theorem Zaq:Zgg X (.builtin "len") (λxs H Q=>∃ p ys,xs = [.ref p]/\(SqL X.K H p ys\/SqT X.K H p ys)/\Q (.int ys.length) H):=by
 intro pins s σ H xs us Q I r h;refine Zbl h λp ys e9137 hq q=>?_;clear h;obtain rfl:=e9137;refine Zad (Zkg r) λu e9138 rx=>?_;obtain rfl:=e9138;cases rx;have hn:=Zlv;rcases hq with hq | hq
 .refine Zav (I.list hq) λits r' pl hz=>?_;have hlen:=r'.length;exact Calls.call_len_list pl.isList (by simp only [Jat] <;> omega) ⟨.int ys.length,H,I.tok _,⟨s.toks + 1,by rw [Jat,hlen]⟩,q⟩
 .refine Zav (I.tuple hq) λits r' pl hz=>?_;have hlen:=r'.length;exact len_tuple pl (by simp only [Jat] <;> omega) ⟨.int ys.length,H,I.tok _,⟨s.toks + 1,by rw [Jat,hlen]⟩,q⟩
theorem Zci:Zgg X (.type "list") (λxs H Q=>∃ p ys,xs = [.ref p]/\(SqL X.K H p ys\/SqT X.K H p ys)/\∀ l,H l = none->Q (.ref l) (upd H l (.lst ys))):=by
 intro pins s σ H xs us Q I r h;refine Zbl h λp ys e9142 hq q=>?_;clear h;obtain rfl:=e9142;refine Zad (Zkg r) λu e9143 rx=>?_;obtain rfl:=e9143;cases rx;have fin:∀ (its:List Value),Vals ys its->ys.length<=sizeLine->∀ (h':Heap) (c':Nat),(∀ b o',s.heap.get? b = some o'->h'.get? b = some o')->
   h'.get? s.heap.objs.size = some { cls:=.type "list",dict:=none,data:=.seq its.toArray c',slots:=#[] }->EP X pins σ Q (.ref s.heap.objs.size) { s with heap:=h' }:=λits r' hz h' c' kp e=>
  ⟨.ref s.heap.objs.size,_,I.laid (t':=s.toks) kp (Jaf _) (show ObjOk X.prog X.w _ h' _ (.lst ys) from ⟨hz,its,c',r',e⟩),rfl,q _ (I.hok.fresh (Jaf _))⟩
 rcases hq with hq | hq
 .refine Zav (I.list hq) λits r' pl hz=>?_;have hlen:=r'.length;obtain ⟨o,ho,hc,n,hd⟩:=pl.isList;exact call_list_seq p (.inl rfl) ho hc hd (λh' c' kp e=>fin its r' hz h' c' kp e) (by simp only [Jat] <;> omega)
 .obtain ⟨its,r',pl,hz⟩:=I.tuple hq;have hlen:=r'.length;obtain ⟨o,ho,hc,n,hd⟩:=pl;exact call_list_seq p (.inr rfl) ho hc hd (λh' c' kp e=>fin its r' hz h' c' kp e) (by simp only [Jat] <;> omega)
def tyV (K:PySem.W.Frag) (T:String) (x:V) (H:Hp):Prop:=match x with
 | .str _=>T = "str"
 | .int _=>T = "int"
 | .ref p=>(T = "list" /\ ∃ xs,SqL K H p xs)\/(T = "tuple" /\ ∃ o,K.lookup p = some o/\o.cls = .type "tuple" /\ o.dict = none) \/
   (T = "dict" /\ ((∃ kvs,H p = some (.dK kvs))\/∃ kvs,H p = some (.dT kvs)))\/(T = "set" /\ ∃ S n,H p = some (.set S n))
 | _=>False
theorem Zv2 {pins:List (Addr × Obj)} {σ:St} {H:Hp} {s:Shared} {T:String} {x:V} {v:Value} (I:Inv X pins σ H s) (r:RelV x v) (ty:tyV X.K T x H):
  s.TypeIs v T/\∀ a,v = .ref a->∃ ob,s.heap.get? a = some ob/\ob.dict = none:=by
 cases x with
 | str z=>
  obtain ⟨t,rfl⟩:=r;cases (show T = "str" from ty);exact ⟨typeIs_str s z t,λ_ e=>nomatch e⟩
 | int i=>
  obtain ⟨t,rfl⟩:=r;cases (show T = "int" from ty);exact ⟨typeIs_int s i t,λ_ e=>nomatch e⟩
 | ref p=>
  cases r;rcases ty with ⟨rfl,xs,hq⟩ | ⟨rfl,o,hk,hc,hd⟩ | ⟨rfl,hk⟩ | ⟨rfl,S,n,hk⟩
  .refine Zav (I.list hq) λits _ pl _=>?_;refine ⟨pl.isList.typeIs,λa e=>?_⟩;cases e;refine Zdv pl λo n e c hd _=>?_;clear pl;exact ⟨o,e,hd⟩
  .refine ⟨⟨o,I.kIn p o hk,hc⟩,λa e=>?_⟩;cases e;exact ⟨o,I.kIn _ o hk,hd⟩
  .have z:∃ o,s.heap.get? p = some o/\o.ExactDict:=by
    rcases hk with ⟨kvs,hk⟩ | ⟨kvs,hk⟩
    .refine Za9 (I.hok p _ hk) λ_ _ e9144=>?_;obtain ⟨_,_,o,_,_,e,ex,_⟩:=e9144;exact ⟨o,e,ex⟩
    .refine Za9 (I.hok p _ hk) λ_ _ e9145=>?_;obtain ⟨_,_,o,_,_,e,ex,_⟩:=e9145;exact ⟨o,e,ex⟩
   refine Zad z λo e ex=>?_;clear z;refine ⟨⟨o,e,ex.1⟩,λa e2=>?_⟩;cases e2;exact ⟨o,e,ex.2.1⟩
  .refine Zk9 (I.hok p _ hk) λo _ _ _ e ex _=>?_;refine ⟨⟨o,e,ex.1⟩,λa e2=>?_⟩;cases e2;exact ⟨o,e,ex.2.1⟩
 | _=>exact False.elim ty
def tBM0 (K:PySem.W.Frag) (T:String) (r:V->List V->Hp->VK->Prop) (to:TE):TE:=λσ H Q=>to σ H λx H1=>tyV K T x H1/\r x [] H1 Q
def tBM (K:PySem.W.Frag) (T:String) (r:V->List V->Hp->VK->Prop) (to:TE) (t:TA):TE:=λσ H Q=>to σ H λx H1=>tyV K T x H1/\t σ H1 λxs H2=>r x xs H2 Q
variable {o e:Expr} {es:List Expr} {to:TE} {t:TA} {name:Str} {apos cpos:Pos} {T id:String} {r:V->List V->Hp->VK->Prop}
theorem Zoa (pa:PlainAttrs T) (slot:Slot T name id) (hty:typeOf (.builtin id) = pure (.type "method_descriptor")) (hm:MtR X id r) (ho:PE X o to)
  (hbase:attributeBase o name X.env (eval o X.env) = eval o X.env:=by rfl) (hline:(apos.endLine == cpos.line) = true:=by rfl):PE X (.Call (.Attribute o name apos) [] [] cpos) (tBM0 X.K T r to):=by
 intro pins s σ H Q I h;refine wpAny_Call_method0_late hbase hline (thn (ho pins s σ H _ I h) λv s1 ⟨x,H1,I1,r1,ty,q1⟩=>?_);obtain ⟨h1,h2⟩:=Zv2 I1 r1 ty;exact Zau T id ⟨pa,slot,hty,h1,h2,Calls.callWith_builtin rfl (PySem.evalArgs_none (hm pins s1 σ H1 x [] v [] Q I1 r1 .nil q1))⟩
theorem Zez (pa:PlainAttrs T) (slot:Slot T name id) (hty:typeOf (.builtin id) = pure (.type "method_descriptor")) (hm:MtR X id r) (ho:PE X o to) (ha:PA X (e :: es) t)
  (hbase:attributeBase o name X.env (eval o X.env) = eval o X.env:=by rfl)
  (hfew:((backTo cpos (starEach (e :: es) X.env)).all (λx=>!x.1) && (backToKw cpos (keywordEach [] X.env)).all (λx=>x.1.isSome)
   && decide ((e :: es).length + ([]:List Keyword).length + (if ([]:List Keyword).isEmpty then 0 else 1) < 30)) = true:=by rfl)
  (hline:(apos.endLine == cpos.line) = true:=by rfl) (hs:starEach (e :: es) X.env = (false,eval e X.env) :: starEach es X.env:=by rfl) (hplain:(backTo cpos (starEach es X.env)).any (·.1) = false:=by rfl):
  PE X (.Call (.Attribute o name apos) (e :: es) [] cpos) (tBM X.K T r to t):=by
 intro pins s σ H Q I h;refine wpAny_Call_method_late hbase hfew hline rfl (thn (ho pins s σ H _ I h) λv s1 ⟨x,H1,I1,r1,ty,q1⟩=>?_);obtain ⟨h1,h2⟩:=Zv2 I1 r1 ty;refine Zau T id ⟨pa,slot,hty,h1,h2,?_⟩;have hA:=ha cpos pins s1 σ H1 _ I1 q1;rw [hs] at hA ⊢;refine Calls.callWith_builtin (by show (false || (backTo cpos (starEach es X.env)).any (·.1)) = false; rw [hplain] <;> rfl) (Calls.evalArgs_plain ?_);exact thn hA λus s2 ⟨vs,H2,I2,r2,q2⟩=>hm pins s2 σ H2 x vs v us Q I2 r1 r2 q2
end
def MtM (X:Cx) (id:String) (r:V->List V->Hp->VK->Prop):Prop:=
 ∀ (pins:List (Addr × Obj)) (s:Shared) (σ:St) (H:Hp) (x:V) (xs:List V) (v:Value) (us:List Value) (Q:VK),Inv X pins σ H s->RelV x v->Vals xs us->r x xs H Q->
  wpAny (model X.prog X.w) X.A (call (.builtin id) (v :: us)) (EP X pins σ Q) X.xe s
theorem Vals.one:∀ {x:V} {us:List Value},Vals [x] us->∃ u,us = [u]/\RelV x u
 | _,_,.cons r .nil=>⟨_,rfl,r⟩
theorem Vals.zero:∀ {us:List Value},Vals [] us->us = []
 | _,.nil=>rfl
theorem Vals.eraseIdx:∀ {xs:List V} {us:List Value} (i:Nat),Vals xs us->Vals (xs.eraseIdx i) (us.eraseIdx i)
 | _,_,_,.nil=>.nil
 | _,_,0,.cons _ t=>t
 | _,_,i + 1,.cons r t=>.cons r (Vals.eraseIdx i t)
theorem Vals.rep {xs:List V} {us:List Value} (h:Vals xs us):∀ k:Nat,Vals (List.replicate k xs).flatten (List.replicate k us).flatten
 | 0=>.nil
 | k + 1=>by
  rw [Jcf,Jcf,Jdk,Jdk];exact Vals.append h (Vals.rep h k)
theorem Zlw {α:Type}:∀ (l:List α) (i:Nat),(l.eraseIdx i).length<=l.length
 | [],_=>Jaf _
 | _ :: _,0=>Nat.le_succ _
 | _ :: r,i + 1=>Nat.succ_le_succ (Zlw r i)
theorem Zl3 (its:List Value):∀ (k:Nat) (acc:List Value),
  List.foldl (λx1 x2=>x1 ++ x2) acc.toArray (List.replicate k its.toArray) = (acc ++ (List.replicate k its).flatten).toArray
 | 0,acc=>by simp
 | k + 1,acc=>by
  have e:acc.toArray ++ its.toArray = (acc ++ its).toArray:=by simp
  have e2:(acc ++ its) ++ (List.replicate k its).flatten = acc ++ (List.replicate (k + 1) its).flatten:=by
   rw [Jcf,Jdk,Jbw]
  rw [<- e2,<- Zl3 its k (acc ++ its),<- e,Jcf,List.foldl_cons]
section
variable {X:Cx} {pins:List (Addr × Obj)} {σ:St} {H:Hp} {s:Shared} {l b:Addr} {xs ys zs:List V}
theorem Inv.lset {its its':List Value} {n:Nat} {f:Array Value->Array Value} {t':Nat} (I:Inv X pins σ H s) (hH:H l = some (.lst xs))
  (e:s.heap.get? l = some { cls:=.type "list",data:=.seq its.toArray n }) (hf:f its.toArray = its'.toArray) (hv:Vals ys its') (hz:ys.length<=sizeLine):
  Inv X pins σ (upd H l (.lst ys)) { s with heap:=s.heap.update l (Obj.mapSeq f),toks:=t' }:=by
 have q:=PySem.IsL.update e f;rw [hf] at q;refine I.write (x:=l) (e:=l) (by rw [hH]; exact trivial) (.inl rfl) (λb' u hb hu=>(Heap.get?_update_other s.heap (Obj.mapSeq f) (Jdr hb)).trans hu) ⟨_,q⟩ ?_;exact ⟨hz,its',_,hv,q⟩
theorem Inv.lnew {its:List Value} {t':Nat} (I:Inv X pins σ H s) (hv:Vals ys its) (hz:ys.length<=sizeLine):
  Inv X pins σ (upd H s.heap.objs.size (.lst ys)) { s with heap:=s.heap.push { cls:=.type "list",data:=.seq its.toArray },toks:=t' }:=
 I.laid (λ_ _ q=>Jak _ q) (Jaf _) ⟨hz,its,0,hv,Ja6 _ rfl⟩
theorem Inv.fresh (I:Inv X pins σ H s):H s.heap.objs.size = none:=I.hok.fresh (Jaf _)
theorem Inv.lstM (I:Inv X pins σ H s) (hH:H l = some (.lst xs)):xs.length<=sizeLine/\∃ (its:List Value) (n:Nat),Vals xs its/\xs.length = its.length/\s.heap.get? l = some { cls:=.type "list",data:=.seq its.toArray n }:=by
 obtain ⟨z,its,n,r,e⟩:=I.hok l _ hH;exact ⟨z,its,n,r,r.length,e⟩
theorem Zoh {n:Nat} (h:n<=sizeLine):Builtin.List.listTooLong n = false:=by
 unfold Builtin.List.listTooLong;exact Ja9 (by omega)
end
section
variable {X:Cx}
def Zi8:V->List V->Hp->VK->Prop:=λx vs H Q=>∃ l xs y,x = .ref l/\vs = [y]/\H l = some (.lst xs)/\xs.length < sizeLine/\Q .non (upd H l (.lst (xs ++ [y])))
theorem Zba:MtM X "list.append" Zi8:=by
 intro pins s σ H x vs v us Q I rx rv h;refine Zbj h λl xs y e9146 e9147 hH e9148=>?_;clear h;obtain rfl:=e9146;obtain rfl:=e9147;obtain ⟨hz,q⟩:=e9148;cases rx;refine Zad rv.one λu e9149 ru=>?_;obtain rfl:=e9149;obtain ⟨z,its,n,r,hl,e⟩:=I.lstM hH;refine Je0 F.slot_list_append ⟨_,e,rfl⟩ F.entry_list_append (F.args_list_append_2 _ _) (PySem.list_append l its.toArray n u (by rw [Jat]; omega)) ⟨e,?_⟩;refine Zau .non _ ⟨I.lset (its':=its ++ [u]) hH e (by simp) (r.append (.cons ru .nil)) ?_,rfl,q⟩;rw [Jae,List.length_singleton];omega
def rExtend:V->List V->Hp->VK->Prop:=λx vs H Q=>∃ l b xs zs,x = .ref l/\vs = [.ref b]/\H l = some (.lst xs)/\H b = some (.lst zs)/\xs.length + zs.length<=sizeLine/\Q .non (upd H l (.lst (xs ++ zs)))
theorem mt_extend:MtM X "list.extend" rExtend:=by
 intro pins s σ H x vs v us Q I rx rv h;refine Zdc h λl b xs zs e9150 e9151 hH e9152=>?_;clear h;obtain rfl:=e9150;obtain rfl:=e9151;refine Za9 e9152 λhB hz q=>?_;clear e9152;cases rx;refine Zad rv.one λu e9153 ru=>?_;obtain rfl:=e9153;cases ru;obtain ⟨z,its,n,r,hl,e⟩:=I.lstM hH;obtain ⟨z2,its2,n2,r2,hl2,e2⟩:=I.lstM hB;have hsz:its.toArray.size + its2.toArray.size<=sizeLine:=by rw [Jat,Jat]; omega
 have hlong:¬ (!its.toArray.isEmpty && Builtin.List.listTooLong (its.toArray.size + its2.toArray.size)) = true:=by
  rw [Zoh hsz,Bool.and_false];exact Jau
 refine Je0 F.slot_list_extend ⟨_,e,rfl⟩ F.entry_list_extend (F.args_list_extend_2 _ _)
  (AutoSeq1.list_extend_list_list_0 l its.toArray n b its2.toArray n2 hlong (by rw [Jat]; omega) (by omega)) ⟨e,e2,?_⟩
 refine Zau .non _ ⟨I.lset (its':=its ++ its2) hH e (by simp) (r.append r2) ?_,rfl,q⟩;rw [Jae];omega
def Zq6:V->List V->Hp->VK->Prop:=λx vs H Q=>∃ l xs i k y,x = .ref l/\vs = [.int i]/\H l = some (.lst xs)/\-(2 ^ 63)<=i/\i < 2 ^ 63/\seqIndex? i xs.length = some k/\xs[k]? = some y/\Q y (upd H l (.lst (xs.eraseIdx k)))
theorem Zu4:MtM X "list.pop" Zq6:=by
 intro pins s σ H x vs v us Q I rx rv h;refine Zgh h λl xs i k y e9157 e9158 hH e9159=>?_;clear h;obtain rfl:=e9157;obtain rfl:=e9158;refine Zcv e9159 λh1 h2 hk hy q=>?_;clear e9159;cases rx;refine Zad rv.one λu e9160 ru=>?_;obtain rfl:=e9160;obtain ⟨t,rfl⟩:=ru;obtain ⟨z,its,n,r,hl,e⟩:=I.lstM hH;refine Zad (r.get hy) λw hw rw'=>?_;refine Je0 F.slot_list_pop ⟨_,e,rfl⟩ F.entry_list_pop (F.args_list_pop_2 _ _)
  (MeetsSeq.list_pop_at l its.toArray n i t k w (fitsIndex_both h1 h2) (by rw [Jat,<- hl]; exact hk) (by rw [<- Array.getElem?_toList]; exact hw) (by rw [Jat]; omega)) ⟨e,?_⟩
 refine Zau y _ ⟨I.lset (its':=its.eraseIdx k) hH e ?_ (r.eraseIdx k) ?_,rw',q⟩
 .show its.toArray.eraseIdxIfInBounds k = (its.eraseIdx k).toArray;rw [List.eraseIdxIfInBounds_toArray]
 .have:=Zlw xs k;omega
def rCat:R2:=λx y H Q=>∃ l b xs zs,x = .ref l/\y = .ref b/\H l = some (.lst xs)/\H b = some (.lst zs)/\xs.length + zs.length<=sizeLine/\∀ p,H p = none->Q (.ref p) (upd H p (.lst (xs ++ zs)))
theorem Zgu:OpR X (binaryOp .Add) rCat:=by
 intro pins s σ H x y v u Q I rx ry h;refine Zdc h λl b xs zs e9165 e9166 hH e9167=>?_;clear h;obtain rfl:=e9165;obtain rfl:=e9166;refine Za9 e9167 λhB hz q=>?_;clear e9167;cases rx;cases ry;obtain ⟨z,its,n,r,hl,e⟩:=I.lstM hH;obtain ⟨z2,its2,n2,r2,hl2,e2⟩:=I.lstM hB;refine PySem.P.add_list e e2 ?_ (by rw [Jat,Jat]; omega);have ea:its.toArray ++ its2.toArray = (its ++ its2).toArray:=by simp
 rw [ea];exact Zau (.ref _) _ ⟨I.lnew (t':=s.toks) (r.append r2) (by rw [Jae]; omega),rfl,q _ I.fresh⟩
def rRep:R2:=λx y H Q=>∃ l k xs,x = .ref l/\y = .int k/\H l = some (.lst xs)/\-(2 ^ 63)<=k/\k < 2 ^ 63/\xs.length * k.toNat<=sizeLine /\
 ∀ p,H p = none->Q (.ref p) (upd H p (.lst (List.replicate k.toNat xs).flatten))
theorem len_rep {α:Type} (xs:List α) (k:Nat):(List.replicate k xs).flatten.length = k * xs.length:=by
 induction k with
 | zero=>simp
 | succ k ih=>rw [Jcf,Jdk,Jae,ih,Jel,Nat.add_comm]
theorem op_rep:OpR X (binaryOp .Mult) rRep:=by
 intro pins s σ H x y v u Q I rx ry h;refine Zbj h λl k xs e9168 e9169 hH e9170=>?_;clear h;obtain rfl:=e9168;obtain rfl:=e9169;refine Zcj e9170 λh1 h2 hz q=>?_;clear e9170;cases rx;obtain ⟨t,rfl⟩:=ry;obtain ⟨z,its,n,r,hl,e⟩:=I.lstM hH;have hlen:its.toArray.size * k.toNat<=sizeLine:=by rw [Jat,<- hl]; exact hz
 have hcap:¬ its.toArray.size * k.toNat > (2 ^ 63 - 1) / 8:=by
  have:(sizeLine:Nat)<=(2 ^ 63 - 1) / 8:=by decide
  omega
 have hfit:¬ (!Builtin.List.listFitsIndex k) = true:=by
  rw [fitsIndex_both h1 h2];exact Jau
 have hlong:¬ Builtin.List.listTooLong (its.toArray.size * k.toNat) = true:=by
  rw [Zoh hlen];exact Jau
 have hnew:List.foldl (λx1 x2=>x1 ++ x2) #[] (List.replicate (if its.toArray.isEmpty = true then 0 else k.toNat) its.toArray) = (List.replicate k.toNat its).flatten.toArray:=by
  have f0:∀ m:Nat,List.foldl (λx1 x2=>x1 ++ x2) #[] (List.replicate m its.toArray) = (List.replicate m its).flatten.toArray:=λm=>by
   have:=Zl3 its m [];rw [List.nil_append] at this;exact this
  rw [f0];cases its with
  | nil=>simp
  | cons a r'=>rw [if_neg (by simp)]
 refine wpAny_binaryOp_repeat_ref (T:="list") (U:="int") (by decide) ⟨_,e,rfl⟩ (λs'=>typeIs_int s' k t) noFill_list_mul F.fills_int_mul F.slot_int_rmul repeat_list F.slot_int_index.lookup
  (Je0 F.slot_int_rmul (typeIs_int s k t) F.entry_int_rmul (F.args_int_rmul_2 _ _) (int___rmul___int_list k t l its.toArray n)
   ⟨e,rfl,⟨_,e,rfl⟩,Je0 F.slot_list_mul ⟨_,e,rfl⟩ F.entry_list_mul (F.args_list_mul_2 _ _) (AutoListH.list___mul___list_int_3 l its.toArray n k t hfit hcap hlong) ⟨e,?_⟩⟩)
 rw [hnew];exact Zau (.ref _) _ ⟨I.lnew (t':=s.toks) (r.rep k.toNat) (by rw [len_rep,Nat.mul_comm]; exact hz),rfl,q _ I.fresh⟩
end
section
variable {prog:Program} {w:World} {A:Around} {E:Value->Shared->Prop} {s:Shared}
end
section
variable {X:Cx}
end
end L2
namespace Att
open PySem PySem.W PySem.Calls PyProof.Rows
theorem Zjc {P:Params} {h:Heap}:∀ (ns:List Int) (vs:List Value),WellAll P h vs (ns.map WData.int)->IntsAre vs ns:=by
 intro ns
 induction ns with
 | nil=>
  intro vs w;rw [List.map_nil] at w;cases w;exact .nil
 | cons n ns ih=>
  intro vs w;rw [Jew] at w;cases w with
  | cons a b=>
   cases a;exact .cons _ _ (ih _ b)
theorem Zqw {l:OpenLaw} {n:Nat} (hn:l.most = some n) {P:Params} {h:Heap} {args:List WData} {vals:List Value}
  (hpre:l.row.toRowW.claim.pre args = true) (hwl:WellAll P h vals args):
  ∃ a vs ns,vals = [Value.ref a]/\args = [WData.list (ns.map WData.int)]/\h.get? a = some { cls:=.type "list",data:=.seq vs.toArray }/\IntsAre vs ns/\ns.length<=n:=by
 have hsh:WShape.hasAll [] args [.list .int] = true:=(pre_splitW hpre).1;have hc:l.pre.holds [] { args:=args } = true:=(pre_splitW hpre).2;obtain ⟨d,r,rfl,h1,h2⟩:=hasAllW_cons hsh;obtain rfl:=hasAllW_nil h2;obtain ⟨xs,rfl,h3⟩:=hasW_list h1;obtain ⟨ns,rfl⟩:=items_int h3;have hlen:ns.length<=n:=by
  unfold OpenLaw.pre at hc;have h4:(WTm.not (.lt (.lit (.int (n:Int))) (.len (.arg 0)))).holds [] { args:=[.list (ns.map .int)] } = true:=by
   have h4:=(holds_andW hc).1;rw [hn] at h4;exact h4
  have h5:=condW_of h4 (w_not (w_lt w_lit (w_len_list (w_arg rfl))));rw [Jab] at h5;refine Nat.le_of_not_lt λq=>?_;have q':(n:Int) < ((ns.length:Nat):Int):=by omega
  first
   | (rw [Jaj q'] at h5; exact absurd h5 (by decide))
   | (simp at h5; omega)
 cases hwl with
 | cons w1 w2=>
  cases w2;cases w1 with
  | list ho hall=>exact ⟨_,_,ns,rfl,rfl,ho,Zjc ns _ hall,hlen⟩
theorem Zrb (l:OpenLaw) (args:List WData):l.row.toRowW.claim.post args (.bool true) args = true:=
 postW_of (r:=l.row.toRowW) (X:=(true == true))
  (show WShape.has [] (.bool true) .bool = true by first | rfl | decide | simp [WShape.has,WShape.arms,WShape.armsAll])
  (show (WTm.eq .res (.lit (.bool true))).value [] { args:=args,res:=some (.bool true),after:=args } = some (.bool (true == true)) from w_eq_bool (w_res rfl) w_lit) rfl
theorem attach_call {l:OpenLaw} {n:Nat} {q:Program} {loose:List Str} {XP:(Str->Option Value)->Heap->Prop} {YP:World->Heap->Prop} {d:DefRec}
  (hn:l.most = some n) (hdf:d.params.defaults = [])
  (call:∀ (w:World) (s₀ s₁:Shared) (mg mb:Str->Option Value) (fa:Addr) (o:Obj) (pm cd doc:Value) (a:Addr) (vs:List Value) (ns:List Int),
   Ground q loose [] XP w s₀ mg mb s₁.heap->YP w s₁.heap->
   s₁.heap.get? fa = some o->o.data = .func (docDef d.name d.params d.body d.scope pm cd doc)->s₁.heap.CodeRec cd d.name->mg d.name = some (.ref fa)->
   s₁.heap.get? a = some { cls:=.type "list",data:=.seq vs.toArray }->IntsAre vs ns->ns.length<=n->s₁.gens = #[]->
   codeAny (model l.prog w) callerA (.call (.ref fa) ⟨[.ref a],[]⟩) (λr s'=>r = .ok (.ret (.bool true))/\OldK s₁.heap s'.heap/\s'.os = s₁.os/\AllBare s'.gens) s₁):
  WalkO q loose XP YP l.row.toRowW d [] (λf vs=>PySem.call f vs):=by
 intro w s₀ s₁ mg mb G Y fa o pm cd doc dV kV ho hd hcd hD hmg hg args vals as hpre hlay hrd hwl hlo;obtain rfl:dV = .none:=Dflts.none hD hdf;obtain rfl:kV = .none:=Dflts.noKw hD;obtain ⟨a,vs,ns,rfl,rfl,hobj,hints,hlen⟩:=Zqw hn hpre hwl;refine enter_call (codeAny_mono (call w s₀ s₁ mg mb fa o pm cd doc a vs ns G Y ho (fd_plain hd) hcd hmg hobj hints hlen hg) λr s' hq=>?_);obtain ⟨rfl,h2,h3,h4⟩:=hq;exact ⟨.inl ⟨.bool true,.bool true,[],rfl,λ_=>rfl,.bool true,Zrb l _,λ_=>⟨List.Pairwise.nil,λ_ hm=>(nomatch hm)⟩⟩,h2,h3,h4⟩
section
variable {prog:Program} {w:World} {A:Around} {E:Value->Shared->Prop} {s:Shared} {K:Frag}
end
end Att
namespace L2
open PySem PySem.Spec PyProof.Rows
theorem Zlb:∀ {vs:List Value} {ns:List Int},IntsAre vs ns->Vals (ns.map V.int) vs
 | _,_,.nil=>.nil
 | _,_,.cons n t h=>.cons ⟨t,rfl⟩ (Zlb h)
end L2
namespace L2
open PySem PySem.Spec PyProof.Rows
def Zhm (s:Stmt) (j:Nat):Stmt:=match s with
 | .ClassDef _ _ _ body _ _ _ _ _ _ _=>body.getD j (.Pass ⟨0,0,0,0⟩)
 | _=>.Pass ⟨0,0,0,0⟩
def Zcq (s:Stmt):Arguments:=match s with
 | .FunctionDef _ a _ _ _ _ _ _ _ _=>a
 | _=>{ posonlyargs:=[],args:=[],vararg:=none,kwonlyargs:=[],kw_defaults:=[],kwarg:=none,defaults:=[] }
def Zb7 (s:Stmt):List Stmt:=match s with
 | .FunctionDef _ _ b _ _ _ _ _ _ _=>b
 | _=>[]
def Zaf (s:Stmt):Scope:=match s with
 | .FunctionDef _ _ _ _ _ _ sc _ _ _=>sc
 | _=>{ kind:=.function,names:=[],isGenerator:=false,isCoroutine:=false }
abbrev CX0:CXT:=λ_ _ _ _ _ _=>False
abbrev E0:XK:=λ_ _ _=>False
theorem Zui {X:Cx}:Zkd CX0 X E0:=λ_ _ _ _ _ _ _ h=>h.elim
structure Fun (K:PySem.W.Frag) (x qual:Str) (st:Stmt) (f:Addr) (fd:FuncData):Prop where
 ex:∃ (oc:Value) (od:Option Addr) (kV doc pm:Value) (an:Option Addr) (cdv ct:Value) (osl:Array (Option Value)),
  fd = PySem.W.fnOf x qual (Zcq st) (Zb7 st) (Zaf st) .none kV doc pm an cdv ct/\K.lookup f = some ⟨oc,od,.func fd,osl⟩/\PySem.W.codeIn K cdv qual = true
 kp:PySem.W.keepIn K (.ref f) = true
section
variable {P:Program} {w:World} {K:PySem.W.Frag} {mg:Str->Option Value} {base:Heap}
theorem Fun.ok {x qual:Str} {st:Stmt} {f:Addr} {fd:FuncData} {N ps:List Str} {k:Nat} {sp:Sp} (F:Fun K x qual st f fd) (S:FnScope N ps (Zaf st)) (len:∀ vs H Q E,sp vs H Q E->vs.length = ps.length)
  (hbody:∀ (cdv:Value) (A:Around) (outer:List Env) (s:Shared) (H:Hp) (vs:List V) (Q:VK) (E:XK),Room k (A.deeper (envOfC qual (Zaf st) s.heap.objs.size f cdv))->sp vs H Q E->
   ∃ t,PSs (Zvq CX0 P w K mg base N qual (Zaf st) f cdv A outer s H E).nox (Zb7 st) t/\t { nx:=λ_ H'=>Q .non H',rt:=Q } (start N vs) H):FnOk P w K mg base CX0 (k + 1) f fd ps sp:=by
 refine Zpx F.ex λoc od kV doc pm an cdv ct osl e9171 lk hcd=>?_;obtain rfl:=e9171;refine fn_of lk hcd S len λA outer s H vs Q E hr hsp=>?_;refine Zad (hbody cdv A outer s H vs Q E hr hsp) λt h q=>?_;exact ⟨t,h.nox,q⟩
theorem Fun.binds {x qual:Str} {st:Stmt} {f:Addr} {fd:FuncData} {ps:List Str} (F:Fun K x qual st f fd)
  (h:∀ (kV doc pm:Value) (an:Option Addr) (cdv ct:Value) (us:List Value),us.length = ps.length->bindArgs (PySem.W.fnOf x qual (Zcq st) (Zb7 st) (Zaf st) .none kV doc pm an cdv ct) ⟨us,[]⟩ = pure (ps.zip us)):Binds K fd ps []:=by
 refine Zpx F.ex λoc od kV doc pm an cdv ct osl e9172 lk hcd=>?_;obtain rfl:=e9172;exact .all (h kV doc pm an cdv ct)
theorem fun_mk {x qual:Str} {st:Stmt} {f:Addr} {oc:Value} {od an:Option Addr} {osl:Array (Option Value)} {kV doc pm cdv ct:Value} (l:K.lookup f = some ⟨oc,od,.func (PySem.W.fnOf x qual (Zcq st) (Zb7 st) (Zaf st) .none kV doc pm an cdv ct),osl⟩)
  (c:PySem.W.codeIn K cdv qual = true) (k:PySem.W.keepIn K (.ref f) = true):Fun K x qual st f (PySem.W.fnOf x qual (Zcq st) (Zb7 st) (Zaf st) .none kV doc pm an cdv ct):=⟨⟨oc,od,kV,doc,pm,an,cdv,ct,osl,rfl,l,c⟩,k⟩
end
theorem Zap {n:Nat} (h:n<=1000):n < sizeLine:=Jbk h (by decide)
section
variable {X:Cx}
theorem pv (i:Nat) {x:Str} {pos:Pos} (hN:X.N[i]? = some x:=by rfl) (hv:Vis X.env.scope x:=by first | exact Or.inl rfl | exact Or.inr (Or.inl rfl) | exact Or.inr (Or.inr rfl)) (hd:(x == ("__debug__" : Str)) = false:=by decide)
  (hcd:(x == ("__classdict__" : Str)) = false:=by decide):PE X (.Name x pos) (Zho i):=pe_var hN hv hd hcd
end
theorem iteF {A B:Prop} (h:B):if false = true then A else B:=by
 rw [if_neg Jau];exact h
theorem iteT {A B:Prop} (h:A):if true = true then A else B:=by
 rw [if_pos rfl];exact h
theorem Zbx {c A B:Prop} [Decidable c] (h1:c->A) (h2:¬ c->B):if c then A else B:=by
 by_cases h:c
 .rw [if_pos h];exact h1 h
 .rw [if_neg h];exact h2 h
def Same (H H':Hp):Prop:=∀ b o,H b = some o->H' b = some o
theorem Same.refl (H:Hp):Same H H:=λ_ _ h=>h
theorem Same.trans {H H1 H2:Hp} (a:Same H H1) (b:Same H1 H2):Same H H2:=λc o h=>b c o (a c o h)
theorem Same.free {H H':Hp} (e:Same H H') {l:Addr} (h:H' l = Option.none):H l = Option.none:=by
 cases q:H l with
 | none=>rfl
 | some o=>
  rw [e l o q] at h;cases h
theorem Same.seq {K:PySem.W.Frag} {H H':Hp} {a:Addr} {xs:List V} (e:Same H H') (h:SqL K H a xs):SqL K H' a xs:=by
 rcases h with (h | ⟨o,h⟩) | h
 .exact .inl (.inl (e _ _ h))
 .exact .inl (.inr ⟨o,e _ _ h⟩)
 .exact .inr h
theorem Zvt {x:Str} {c:Addr}:∀ (names:List (Str × NameKind)) (n:Nat) (acc:List (Str × Addr)),(cellsFrom n names acc).lookup x = some c->n<=c\/acc.lookup x = some c
 | [],_,_,h=>.inr h
 | (y,k) :: r,n,acc,h=>by
  unfold cellsFrom at h;split at h
  .rcases Zvt r (n + 1) _ h with z | z
   .exact .inl (Jco z)
   .rw [Ja5] at z;cases e:x == y with
    | true=>rw [e] at z; cases z; exact .inl (Jaf _)
    | false=>rw [e] at z; exact .inr z
  .exact Zvt r n acc h
theorem Zs0 {x:Str} {c:Addr}:∀ (names:List (Str × NameKind)) (n:Nat) (acc:List (Str × Addr)),(x,NameKind.cell) ∈ names->(cellsFrom n names acc).lookup x = some c->n<=c
 | [],_,_,m,_=>nomatch m
 | (y,k) :: r,n,acc,m,h=>by
  unfold cellsFrom at h;split at h
  .by_cases m':(x,NameKind.cell) ∈ r
   .exact Jco (Zs0 r (n + 1) _ m' h)
   .have e:(x,NameKind.cell) = (y,k):=(Jbp.mp m).resolve_right m';cases e;rcases Zvt r (n + 1) _ h with z | z
    .exact Jco z
    .rw [Ja5,beq_self_eq_true] at z;cases z;exact Jaf _
  .rename_i hk
   have m':(x,NameKind.cell) ∈ r:=by
    rcases Jbp.mp m with e | m'
    .cases e; exact absurd rfl hk
    .exact m'
   exact Zs0 r n acc m' h
theorem Zs1 {x:Str}:∀ {names:List (Str × NameKind)} {n:Nat} {acc:List (Str × Addr)},(x,NameKind.cell) ∉ names->(cellsFrom n names acc).lookup x = acc.lookup x
 | [],_,_,_=>rfl
 | (y,k) :: r,n,acc,h=>by
  unfold cellsFrom;have hr:(x,NameKind.cell) ∉ r:=λm=>h (Jbo _ m);split
  .rename_i hk
   have hy:(x == y) = false:=by
    cases e:x == y with
    | false=>rfl
    | true=>
     exfalso;refine h ?_;rw [Jbr.mp e,Jbr.mp hk];exact Jcb
   rw [Zs1 hr,Ja5,hy]
  .exact Zs1 hr
theorem Zs2:∀ (names:List (Str × NameKind)) (n:Nat) (acc:List (Str × Addr)),(∀ x c,acc.lookup x = some c->c < n)->(∀ x y c,acc.lookup x = some c->acc.lookup y = some c->x = y)->
  ∀ x y c,(cellsFrom n names acc).lookup x = some c->(cellsFrom n names acc).lookup y = some c->x = y
 | [],_,_,_,hi=>hi
 | (z,k) :: r,n,acc,hl,hi=>by
  unfold cellsFrom;split
  .refine Zs2 r (n + 1) _ (λx c h=>?_) (λx y c h1 h2=>?_)
   .rw [Ja5] at h;cases e:x == z with
    | true=>rw [e] at h; cases h; exact Jdp _
    | false=>rw [e] at h; exact Jcg (hl x c h)
   .rw [Ja5] at h1 h2;cases e1:x == z with
    | true=>
     rw [e1] at h1;cases h1;cases e2:y == z with
     | true=>rw [Jbr.mp e1,Jbr.mp e2]
     | false=>rw [e2] at h2; exact absurd (hl y _ h2) (Jb1 _)
    | false=>
     rw [e1] at h1;cases e2:y == z with
     | true=>rw [e2] at h2; cases h2; exact absurd (hl x _ h1) (Jb1 _)
     | false=>rw [e2] at h2; exact hi x y c h1 h2
  .exact Zs2 r n acc hl hi
theorem Znh {x:Str} {c:Addr}:∀ (names:List (Str × NameKind)) (h:Heap) (acc:List (Str × Addr)),(cellsFrom h.objs.size names acc).lookup x = some c->(pushCells h names).IsCell c none\/acc.lookup x = some c
 | [],_,_,z=>.inr z
 | (y,k) :: r,h,acc,z=>by
  unfold cellsFrom at z;unfold pushCells;split at z
  .rename_i hk
   rw [if_pos hk];have z':(cellsFrom (h.push { cls:=.type "cell",data:=.cell none }).objs.size r ((y,h.objs.size) :: acc)).lookup x = some c:=by rw [Jda]; exact z
   rcases Znh r _ _ z' with q | q
   .exact .inl q
   .rw [Ja5] at q;cases e:x == y with
    | true=>
     rw [e] at q;cases q;exact .inl ⟨_,pushCells_keeps _ _ _ _ (Ja6 _ rfl),rfl⟩
    | false=>rw [e] at q; exact .inr q
  .rename_i hk
   rw [if_neg hk];exact Znh r h acc z
theorem Zng {env:Env} (f:Str × NameKind->List (Str × Addr)->Sem (ForInStep (List (Str × Addr))))
  (hf:∀ name kind cs,f (name,kind) cs = if kind == .free then (do let a <- cellOf env name; pure (.yield ((name,a) :: cs))) else pure (.yield cs)):
  ∀ (names:List (Str × NameKind)) (acc:List (Str × Addr)),(∀ y ∈ names,y.2 = .free->∃ c,env.cells.lookup y.1 = some c)->(∀ x c,acc.lookup x = some c->env.cells.lookup x = some c)->
  ∃ cl,forIn names acc f = pure cl/\(∀ x c,cl.lookup x = some c->env.cells.lookup x = some c)/\(∀ y ∈ names,y.2 = .free->∃ c,cl.lookup y.1 = some c)/\∀ x c,acc.lookup x = some c->∃ c',cl.lookup x = some c'
 | [],acc,_,ha=>⟨acc,rfl,ha,(λ_ m=>nomatch m),λx c e=>⟨c,e⟩⟩
 | (y,k) :: r,acc,h,ha=>by
  rw [List.forIn_cons,hf];have hr:∀ y ∈ r,y.2 = NameKind.free->∃ c,env.cells.lookup y.1 = some c:=λz m=>h z (Jbo _ m);by_cases hk:(k == NameKind.free) = true
  .obtain ⟨c,hc⟩:=h (y,k) Jcb (Jbr.mp hk);have e:cellOf env y = pure c:=by unfold cellOf; rw [hc]
   rw [if_pos hk,e,pure_bind,pure_bind];have ha':∀ x d,((y,c) :: acc).lookup x = some d->env.cells.lookup x = some d:=λx d e=>by
    rw [Ja5] at e;cases e1:x == y with
    | true=>rw [e1] at e; cases e; rw [Jbr.mp e1]; exact hc
    | false=>rw [e1] at e; exact ha x d e
   refine xE1_4 (Zng f hf r ((y,c) :: acc) hr ha') λcl q1 q2 q3 q4=>?_;refine ⟨cl,q1,q2,λz m hz=>?_,λx d e=>?_⟩
   .rcases Jbp.mp m with e | m
    .subst e;exact q4 y c (by rw [Ja5,beq_self_eq_true])
    .exact q3 z m hz
   .by_cases e1:(x == y) = true
    .exact q4 x c (by rw [Ja5,e1])
    .exact q4 x d (by rw [Ja5]; simp only [e1]; exact e)
  .rw [if_neg hk,pure_bind];refine xE1_4 (Zng f hf r acc hr ha) λcl q1 q2 q3 q4=>?_;refine ⟨cl,q1,q2,λz m hz=>?_,q4⟩;rcases Jbp.mp m with e | m
   .subst e; exact absurd (Jbr.mpr hz) hk
   .exact q3 z m hz
theorem Znf {scope:Scope} {env:Env} (h:∀ y ∈ scope.names,y.2 = .free->∃ c,env.cells.lookup y.1 = some c):
  ∃ cl,closureFor scope env = pure cl/\(∀ x c,cl.lookup x = some c->env.cells.lookup x = some c)/\∀ y ∈ scope.names,y.2 = .free->∃ c,cl.lookup y.1 = some c:=by
 obtain ⟨cl,q1,q2,q3,_⟩:=Zng (env:=env) (λx cs=>if x.2 == .free then (do let a <- cellOf env x.1; pure (.yield ((x.1,a) :: cs))) else pure (.yield cs)) (λ_ _ _=>rfl) scope.names [] h (λ_ _ e=>nomatch e);refine ⟨cl,?_,q2,q3⟩;unfold closureFor;have e:(λ(x:Str × NameKind) (r:List (Str × Addr))=>(match x with
   | (name,kind)=>if (kind == NameKind.free) = true then (do let __do_lift <- cellOf env name; pure (ForInStep.yield ((name,__do_lift) :: r))) else pure (ForInStep.yield r):Sem (ForInStep (List (Str × Addr))))) =
   λx cs=>if x.2 == .free then (do let a <- cellOf env x.1; pure (.yield ((x.1,a) :: cs))) else pure (.yield cs):=by
  funext x cs
  rfl
 have q:(forIn scope.names ([]:List (Str × Addr)) λ(x:Str × NameKind) (r:List (Str × Addr))=>(match x with
   | (name,kind)=>if (kind == NameKind.free) = true then (do let __do_lift <- cellOf env name; pure (ForInStep.yield ((name,__do_lift) :: r))) else pure (ForInStep.yield r):Sem (ForInStep (List (Str × Addr))))) = pure cl:=by
  rw [e]; exact q1
 simpa using q
theorem Zlt {M:Model} {A:Around} {E:Value->Shared->Prop} {s:Shared} {scope:Scope} {globals:Addr} {cl:List (Str × Addr)} {qual:Str} {env:Env} {Q:Env->Shared->Prop}
  (hQ:∀ h',h'.Ns s.heap.objs.size (λ_=>none)->(∀ b o,s.heap.get? b = some o->h'.get? b = some o)->
   (∀ x c,(cellsFrom (s.heap.objs.size + 1) scope.names cl).lookup x = some c->h'.IsCell c none\/cl.lookup x = some c)->
   Q { scope,locals:=s.heap.objs.size,globals,cells:=cellsFrom (s.heap.objs.size + 1) scope.names cl,qual,func:=none,code:=env.code,frame:=env.frame,builtins:=env.builtins } { s with heap:=h' }):
  wpAny M A (newFunctionEnv scope globals cl [] qual none .none (some env)) Q E s:=by
 simp only [newFunctionEnv,Option.isSome_some,Jcy];refine Jas (wpAny_alloc ?_);refine Jas (wpAny_layCells _ (λname kind cells=>by cases hkc:kind == NameKind.cell <;> simp [hkc]) _ _ _ _ ?_);have hsz:(s.heap.push { cls:=.type "dict",data:=.dict #[] }).objs.size = s.heap.objs.size + 1:=Jda ..;have q:=hQ (pushCells (s.heap.push { cls:=.type "dict",data:=.dict #[] }) scope.names) ((Heap.Ns.new s.heap (.type "dict")).keeps (pushCells_keeps _ _)) (λb o e=>pushCells_keeps _ _ b o (Jak _ e))
  (λx c e=>Znh scope.names (s.heap.push { cls:=.type "dict",data:=.dict #[] }) cl (by rw [hsz]; exact e))
 show wpAny _ _ _ _ _ _;rw [show ({ s with heap:=s.heap.push { cls:=.type "dict",data:=.dict #[] } }:Shared).heap.objs.size = s.heap.objs.size + 1 from hsz];exact Jas (Jbj (Jbj q))
theorem Zh2 {env:Env} {x:Str}:∀ {names:List (Str × NameKind)},names.lookup x = some .free->
  (names.map λ(n,k)=>if (k == NameKind.free && env.scope.kind == .function && env.kindOf n == some .cell) then (n,NameKind.cell) else (n,k)).lookup x = some .cell \/
  (names.map λ(n,k)=>if (k == NameKind.free && env.scope.kind == .function && env.kindOf n == some .cell) then (n,NameKind.cell) else (n,k)).lookup x = some .free
 | [],h=>by simp at h
 | (n,k) :: r,h=>by
  have ih:=@Zh2 env x r;show List.lookup x ((if (k == NameKind.free && env.scope.kind == .function && env.kindOf n == some .cell) = true then (n,NameKind.cell) else (n,k)) :: _) = _\/List.lookup x ((if (k == NameKind.free && env.scope.kind == .function && env.kindOf n == some .cell) = true then (n,NameKind.cell) else (n,k)) :: _) = _;cases hx:x == n with
  | true=>
   simp only [Ja5,hx] at h;cases h;split <;> simp [Ja5,hx]
  | false=>
   simp only [Ja5,hx] at h;split <;> (simp only [Ja5,hx]; exact ih h)
theorem Zfe {env:Env} {x:Str} {kd:NameKind}:∀ {names:List (Str × NameKind)},
  (names.map λ(n,k)=>if (k == NameKind.free && env.scope.kind == .function && env.kindOf n == some .cell) then (n,NameKind.cell) else (n,k)).lookup x = some kd->
  names.lookup x = some kd\/names.lookup x = some .free
 | [],h=>by simp at h
 | (n,k) :: r,h=>by
  have ih:=@Zfe env x kd r;have h':List.lookup x ((if (k == NameKind.free && env.scope.kind == .function && env.kindOf n == some .cell) = true then (n,NameKind.cell) else (n,k)) :: (r.map λ(n,k)=>if (k == NameKind.free && env.scope.kind == .function && env.kindOf n == some .cell) then (n,NameKind.cell) else (n,k))) = some kd:=h;cases hx:x == n with
  | true=>
   by_cases hc:(k == NameKind.free && env.scope.kind == .function && env.kindOf n == some .cell) = true
   .have hk:k = .free:=by
     have:=(Jce _ _ ▸ (Jce _ _ ▸ hc).1).1;exact Jbr.mp this
    subst hk;exact .inr (by simp [Ja5,hx])
   .rw [if_neg hc] at h';simp only [Ja5,hx] at h';cases h';exact .inl (by simp [Ja5,hx])
  | false=>
   have h2:List.lookup x (r.map λ(n,k)=>if (k == NameKind.free && env.scope.kind == .function && env.kindOf n == some .cell) then (n,NameKind.cell) else (n,k)) = some kd:=by
    split at h' <;> simpa only [Ja5,hx] using h'
   rcases ih h2 with z | z
   .exact .inl (by simp only [Ja5,hx]; exact z)
   .exact .inr (by simp only [Ja5,hx]; exact z)
def Zk3 (X:Cx) (N:List Str) (scope:Scope) (cl:List (Str × Addr)) (s:Shared) (H:Hp) (fp:List Addr):Cx where
 prog:=X.prog
 w:=X.w
 K:=X.K
 mg:=X.mg
 base:=X.base
 A:=X.A
 N:=N
 s₀:=s
 H₀:=H
 env:={ scope:=relabel scope X.env,locals:=s.heap.objs.size,globals:=X.env.globals,cells:=cellsFrom (s.heap.objs.size + 1) scope.names cl,qual:=X.env.qual,func:=none,code:=X.env.code,frame:=X.env.frame,builtins:=X.env.builtins }
 outer:=X.stack
 stack:=X.stack
 ex:=fp
 fn:=λx=>scope.names.lookup x == some .cell
 calm:=X.calm
 pn:=[]
 xe:=λ_ _=>False
structure BlScope (X:Cx) (scope:Scope) (own:List Str) (fr:List (Str × Nat)):Prop where
 kind:scope.kind = .function
 free:∀ y ∈ scope.names,y.2 = .free->X.env.scope.names.lookup y.1 = some .cell\/X.env.scope.names.lookup y.1 = some .free
 loc:∀ y ∈ scope.names,y.2 = .local->scope.names.lookup y.1 = some .local
 look:∀ y ∈ scope.names,scope.names.lookup y.1 = some y.2
 cap:∀ y ∈ fr,scope.names.lookup y.1 = some .free/\X.N[y.2]? = some y.1
def Zh8 (k:Nat) (fr:List (Str × Nat)) (σ:St):St:=List.replicate k none ++ fr.map λy=>(σ[y.2]?).getD none
def Zjn (own:List Str) (fr:List (Str × Nat)):List Str:=own ++ fr.map (·.1)
section
variable {X:Cx} {pins:List (Addr × Obj)} {σ:St} {H:Hp} {s:Shared}
theorem Zr7 {scope:Scope} {own:List Str} {fr:List (Str × Nat)} {cl:List (Str × Addr)} {fp:List Addr} {h':Heap} (I:Inv X pins σ H s) (B:BlScope X scope own fr)
  (hcl:∀ x c,cl.lookup x = some c->X.env.cells.lookup x = some c) (hcl2:∀ y ∈ scope.names,y.2 = .free->∃ c,cl.lookup y.1 = some c)
  (hfp:∀ b ∈ fp,FpOk X pins H b) (hfo:∀ b ∈ fp,∃ o,s.heap.get? b = some o)
  (hn:h'.Ns s.heap.objs.size (λ_=>none)) (hk:∀ b o,s.heap.get? b = some o->h'.get? b = some o)
  (hc:∀ x c,(cellsFrom (s.heap.objs.size + 1) scope.names cl).lookup x = some c->h'.IsCell c none\/cl.lookup x = some c):
  Inv (Zk3 X (Zjn own fr) scope cl s H fp) [] (Zh8 own.length fr σ) H { s with heap:=h' }:=by
 have clt:∀ x c,cl.lookup x = some c->c < s.heap.objs.size:=λx c e=>by
  obtain ⟨v,z⟩:=I.cell x c (hcl x c e);exact z.lt
 have ownC:∀ x c,(cellsFrom (s.heap.objs.size + 1) scope.names cl).lookup x = some c->s.heap.objs.size + 1<=c\/cl.lookup x = some c:=λx c e=>Zvt _ _ _ e;have bsz:X.base.objs.size<=s.heap.objs.size:=Jav I.ok.bsz I.sz;refine ⟨⟨I.ok.mod,B.kind,I.ok.glob,I.ok.blt,Jaf _,?_,?_,?_,I.ok.hd,I.ok.frames,.inl rfl,?_,I.bs,bsz,?_,?_,I.stack,I.stkFree,I.ok.top⟩,rfl,I.bare,Un.kept hk,⟨_,hn,?_⟩,?_,I.hok.fresh (Jaf _),?_,?_,I.hok.kept hk,?_⟩
 .exact Zs2 _ _ _ (λx c e=>Jcg (clt x c e)) λx y c e1 e2=>I.ok.inj x y c (hcl x c e1) (hcl y c e2)
 .intro x hx;have hx:(relabel scope X.env).names.lookup x = some .cell\/(relabel scope X.env).names.lookup x = some .free:=hx;have q:scope.names.lookup x = some .cell\/scope.names.lookup x = some .free:=by
   rcases hx with z | z
   .exact Zfe z
   .exact (Zfe z).elim .inr .inr
  refine Jds.mp (Jdd scope.names _ _ ?_);rcases q with z | z
  .exact .inl z
  .obtain ⟨c,e⟩:=hcl2 _ (Jbh z) rfl;exact .inr (by rw [e]; rfl)
 .intro x c hf e;have hf:(scope.names.lookup x == some .cell) = true:=hf;exact Jco (Zs0 _ _ _ (Jbh (Jbr.mp hf)) e)
 .intro b hb;obtain ⟨o,ho⟩:=hfo b hb;refine ⟨Jbe (Jam ho),λx c e=>?_⟩;rcases ownC x c e with z | z
  .intro q;subst q;exact absurd (Jaw (Jam ho) (Jco z)) (Jb1 _)
  .exact (hfp b hb).2.2.2.2.1 x c (hcl x c z)
 .intro b o e hb;rcases (hfp b hb).2.2.2.1 with z | z
  .exact I.ok.noex b o e z
  .exact absurd (Jaw (Jam e) (Jav I.ok.bsz z)) (Jb1 _)
 .intro b hb z;rcases Jbp.mp (I.stkSub b z) with q | q
  .exact (hfp b hb).2.1 q
  .exact (hfp b hb).2.2.1 q
 .intro i x v h1 h2 h3;have h1:(Zjn own fr)[i]? = some x:=h1;unfold Zjn at h1;unfold Zh8 at h2;by_cases hi:i < own.length
  .rw [Jar (by rw [Jbg]; exact hi),Jc4,if_pos hi] at h2;cases h2
  .have hi':own.length<=i:=Nat.le_of_not_lt hi;rw [Jao hi',Jah] at h1;rw [Jao (by rw [Jbg]; exact hi'),Jbg,Jah] at h2;cases e:fr[i - own.length]? with
   | none=>rw [e] at h1; cases h1
   | some y=>
    rw [e] at h1 h2;have hy1:y.1 = x:=Jbd h1;have hy2:(σ[y.2]?).getD none = some v:=Jbd h2;obtain ⟨c1,c2⟩:=B.cap y (Jad e);rw [hy1] at c1 c2;have hs:σ[y.2]? = some (some v):=by
     cases e2:σ[y.2]? with
     | none=>rw [e2] at hy2; cases hy2
     | some o=>rw [e2] at hy2; cases o with
      | none=>cases hy2
      | some w=>cases hy2; rfl
    refine Zad I.loc λm hm hl=>?_;have hfree:=B.free _ (Jbh c1) rfl;refine Zad (hl y.2 x v c2 hs (hfree.elim (λz=>.inr (.inl z)) λz=>.inr (.inr z))) λu r l=>?_;refine ⟨u,r,?_⟩;obtain ⟨k,c,e3,z⟩:(X.env.kindOf x = some .cell\/X.env.kindOf x = some .free)/\∃ c,X.env.cells.lookup x = some c/\s.heap.IsCell c (some u):=by
     rcases l with ⟨k,_⟩ | q
     .have k:X.env.scope.names.lookup x = some .local:=k;rcases hfree with z | z <;> (rw [z] at k; cases k)
     .exact q
    obtain ⟨d,hd⟩:=hcl2 _ (Jbh c1) rfl;have hd':=hcl x d hd;rw [e3] at hd';cases hd';obtain ⟨c',hc'⟩:∃ c',(cellsFrom (s.heap.objs.size + 1) scope.names cl).lookup x = some c':=Jds.mp (Jdd scope.names _ _ (.inr (by rw [hd]; rfl)));have hcc:c' = c:=by
     rcases ownC x c' hc' with q | q
     .-- an own cell of that name: it is free,so no
      exfalso;have:(x,NameKind.cell) ∉ scope.names:=λm=>by
       have:=B.look _ m;rw [c1] at this;cases this
      exact absurd hc' (by
       rw [Zs1 this];intro z;rw [hd] at z;cases z;exact absurd (clt x _ hd) (Nat.not_lt.mpr (Jco q)))
     .rw [hd] at q; cases q; rfl
    subst hcc;refine .inr ⟨?_,c',hc',z.keeps hk⟩;exact Zh2 c1
 .intro x c e;rcases hc x c e with z | z
  .exact ⟨_,z⟩
  .obtain ⟨v,q⟩:=I.cell x c (hcl x c z);exact ⟨v,q.keeps hk⟩
 .intro x c e;rcases ownC x c e with z | z
  .exact I.hok.fresh (Jco z)
  .exact I.freeC x c (hcl x c z)
 .intro p hp;exact absurd (show p ∈ ([]:List (Addr × Obj)) from hp) (by simp)
 .show (Zh8 _ _ _).length = (Zjn _ _).length;unfold Zh8 Zjn;simp
end
def PTs (X:Cx) (ifs:List Expr) (t:TT):Prop:=
 ∀ (pins:List (Addr × Obj)) (s:Shared) (σ:St) (H:Hp) (Q:Bool->Hp->Prop),Inv X pins σ H s->t σ H Q->
  wpAny (model X.prog X.w) X.A (forIn ifs true λc r=>if r = true then do let ok <- isTrue c X.env (eval c X.env); pure (ForInStep.yield ok) else pure (ForInStep.yield r)) (TP X pins σ Q) X.xe s
def Zgj:TT:=λ_ H Q=>Q true H
theorem Zbb {X:Cx}:PTs X [] Zgj:=λpins s σ H Q I h=>wpAny_tests_nil ⟨H,I,h⟩
theorem Zq7 {X:Cx} {c:Expr} {t:TT} (hc:PT X c t):PTs X [c] t:=λpins s σ H Q I h=>wpAny_tests_one (hc pins s σ H Q I h)
section
variable {prog:Program} {w:World} {A:Around} {R:Result->Shared->Prop} {s:Shared}
theorem Zl8 {elt target iter:Expr} {ifs:List Expr} {scope:Scope} {pos:Pos} {it acc:Value} {env:Env} (I:Nat->Shared->Prop)
  (turn:∀ n s,I n s->wpAny (model prog w) A (pyNext it) (λr s₁=>match r with
   | none=>R (.ok .next) s₁
   | some v=>wpAny (model prog w) A (letOwnedTupleGo target it v) (λ_ s₁=>wpAny (model prog w) A (assign target env v) (λ_ s₂=>
     wpAny (model prog w) A (forIn ifs true λc r=>if r = true then do let ok <- isTrue c env (eval c env); pure (ForInStep.yield ok) else pure (ForInStep.yield r)) (λok s₃=>
      if ok = true then wpAny (model prog w) A (eval elt env) (λx s₄=>
       wpAny (model prog w) A (call (.builtin "list.append") [acc,x]) (λ_ s₅=>∃ m,m < n/\I m s₅) (λ_ _=>False) s₄) (λ_ _=>False) s₃
      else ∃ m,m < n/\I m s₃) (λ_ _=>False) s₂) (λ_ _=>False) s₁) (λ_ _=>False) s₁) (λ_ _=>False) s)
  (n:Nat) (h:I n s):
  codeAny (model prog w) A (.compLoop (.ListComp elt [⟨target,iter,ifs,0⟩] scope pos) 0 it acc env) R s:=by
 refine codeAny_loop rfl I (λn s hI=>?_) n h;show wpAny _ A ((compTurn (.ListComp elt [⟨target,iter,ifs,0⟩] scope pos) 0 it acc env).onRaise (λx=>do noteFrame x env; theTreesLotGoes x)) _ _ s;refine wpAny_noted ?_;rw [compTurn_list];refine Jas (Jeu (Jas (Jcs (turn n s hI) (λr s₁ h₁=>?_) λ_ _ h'=>h'.elim)));cases r with
 | none=>exact Jbj h₁
 | some v=>
  refine Jas (Jcs h₁ (λ_ s₁' h₁'=>?_) λ_ _ h'=>h'.elim);refine Jas (Jcs h₁' (λ_ s₂ h₂=>Jas (Jcs h₂ (λok s₃ h₃=>?_) λ_ _ h'=>h'.elim)) λ_ _ h'=>h'.elim);cases ok with
  | false=>exact Jbj ⟨rfl,h₃⟩
  | true=>
   exact Jas (Jas (Jcs h₃ (λx s₄ h₄=>Jas (Jcs h₄ (λ_ s₅ h₅=>Jbj (Jbj ⟨rfl,h₅⟩)) λ_ _ h'=>h'.elim)) λ_ _ h'=>h'.elim))
end
def Zb9 (g:TG) (tt:TT) (te:TE) (J:It) (D:Addr) (σ0:St) (H1:Hp) (Q:VK):Prop:=
 ∃ W:Nat->Nat->St->Hp->Prop,(∃ m,W 0 m σ0 (upd H1 D (.lst [])))/\∀ i m σ' H2,W i m σ' H2->
  (J.stop i H2/\Q (.ref D) H2)\/(J.go i H2/\∀ x H3,J.yld i H2 x H3->g x σ' H3 λσ4 H4=>tt σ4 H4 λb H5=>
   if b = true then te σ4 H5 λy H6=>∃ vs,H6 D = some (.lst vs)/\vs.length < sizeLine/\∃ m',m' < m/\W (i + 1) m' σ4 (upd H6 D (.lst (vs ++ [y])))
   else ∃ m',m' < m/\W (i + 1) m' σ4 H5)
def tComp (k:Nat) (fr:List (Str × Nat)) (wi:TI) (g:TG) (tt:TT) (te:TE):TE:=λσ H Q=>wi σ H λJ H1=>∀ D,H1 D = none->Zb9 g tt te J D (Zh8 k fr σ) H1 Q
section
variable {X:Cx} {tg iter elt:Expr} {ifs:List Expr} {scope:Scope} {pos:Pos} {own:List Str} {fr:List (Str × Nat)} {wi:TI} {g:TG} {tt:TT} {te:TE}
theorem Zou {pins:List (Addr × Obj)} {s2:Shared} {σ:St} {H2:Hp} {it:Addr} {fp:List Addr} {tn:Nat->Heap->Prop} {J:It} {Q:VK} {cl:List (Str × Addr)} {RR:Value->Addr->Result->Shared->Prop} {E:Value->Shared->Prop}
  (hc:X.calm = true) (B:BlScope X scope own fr)
  (hb:∀ cl s H fp,PG (Zk3 X (Zjn own fr) scope cl s H fp) tg g/\PTs (Zk3 X (Zjn own fr) scope cl s H fp) ifs tt/\PE (Zk3 X (Zjn own fr) scope cl s H fp) elt te)
  (hcl:∀ x c,cl.lookup x = some c->X.env.cells.lookup x = some c) (hcl2:∀ y ∈ scope.names,y.2 = .free->∃ c,cl.lookup y.1 = some c)
  (I2:Inv X pins σ H2 s2) (T:Turn X.prog X.w X.K tg J fp it tn) (st2:tn 0 s2.heap) (f2:∀ b ∈ fp,FpOk X pins H2 b) (q:∀ D,H2 D = none->Zb9 g tt te J D (Zh8 own.length fr σ) H2 Q)
  (hRR:∀ D C s' H',Inv X pins σ H' s'->Q (.ref D) H'->(∃ m,s'.heap.Ns C m)->C ≠ X.env.locals->(∀ x c,X.env.cells.lookup x = some c->c ≠ C)->(∀ p ∈ X.pn ++ pins,p.1 ≠ C)->X.s₀.heap.objs.size<=C->H' C = none->RR (.ref D) C (.ok .next) s'):
  wpAny (model X.prog X.w) X.A (newList []) (λacc s₃=>wpAny (model X.prog X.w) X.A (newFunctionEnv scope X.env.globals cl [] X.env.qual none .none (some X.env)) (λcenv s₄=>
   codeAny (model X.prog X.w) X.A (.compStart (.ListComp elt [⟨tg,iter,ifs,0⟩] scope pos) 0 (.ref it) acc { cenv with scope:=relabel scope X.env }) (RR acc cenv.locals) s₄) E s₃) E s2:=by
 refine wpAny_newObj_type ?_;have fr0:H2 s2.heap.objs.size = none:=I2.hok.fresh (Jaf _);have I3:=I2.lnew (its:=[]) (ys:=[]) (t':=s2.toks) .nil (Jb2 _);generalize hs3:({ s2 with heap:=s2.heap.push { cls:=.type "list",data:=.seq ([]:List Value).toArray } }:Shared) = s3 at *;have k23:∀ b o,s2.heap.get? b = some o->s3.heap.get? b = some o:=λb o e=>by rw [<- hs3]; exact Jak _ e
 have sz3:s3.heap.objs.size = s2.heap.objs.size + 1:=by rw [<- hs3]; exact Jda ..
 have I3':Inv X pins σ (upd H2 s2.heap.objs.size (.lst [])) s3:=I3;have fne:∀ b ∈ fp,b ≠ s2.heap.objs.size:=λb hb z=>by
  refine Zad (T.obj 0 _ st2 b hb) λo ho _=>?_;exact absurd (Jam ho) (by rw [z]; exact Jb1 _)
 have f3:∀ b ∈ fp,FpOk X pins (upd H2 s2.heap.objs.size (.lst [])) b:=λb hb=>⟨by rw [Zah (fne b hb)]; exact (f2 b hb).1,(f2 b hb).2⟩
 have st3:tn 0 s3.heap:=T.keep 0 _ _ st2 λb _ o e=>k23 b o e;have hfo:∀ b ∈ fp,∃ o,s3.heap.get? b = some o:=λb hb=>let ⟨o,ho,_⟩:=T.obj 0 _ st3 b hb; ⟨o,ho⟩;refine Zlt λh' hn hk hce=>?_;have I4:=Zr7 (own:=own) I3' B hcl hcl2 f3 hfo hn hk hce;refine Za9 (hb cl s3 (upd H2 s2.heap.objs.size (.lst [])) fp) λhg ht he=>?_;have st4:tn 0 h':=T.keep 0 _ _ st3 λb _ o e=>hk b o e;have stat:∀ {H':Hp},(∀ b ∈ fp,H' b = none)->∀ b ∈ fp,FpOk (Zk3 X (Zjn own fr) scope cl s3 (upd H2 s2.heap.objs.size (.lst [])) fp) [] H' b:=λ{H'} hnn b hb=>
  ⟨hnn b hb,(I4.ok.exf b hb).1,I4.ok.exfs b hb,.inl hb,(I4.ok.exf b hb).2,λp hp=>absurd (show p ∈ ([]:List (Addr × Obj)) from hp) (by simp)⟩
 refine Zad (q s2.heap.objs.size fr0) λW e92 turn=>?_;obtain ⟨m0,w0⟩:=e92;have loop:codeAny (model X.prog X.w) X.A (.compLoop (.ListComp elt [⟨tg,iter,ifs,0⟩] scope pos) 0 (.ref it) (.ref s2.heap.objs.size) (Zk3 X (Zjn own fr) scope cl s3 (upd H2 s2.heap.objs.size (.lst [])) fp).env)
   (RR (.ref s2.heap.objs.size) s3.heap.objs.size) { s3 with heap:=h' }:=by
  refine Zl8 (λn s'=>∃ i σ' H',Inv (Zk3 X (Zjn own fr) scope cl s3 (upd H2 s2.heap.objs.size (.lst [])) fp) [] σ' H' s'/\tn i s'.heap/\(∀ b ∈ fp,H' b = none)/\W i n σ' H') ?_ m0
   ⟨0,_,_,I4,st4,λb hb=>(f3 b hb).1,w0⟩
  intro n s5 e91;refine Zbj e91 λi σ5 H5 I5 st5 fr5 w5=>?_;clear e91;rcases turn i n σ5 H5 w5 with ⟨stop,qn⟩ | ⟨go,step⟩
  .refine thn (T.done (Zk3 X (Zjn own fr) scope cl s3 (upd H2 s2.heap.objs.size (.lst [])) fp) rfl rfl rfl hc i [] s5 σ5 H5 _ I5 (stat fr5) st5 stop) λr s6 ⟨hr,I6⟩=>?_;subst hr;have I7:Inv X pins σ H5 s6:=I3'.call' (ch:=fp) I6.os I6.base I6.hok I6.bare λb hb=>⟨(f3 b hb).2.2.2.1,(f3 b hb).2.1,(f3 b hb).2.2.2.2.1,(f3 b hb).2.2.2.2.2⟩
   refine Zad I6.loc λm6 hn6 _=>?_;refine hRR _ _ s6 H5 I7 qn ⟨m6,hn6⟩ (Jei I3'.lt) (λx c e=>?_) (λp hp=>?_) I3'.sz I6.free
   .obtain ⟨v,z⟩:=I3'.cell x c e;exact Jbe z.lt
   .exact Jbe (Jam (I3'.pin p hp).1)
  .refine thn (T.item (Zk3 X (Zjn own fr) scope cl s3 (upd H2 s2.heap.objs.size (.lst [])) fp) rfl rfl rfl hc i [] s5 σ5 H5 _ I5 (stat fr5) st5 go) λr s6 ⟨u,hr,h6⟩=>?_;subst hr;refine thn h6 λ_ s7 ⟨x,H7,I7,r7,y7,st7,fr7⟩=>?_;have I7':=I7.pinned (stat fr7) (T.obj _ _ st7);refine thn (hg _ s7 σ5 H7 x u _ I7' r7 (step x H7 y7)) λ_ s8 ⟨σ8,H8,I8,q8⟩=>?_;refine thn (ht _ s8 σ8 H8 _ I8 q8) λb s9 ⟨H9,I9,q9⟩=>?_;have again:∀ {sA:Shared} {σA:St} {HA:Hp} {m':Nat},Inv (Zk3 X (Zjn own fr) scope cl s3 (upd H2 s2.heap.objs.size (.lst [])) fp) ([] ++ Zlo fp s7.heap) σA HA sA->m' < n->W (i + 1) m' σA HA->
     ∃ m,m < n/\∃ i σ' H',Inv (Zk3 X (Zjn own fr) scope cl s3 (upd H2 s2.heap.objs.size (.lst [])) fp) [] σ' H' sA/\tn i sA.heap/\(∀ b ∈ fp,H' b = none)/\W i m σ' H':=λ{sA σA HA m'} IA hm wA=>by
    refine ⟨m',hm,i + 1,σA,HA,IA.unpinned,T.keep _ _ _ st7 λb hb o e=>(IA.pin (b,o) (Jbf _ (Jbf _ (Zdz hb e)))).1,λb hb=>?_,wA⟩;refine Zad (T.obj _ _ st7 b hb) λo e d=>?_;exact (IA.pin (b,o) (Jbf _ (Jbf _ (Zdz hb e)))).2.1
   cases b with
   | false=>
    refine Zad q9 λm' hm w9=>?_;clear q9;exact again I9 hm w9
   | true=>
    have q9:te σ8 H9 _:=q9;show wpAny _ _ _ _ _ _;refine thn (he _ s9 σ8 H9 _ I9 q9) λy sA ⟨vy,HA,IA,rA,vs,hvs,hlen,m',hm,wA⟩=>?_;refine thn (Zba (X:=Zk3 X (Zjn own fr) scope cl s3 (upd H2 s2.heap.objs.size (.lst [])) fp) _ sA σ8 HA (.ref s2.heap.objs.size) [vy] (.ref s2.heap.objs.size) [y] (λ_ HB=>W (i + 1) m' σ8 HB) IA rfl (.cons rA .nil) ⟨_,vs,vy,rfl,rfl,hvs,hlen,wA⟩) λ_ sB ⟨_,HB,IB,_,wB⟩=>?_;exact again IB hm wB
 exact codeAny_compStart_list loop (T.self _ 0 _ _ _ st4 loop)
theorem SameBut.get {a:Addr} {h h':Heap} (x:Heap.SameBut a h h'):∀ b o,b ≠ a->h.get? b = some o->h'.get? b = some o:=λb o n e=>(x.2 b n).trans e
theorem Zbf (hc:X.calm = true) (B:BlScope X scope own fr) (hi:PI X tg iter wi)
  (hb:∀ cl s H fp,PG (Zk3 X (Zjn own fr) scope cl s H fp) tg g/\PTs (Zk3 X (Zjn own fr) scope cl s H fp) ifs tt/\PE (Zk3 X (Zjn own fr) scope cl s H fp) elt te)
  (hs:∀ x,foldedSetIterable iter X.env x = pure x:=by intro _; rfl):
  PE X (.ListComp elt [⟨tg,iter,ifs,0⟩] scope pos) (tComp own.length fr wi g tt te):=by
 intro pins s σ H Q I h;refine Zav (Znf (scope:=scope) (env:=X.env) λy hy hf=>I.ok.has y.1 (B.free y hy hf)) λcl hclos hcl hcl2=>?_;rw [eval_ListComp];refine wpAny_comprehension_free (use:=none) rfl hs hclos B.kind B.loc (thn (hi pins s σ H _ I h) λv s1 h1=>thn h1 λitv s2 h2=>?_);refine Zgh h2 λit fp tn J H2 e I2 T e93=>?_;clear h2;refine Za9 e93 λst2 f2 q=>?_;clear e93;subst e;refine Zou (RR:=λacc C=>compPost (model X.prog X.w) X.A X.xe none (EP X pins σ Q) acc C) (Q:=Q) hc B hb hcl hcl2 I2 T st2 f2 q ?_;intro D C s' H' I' hq hn n1 n2 n3 n4 n5;obtain ⟨m,hn⟩:=hn;refine ⟨m,hn,λh' hs'=>⟨.ref D,H',I'.turned (it:=C) (t':=s'.toks) (λb o hb e=>SameBut.get hs' b o hb e) n5 (Jdr (Jdr n1)) (.inr n4) n2 n3,rfl,hq⟩⟩
theorem Zhf {i:Nat} {x:Str} {pos' spos:Pos} (hc:X.calm = true) (B:BlScope X scope own fr) (hi:PI X tg iter wi)
  (hb:∀ cl s H fp,PG (Zk3 X (Zjn own fr) scope cl s H fp) tg g/\PTs (Zk3 X (Zjn own fr) scope cl s H fp) ifs tt/\PE (Zk3 X (Zjn own fr) scope cl s H fp) elt te)
  (hN:X.N.Nodup) (hix:X.N[i]? = some x) (hx:X.env.scope.names.lookup x = some .local)
  (hsw:swapsWith (.ListComp elt [⟨tg,iter,ifs,0⟩] scope pos) (some (.Name x pos')) spos.line X.env = pure true)
  (hs:∀ x,foldedSetIterable iter X.env x = pure x:=by intro _; rfl):
  PS X (.Assign [.Name x pos'] (.ListComp elt [⟨tg,iter,ifs,0⟩] scope pos) spos) (tAsg (tComp own.length fr wi g tt te) (Zbi i)):=by
 intro pins s σ H D I h;refine Zav (Znf (scope:=scope) (env:=X.env) λy hy hf=>I.ok.has y.1 (B.free y hy hf)) λcl hclos hcl hcl2=>?_;rw [exec_Assign_Name_used _ _ _ _ hsw];refine Jas (Jeu (Jas ?_));show wpAny _ _ (do let _ <- comprehension (.ListComp elt [⟨tg,iter,ifs,0⟩] scope pos) scope X.env _ (newList []) false (eval iter X.env) (some (assign (.Name x pos') X.env))) _ _ s;refine Jas (Jcs (wpAny_comprehension_free (use:=some (assign (.Name x pos') X.env)) (Q:=λ_ s'=>SP X pins D .next s') rfl hs hclos B.kind B.loc (thn (hi pins s σ H _ I h) λv s1 h1=>thn h1 λitv s2 h2=>?_))
  (λ_ s' hq=>Jbj (Jbj hq)) λ_ _ e=>e)
 refine Zgh h2 λit fp tn J H2 e I2 T e94=>?_;clear h2;refine Za9 e94 λst2 f2 q=>?_;clear e94;subst e;refine Zou (RR:=λacc C=>compPost (model X.prog X.w) X.A X.xe (some (assign (.Name x pos') X.env)) (λ_ s'=>SP X pins D .next s') acc C) (Q:=λv H'=>Zbi i v σ H' D.nx) hc B hb hcl hcl2 I2 T st2 f2 q ?_;intro DD C s' H' I' hq hn n1 n2 n3 n4 n5;obtain ⟨m,hn⟩:=hn;show wpAny _ _ (assign (.Name x pos') X.env (.ref DD)) _ _ s';refine wpAny_assign_Name (Zlf I' hN hix (.inl hx) (v:=.ref DD) rfl (λs3 I3 ⟨a,hsa,ha⟩=>?_) (.inr hx));have hCa:C ≠ a:=by
  rcases ha with z | z
  .rw [z]; exact n1
  .exact (n2 x a z).symm
 refine ⟨m,hn.sameBut hsa hCa,λh' hs'=>⟨σ.set i (some (.ref DD)),H',I3.turned (it:=C) (t':=s3.toks) (λb o hb e=>SameBut.get hs' b o hb e) n5 n1 (.inr n4) n2 n3,hq⟩⟩
end
section
variable {X:Cx}
theorem Za4:OpR X (binaryOp .Mult) (rI IntMulOk λi j=>.int (i * j)):=
 opI λi j t u s Q E c h=>PyProof.Rows.mul_int h c
def cV:V->Option Value
 | .ty n=>some (.type n)
 | .ref a=>some (.ref a)
 | _=>none
theorem Za5:Zgg X (.builtin "isinstance") (λxs H Q=>∃ x y c t b,xs = [x,y]/\cV y = some c/\TyOf X.K H x t/\PySem.W.kitOne X.K t c = some b/\Q (.bl b) H):=by
 intro pins s σ H xs us Q I r h;refine Zgh h λx y c t b e93 hc ty e94=>?_;clear h;obtain rfl:=e93;obtain ⟨e,q⟩:=e94;refine Zbl (vals2 r) λu v e95 rx ry=>?_;obtain rfl:=e95;have hv:v = c:=by
  cases y <;> first | (cases hc; done) | (cases hc; cases ry; rfl)
 subst hv;exact Zr2 I rx ty e λtk=>⟨.bl b,H,I.tok _,rfl,q⟩
theorem Zd5 (bs:List Bool):(List.range bs.length).all (λi=>(bs[i]?).getD true) = bs.all id:=by
 rw [Jcx,Jbl,Jbl];constructor
 .intro h b hb;obtain ⟨i,hi,rfl⟩:=Jap.mp hb;have:=h i (Jbc.mpr hi);rw [Jaa hi] at this;exact this
 .intro h i hi;have hi:=Jbc.mp hi;rw [Jaa hi];exact h _ (Ja2 hi)
theorem Znj {A:Around} {prog:Program} {w:World} {bs:List Bool} {its:List Value} (r:Vals (bs.map V.bl) its):TruthOf prog w A (λi v=>its.toArray[i]? = some v) (λi=>(bs[i]?).getD true):=by
 intro i v s Q E hP hQ;have hP:its[i]? = some v:=by simpa using hP
 have hl:=r.length;rw [Jab] at hl;have hi:i < bs.length:=by rw [hl]; exact (Jag.mp hP).1
 obtain ⟨u,hu,rv⟩:=r.get (i:=i) (x:=.bl bs[i]) (by rw [Jah,Jaa hi]; rfl);rw [hP] at hu;cases hu;cases rv;have hQ:Q ((bs[i]?).getD true) s:=hQ;rw [Jaa hi] at hQ;exact Jbm hQ
theorem Zeo (hc:X.calm = true):Zgg X (.builtin "all") (λxs H Q=>∃ (p:Addr) (bs:List Bool),xs = [.ref p]/\SqL X.K H p (bs.map V.bl)/\Q (.bl (bs.all id)) H):=by
 intro pins s σ H xs us Q I r h;refine Zbl h λp bs e96 hq q=>?_;clear h;obtain rfl:=e96;refine Zad (Zkg r) λu e97 rx=>?_;obtain rfl:=e97;cases rx;refine Zav (I.list hq) λits rv pl hz=>?_;have hl:=rv.length;rw [Jab] at hl;refine call_all_walk (Jd0 pl.isList ?_);have hne:p ≠ s.heap.objs.size:=λe=>by
  refine Zbo pl λo n ho _=>?_;clear pl;exact absurd (Jam ho) (by rw [e]; exact Jb1 _)
 refine Zth s.heap.objs.size _ _ _ _ _ (λi=>(bs[i]?).getD true) ⟨rfl,Walks.list (A:=X.A.in1) (I.ok.hd hc) _ p hne its.toArray,⟨⟨_,Ja6 _ rfl,rfl,rfl⟩,pl.isList.at λo e=>Jak _ e⟩,Znj rv,λh' tk kp=>?_⟩;have e:(List.range its.toArray.size).all (λi=>(bs[i]?).getD true) = bs.all id:=by
  rw [Jat,<- hl]; exact Zd5 bs
 rw [e];have f:=I.fpOk (H':=H) (Jaf s.heap.objs.size) (I.hok.fresh (Jaf _));exact Zau (.bl _) H ⟨(I.kept (h':=s.heap.push { cls:=.type "list_iterator",data:=.fields #[.ref p,.int 0 0] }) (t':=s.toks) λb o e=>Jak _ e).turned (it:=s.heap.objs.size) (t':=tk) (λb o hb e=>kp b o (by simpa using hb) e) f.1 f.2.1 f.2.2.2.1 f.2.2.2.2.1 f.2.2.2.2.2,rfl,q⟩
theorem Zs3:Zgg X (.type "range") (λxs H Q=>∃ j,xs = [.int j]/\∀ p,H p = none->Q (.ref p) (upd H p (.rng 0 j))):=by
 intro pins s σ H xs us Q I r h;refine Zad h λj e910 q=>?_;clear h;obtain rfl:=e910;refine Zad (Zkg r) λu e911 e912=>?_;obtain rfl:=e911;obtain ⟨t,rfl⟩:=e912;refine call_range_1 ⟨.ref s.heap.objs.size,_,I.laid (a:=s.heap.objs.size) (o:=.rng 0 j) (λb o e=>Jak _ e) (Jaf _) ?_,rfl,q _ (I.hok.fresh (Jaf _))⟩;exact Zby _ _ _ (Ja6 _ rfl)
def rngV (lo hi:Int):List V:=(List.range (hi - lo).toNat).map λi=>V.int (lo + (i:Nat))
theorem Zk7 (hc:X.calm = true):Zgg X (.type "list") (λxs H Q=>∃ p lo hi,xs = [.ref p]/\H p = some (.rng lo hi)/\(-(2 ^ 62)<=lo/\lo < 2 ^ 62/\-(2 ^ 62)<=hi/\hi < 2 ^ 62)/\(hi - lo).toNat<=2 ^ 24 /\
  ∀ l,H l = none->Q (.ref l) (upd H l (.lst (rngV lo hi)))):=by
 intro pins s σ H xs us Q I r h;refine Zbj h λp lo hi e917 hp e918 e919=>?_;clear h;obtain rfl:=e917;obtain ⟨h1,h2,h3,h4⟩:=e918;obtain ⟨hz,q⟩:=e919;refine Zad (Zkg r) λu e920 rx=>?_;obtain rfl:=e920;cases rx;refine xE3_1 (show ObjOk X.prog X.w H s.heap p (.rng lo hi) from I.hok p _ hp) λt u v ho=>?_;have hn:Builtin.Range.rangeSize lo hi 1 = (((hi - lo).toNat:Nat):Int):=by rw [rangeSize_one]; split <;> omega
 refine call_list_range (I.ok.hd hc) (show IsRange s.heap p lo hi 1 t u v from ho) (small_one h1 h2 h3 h4) hn hz λh' tk acc' c' kp e it=>?_;refine Zau (.ref s.heap.objs.size) _ ⟨I.laid (a:=s.heap.objs.size) (o:=.lst (rngV lo hi)) (t':=tk) kp (Jaf _) ?_,rfl,q _ (I.hok.fresh (Jaf _))⟩;refine ⟨by unfold rngV; rw [Jab,Ja4]; exact hz,acc'.toList,c',?_,by simpa using e⟩;have hlen:acc'.toList.length = (hi - lo).toNat:=by rw [Jeb]; exact it.1
 have gen:∀ (n:Nat) (k:Nat) (us:List Value),us.length = n->(∀ (i:Nat) w',us[i]? = some w'->∃ t,w' = Value.int (lo + ((k + i:Nat):Int)) t)->Vals ((List.range' k n).map λ(i:Nat)=>V.int (lo + (i:Nat))) us:=by
  intro n
  induction n with
  | zero=>intro k us hl _; cases us with | nil=>exact .nil | cons _ _=>cases hl
  | succ n ih=>
   intro k us hl hv;cases us with
   | nil=>cases hl
   | cons x us=>
    refine .cons ?_ (ih (k + 1) us (by simpa using hl) λi w' e=>?_)
    .obtain ⟨t,e⟩:=hv 0 x rfl;exact ⟨t,by simpa using e⟩
    .obtain ⟨t,e'⟩:=hv (i + 1) w' (by simpa using e);exact ⟨t,by rw [e',show ((k + (i + 1):Nat):Int) = ((k + 1 + i:Nat):Int) by omega]⟩
 unfold rngV;rw [List.range_eq_range'];refine gen _ 0 _ hlen λi w' e'=>?_;obtain ⟨t,e2⟩:=it.2 i w' (by simpa using e');exact ⟨t,by rw [e2]; congr 1 <;> simp⟩
end
inductive EqD (K:PySem.W.Frag) (H:Hp):Nat->V->V->Bool->Prop where
 | flat {n:Nat} {x y:V} (hx:Zpl x = true) (hy:Zpl y = true):EqD K H n x y (eqV x y)
 | same {n:Nat} {a:Addr}:EqD K H n (.ref a) (.ref a) true
 | list {n:Nat} {a c:Addr} {xs ys:List V} {bs:List Bool} (ne:a ≠ c) (ha:SqL K H a xs) (hc:SqL K H c ys) (hl:xs.length = ys.length) (hb:bs.length = xs.length)
   (he:∀ (j:Nat) x y b,xs[j]? = some x->ys[j]? = some y->bs[j]? = some b->EqD K H n x y b):EqD K H (n + 1) (.ref a) (.ref c) (bs.all id)
 | listL {n:Nat} {a c:Addr} {xs ys:List V} (ne:a ≠ c) (ha:SqL K H a xs) (hc:SqL K H c ys) (hl:xs.length ≠ ys.length):EqD K H (n + 1) (.ref a) (.ref c) false
 | tuple {n:Nat} {a c:Addr} {xs ys:List V} {bs:List Bool} (ne:a ≠ c) (ha:SqT K H a xs) (hc:SqT K H c ys) (hl:xs.length = ys.length) (hb:bs.length = xs.length)
   (he:∀ (j:Nat) x y b,xs[j]? = some x->ys[j]? = some y->bs[j]? = some b->EqD K H n x y b):EqD K H (n + 1) (.ref a) (.ref c) (bs.all id)
def Zjm (K:PySem.W.Frag) (H:Hp) (n:Nat) (xs ys:List V) (bs:List Bool):Prop:=
 xs.length = ys.length/\bs.length = xs.length/\∀ (j:Nat) x y b,xs[j]? = some x->ys[j]? = some y->bs[j]? = some b->EqD K H n x y b
section
variable {X:Cx} {pins:List (Addr × Obj)} {σ:St} {H:Hp} {s:Shared}
theorem Zgv {A:Around} {xs ys:List V} {us vs:List Value} {bs:List Bool} (rx:Vals xs us) (ry:Vals ys vs) (hl:xs.length = ys.length) (hb:bs.length = xs.length)
  (ih:∀ (j:Nat) x y b,xs[j]? = some x->ys[j]? = some y->bs[j]? = some b->∀ u v,RelV x u->RelV y v->SeqAt.EqAt A s u v b):
  ∀ j (h1:j < us.toArray.size) (h2:j < vs.toArray.size),SeqAt.EqAt A s us.toArray[j] vs.toArray[j] ((bs[j]?).getD true):=by
 intro j h1 h2;have e1:=rx.length;have e2:=ry.length;have h1':j < us.length:=by simpa using h1
 have h2':j < vs.length:=by simpa using h2
 have g1:xs[j]? = some (xs[j]'(by omega)):=Jaa _;have g2:ys[j]? = some (ys[j]'(by omega)):=Jaa _;have g3:bs[j]? = some (bs[j]'(by omega)):=Jaa _;refine Zad (rx.get g1) λu hu ru=>?_;refine Zad (ry.get g2) λv hv rv=>?_;have eu:us.toArray[j] = u:=by
  rw [Jaa h1'] at hu; simpa using hu
 have ev:vs.toArray[j] = v:=by
  rw [Jaa h2'] at hv; simpa using hv
 rw [eu,ev,g3];exact ih j _ _ _ g1 g2 g3 u v ru rv
theorem EqD.at {n:Nat} {x y:V} {b:Bool} (I:Inv X pins σ H s) (e:EqD X.K H n x y b):∀ {A:Around} {u v:Value},A.units + n < cLine->RelV x u->RelV y v->SeqAt.EqAt A s u v b:=by
 induction e with
 | flat hx hy=>intro A u v _ ru rv; exact eqAt_V ru rv hx hy
 | same=>intro A u v _ ru rv; cases ru; cases rv; exact SeqAt.EqAt.same _
 | @list n a c xs ys bs ne ha hc hl hb he ih=>
  intro A u v hA ru rv;cases ru;cases rv;refine Zav (I.list ha) λits r1 p1 _=>?_;refine Zav (I.list hc) λits' r2 p2 _=>?_;have e1:=r1.length;have e2:=r2.length;have q:=SeqAt.RcAt.lists (e:=λj=>(bs[j]?).getD true) p1.isList p2.isList (by simp; omega) (by omega) (Zgv (A:=A.in1) r1 r2 hl hb λj x y b h1 h2 h3 u v ru rv=>ih j x y b h1 h2 h3 (show A.units + 1 + n < cLine by omega) ru rv);rw [show its.toArray.size = bs.length by simp; omega,Zd5] at q;exact Jem ne q
 | @listL n a c xs ys ne ha hc hl=>
  intro A u v hA ru rv;cases ru;cases rv;refine Zav (I.list ha) λits r1 p1 _=>?_;refine Zav (I.list hc) λits' r2 p2 _=>?_;have e1:=r1.length;have e2:=r2.length;exact Jem ne (SeqAt.RcAt.lists_lengths p1.isList p2.isList (by simp; omega) (by omega))
 | @tuple n a c xs ys bs ne ha hc hl hb he ih=>
  intro A u v hA ru rv;cases ru;cases rv;refine Zav (I.tuple ha) λits r1 p1 _=>?_;refine Zav (I.tuple hc) λits' r2 p2 _=>?_;have e1:=r1.length;have e2:=r2.length;have q:=SeqAt.RcAt.tuples (e:=λj=>(bs[j]?).getD true) p1 p2 (by omega) (Zgv (A:=A.in1) r1 r2 hl hb λj x y b h1 h2 h3 u v ru rv=>ih j x y b h1 h2 h3 (show A.units + 1 + n < cLine by omega) ru rv);rw [show min its.toArray.size its'.toArray.size = bs.length by simp; omega,Zd5,show (its.toArray.size == its'.toArray.size) = true by simp; omega,Jey] at q;exact Jem ne q
def rEqL (K:PySem.W.Frag) (neg:Bool):R2:=λx y H Q=>∃ a c xs ys,x = .ref a/\y = .ref c/\SqL K H a xs/\SqL K H c ys /\
 ((xs.length ≠ ys.length/\Q (.bl neg) H)\/∃ bs,Zjm K H 6 xs ys bs/\Q (.bl (if neg then !bs.all id else bs.all id)) H)
def Zv8 (K:PySem.W.Frag) (neg:Bool):R2:=λx y H Q=>∃ a c xs ys bs,x = .ref a/\y = .ref c/\SqT K H a xs/\SqT K H c ys/\Zjm K H 6 xs ys bs/\Q (.bl (if neg then !bs.all id else bs.all id)) H
theorem op_eqL (hu:X.A.units + 8 < cLine):OpR X (compareOp .Eq) (rEqL X.K false):=by
 intro pins s σ H x y v u Q I rx ry h;refine Zdc h λa c xs ys e921 e922 ha e923=>?_;clear h;obtain rfl:=e921;obtain rfl:=e922;obtain ⟨hc,h⟩:=e923;cases rx;cases ry;refine Zav (I.list ha) λits r1 p1 _=>?_;refine Zav (I.list hc) λits' r2 p2 _=>?_;have e1:=r1.length;have e2:=r2.length;rcases h with ⟨hne,q⟩ | ⟨bs,⟨hl,hb,he⟩,q⟩
 .exact SeqAt.eq_list_lengthsAt p1.isList p2.isList (by simp; omega) (by omega) ⟨.bl false,H,I,rfl,q⟩
 .refine SeqAt.eq_listAt (e:=λj=>(bs[j]?).getD true) p1.isList p2.isList (by simp; omega) (by omega) (Zgv (A:=X.A.in1) r1 r2 hl hb λj x y b h1 h2 h3 u v ru rv=>(he j x y b h1 h2 h3).at I (show X.A.units + 1 + 6 < cLine by omega) ru rv) ?_;rw [show its.toArray.size = bs.length by simp; omega,Zd5];exact Zau (.bl (bs.all id)) H ⟨I,rfl,q⟩
theorem op_eqT (hu:X.A.units + 8 < cLine):OpR X (compareOp .Eq) (Zv8 X.K false):=by
 intro pins s σ H x y v u Q I rx ry h;refine Zgh h λa c xs ys bs e927 e928 ha e929=>?_;clear h;obtain rfl:=e927;obtain rfl:=e928;refine Za9 e929 λhc e930 q=>?_;clear e929;obtain ⟨hl,hb,he⟩:=e930;cases rx;cases ry;refine Zav (I.tuple ha) λits r1 p1 _=>?_;refine Zav (I.tuple hc) λits' r2 p2 _=>?_;have e1:=r1.length;have e2:=r2.length;refine SeqAt.eq_tupleAt (e:=λj=>(bs[j]?).getD true) p1 p2 (by omega) (Zgv (A:=X.A.in1) r1 r2 hl hb λj x y b h1 h2 h3 u v ru rv=>(he j x y b h1 h2 h3).at I (show X.A.units + 1 + 6 < cLine by omega) ru rv) ?_;rw [show min its.toArray.size its'.toArray.size = bs.length by simp; omega,Zd5,show (its.toArray.size == its'.toArray.size) = true by simp; omega,Jey];exact Zau (.bl (bs.all id)) H ⟨I,rfl,q⟩
theorem op_neT (hu:X.A.units + 8 < cLine):OpR X (compareOp .NotEq) (Zv8 X.K true):=by
 intro pins s σ H x y v u Q I rx ry h;refine Zgh h λa c xs ys bs e931 e932 ha e933=>?_;clear h;obtain rfl:=e931;obtain rfl:=e932;refine Za9 e933 λhc e934 q=>?_;clear e933;obtain ⟨hl,hb,he⟩:=e934;cases rx;cases ry;refine Zav (I.tuple ha) λits r1 p1 _=>?_;refine Zav (I.tuple hc) λits' r2 p2 _=>?_;have e1:=r1.length;have e2:=r2.length;refine SeqAt.RcNeAt.tuples (e:=λj=>(bs[j]?).getD true) p1 p2 (by omega) (Zgv (A:=X.A.in1) r1 r2 hl hb λj x y b h1 h2 h3 u v ru rv=>(he j x y b h1 h2 h3).at I (show X.A.units + 1 + 6 < cLine by omega) ru rv) _ _ _ _ ?_;rw [show min its.toArray.size its'.toArray.size = bs.length by simp; omega,Zd5,show (its.toArray.size == its'.toArray.size) = true by simp; omega,Jey];exact Zau (.bl (!bs.all id)) H ⟨I,rfl,q⟩
end
theorem Zly (K:PySem.W.Frag):PySem.W.kitOne K (.type "int") (.type "int") = some true:=by rfl
theorem Zj7 (K:PySem.W.Frag):PySem.W.kitOne K (.type "int") (.type "bool") = some false:=by kernel_rfl
theorem Znd (K:PySem.W.Frag):PySem.W.kitOne K (.type "bool") (.type "bool") = some true:=by rfl
theorem Zpf (K:PySem.W.Frag):PySem.W.kitOne K (.type "bool") (.type "int") = some true:=by kernel_rfl
theorem Zlx (K:PySem.W.Frag):PySem.W.kitOne K (.type "tuple") (.type "tuple") = some true:=by rfl
theorem Zek (K:PySem.W.Frag):PySem.W.kitOne K (.type "list") (.type "list") = some true:=by rfl
structure Cal (P:Program) (w:World) (K:PySem.W.Frag) (mg:Str->Option Value) (base:Heap) (x:Str) (k:Nat) (sp:Sp):Prop where
 ex:∃ (f:Addr) (fd:FuncData) (ps:List Str),FnOk P w K mg base CX0 k f fd ps sp/\mg x = some (.ref f)/\PySem.W.keepIn K (.ref f) = true/\Binds K fd ps []
theorem pe_cal {X:Cx} {x:Str} {k:Nat} {sp:Sp} {e:Expr} {es:List Expr} {t:TA} {p pos:Pos} (C:Cal X.prog X.w X.K X.mg X.base x k sp) (hr:Room k X.A) (hg:Gl X x) (ha:PA X (e :: es) t)
  (hdb:(x == ("__debug__" : Str)) = false:=by decide) (he:starEach (e :: es) X.env = (false,eval e X.env) :: starEach es X.env:=by rfl) (hpl:(backTo pos (starEach es X.env)).any (·.1) = false:=by rfl):
  PE X (.Call (.Name x p) (e :: es) [] pos) (Zo4 sp [] E0 t):=by
 refine Zbj C.ex λf fd ps F hm hk hb=>?_;exact pe_call F hr hg hm hk hb .nil Zui ha hdb he hpl
structure CalM (P:Program) (w:World) (K:PySem.W.Frag) (mg:Str->Option Value) (base:Heap) (C:Addr) (m:Str) (k:Nat) (sp:Sp):Prop where
 ex:∃ (f:Addr) (fd:FuncData) (ps:List Str),FnOk P w K mg base CX0 k f fd ps sp/\Meth K C m f/\Binds K fd ps []
structure CalI (P:Program) (w:World) (K:PySem.W.Frag) (mg:Str->Option Value) (base:Heap) (x:Str) (C:Addr) (k:Nat) (sp:Sp):Prop where
 ex:∃ (f:Addr) (fd:FuncData) (ps:List Str),FnOk P w K mg base CX0 k f fd ps sp/\Mk K C f/\mg x = some (.ref C)/\Binds K fd ps []
theorem pe_new {X:Cx} {x:Str} {C:Addr} {k:Nat} {sp:Sp} {e:Expr} {es:List Expr} {t:TA} {p pos:Pos} (M:CalI X.prog X.w X.K X.mg X.base x C k sp) (hr:Room (k + 1) X.A) (hg:Gl X x) (ha:PA X (e :: es) t)
  (hdb:(x == ("__debug__" : Str)) = false:=by decide) (he:starEach (e :: es) X.env = (false,eval e X.env) :: starEach es X.env:=by rfl) (hpl:(backTo pos (starEach es X.env)).any (·.1) = false:=by rfl):
  PE X (.Call (.Name x p) (e :: es) [] pos) (Zqb C sp [] E0 t):=by
 refine Zbj M.ex λf fd ps F hm hk hb=>?_;exact pe_make hm F hr hg hk hb .nil Zui ha hdb he hpl
theorem Zwa {X:Cx} {m:Str} {C:Addr} {k:Nat} {sp:Sp} {o e:Expr} {es:List Expr} {ta:TE} {t:TA} {apos pos:Pos} {pl:Sem Bool} (c:Cls X.K C) (M:CalM X.prog X.w X.K X.mg X.base C m k sp) (hr:Room k X.A) (ho:PE X o ta) (ha:PA X (e :: es) t)
  (hst:starEach (e :: es) X.env = (false,eval e X.env) :: starEach es X.env:=by rfl) (hpl:(backTo pos (starEach es X.env)).any (·.1) = false:=by rfl)
  (ht:eval (.Call (.Attribute o m apos) (e :: es) [] pos) X.env = (do
   let ov <- eval o X.env
   standAt apos.atName
   let (f,first) <- holding [ov] (getMethod ov m pl)
   callWith pos f first (backTo pos (starEach (e :: es) X.env)) (backToKw pos (keywordEach [] X.env))):=by rfl):
  PE X (.Call (.Attribute o m apos) (e :: es) [] pos) (Zqa C m sp [] E0 ta t):=by
 refine Zia M.ex λf fd ps F hm hb=>?_;exact Zrf ho c hm F hr hb .nil Zui ha hst hpl ht
def blOk (outer:List (Str × NameKind)) (N:List Str) (scope:Scope) (fr:List (Str × Nat)):Bool:=
 scope.kind == .function && scope.names.all (λy=>y.2 != .free || outer.lookup y.1 == some .cell || outer.lookup y.1 == some .free) && scope.names.all (λy=>scope.names.lookup y.1 == some y.2) &&
 fr.all λy=>scope.names.lookup y.1 == some .free && N[y.2]? == some y.1
theorem Zcn {X:Cx} {scope:Scope} {own:List Str} {fr:List (Str × Nat)} (h:blOk X.env.scope.names X.N scope fr = true):BlScope X scope own fr:=by
 unfold blOk at h;simp only [Jce,Jbl] at h;obtain ⟨⟨⟨h1,h2⟩,h3⟩,h4⟩:=h;refine ⟨?_,λy hy hf=>?_,λy hy hl=>?_,λy hy=>?_,λy hy=>?_⟩
 .cases e:scope.kind <;> rw [e] at h1 <;> first | rfl | (exact absurd h1 (by decide))
 .have:=h2 y hy;rw [hf] at this;simp only [Jcz,Jbr] at this;rcases this with (q | q) | q
  .exact absurd q (by decide)
  .exact .inl q
  .exact .inr q
 .have:=h3 y hy;rw [hl] at this;exact Jbr.mp this
 .exact Jbr.mp (h3 y hy)
 .have:=h4 y hy;exact ⟨Jbr.mp this.1,Jbr.mp this.2⟩
def Sh (k:Nat) (cap σ:St):Prop:=∃ o,o.length = k/\σ = o ++ cap
theorem Sh.mk1 {cap:St} {a:Option V}:Sh 1 cap (a :: cap):=⟨[a],rfl,rfl⟩
theorem Sh.mk2 {cap:St} {a b:Option V}:Sh 2 cap (a :: b :: cap):=⟨[a,b],rfl,rfl⟩
theorem Sh.one {cap σ:St} (h:Sh 1 cap σ):∃ a,σ = a :: cap:=by
 refine Zad h λo h1 e92=>?_;clear h;obtain rfl:=e92
 match o,h1 with
 | [a],_=>exact ⟨a,rfl⟩
theorem Sh.two {cap σ:St} (h:Sh 2 cap σ):∃ a b,σ = a :: b :: cap:=by
 refine Zad h λo h1 e93=>?_;clear h;obtain rfl:=e93
 match o,h1 with
 | [a,b],_=>exact ⟨a,b,rfl⟩
def Zb8 (fr:List (Str × Nat)) (σ:St):St:=fr.map λy=>(σ[y.2]?).getD none
def Wv (n k:Nat) (cap:St) (Pv:Nat->List V->Hp->Prop):Nat->Nat->St->Hp->Prop:=λi m σ H=>m = n - i/\i<=n/\Sh k cap σ/\∃ vs,Pv i vs H
def Lf (D:Addr) (n k:Nat) (cap:St) (Pv:Nat->List V->Hp->Prop) (i:Nat) (σ4:St) (y:V) (H6:Hp):Prop:=
 ∃ vs,H6 D = some (.lst vs)/\vs.length < sizeLine/\∃ m',m' < n - i/\Wv n k cap Pv (i + 1) m' σ4 (upd H6 D (.lst (vs ++ [y])))
def Lf0 (n k:Nat) (cap:St) (Pv:Nat->List V->Hp->Prop) (i:Nat) (σ4:St) (H5:Hp):Prop:=∃ m',m' < n - i/\Wv n k cap Pv (i + 1) m' σ4 H5
theorem Zok {D:Addr} {n k:Nat} {cap:St} {Pv:Nat->List V->Hp->Prop} {i:Nat} {σ4:St} {y:V} {H6:Hp} {vs ws:List V} (hi:i < n) (sh:Sh k cap σ4) (hD:H6 D = some (.lst vs)) (hl:vs.length < sizeLine)
  (p:Pv (i + 1) ws (upd H6 D (.lst (vs ++ [y])))):Lf D n k cap Pv i σ4 y H6:=⟨vs,hD,hl,n - (i + 1),by omega,rfl,hi,sh,ws,p⟩
theorem leaf0 {n k:Nat} {cap:St} {Pv:Nat->List V->Hp->Prop} {i:Nat} {σ4:St} {H5:Hp} {ws:List V} (hi:i < n) (sh:Sh k cap σ4) (p:Pv (i + 1) ws H5):Lf0 n k cap Pv i σ4 H5:=⟨n - (i + 1),by omega,rfl,hi,sh,ws,p⟩
def Zfx (g:TG) (tt:TT) (te:TE) (D:Addr) (n k:Nat) (cap:St) (Pv:Nat->List V->Hp->Prop) (i:Nat) (x:V) (σ':St) (H:Hp):Prop:=
 g x σ' H λσ4 H4=>tt σ4 H4 λb H5=>if b = true then te σ4 H5 λy H6=>Lf D n k cap Pv i σ4 y H6 else Lf0 n k cap Pv i σ4 H5
section
variable {K:PySem.W.Frag} {a D:Addr} {xs:List V} {g:TG} {tt:TT} {te:TE} {k:Nat} {fr:List (Str × Nat)} {σ:St} {H1:Hp} {Q:VK}
theorem sh0:Sh k (Zb8 fr σ) (Zh8 k fr σ):=⟨List.replicate k none,Jbg,rfl⟩
theorem Zk6 {J:It} {n:Nat} (it:Nat->V->Prop) (Pv:Nat->List V->Hp->Prop) (h0:Pv 0 [] (upd H1 D (.lst [])))
  (go:∀ i vs H,i < n->Pv i vs H->J.go i H/\∀ x H',J.yld i H x H'->H' = H/\it i x) (stop:∀ vs H,Pv n vs H->J.stop n H)
  (hs:∀ i x vs σ' H,i < n->it i x->Sh k (Zb8 fr σ) σ'->Pv i vs H->Zfx g tt te D n k (Zb8 fr σ) Pv i x σ' H) (hd:∀ vs H,Pv n vs H->Q (.ref D) H):Zb9 g tt te J D (Zh8 k fr σ) H1 Q:=by
 refine ⟨Wv n k (Zb8 fr σ) Pv,⟨n,by simp,Jb2 _,sh0,[],h0⟩,?_⟩;intro i m σ' H2 e91;refine Zcj e91 λe94 hi sh e95=>?_;clear e91;obtain rfl:=e94;obtain ⟨vs,p⟩:=e95;by_cases hlt:i < n
 .obtain ⟨g1,g2⟩:=go i vs H2 hlt p;refine .inr ⟨g1,λx H3 y=>?_⟩;obtain ⟨rfl,hx⟩:=g2 x H3 y;exact hs i x vs σ' _ hlt hx sh p
 .have e:i = n:=by omega
  subst e;exact .inl ⟨stop vs H2 p,hd vs H2 p⟩
theorem Zfo (Pv:Nat->List V->Hp->Prop) (h0:Pv 0 [] (upd H1 D (.lst []))) (hl:∀ i vs H,i<=xs.length->Pv i vs H->SqL K H a xs)
  (hs:∀ i x vs σ' H,i < xs.length->xs[i]? = some x->Sh k (Zb8 fr σ) σ'->Pv i vs H->Zfx g tt te D xs.length k (Zb8 fr σ) Pv i x σ' H) (hd:∀ vs H,Pv xs.length vs H->Q (.ref D) H):Zb9 g tt te (Itl K a) D (Zh8 k fr σ) H1 Q:=
 Zk6 (λi x=>xs[i]? = some x) Pv h0 (λi vs H hi p=>⟨⟨xs,xs[i],hl i vs H (Jb3 hi) p,by simp [hi]⟩,λx H' y=>⟨y.1,y.2 xs (hl i vs H (Jb3 hi) p)⟩⟩)
  (λvs H p=>⟨xs,hl _ vs H (Jaf _) p,Jaf _⟩) hs hd
theorem Zvr (Pv:Nat->List V->Hp->Prop) (h0:Pv 0 [] (upd H1 D (.lst []))) (hl:∀ i vs H,i<=xs.length->Pv i vs H->SqT K H a xs)
  (hs:∀ i x vs σ' H,i < xs.length->xs[i]? = some x->Sh k (Zb8 fr σ) σ'->Pv i vs H->Zfx g tt te D xs.length k (Zb8 fr σ) Pv i x σ' H) (hd:∀ vs H,Pv xs.length vs H->Q (.ref D) H):Zb9 g tt te (Itt K a) D (Zh8 k fr σ) H1 Q:=
 Zk6 (λi x=>xs[i]? = some x) Pv h0 (λi vs H hi p=>⟨⟨xs,xs[i],hl i vs H (Jb3 hi) p,by simp [hi]⟩,λx H' y=>⟨y.1,y.2 xs (hl i vs H (Jb3 hi) p)⟩⟩)
  (λvs H p=>⟨xs,hl _ vs H (Jaf _) p,Jaf _⟩) hs hd
theorem Zk5 {lo:Int} {n:Nat} (Pv:Nat->List V->Hp->Prop) (h0:Pv 0 [] (upd H1 D (.lst [])))
  (hs:∀ i x vs σ' H,i < n->x = .int (lo + i)->Sh k (Zb8 fr σ) σ'->Pv i vs H->Zfx g tt te D n k (Zb8 fr σ) Pv i x σ' H) (hd:∀ vs H,Pv n vs H->Q (.ref D) H):Zb9 g tt te (Itr lo n) D (Zh8 k fr σ) H1 Q:=
 Zk6 (λi x=>x = .int (lo + i)) Pv h0 (λi vs H hi p=>⟨hi,λx H' y=>y⟩) (λvs H p=>Jaf _) hs hd
end
def Ext (l:Addr) (H H':Hp):Prop:=∀ b o,b ≠ l->H b = some o->H' b = some o
theorem Ext.trans {l:Addr} {H H1 H2:Hp} (a:Ext l H H1) (b:Ext l H1 H2):Ext l H H2:=λc o n e=>b c o n (a c o n e)
theorem Ext.new {l p:Addr} {H:Hp} {o:HO} (h:H p = none):Ext l H (upd H p o):=λc u _ e=>by rw [Zah (Zag e h)]; exact e
theorem Ext.set {l:Addr} {H:Hp} {o:HO}:Ext l H (upd H l o):=λc u n e=>by rw [Zah n]; exact e
theorem Same.ext {l:Addr} {H H':Hp} (s:Same H H'):Ext l H H':=λc o _ e=>s c o e
theorem Same.new {p:Addr} {H:Hp} {o:HO} (h:H p = none):Same H (upd H p o):=λc u e=>by rw [Zah (Zag e h)]; exact e
theorem Same.upd {p:Addr} {H H':Hp} {o:HO} (s:Same H H') (h:H p = none):Same H (upd H' p o):=λc u e=>by rw [Zah (Zag e h)]; exact s c u e
theorem Ext.upd {l p:Addr} {H H':Hp} {o:HO} (s:Ext l H H') (h:H p = none):Ext l H (upd H' p o):=λc u n e=>by rw [Zah (Zag e h)]; exact s c u n e
theorem Ext.free {l p:Addr} {H H':Hp} (s:Ext l H H') (n:p ≠ l) (h:H' p = none):H p = none:=by
 cases e:H p with
 | none=>rfl
 | some o=>rw [s p o n e] at h; cases h
theorem cx_K {CX:CXT} {P:Program} {w:World} {K:PySem.W.Frag} {mg:Str->Option Value} {base:Heap} {N:List Str} {qual:Str} {scope:Scope} {f:Addr} {cd:Value} {A:Around} {outer:List Env} {s:Shared} {H:Hp} {E:XK}:(Zvq CX P w K mg base N qual scope f cd A outer s H E).K = K:=rfl
theorem in_K {X:Cx} {N:List Str} {scope:Scope} {cl:List (Str × Addr)} {s:Shared} {H:Hp} {fp:List Addr}:(Zk3 X N scope cl s H fp).K = X.K:=rfl
theorem Zv0 {X:Cx} {E:Value->Shared->Prop}:(X.wish E).K = X.K:=rfl
theorem Zeg {X:Cx} {x:Str} {i:Int} {pos:Pos} (hg:Gl X x) (hm:∃ t,X.mg x = some (.int i t)) (hd:(x == ("__debug__" : Str)) = false:=by decide):PE X (.Name x pos) (tC (.int i)):=by
 obtain ⟨t,e⟩:=hm;exact pe_glob hg e ⟨t,rfl⟩ hd
theorem Zb0 {α:Type} {xs:List α} {i:Int} {v:α} (h0:0<=i) (h:xs[i.toNat]? = some v):atI xs i = some v:=by
 have e:((i.toNat:Nat):Int) = i:=Jbv h0;rw [<- e];exact atI_nat h
def Zcd:Expr->Bool
 | .Starred _ _=>true
 | _=>false
theorem Zbd {e:Expr} {es:List Expr} {env:Env} (h:Zcd e = false):starEach (e :: es) env = (false,eval e env) :: starEach es env:=by
 cases e <;> first | rfl | cases h
theorem Zfk {pos:Pos} {env:Env}:∀ {es:List Expr},es.all (λx=>!Zcd x) = true->(backTo pos (starEach es env)).any (·.1) = false
 | [],_=>rfl
 | e :: es,h=>by
  rw [Jd8,Jce] at h;have h1:Zcd e = false:=by simpa using h.1
  rw [Zbd h1];show ((false,_).1 || (backTo pos (starEach es env)).any (·.1)) = false;rw [Zfk h.2];rfl
section
variable {X:Cx} {x:Str} {p pos:Pos} {e:Expr} {es:List Expr} {te:TE} {t:TA} {id T:String} {r:List V->Hp->VK->Prop}
theorem pa_c (ha:PE X e te) (hr:PA X es t) (h:Zcd e = false:=by rfl):PA X (e :: es) (Ze1 te t):=pa_cons ha hr (Zbd h)
theorem Za3 (hc:Zgg X (.builtin id) r) (hg:Gl X x) (hm:X.mg x = none) (hv:bootBuiltins x = some (.builtin id)) (ha:PA X (e :: es) t) (h:Zcd e = false:=by rfl) (h2:es.all (λx=>!Zcd x) = true:=by rfl)
  (hn:x ≠ "__name__" := by decide) (hdb:(x == ("__debug__" : Str)) = false:=by decide):PE X (.Call (.Name x p) (e :: es) [] pos) (tCB r t):=Zuh hc hg hm hv ha hn hdb (Zbd h) (Zfk h2)
theorem Zie (hc:Zgg X (.type T) r) (hg:Gl X x) (hm:X.mg x = none) (hv:bootBuiltins x = some (.type T)) (ha:PA X (e :: es) t) (h:Zcd e = false:=by rfl) (h2:es.all (λx=>!Zcd x) = true:=by rfl)
  (hn:x ≠ "__name__" := by decide) (hdb:(x == ("__debug__" : Str)) = false:=by decide):PE X (.Call (.Name x p) (e :: es) [] pos) (tCB r t):=Zrg hc hg hm hv ha hn hdb (Zbd h) (Zfk h2)
theorem Za6 {k:Nat} {sp:Sp} (C:Cal X.prog X.w X.K X.mg X.base x k sp) (hr:Room k X.A) (hg:Gl X x) (ha:PA X (e :: es) t) (h:Zcd e = false:=by rfl) (h2:es.all (λx=>!Zcd x) = true:=by rfl)
  (hdb:(x == ("__debug__" : Str)) = false:=by decide):PE X (.Call (.Name x p) (e :: es) [] pos) (Zo4 sp [] E0 t):=pe_cal C hr hg ha hdb (Zbd h) (Zfk h2)
theorem pe_n {C:Addr} {k:Nat} {sp:Sp} (M:CalI X.prog X.w X.K X.mg X.base x C k sp) (hr:Room (k + 1) X.A) (hg:Gl X x) (ha:PA X (e :: es) t) (h:Zcd e = false:=by rfl) (h2:es.all (λx=>!Zcd x) = true:=by rfl)
  (hdb:(x == ("__debug__" : Str)) = false:=by decide):PE X (.Call (.Name x p) (e :: es) [] pos) (Zqb C sp [] E0 t):=pe_new M hr hg ha hdb (Zbd h) (Zfk h2)
theorem Zdt {tg a:Expr} {ta:TA} (hg:Gl X "range") (hm:X.mg "range" = none) (ha:PA X [a] ta) (h:Zcd a = false:=by rfl):PI X tg (.Call (.Name "range" p) [a] [] pos) (Zsd ta):=Zre hg hm ha (Zbd h)
theorem Zm7 {tg a b:Expr} {ta:TA} (hg:Gl X "range") (hm:X.mg "range" = none) (ha:PA X [a,b] ta) (h:Zcd a = false:=by rfl) (h2:Zcd b = false:=by rfl):PI X tg (.Call (.Name "range" p) [a,b] [] pos) (Zvd ta):=
 Zrd hg hm ha (by rw [Zbd h,Zbd h2]; rfl) (Zbd h2)
end
theorem Zqy {i j:Int}:scal (.int i) (.int j) = true:=rfl
theorem Zqz {i j:Bool}:scal (.bl i) (.bl j) = true:=rfl
theorem Zqx {i j:Str}:scal (.str i) (.str j) = true:=rfl
theorem Zgs {X:Cx} {x:Str} {n:String} {pos:Pos} (hg:Gl X x) (hm:X.mg x = none) (hv:bootBuiltins x = some (.type n)) (hn:x ≠ "__name__" := by decide) (hd:(x == ("__debug__" : Str)) = false:=by decide):PE X (.Name x pos) (tC (.ty n)):=pe_bltn (v:=.ty n) hg hm hv rfl hn hd
section
variable {X:Cx} (K:PySem.W.Frag) (hK:X.K = K)
include hK
theorem Zff {pos:Pos} {es:List Expr} {k:Nat} {t:TGs} {n:Nat} (hc:X.calm = true) (h:PGs X es t) (hn:(assignEach es X.env).length = n) (hst:(assignEach es X.env).findIdx? (·.1) = none):PG X (.Tuple es k pos) (Zps K n t):=by subst hK; exact Zbv hc h hn hst
theorem Zen:Zgg X (.type "list") (λxs H Q=>∃ p ys,xs = [.ref p]/\(SqL K H p ys\/SqT K H p ys)/\∀ l,H l = none->Q (.ref l) (upd H l (.lst ys))):=by subst hK; exact Zci
theorem Zel:IxR X (rIxL K):=by subst hK; exact Zaj
theorem Zjb:IxR X (rIxT K):=by subst hK; exact Zaz
theorem pe_fldK {e:Expr} {f:Str} {pos:Pos} {ta:TE} (he:PE X e ta) (hb:attributeBase e f X.env (eval e X.env) = eval e X.env):PE X (.Attribute e f pos) (tFld K ta f):=by subst hK; exact Zcz he hb
theorem Zn8 {tg l:Expr} {tl:TE} (hl:PE X l tl):PI X tg l (Zse K tl):=by subst hK; exact Zbt hl
end
theorem Zpt {g:TG} {tb:TS} {D:Ends} {x:V} {σ:St} {H:Hp} (h:∀ D':Ends,D' = D->g x σ H λσ2 H2=>tb D' σ2 H2):g x σ H λσ2 H2=>tb D σ2 H2:=h D rfl
theorem cutI {c:TT} {A B:TS} {D:Ends} {σ:St} {H:Hp} (h:∀ A',A' = A->tIfS c A' B D σ H):tIfS c A B D σ H:=h A rfl
theorem Zd4 {xs:List V} {k:Nat} {v:V} (h:xs[k]? = some v):atI xs ((k:Nat):Int) = some v:=Zb0 (Jej _) (by rw [Jba]; exact h)
theorem Zvv {as:List Addr} {k:Nat} {a:Addr} (h:as[k]? = some a):atI (as.map V.ref) ((k:Nat):Int) = some (.ref a):=Zd4 (by rw [Jah,h]; rfl)
theorem Zu9 (n:Nat):-2 ^ 62<=((n:Nat):Int):=by omega
theorem Zvf {n:Nat} (h:n<=1000):((n:Nat):Int) < 2 ^ 62:=by omega
theorem Zj6 {α:Type} {xs:List α} {k n:Nat} (h:k < n) (hl:xs.length = n):k < xs.length:=hl ▸ h
theorem Zr1 {n k:Nat} (h:k < n):ixN n ((k:Nat):Int) = some k:=by
 unfold ixN;rw [if_pos (Jej _),if_pos (by omega),Jba]
theorem ixN_r {as:List Addr} {k n:Nat} (h:k < n) (hl:as.length = n):ixN (as.map V.ref).length ((k:Nat):Int) = some k:=Zr1 (by rw [Jab,hl]; exact h)
end L2
set_option maxHeartbeats 1000000
namespace HT
open PySem PySem.Spec PyProof.Rows
section
variable {prog:Program} {w:World} {A:Around} {E:Value->Shared->Prop} {s:Shared}
end
end HT
namespace L2
open PySem PySem.Spec PyProof.Rows
section
variable {X:Cx} {e es:Expr} {te ts:TE} {pos p2:Pos}
end
end L2
namespace L2
open PySem PySem.Spec PyProof.Rows
section
variable {X:Cx}
def rGetL (K:PySem.W.Frag):V->V->Hp->VK->Prop:=λx y H Q=>∃ p xs i v,x = .ref p/\y = .int i/\0<=i/\SqL K H p xs/\xs[i.toNat]? = some v/\Q v H
end
def Big (x:Int):Prop:=-(100000000000000000000000000000000) < x/\x < 100000000000000000000000000000000
theorem Big.mul {x y:Int} (hx:Big x) (hy:Big y):IntMulOk x y:=by
 have e:(2:Nat) ^ 200 > 100000000000000000000000000000000:=by decide +kernel
 have b:∀ {z:Int},Big z->Builtin.Int.intBits z<=2 ^ 20:=λ{z} h=>by
  have hz:z.natAbs < 2 ^ 200:=by have:=h.1; have:=h.2; omega
  unfold Builtin.Int.intBits;split
  .exact Jb2 _
  .rename_i h0
   have:z.natAbs.log2 < 200:=(Nat.log2_lt (by intro c; apply h0; simpa using c)).mpr hz;have e2:(2:Nat) ^ 20 = 1048576:=by decide
   rw [e2];omega
 exact .of_bits (b hx) (b hy)
def atZ (ns:List Int) (i:Int):Int:=ns.getD i.toNat 0
theorem Zep {ns:List Int} {i:Int} (h:i.toNat < ns.length):(ns.map V.int)[i.toNat]? = some (.int (atZ ns i)):=by
 rw [Jah,Jaa h];simp [atZ,h]
theorem Zs8 {ns:List Int} {i:Int} (h:i.toNat < ns.length):atZ ns i ∈ ns:=by
 unfold atZ;rw [Jac,Jaa h];exact Ja2 h
def arrZ (a b:List Int):List (Int × Int)->Int
 | []=>0
 | q :: ps=>arrZ a b ps + atZ a q.1 * atZ b q.2
def Zjs (a b:List Int) (ps:List (Int × Int)):Int:=arrZ a b ps.reverse
theorem Zhn (a b:List Int) (ps:List (Int × Int)) (q:Int × Int):Zjs a b (ps ++ [q]) = Zjs a b ps + atZ a q.1 * atZ b q.2:=by
 unfold Zjs;rw [List.reverse_append];rfl
def Zvo (a b:List Int):Nat->Int
 | 0=>0
 | n + 1=>Zvo a b n + atZ a n * atZ b n
def Zpk (ps:List (Int × Int)) (a b:List Int):Int:=Zvo a b a.length - Zjs a b ps
theorem Zfi {ns:List Int} (h:∀ n ∈ ns,Big n) {i:Int} (hi:i.toNat < ns.length):Big (atZ ns i):=h _ (Zs8 hi)
end L2
namespace L2
open PySem PySem.Spec PyProof.Rows
section
variable {X:Cx} {pins:List (Addr × Obj)} {σ:St} {H:Hp} {s:Shared} {h':Heap}
theorem Inv.turnedL {t':Nat} {fp:List Addr} (I:Inv X pins σ H s) (hf:∀ b ∈ fp,FpOk X pins H b) (k:∀ b o,b ∉ fp->s.heap.get? b = some o->h'.get? b = some o):Inv X pins σ H { s with heap:=h',toks:=t' }:=by
 have nit:∀ b u,H b = some u->b ∉ fp:=λb u e z=>by rw [(hf b z).1] at e; cases e
 refine I.step (g':=s.gens) (d':=s.drawn) (ch:=fp) (λb hb=>?_) (λb o _ _ hc e _=>k b o hc e) (λb o _ _ hc e _=>⟨o.slots,k b o hc e⟩) (λ_ _ _ _ n=>n)
  (λb o hc e=>⟨o,k b o hc e⟩) (λ_ _ e=>e) (λ_ _ _ e=>e) (λb ps e=>⟨#[],by rw [e]; simp⟩) (λm hm=>?_) (λb u e=>?_) I.bare
 .refine Zdd (hf b hb) λf0 f1 f2 f3 f4 f5=>?_;exact ⟨f3,f1,f4,f5⟩
 .refine Zdu hm λo es ep ho r=>?_;clear hm;exact Zby o es ep ⟨k _ o (λz=>(hf _ z).2.1 rfl) ho,r⟩
 .refine (I.hok b u e).stay (λc v hc q=>k c v ?_ q) (λ_ q=>q) (λ_ _ q=>q) λ_ _ _ q=>q;rcases hc with z | z
  .rw [z]; exact nit b u e
  .exact nit c _ z
theorem Inv.turnedT {t':Nat} {fp:List Addr} {p:Addr} {o:HO} (I:Inv X pins σ H s) (hf:∀ b ∈ fp,FpOk X pins H b) (k:∀ b o,b ∉ fp->s.heap.get? b = some o->h'.get? b = some o) (hp:s.heap.objs.size<=p)
  (new:ObjOk X.prog X.w (upd H p o) h' p o):Inv X pins σ (upd H p o) { s with heap:=h',toks:=t' }:=by
 have hn:H p = none:=I.hok.fresh hp;have nit:∀ b u,H b = some u->b ∉ fp:=λb u e z=>by rw [(hf b z).1] at e; cases e
 have npp:∀ b u,s.heap.get? b = some u->b ≠ p:=λb u e=>Jbe (Jaw (Jam e) hp);refine I.step (g':=s.gens) (d':=s.drawn) (ch:=fp) (λb hb=>?_) (λb o _ _ hc e _=>k b o hc e) (λb o _ _ hc e _=>⟨o.slots,k b o hc e⟩) (λb o _ e n=>by rw [Zah (npp b o e)]; exact n)
  (λb o hc e=>⟨o,k b o hc e⟩) (λb xs e=>by rw [Zah (Zag e hn)]; exact e) (λb u xs e=>by rw [Zah (Zag e hn)]; exact e) (λb ps e=>⟨#[],by rw [Zah (Zag e hn),e]; simp⟩) (λm hm=>?_) (λb u e=>?_) I.bare
 .refine Zdd (hf b hb) λf0 f1 f2 f3 f4 f5=>?_;exact ⟨f3,f1,f4,f5⟩
 .refine Zdu hm λo es ep ho r=>?_;clear hm;exact Zby o es ep ⟨k _ o (λz=>(hf _ z).2.1 rfl) ho,r⟩
 .by_cases hb:b = p
  .subst hb; rw [Zac] at e; cases e; exact new
  .rw [Zah hb] at e;refine (I.hok b u e).stay (λc v hc q=>k c v ?_ q) (λc q=>by rw [Zah (Zag q hn)]; exact q) (λc xs q=>by rw [Zah (Zag q hn)]; exact q) λc _ _ q=>by rw [Zah (Zag q hn)]; exact q
   rcases hc with z | z
   .rw [z]; exact nit b u e
   .exact nit c _ z
end
def Itz (K:PySem.W.Frag) (a b:Addr):It:=
 ⟨λi H=>∃ xs ys x y,SqL K H a xs/\SqL K H b ys/\xs[i]? = some x/\ys[i]? = some y,λi H v H'=>∃ x y p,v = .ref p/\H p = none/\H' = upd H p (.tup [x,y])/\(∀ xs,SqL K H a xs->xs[i]? = some x)/\∀ ys,SqL K H b ys->ys[i]? = some y,λi H=>∃ xs ys,SqL K H a xs/\SqL K H b ys/\(xs.length<=i\/ys.length<=i)⟩
theorem Ztt {P:Program} {w:World} {K:PySem.W.Frag} {elts:List Expr} {x1:Nat} {pos:Pos} {z TI TO i1 i2 a b:Addr} (D:ZipApart z TI TO i1 i2 a b):
  Turn P w K (.Tuple elts x1 pos) (Itz K a b) [z,TI,TO,i1,i2] z (λi h=>IsZip h z TI TO .none/\IsPair h TI (.ref i1) (.ref i2)/\(∃ u v,IsPair h TO u v)/\h.IsListIter i1 a i/\h.IsListIter i2 b i) where
 mem:=by simp
 obj:=λi h st c hc=>by
  refine Zcv st λhz hTI e92 e93 e94=>?_;clear st;obtain ⟨u,v,hTO⟩:=e92;obtain ⟨o1,e1,c1,d1⟩:=e93;obtain ⟨o2,e2,c2,d2⟩:=e94;simp at hc;rcases hc with rfl | rfl | rfl | rfl | rfl
  .exact ⟨_,hz,λv z=>by have z':Data.fields _ = Data.cell v:=z; cases z'⟩
  .exact ⟨_,hTI,λv z=>by have z':Data.seq _ _ = Data.cell v:=z; cases z'⟩
  .exact ⟨_,hTO,λv z=>by have z':Data.seq _ _ = Data.cell v:=z; cases z'⟩
  .exact ⟨o1,e1,λv z=>by rw [d1] at z; cases z⟩
  .exact ⟨o2,e2,λv z=>by rw [d2] at z; cases z⟩
 keep:=λi h h' st k=>by
  refine Zcv st λhz hTI e95 h1 h2=>?_;clear st;obtain ⟨u,v,hTO⟩:=e95;exact ⟨k z (by simp) _ hz,k TI (by simp) _ hTI,⟨u,v,k TO (by simp) _ hTO⟩,h1.at λo e=>k i1 (by simp) o e,h2.at λo e=>k i2 (by simp) o e⟩
 item:=by
  intro X hP hw hK hc i pins s σ H E I hf st hg;subst hP hw hK;refine Zdc hg λxs ys x y hqa hqb hx hy=>?_;clear hg;refine Zav (I.list hqa) λits rv p hz1=>?_;refine Zav (I.list hqb) λits2 rv2 p2 hz2=>?_;refine Zad (rv.get hx) λu hu ru=>?_;refine Zad (rv2.get hy) λu2 hu2 ru2=>?_;refine Zcv st λhz hTI e96 h1 h2=>?_;clear st;obtain ⟨c,d,hTO⟩:=e96;refine wpAny_pyNext_zip_item D hz hTI hTO h1 h2 p.isList p2.isList (by simpa using hu) (by simpa using hu2) λh' a1 a2 a3 a4 a5 a6 a7=>?_;refine ⟨_,rfl,wpAny_letOwnedTupleGo_zip a1 λh'' b1 b2=>?_⟩;have nz:s.heap.objs.size ≠ z:=Jei (Jam hz);have k2:∀ c o,c ∉ [z,TI,TO,i1,i2]->s.heap.get? c = some o->h''.get? c = some o:=λc o hc e=>by
   simp at hc;exact b2.extBut _ _ hc.1 (a7 c o hc.1 hc.2.2.1 hc.2.2.2.1 hc.2.2.2.2 e)
  have I2:Inv X pins σ (upd H s.heap.objs.size (.tup [x,y])) { s with heap:=h'' }:=I.turnedT (t':=s.toks) hf k2 (Jaf _)
   ⟨by show 2<=sizeLine; decide,[u,u2],.cons ru (.cons ru2 .nil),_,b2.extBut _ _ nz a5,rfl,_,rfl⟩
  refine Zau (.ref s.heap.objs.size) _ ⟨I2,rfl,⟨x,y,_,rfl,I.hok.fresh (Jaf _),rfl,λxs' hq=>by rw [I.list_inj hq hqa]; exact hx,λys' hq=>by rw [I.list_inj hq hqb]; exact hy⟩,⟨b1,b2.extBut _ _ D.TIz (a7 _ _ D.TIz D.TITO D.TIi1 D.TIi2 hTI),⟨_,_,b2.extBut _ _ D.TOz a2⟩,a3.extBut b2.extBut D.i1z,a4.extBut b2.extBut D.i2z⟩,λc hc=>?_⟩;have hlt:∀ c ∈ [z,TI,TO,i1,i2],c < s.heap.objs.size:=λc hc=>by
   simp at hc;refine Zad h1 λo1 e1 _=>?_;clear h1;refine Zad h2 λo2 e2 _=>?_;clear h2;rcases hc with rfl | rfl | rfl | rfl | rfl
   .exact Jam hz
   .exact Jam hTI
   .exact Jam hTO
   .exact Jam e1
   .exact Jam e2
  rw [Zah (Jbe (hlt c hc))];exact (hf c hc).1
 done:=by
  intro X hP hw hK hc i pins s σ H E I hf st hg;subst hP hw hK;refine Zbl hg λxs ys hqa hqb hx=>?_;clear hg;refine Zav (I.list hqa) λits rv p hz1=>?_;refine Zav (I.list hqb) λits2 rv2 p2 hz2=>?_;refine Zcv st λhz hTI e97 h1 h2=>?_;clear st;obtain ⟨c,d,hTO⟩:=e97;have l1:=rv.length;have l2:=rv2.length;refine wpAny_pyNext_zip_end (I.ok.hd hc) D hz hTI hTO h1 h2 p.isList p2.isList ?_ λh' kk=>⟨rfl,I.turnedL (t':=s.toks) hf λc o hc e=>?_⟩
  .rcases hx with hx | hx
   .exact .inl (by simp; omega)
   .exact .inr (by simp; omega)
  .simp at hc;exact kk c o hc.1 hc.2.2.1 hc.2.2.2.1 hc.2.2.2.2 e
 self:=λ_ _ _ _ _ st h=>wpAny_pyIter_zip st.1 h
section
variable {X:Cx}
def iZip (K:PySem.W.Frag) (ta:TA):TI:=λσ H R=>ta σ H λvs H1=>∃ a b,vs = [.ref a,.ref b]/\(∃ xs,SqL K H1 a xs)/\(∃ ys,SqL K H1 b ys)/\R (Itz K a b) H1
theorem Zlp {elts:List Expr} {x1:Nat} {pt p pos:Pos} {a b:Expr} {ta:TA} (hg:Gl X "zip") (hm:X.mg "zip" = none) (ha:PA X [a,b] ta) (h:Zcd a = false:=by rfl) (h2:Zcd b = false:=by rfl):
  PI X (.Tuple elts x1 pt) (.Call (.Name "zip" p) [a,b] [] pos) (iZip X.K ta):=by
 intro pins s σ H R I hh;refine Call_ (Zh7 I hg hm boot_zip (Jcc (thn (ha pos pins s σ H _ I hh) λus s1 ⟨vs,H1,I1,r1,q1⟩=>?_) (by rw [Zbd h,Zbd h2]) (by rw [Zbd h2]; rfl)));refine Zdv q1 λc d e e98 e99 q=>?_;clear q1;obtain ⟨xs,hq1⟩:=e98;obtain ⟨ys,hq2⟩:=e99;subst e;cases r1 with
 | cons r rr=>
  cases rr with
  | cons r' rr=>
   cases rr;cases r;cases r';refine Zav (I1.list hq1) λits rv p1 hz1=>?_;refine Zav (I1.list hq2) λits2 rv2 p2 hz2=>?_;have lt1:c < s1.heap.objs.size:=by obtain ⟨o,ho,_⟩:=p1.isList; exact Jam ho
   have lt2:d < s1.heap.objs.size:=by obtain ⟨o,ho,_⟩:=p2.isList; exact Jam ho
   refine call_zip_2 p1.isList p2.isList λh' a1 a2 a3 a4 a5 a6 a7=>wpAny_pyIter_zip (s:={ s1 with heap:=h' }) a1 ?_;refine Zg0 _ _ _ _ H1 ⟨rfl,I1.kept (t':=s1.toks) a7,Ztt (zipApart_new lt1 lt2),⟨a1,a2,⟨_,_,a3⟩,a4,a5⟩,λb hb=>?_,q⟩;have hb':s1.heap.objs.size<=b:=by
    simp at hb;rcases hb with rfl | rfl | rfl | rfl | rfl
    .exact Jc8 _ _
    .exact Jc8 _ _
    .exact Jc8 _ _
    .exact Jaf _
    .exact Jc8 _ _
   have:=(I1.fpOk (H':=H1) hb' (I1.hok.fresh hb'))
   exact this
theorem Zox (hc:X.calm = true):Zgg X (.builtin "sum") (λxs H Q=>∃ (p:Addr) (ns:List Int),xs = [.ref p]/\SqL X.K H p (ns.map V.int)/\Q (.int (preSum (λi=>ns.getD i 0) ns.length)) H):=by
 intro pins s σ H xs us Q I r h;refine Zbl h λp ns e910 hq q=>?_;clear h;obtain rfl:=e910;refine Zad (Zkg r) λu e911 rx=>?_;obtain rfl:=e911;cases rx;refine Zav (I.list hq) λits rv pl hz=>?_;have hl:=rv.length;rw [Jab] at hl;refine call_sum_walkG (Jd0 pl.isList ?_);have hne:p ≠ s.heap.objs.size:=λe=>by
  refine Zbo pl λo n ho _=>?_;clear pl;exact absurd (Jam ho) (by rw [e]; exact Jb1 _)
 refine Zth s.heap.objs.size _ _ _ _ _ (λi=>ns.getD i 0) ⟨rfl,Walks.list (A:=X.A.in1) (I.ok.hd hc) _ p hne its.toArray,⟨⟨_,Ja6 _ rfl,rfl,rfl⟩,pl.isList.at λo e=>Jak _ e⟩,?_,?_,λh' tk t' kp=>?_⟩
 .intro b hb;simp at hb;rcases hb with rfl | rfl
  .rw [Jda]; exact Jdp _
  .rw [Jda];refine Zad pl.isList λo ho _=>?_;exact Jcg (Jam ho)
 .intro i v hv;have hv:its[i]? = some v:=by simpa using hv
  have hi:i < ns.length:=by rw [hl]; exact (Jag.mp hv).1
  obtain ⟨u,hu,ru⟩:=rv.get (i:=i) (x:=.int ns[i]) (by rw [Jah,Jaa hi]; rfl);rw [hv] at hu;cases hu;obtain ⟨t,rfl⟩:=ru;exact ⟨t,by simp [hi]⟩
 .rw [Jat,<- hl];have f:=I.fpOk (H':=H) (Jaf s.heap.objs.size) (I.hok.fresh (Jaf _));exact Zau (.int _) H ⟨(I.kept (h':=s.heap.push { cls:=.type "list_iterator",data:=.fields #[.ref p,.int 0 0] }) (t':=s.toks) λb o e=>Jak _ e).turned (it:=s.heap.objs.size) (t':=tk) (λb o hb e=>kp b o (by simpa using hb) e) f.1 f.2.1 f.2.2.2.1 f.2.2.2.2.1 f.2.2.2.2.2,⟨t',rfl⟩,q⟩
end
section
variable {K:PySem.W.Frag} {a b D:Addr} {xs ys:List V} {g:TG} {tt:TT} {te:TE} {k:Nat} {fr:List (Str × Nat)} {σ:St} {H1:Hp} {Q:VK}
theorem Zk4 (Pv:Nat->List V->Hp->Prop) (hlen:ys.length = xs.length) (h0:Pv 0 [] (upd H1 D (.lst []))) (hl:∀ i vs H,i<=xs.length->Pv i vs H->SqL K H a xs/\SqL K H b ys)
  (hs:∀ i x y p vs σ' H,i < xs.length->xs[i]? = some x->ys[i]? = some y->H p = none->Sh k (Zb8 fr σ) σ'->Pv i vs H->Zfx g tt te D xs.length k (Zb8 fr σ) Pv i (.ref p) σ' (upd H p (.tup [x,y]))) (hd:∀ vs H,Pv xs.length vs H->Q (.ref D) H):
  Zb9 g tt te (Itz K a b) D (Zh8 k fr σ) H1 Q:=by
 refine ⟨Wv xs.length k (Zb8 fr σ) Pv,⟨xs.length,by simp,Jb2 _,sh0,[],h0⟩,?_⟩;intro i m σ' H2 e91;refine Zcj e91 λe912 hi sh e913=>?_;clear e91;obtain rfl:=e912;obtain ⟨vs,p⟩:=e913;obtain ⟨q1,q2⟩:=hl i vs H2 hi p;by_cases hlt:i < xs.length
 .refine .inr ⟨⟨xs,ys,xs[i],ys[i]'(by omega),q1,q2,by simp [hlt],by simp [hlen,hlt]⟩,λx H3 y=>?_⟩;refine Zbj y λu v pp e914 hp e915 e916=>?_;clear y;obtain rfl:=e914;obtain rfl:=e915;obtain ⟨e1,e2⟩:=e916;exact hs i u v pp vs σ' _ hlt (e1 _ q1) (e2 _ q2) hp sh p
 .have e:i = xs.length:=by omega
  subst e;exact .inl ⟨⟨xs,ys,q1,q2,.inl (Jaf _)⟩,hd vs H2 p⟩
end
end L2
namespace L2
open PySem PySem.Spec PyProof.Rows
def nrm (a b:Int):Int × Int:=(a / (Int.gcd a b:Int),b / (Int.gcd a b:Int))
def Low (x:Int × Int):Prop:=0 < x.2/\Int.gcd x.1 x.2 = 1
theorem emulR (a b p:Int):a * (b % p) % p = a * b % p:=by rw [Int.mul_emod,Int.emod_emod,<- Int.mul_emod]
theorem Zem {a b:Int} (hb:0 < b):0 < (Int.gcd a b:Int):=by
 have:0 < Int.gcd a b:=Jcn a (by omega);omega
theorem Zrr {a b:Int}:(nrm a b).1 * (Int.gcd a b:Int) = a:=Jb9 (Jbn ..)
theorem Zm9 {a b:Int}:(nrm a b).2 * (Int.gcd a b:Int) = b:=Jb9 (Jbs ..)
theorem nrm_pos {a b:Int} (hb:0 < b):0 < (nrm a b).2:=by
 have h2:=@Zm9 a b;have g0:=Zem (a:=a) hb;rcases Jes 0 (nrm a b).2 with h | h | h
 .exact h
 .rw [<- h,Int.zero_mul] at h2; omega
 .have:=Int.mul_neg_of_neg_of_pos h g0;omega
theorem Zrq {a b:Int} (hb:0 < b):Low (nrm a b):=by
 refine ⟨nrm_pos hb,?_⟩;have h:=Int.gcd_mul_right (nrm a b).1 (Int.gcd a b:Int) (nrm a b).2;rw [Zrr,Zm9] at h;have g0:=Zem (a:=a) hb;have:Int.gcd a b = Int.gcd (nrm a b).1 (nrm a b).2 * Int.gcd a b:=by simpa using h
 have g1:0 < Int.gcd a b:=by omega
 exact (Nat.eq_of_mul_eq_mul_right g1 (by omega)).symm
theorem Zpe {x y:Int × Int} (hx:Low x) (hy:Low y) (h:x.1 * y.2 = y.1 * x.2):x = y:=by
 obtain ⟨x0,gx⟩:=hx;obtain ⟨y0,gy⟩:=hy;have d1:x.2.natAbs ∣ y.2.natAbs:=by
  have c:Nat.Coprime x.2.natAbs x.1.natAbs:=by rw [Nat.coprime_comm]; exact gx
  refine c.dvd_of_dvd_mul_left ?_;rw [<- Jcu,h,Jcu];exact Nat.dvd_mul_left ..
 have d2:y.2.natAbs ∣ x.2.natAbs:=by
  have c:Nat.Coprime y.2.natAbs y.1.natAbs:=by rw [Nat.coprime_comm]; exact gy
  refine c.dvd_of_dvd_mul_left ?_;rw [<- Jcu,<- h,Jcu];exact Nat.dvd_mul_left ..
 have e:=Nat.dvd_antisymm d1 d2;have e2:x.2 = y.2:=by omega
 have e1:x.1 = y.1:=by
  rw [e2] at h;exact Int.eq_of_mul_eq_mul_right (by omega) h
 exact Prod.ext e1 e2
theorem Zcu (a:Int) {g:Int} (hg:0 < g) (hd:g ∣ a):(a / g).natAbs<=a.natAbs:=by
 obtain ⟨k,rfl⟩:=hd;rw [Int.mul_ediv_cancel_left _ (by omega),Jcu];exact Nat.le_mul_of_pos_left _ (by omega)
def Bd (B:Nat) (x:Int × Int):Prop:=x.1.natAbs<=B/\x.2.natAbs<=B
theorem nrm_bd {a b:Int} {B:Nat} (hb:0 < b) (h1:a.natAbs<=B) (h2:b.natAbs<=B):Bd B (nrm a b):=
 ⟨Jav (Zcu a (Zem hb) (Jbn ..)) h1,Jav (Zcu b (Zem hb) (Jbs ..)) h2⟩
def Isn (p:Int) (x:Int × Int):Prop:=(p = 0/\Low x)\/(0 < p/\0<=x.1/\x.1 < p/\x.2 = 1)
def Zey (p:Int) (x y:Int × Int):Int × Int:=if p = 0 then nrm (x.1 * y.2 + y.1 * x.2) (x.2 * y.2) else ((x.1 + y.1) % p,1)
def Zdy (p:Int) (x y:Int × Int):Int × Int:=if p = 0 then nrm (x.1 * y.2 - y.1 * x.2) (x.2 * y.2) else ((x.1 - y.1) % p,1)
def Zbk (p:Int) (x y:Int × Int):Int × Int:=if p = 0 then nrm (x.1 * y.1) (x.2 * y.2) else (x.1 * y.1 % p,1)
def Zhl (p k:Int):Int × Int:=if p = 0 then (k,1) else (k % p,1)
theorem Isn.pos {p:Int} {x:Int × Int} (h:Isn p x):0 < x.2:=by
 rcases h with ⟨_,h⟩ | ⟨_,_,_,h⟩
 .exact h.1
 .omega
theorem Zkr {p a b:Int} (hp:p = 0) (hb:0 < b):Isn p (nrm a b):=.inl ⟨hp,Zrq hb⟩
theorem Zks {p a:Int} (hp:0 < p):Isn p (a % p,1):=.inr ⟨hp,Jbi _ (by omega),Ja7 _ hp,rfl⟩
theorem Zij {p:Int} {x y:Int × Int} (h0:0<=p) (hx:Isn p x) (hy:Isn p y):Isn p (Zey p x y):=by
 unfold Zey;split
 .rename_i h; exact Zkr h (Jc5 hx.pos hy.pos)
 .exact Zks (by omega)
theorem Zlz {p:Int} {x y:Int × Int} (h0:0<=p) (hx:Isn p x) (hy:Isn p y):Isn p (Zdy p x y):=by
 unfold Zdy;split
 .rename_i h; exact Zkr h (Jc5 hx.pos hy.pos)
 .exact Zks (by omega)
theorem Zbw {p:Int} {x y:Int × Int} (h0:0<=p) (hx:Isn p x) (hy:Isn p y):Isn p (Zbk p x y):=by
 unfold Zbk;split
 .rename_i h; exact Zkr h (Jc5 hx.pos hy.pos)
 .exact Zks (by omega)
theorem Zcm {p k:Int} (h0:0<=p):Isn p (Zhl p k):=by
 unfold Zhl;split
 .rename_i h; exact .inl ⟨h,⟨by show (0:Int) < 1; decide,by simp⟩⟩
 .exact Zks (by omega)
theorem Zkx (a b:Int):Int.gcd b (a % b) = Int.gcd a b:=by
 rw [Int.emod_def,Int.sub_eq_add_neg,<- Int.mul_neg,Int.gcd_add_mul_left_right,Jen]
structure FunD (K:PySem.W.Frag) (x qual:Str) (st:Stmt) (f:Addr) (fd:FuncData) (T:Addr):Prop where
 ex:∃ (oc:Value) (od:Option Addr) (kV doc pm:Value) (an:Option Addr) (cdv ct:Value) (osl:Array (Option Value)),
  fd = PySem.W.fnOf x qual (Zcq st) (Zb7 st) (Zaf st) (.ref T) kV doc pm an cdv ct/\K.lookup f = some ⟨oc,od,.func fd,osl⟩/\PySem.W.codeIn K cdv qual = true
section
variable {P:Program} {w:World} {K:PySem.W.Frag} {mg:Str->Option Value} {base:Heap}
theorem FunD.ok {x qual:Str} {st:Stmt} {f T:Addr} {fd:FuncData} {N ps:List Str} {k:Nat} {sp:Sp} (F:FunD K x qual st f fd T) (S:FnScope N ps (Zaf st)) (len:∀ vs H Q E,sp vs H Q E->vs.length = ps.length)
  (hbody:∀ (cdv:Value) (A:Around) (outer:List Env) (s:Shared) (H:Hp) (vs:List V) (Q:VK) (E:XK),Room k (A.deeper (envOfC qual (Zaf st) s.heap.objs.size f cdv))->sp vs H Q E->
   ∃ t,PSs (Zvq CX0 P w K mg base N qual (Zaf st) f cdv A outer s H E).nox (Zb7 st) t/\t { nx:=λ_ H'=>Q .non H',rt:=Q } (start N vs) H):FnOk P w K mg base CX0 (k + 1) f fd ps sp:=by
 refine Zpx F.ex λoc od kV doc pm an cdv ct osl e91 lk hcd=>?_;obtain rfl:=e91;refine fn_of lk hcd S len λA outer s H vs Q E hr hsp=>?_;refine Zad (hbody cdv A outer s H vs Q E hr hsp) λt h q=>?_;exact ⟨t,h.nox,q⟩
end
structure CalD (P:Program) (w:World) (K:PySem.W.Frag) (mg:Str->Option Value) (base:Heap) (C:Addr) (m:Str) (k:Nat) (sp:Sp) (dvs:List V):Prop where
 ex:∃ (f:Addr) (fd:FuncData) (ps:List Str) (ds:List Value),FnOk P w K mg base CX0 k f fd ps sp/\Meth K C m f/\Binds K fd ps ds/\Vals dvs ds
theorem pe_mthD {X:Cx} {m:Str} {C:Addr} {k:Nat} {sp:Sp} {dvs:List V} {o e:Expr} {es:List Expr} {ta:TE} {t:TA} {apos pos:Pos} {pl:Sem Bool} (c:Cls X.K C) (M:CalD X.prog X.w X.K X.mg X.base C m k sp dvs) (hr:Room k X.A) (ho:PE X o ta) (ha:PA X (e :: es) t)
  (h:Zcd e = false:=by rfl) (h2:es.all (λx=>!Zcd x) = true:=by rfl)
  (ht:eval (.Call (.Attribute o m apos) (e :: es) [] pos) X.env = (do
   let ov <- eval o X.env
   standAt apos.atName
   let (f,first) <- holding [ov] (getMethod ov m pl)
   callWith pos f first (backTo pos (starEach (e :: es) X.env)) (backToKw pos (keywordEach [] X.env))):=by rfl):
  PE X (.Call (.Attribute o m apos) (e :: es) [] pos) (Zqa C m sp dvs E0 ta t):=by
 refine Zdc M.ex λf fd ps ds F hm hb hd=>?_;exact Zrf ho c hm F hr hb hd Zui ha (Zbd h) (Zfk h2) ht
theorem Zgy {K:PySem.W.Frag} {fd:FuncData} {ps:List Str} {T:Addr} {oc:Value} {od:Option Addr} {osl:Array (Option Value)} {items:Array Value} {n:Nat} {ds:List Value} (lk:K.lookup T = some ⟨oc,od,.seq items n,osl⟩) (hd:fd.defaults = .ref T)
  (h:∀ us:List Value,(us ++ ds).length = ps.length->∃ k,bindArgs fd ⟨us,[]⟩ = seqItems? fd.defaults >>= k/\k (some items) = pure (ps.zip (us ++ ds))):Binds K fd ps ds:=λs us KX hl=>by
 refine Zad (h us hl) λk h1 h2=>?_;exact .of_defaults hd (KX T _ lk) rfl h1 h2
def rEqN (K:PySem.W.Frag):R2:=λx y H Q=>rEq x y H Q\/Zv8 K false x y H Q
def rNeN (K:PySem.W.Frag):R2:=λx y H Q=>rNe x y H Q\/Zv8 K true x y H Q
theorem op_eqN {X:Cx} (hu:X.A.units + 8 < cLine):OpR X (compareOp .Eq) (rEqN X.K):=Zcc.or (op_eqT hu)
theorem op_neN {X:Cx} (hu:X.A.units + 8 < cLine):OpR X (compareOp .NotEq) (rNeN X.K):=Zfh.or (op_neT hu)
def rBits:V->List V->Hp->VK->Prop:=λx vs H Q=>∃ i:Int,x = .int i/\vs = []/\Q (.int ((Builtin.Int.intBits i:Nat):Int)) H
theorem Zkq {X:Cx}:MtM X "int.bit_length" rBits:=by
 intro pins s σ H x vs v us Q I rx rv h;refine Zav h λi e91 e92 q=>?_;clear h;obtain rfl:=e91;obtain rfl:=e92;obtain ⟨t,rfl⟩:=rx;have hus:=rv.zero;subst hus;exact call_gives F.slot_int_bit_length (typeIs_int s i t) F.entry_int_bit_length (F.args_int_bit_length_1 _) (AutoIntG2.int_bit_length_int_0 i t) ⟨.int ((Builtin.Int.intBits i:Nat):Int),H,I.tok _,⟨_,rfl⟩,q⟩
theorem Zs6 {i:Int} {n:Nat} (h:i.natAbs < 2 ^ n):Builtin.Int.intBits i<=n:=by
 unfold Builtin.Int.intBits;split
 .exact Jb2 _
 .rename_i h0
  have h1:i.natAbs ≠ 0:=by
   intro e;exact h0 (by simp [Int.natAbs_eq_zero.mp e])
  exact (Nat.log2_lt h1).mpr h
end L2
namespace L2
open PySem PySem.Spec PyProof.Rows
def Ite (K:PySem.W.Frag) (a:Addr):It:=
 ⟨λi H=>∃ xs x,SqL K H a xs/\xs[i]? = some x,λi H v H'=>∃ x p,v = .ref p/\H p = none/\H' = upd H p (.tup [.int i,x])/\(∀ xs,SqL K H a xs->xs[i]? = some x),λi H=>∃ xs,SqL K H a xs/\xs.length<=i⟩
theorem Ztu {P:Program} {w:World} {K:PySem.W.Frag} {elts:List Expr} {x1:Nat} {pos:Pos} {e i1 a:Addr} (hne:e ≠ i1):
  Turn P w K (.Tuple elts x1 pos) (Ite K a) [e,i1] e (λi h=>(∃ old,IsEnum h e i1 (i:Int) old)/\h.IsListIter i1 a i) where
 mem:=by simp
 obj:=λi h st c hc=>by
  obtain ⟨⟨old,hz⟩,⟨o1,e1,c1,d1⟩⟩:=st;simp at hc;rcases hc with rfl | rfl
  .exact ⟨_,hz,λv z=>by have z':Data.fields _ = Data.cell v:=z; cases z'⟩
  .exact ⟨o1,e1,λv z=>by rw [d1] at z; cases z⟩
 keep:=λi h h' st k=>by
  obtain ⟨⟨old,hz⟩,h1⟩:=st;exact ⟨⟨old,k e (by simp) _ hz⟩,h1.at λo e=>k i1 (by simp) o e⟩
 item:=by
  intro X hP hw hK hc i pins s σ H E I hf st hg;subst hP hw hK;refine Zbo hg λxs x hqa hx=>?_;clear hg;refine Zav (I.list hqa) λits rv p hz1=>?_;refine Zad (rv.get hx) λu hu ru=>?_;obtain ⟨⟨old,hz⟩,h1⟩:=st;refine wpAny_pyNext_enum_item hz h1 p.isList (by simpa using hu) hne λh' a1 a2 a3 a4 a5=>?_;refine ⟨_,rfl,wpAny_letOwnedTupleGo_enum a1 λh'' b1 b2=>?_⟩;have nz:s.heap.objs.size ≠ e:=Jei (Jam hz);have k2:∀ c o,c ∉ [e,i1]->s.heap.get? c = some o->h''.get? c = some o:=λc o hc q=>by
   simp at hc;exact b2.extBut _ _ hc.1 (a5 c o hc.1 hc.2 q)
  have I2:Inv X pins σ (upd H s.heap.objs.size (.tup [.int i,x])) { s with heap:=h'',toks:=s.toks + 1 }:=I.turnedT (t':=s.toks + 1) hf k2 (Jaf _)
   ⟨by show 2<=sizeLine; decide,[.int i s.toks,u],.cons ⟨_,rfl⟩ (.cons ru .nil),_,b2.extBut _ _ nz a3,rfl,_,rfl⟩
  refine Zau (.ref s.heap.objs.size) _ ⟨I2,rfl,⟨x,_,rfl,I.hok.fresh (Jaf _),rfl,λxs' hq=>by rw [I.list_inj hq hqa]; exact hx⟩,⟨⟨x |> λ_=>u,by simpa using b1⟩,a2.extBut b2.extBut hne.symm⟩,λc hc=>?_⟩;have hlt:∀ c ∈ [e,i1],c < s.heap.objs.size:=λc hc=>by
   simp at hc;refine Zad h1 λo1 e1 _=>?_;clear h1;rcases hc with rfl | rfl
   .exact Jam hz
   .exact Jam e1
  rw [Zah (Jbe (hlt c hc))];exact (hf c hc).1
 done:=by
  intro X hP hw hK hc i pins s σ H E I hf st hg;subst hP hw hK;refine Zad hg λxs hqa hx=>?_;clear hg;refine Zav (I.list hqa) λits rv p hz1=>?_;obtain ⟨⟨old,hz⟩,h1⟩:=st;have l1:=rv.length;refine wpAny_pyNext_enum_end (I.ok.hd hc) hz h1 p.isList (by simp; omega) λh' kk=>⟨rfl,I.turnedL (t':=s.toks) hf λc o hc q=>?_⟩
  simp at hc;exact kk c o hc.2 q
 self:=λ_ _ _ _ _ st h=>by
  obtain ⟨⟨old,hz⟩,h1⟩:=st;exact wpAny_pyIter_enum hz h
section
variable {X:Cx}
def iEnm (K:PySem.W.Frag) (ta:TA):TI:=λσ H R=>ta σ H λvs H1=>∃ a,vs = [.ref a]/\(∃ xs,SqL K H1 a xs)/\R (Ite K a) H1
theorem Zlq {elts:List Expr} {x1:Nat} {pt p pos:Pos} {a:Expr} {ta:TA} (hg:Gl X "enumerate") (hm:X.mg "enumerate" = none) (ha:PA X [a] ta) (h:Zcd a = false:=by rfl):
  PI X (.Tuple elts x1 pt) (.Call (.Name "enumerate" p) [a] [] pos) (iEnm X.K ta):=by
 intro pins s σ H R I hh;refine Call_ (Zh7 I hg hm boot_enumerate (Jcc (thn (ha pos pins s σ H _ I hh) λus s1 ⟨vs,H1,I1,r1,q1⟩=>?_) (by rw [Zbd h]) (by rfl)));refine Zav q1 λc e e93 q=>?_;clear q1;obtain ⟨xs,hq1⟩:=e93;subst e;cases r1 with
 | cons r rr=>
   cases rr;cases r;refine Zav (I1.list hq1) λits rv p1 hz1=>?_;refine call_enumerate_list p1.isList λh' a1 a2 a3 a4=>wpAny_pyIter_enum (s:={ s1 with heap:=h' }) a1 ?_;refine Zg0 _ _ _ _ H1 ⟨rfl,I1.kept (t':=s1.toks) a4,Ztu (Nat.succ_ne_self _),⟨⟨_,a1⟩,a2⟩,λb hb=>?_,q⟩;have hb':s1.heap.objs.size<=b:=by
    simp at hb;rcases hb with rfl | rfl
    .exact Jc8 _ _
    .exact Jaf _
   have:=(I1.fpOk (H':=H1) hb' (I1.hok.fresh hb'))
   exact this
end
section
variable {K:PySem.W.Frag} {a b D:Addr} {xs ys:List V} {g:TG} {tt:TT} {te:TE} {k:Nat} {fr:List (Str × Nat)} {σ:St} {H1:Hp} {Q:VK}
theorem Zk0 {tb:TS} {Dn:Ends} {σ:St} {H:Hp} (Pv:Nat->St->Hp->Prop) (h0:Pv 0 σ H) (hl:∀ i σ H,i<=xs.length->Pv i σ H->SqL K H a xs)
  (hs:∀ (i:Nat) x p σ H,xs[i]? = some x->H p = none->Pv i σ H->g (.ref p) σ (upd H p (.tup [.int i,x])) λσ2 H2=>tb { Dn with nx:=Pv (i + 1),ct:=Pv (i + 1),bk:=Dn.nx } σ2 H2) (hd:∀ σ H,Pv xs.length σ H->Dn.nx σ H):
  ∃ W:Nat->Nat->St->Hp->Prop,(∃ m,W 0 m σ H)/\∀ i m σ H,W i m σ H->
   ((Ite K a).stop i H/\Dn.nx σ H)\/((Ite K a).go i H/\∃ N:St->Hp->Prop,(∀ σ' H',N σ' H'->∃ m',m' < m/\W (i + 1) m' σ' H')/\∀ x H',(Ite K a).yld i H x H'->g x σ H' λσ2 H2=>tb { Dn with nx:=N,ct:=N,bk:=Dn.nx } σ2 H2):=by
 refine ⟨λi m σ H=>m = xs.length - i/\i<=xs.length/\Pv i σ H,⟨xs.length,by simp,Jb2 _,h0⟩,?_⟩;intro i m σ H e91;refine Za9 e91 λe94 hi p=>?_;clear e91;obtain rfl:=e94;have q:=hl i σ H hi p;by_cases hlt:i < xs.length
 .refine .inr ⟨⟨xs,xs[i],q,by simp [hlt]⟩,Pv (i + 1),λσ' H' p'=>⟨xs.length - (i + 1),by omega,rfl,hlt,p'⟩,λx H' y=>?_⟩;refine Zdv y λu pp e95 hp e96 e1=>?_;clear y;obtain rfl:=e95;obtain rfl:=e96;exact hs i u pp σ _ (e1 xs q) hp p
 .have e:i = xs.length:=by omega
  subst e;exact .inl ⟨⟨xs,q,Jaf _⟩,hd σ H p⟩
theorem Zvs (Pv:Nat->List V->Hp->Prop) (h0:Pv 0 [] (upd H1 D (.lst []))) (hl:∀ i vs H,i<=xs.length->Pv i vs H->SqL K H a xs)
  (hs:∀ (i:Nat) x p vs σ' H,i < xs.length->xs[i]? = some x->H p = none->Sh k (Zb8 fr σ) σ'->Pv i vs H->Zfx g tt te D xs.length k (Zb8 fr σ) Pv i (.ref p) σ' (upd H p (.tup [.int i,x]))) (hd:∀ vs H,Pv xs.length vs H->Q (.ref D) H):
  Zb9 g tt te (Ite K a) D (Zh8 k fr σ) H1 Q:=by
 refine ⟨Wv xs.length k (Zb8 fr σ) Pv,⟨xs.length,by simp,Jb2 _,sh0,[],h0⟩,?_⟩;intro i m σ' H2 e92;refine Zcj e92 λe97 hi sh e98=>?_;clear e92;obtain rfl:=e97;obtain ⟨vs,p⟩:=e98;have q1:=hl i vs H2 hi p;by_cases hlt:i < xs.length
 .refine .inr ⟨⟨xs,xs[i],q1,by simp [hlt]⟩,λx H3 y=>?_⟩;refine Zdv y λu pp e99 hp e910 e1=>?_;clear y;obtain rfl:=e99;obtain rfl:=e910;exact hs i u pp vs σ' _ hlt (e1 _ q1) hp sh p
 .have e:i = xs.length:=by omega
  subst e;exact .inl ⟨⟨xs,q1,Jaf _⟩,hd vs H2 p⟩
end
end L2
namespace L2
open PySem PySem.Spec PyProof.Rows PySem.W
structure Trk (B:Heap) (fr:List Env) (e:Addr) (cls c0 fl:Value) (h:Heap):Prop where
 st:B.StaysIn h
 nw:B.get? e = none
 ff:h.FunFrames B fr
 ob:∃ (o:Obj) (vs:Array Value) (T:Addr) (oT:Obj) (us:Array Value),h.get? e = some o/\o.cls = cls/\o.data = .fields vs/\vs[2]? = some c0/\vs[1]? = some (.ref T)/\B.get? T = none/\T ≠ e/\h.get? T = some oT/\oT.data = .fields us/\us[3]? = some fl
theorem Trk.there {B h:Heap} {fr:List Env} {e:Addr} {cls c0 fl:Value} (x:Trk B fr e cls c0 fl h):∃ o,h.get? e = some o/\o.cls = cls:=
 let ⟨o,_,_,_,_,a,b,_⟩:=x.ob; ⟨o,a,b⟩
section
variable {M:Model} {A:Around} {E:Value->Shared->Prop} {s:Shared} {B:Heap} {fr:List Env} {e L:Addr} {cls c0:Value} {Q:Unit->Shared->Prop}
end
end L2
namespace L2
open PySem PySem.Spec PyProof.Rows PySem.W
theorem ObjOk.there {P:Program} {w:World} {H:Hp} {h:Heap} {a:Addr} {o:HO} (x:ObjOk P w H h a o):∃ u,h.get? a = some u:=by
 cases o with
 | lst xs=>obtain ⟨_,_,_,_,e⟩:=x; exact ⟨_,e⟩
 | tup xs=>obtain ⟨_,_,_,p⟩:=x; obtain ⟨o,e,_⟩:=p; exact ⟨_,e⟩
 | dK kvs=>obtain ⟨_,_,_,_,o,_,_,e,_⟩:=x; exact ⟨_,e⟩
 | dT kvs=>obtain ⟨_,_,_,_,o,_,_,e,_⟩:=x; exact ⟨_,e⟩
 | set S n=>obtain ⟨o,_,_,_,e,_⟩:=x; exact ⟨_,e⟩
 | ins C dx fs=>obtain ⟨_,_,_,e,_⟩:=x; exact ⟨_,e⟩
 | own y=>obtain ⟨_,e⟩:=x; exact ⟨_,e⟩
 | xd fs=>obtain ⟨_,⟨_,_,_,e,_⟩,_⟩:=x; exact ⟨_,e⟩
 | rng lo hi=>obtain ⟨_,_,_,e⟩:=x; exact ⟨_,e⟩
 | frz ob u=>obtain ⟨e,_⟩:=x; exact ⟨_,e⟩
 | tbl ps=>exact ⟨_,(show h.get? a = some _ from x)⟩
 | met f y=>exact ⟨_,(show h.get? a = some _ from x)⟩
 | ext φ=>obtain ⟨_,⟨_,e⟩,_⟩:=x; exact ⟨_,e⟩
 | tab l c q=>
  rcases x with e | ⟨_,_,_,_,e,_⟩
  .exact ⟨_,e⟩
  .exact ⟨_,e⟩
structure Fly (P:Program) (w:World) (outer:List Env) (H:Hp) (s:Shared) (a:Addr) (cls c0:Value) (H':Hp) (s':Shared):Prop where
 os:s'.os = s.os
 bare:AllBare s'.gens
 hok:HOk P w H' s'.heap
 un:Un (frs outer) [] H H' s.heap s'.heap
 fly:∃ B,Trk B outer a cls c0 .none s'.heap/\(∀ b o,s.heap.get? b = some o->b ∉ frs outer->∃ o',B.get? b = some o')/\∀ b u,H' b = some u->∃ o',B.get? b = some o'
 new:∀ o,s.heap.get? a ≠ some o
 free:H' a = none
def CXe (P:Program) (w:World):CXT:=λouter H s E e s'=>∃ (a:Addr) (cls c0:Value) (H':Hp),e = .ref a/\Fly P w outer H s a cls c0 H' s'/\E cls none H'/\(c0 = .none\/E cls (some 0) H')
section
variable {P:Program} {w:World} {K:PySem.W.Frag} {mg:Str->Option Value} {base:Heap} {N:List Str} {qual:Str} {scope:Scope} {f:Addr} {cd:Value} {A:Around} {outer:List Env} {s:Shared} {H:Hp} {E:XK} {pins:List (Addr × Obj)} {σ:St} {H1:Hp} {s1 s2:Shared} {e:Addr} {cls:Value}
end
end L2
namespace L2
open PySem PySem.Spec PyProof.Rows PySem.W
def Zv3 (t:TA) (R:Hp->Prop):TS:=λ_ σ H=>t σ H λvs H1=>vs.length<=1000/\R H1
section
variable {X:Cx} {x:Str} {C:Addr} {bm bmN:List Value} {B Bn newId nid initId inN:String} {np cpos pos:Pos} {e₀:Expr} {rest:List Expr} {t:TA} {R:Hp->Prop}
end
end L2
namespace L2
open PySem PySem.Spec PyProof.Rows PySem.W
section
variable {P:Program} {w:World} {K:PySem.W.Frag} {mg:Str->Option Value} {base:Heap}
end
section
variable {X:Cx} {pins:List (Addr × Obj)} {σ:St} {H H':Hp} {s s':Shared} {a:Addr} {cls:Value}
end
end L2
namespace L2
open PySem PySem.Spec PyProof.Rows PySem.W
section
variable {M:Model} {A:Around} {E:Value->Shared->Prop}
variable {nm q:Str} {C N:Addr} {bs bm:List Value} {hdct:Bool} {sn:List Str} {sub:List Value} {ab:Bool} {col:Option Bool} {dd:Option Addr} {k0 k1 k2 k3 k5:Option Value} {newId:String}
variable {nm' q':Str} {C' N':Addr} {bs' bm':List Value} {hdct':Bool} {sn':List Str} {sub':List Value} {ab':Bool} {col':Option Bool} {dd':Option Addr} {j0 j1 j2 j3 j5:Option Value} {newId':String}
end
end L2
namespace L2
open PySem PySem.Spec PyProof.Rows PySem.W
abbrev Cx.pnx (X:Cx) (pins:List (Addr × Obj)):Cx:={ X with pn:=X.pn ++ pins }
abbrev Cx.hnd (X:Cx) (pins:List (Addr × Obj)) (a:Addr):Cx:={ X with pn:=X.pn ++ pins,A:=X.A.mark (some (.ref a)),calm:=false,xe:=λ_ _=>False }
section
variable {X:Cx} {pins pins':List (Addr × Obj)} {σ:St} {H:Hp} {s:Shared} {a:Addr}
theorem Inv.pnx (I:Inv X pins σ H s):Inv (X.pnx pins) [] σ H s:=
 ⟨⟨I.ok.mod,I.ok.kind,I.ok.glob,I.ok.blt,I.ok.above,I.ok.inj,I.ok.has,I.ok.cab,I.ok.hd,I.ok.frames,I.ok.stk,I.ok.exf,I.ok.bs,I.ok.bsz,I.ok.noex,I.ok.exfs,I.ok.funs,I.ok.frf,I.ok.top⟩,I.os,I.bare,I.base,I.loc,I.cell,I.free,I.freeC,λp hp=>I.pin p (by simpa using hp),I.hok,I.len⟩
theorem Inv.hnd (I:Inv X pins σ H s) (a:Addr):Inv (X.hnd pins a) [] σ H s:=
 ⟨⟨I.ok.mod,I.ok.kind,I.ok.glob,I.ok.blt,I.ok.above,I.ok.inj,I.ok.has,I.ok.cab,(λz=>nomatch z),I.ok.frames,I.ok.stk,I.ok.exf,I.ok.bs,I.ok.bsz,I.ok.noex,I.ok.exfs,I.ok.funs,I.ok.frf,I.ok.top⟩,I.os,I.bare,I.base,I.loc,I.cell,I.free,I.freeC,λp hp=>I.pin p (by simpa using hp),I.hok,I.len⟩
end
def isExc (a:Addr) (cls:Value):HO:=.ext λh=>∃ ob,h.get? a = some ob/\ob.cls = cls
def hEnds (X:Cx) (D:Ends):Ends:={ nx:=λ_ H=>D.nx (List.replicate X.N.length none) H,rt:=D.rt,bk:=λ_ H=>D.bk (List.replicate X.N.length none) H,ct:=λ_ H=>D.ct (List.replicate X.N.length none) H }
def tTry (X:Cx) (E':XK) (tb:TS) (i:Nat) (th:TS):TS:=λD σ H=>tb D σ H/\∀ (cls:Value) (H':Hp) (a:Addr) (σ':St),E' cls none H'->H' a = none->σ'.length = X.N.length->th (hEnds X D) (σ'.set i (some (.ref a))) (upd H' a (isExc a cls))
section
variable {X:Cx} {x n:Str} {np hpos pos:Pos} {body suite:List Stmt} {b₀:Stmt} {E':XK} {tb th:TS} {i:Nat} {D:Addr} {bmD:List Value} {newD:String}
end
end L2
namespace L2
open PySem PySem.Spec PySem.Calls PyProof.Rows PySem.W Builtin Builtin.ObjectAttr Builtin.Getset_descriptor
structure ExcCls (K:PySem.W.Frag) (C:Addr):Prop where
 ga:findIn K (.ref C) "__getattribute__" = some (some (.builtin "BaseException.__getattribute__"))
 gt:findIn K (.ref C) "__getattr__" = some none
 cl:findIn K (.ref C) "__class__" = some (some (.builtin "object.__class__"))
 so:mroIn K C (.type "object") = some true
 sb:mroIn K C (.type "BaseException") = some true
section
variable {prog:Program} {w:World} {A:Around} {E:Value->Shared->Prop} {h:Heap} {g:Array GenState} {d:Drawn} {t:Nat} {os:OsState} {a C:Addr} {ox:Obj} {K:PySem.W.Frag}
end
end L2
namespace L2
open PySem PySem.Spec PyProof.Rows PySem.W
section
variable {X:Cx}
end
end L2
namespace L2
open PySem PySem.Spec PyProof.Rows PySem.W
structure CalE (P:Program) (w:World) (K:PySem.W.Frag) (mg:Str->Option Value) (base:Heap) (x:Str) (k:Nat) (sp:Sp):Prop where
 ex:∃ (f:Addr) (fd:FuncData) (ps:List Str),FnOk P w K mg base (CXe P w) k f fd ps sp/\mg x = some (.ref f)/\PySem.W.keepIn K (.ref f) = true/\Binds K fd ps []
structure CalME (P:Program) (w:World) (K:PySem.W.Frag) (mg:Str->Option Value) (base:Heap) (C:Addr) (m:Str) (k:Nat) (sp:Sp):Prop where
 ex:∃ (f:Addr) (fd:FuncData) (ps:List Str),FnOk P w K mg base (CXe P w) k f fd ps sp/\Meth K C m f/\Binds K fd ps []
structure CalIE (P:Program) (w:World) (K:PySem.W.Frag) (mg:Str->Option Value) (base:Heap) (x:Str) (C:Addr) (k:Nat) (sp:Sp):Prop where
 ex:∃ (f:Addr) (fd:FuncData) (ps:List Str),FnOk P w K mg base (CXe P w) k f fd ps sp/\Mk K C f/\mg x = some (.ref C)/\Binds K fd ps []
section
variable {X:Cx} {x m:Str} {k:Nat} {sp:Sp} {e o:Expr} {es:List Expr} {ta:TE} {t:TA} {p pos apos:Pos} {E:XK} {C:Addr}
end
theorem hnd_K {X:Cx} {pins:List (Addr × Obj)} {a:Addr}:(X.hnd pins a).K = X.K:=rfl
theorem pnx_K {X:Cx} {pins:List (Addr × Obj)}:(X.pnx pins).K = X.K:=rfl
structure CalDE (P:Program) (w:World) (K:PySem.W.Frag) (mg:Str->Option Value) (base:Heap) (C:Addr) (m:Str) (k:Nat) (sp:Sp) (dvs:List V):Prop where
 ex:∃ (f:Addr) (fd:FuncData) (ps:List Str) (ds:List Value),FnOk P w K mg base (CXe P w) k f fd ps sp/\Meth K C m f/\Binds K fd ps ds/\Vals dvs ds
section
variable {P:Program} {w:World} {K:PySem.W.Frag} {mg:Str->Option Value} {base:Heap} {N:List Str} {qual:Str} {scope:Scope} {f:Addr} {cd:Value} {A:Around} {outer:List Env} {s:Shared} {H:Hp} {E:XK}
end
end L2
namespace L2
open PySem PySem.Spec PyProof.Rows
structure RoomH (k:Nat) (A:Around):Prop where
 dp:A.depth + 3 * k + 205 < recursionLimit
 un:A.units + 16 * k + 200 < cLine
theorem Room.mark {k:Nat} {A:Around} (r:Room k A) (v:Option Value):RoomH k (A.mark v):=⟨r.dp,r.un⟩
theorem RoomH.mono {j k:Nat} {A:Around} (r:RoomH k A) (h:j<=k):RoomH j A:=⟨by have:=r.dp; omega,by have:=r.un; omega⟩
structure FnOkH (P:Program) (w:World) (K:PySem.W.Frag) (mg:Str->Option Value) (base:Heap) (CX:CXT) (k:Nat) (f:Addr) (fd:FuncData) (ps:List Str) (sp:Sp):Prop where
 len:∀ vs H Q E,sp vs H Q E->vs.length = ps.length
 run:∀ (A:Around) (outer:List Env) (s:Shared) (H:Hp) (args:Args) (us:List Value) (vs:List V) (Q:VK) (E:XK),RoomH k A->Env0 P w K mg base A outer s H->BindsTo s fd args (ps.zip us)->Vals vs us->sp vs H Q E->
  codeAny (model P w) A (.call (.ref f) args) (CR CX outer P w H s Q E) s
section
variable {P:Program} {w:World} {K:PySem.W.Frag} {mg:Str->Option Value} {base:Heap}
structure CalH (P:Program) (w:World) (K:PySem.W.Frag) (mg:Str->Option Value) (base:Heap) (x:Str) (k:Nat) (sp:Sp):Prop where
 ex:∃ (f:Addr) (fd:FuncData) (ps:List Str),FnOkH P w K mg base CX0 k f fd ps sp/\mg x = some (.ref f)/\PySem.W.keepIn K (.ref f) = true/\Binds K fd ps []
end
section
variable {X:Cx} {CX:CXT} {k:Nat} {f C:Addr} {fd:FuncData} {ps:List Str} {sp:Sp} {dvs:List V} {ds:List Value} {E:XK} {x m:Str} {p pos apos:Pos} {e o:Expr} {es:List Expr} {ta:TE} {t:TA}
end
section
variable {X:Cx}
end
end L2
namespace L2
open PySem PySem.Spec PyProof.Rows
end L2
namespace L2
open PySem PySem.Spec PyProof.Rows
section
variable {prog:Program} {w:World} {A:Around} {s:Shared} {E:Value->Shared->Prop}
end
section
variable {X:Cx}
end
def Itv (K:PySem.W.Frag) (a:Addr) (n:Nat):It:=
 ⟨λi H=>∃ xs,SqL K H a xs/\xs.length = n/\i < n,λi H v H'=>H' = H/\∀ xs,SqL K H a xs->xs[n - 1 - i]? = some v,λi H=>∃ xs,SqL K H a xs/\xs.length = n/\i = n⟩
section
variable {X:Cx}
def iRvl (K:PySem.W.Frag) (ta:TA):TI:=λσ H R=>ta σ H λvs H1=>∃ a xs,vs = [.ref a]/\SqL K H1 a xs/\R (Itv K a xs.length) H1
end
section
variable {K:PySem.W.Frag} {a:Addr} {xs:List V} {g:TG}
end
end L2
namespace L2
open PySem PySem.Spec PyProof.Rows
section
variable {prog:Program} {w:World} {A:Around} {E:Value->Shared->Prop} {s:Shared}
end
end L2
namespace L2
open PySem PySem.Spec PyProof.Rows
section
variable {prog:Program} {w:World} {A:Around} {s:Shared} {E:Value->Shared->Prop}
structure EnG (items:Array Value) (lo:Addr) (h:Heap) (as:List Addr):Prop where
 rise:as.Pairwise (· < ·)
 above:∀ a ∈ as,lo < a
 pairs:∀ (j:Nat) (a:Addr),as[j]? = some a->∃ t x,items[j]? = some x/\h.get? a = some { cls:=.type "tuple",data:=.seq #[.int j t,x] }
end
section
variable {prog:Program} {w:World} {A:Around} {s:Shared} {R:Result->Shared->Prop} {items:Array Value}
end
section
variable {prog:Program} {w:World} {A:Around} {s:Shared} {E:Value->Shared->Prop}
end
section
variable {X:Cx} {pins:List (Addr × Obj)} {σ:St}
def tLE (K:PySem.W.Frag) (ta:TA):TE:=λσ H Q=>ta σ H λvs H1=>∃ a xs,vs = [.ref a]/\SqL K H1 a xs/\∀ (l:Addr) (ps:List Addr) (H':Hp),Same H1 H'->H1 l = none->(∀ q ∈ ps,q ≠ l)->H' l = some (.lst (ps.map V.ref))->ps.length = xs.length->
 (∀ (i:Nat) q x,ps[i]? = some q->xs[i]? = some x->H' q = some (.tup [.int i,x]))->Q (.ref l) H'
end
section
variable {X:Cx}
def gSl0 (to:TE) (th:TO):TG:=λv σ H Q=>to σ H λx H1=>th σ H1 λu H2=>∃ l b xs ys,∃ c:Int,x = .ref l/\v = .ref b/\u = some c/\H2 l = some (.lst xs)/\H2 b = some (.lst ys)/\l ≠ b/\0<=c/\c<=xs.length/\xs.length + ys.length<=sizeLine/\Q σ (upd H2 l (.lst (ys ++ xs.drop c.toNat)))
end
section
variable {K:PySem.W.Frag} {a b D:Addr} {xs ys:List V} {g:TG} {tt:TT} {te:TE} {k:Nat} {fr:List (Str × Nat)} {σ:St} {H1:Hp} {Q:VK}
end
end L2
namespace L2
open PySem PySem.Spec PyProof.Rows
def Bt (n:Nat) (z:Int):Prop:=z.natAbs < 2 ^ n
theorem Bt.le {n m:Nat} {z:Int} (h:Bt n z) (hm:n<=m):Bt m z:=Jaw h (Jcm (by decide) hm)
theorem Bt.mul {n m:Nat} {x y:Int} (h:Bt n x) (h':Bt m y):Bt (n + m) (x * y):=by
 unfold Bt at *;rw [Jcu,Nat.pow_add];exact Nat.mul_lt_mul'' h h'
theorem Bt.add {n:Nat} {x y:Int} (h:Bt n x) (h':Bt n y):Bt (n + 1) (x + y):=by
 unfold Bt at *;rw [Jeo];omega
theorem Bt.sub {n:Nat} {x y:Int} (h:Bt n x) (h':Bt n y):Bt (n + 1) (x - y):=by
 unfold Bt at *;rw [Jeo];omega
theorem Bt.neg {n:Nat} {x:Int} (h:Bt n x):Bt n (-x):=by unfold Bt at *; rw [Int.natAbs_neg]; exact h
theorem Bt.abs_le {n:Nat} {x y:Int} (h:Bt n x) (hy:y.natAbs<=x.natAbs):Bt n y:=Jbk hy h
theorem Bt.quo {n:Nat} {x y:Int} (h:Bt n x) (hd:y ∣ x):Bt n (x / y):=h.abs_le (by
 rw [Int.natAbs_ediv,if_pos (.inr (.inr hd))];exact Nat.div_le_self _ _)
theorem Zs4 (n:Nat):Bt n 0:=Jdu n
theorem Za8 {n:Nat} {z:Int} (hn:7<=n) (h:z.natAbs < 128):Bt n z:=Jaw h (Jcm (show 0 < 2 by decide) hn)
theorem Bt.bits {n:Nat} {z:Int} (h:Bt n z):Builtin.Int.intBits z<=n:=Zs6 h
theorem Bt.ok {n m:Nat} {x y:Int} (h:Bt n x) (h':Bt m y) (hs:n + m<=134217728):IntMulOk x y:=mulOk_of_bits h.bits h'.bits hs
theorem Zct {X:Cx} (ht:X.prog.given.tree = none) (hd:X.A.depth + Builtin.pylongFrames < recursionLimit):OpR X (binaryOp .FloorDiv) (rI (λ_ j=>j ≠ 0) λi j=>.int (i.fdiv j)):=by
 intro pins s σ H x y v u Q I rx ry h;refine Zdv h λi j e91 e92 hc q=>?_;clear h;obtain rfl:=e91;obtain rfl:=e92;obtain ⟨t,rfl⟩:=rx;obtain ⟨t',rfl⟩:=ry;exact floordiv_int hc ⟨.int (i.fdiv j),H,I.tok _,⟨_,rfl⟩,q⟩ (.inr (I.long ht hd))
theorem Zca {k:Nat} {A:Around} (hr:Room k A):A.depth + Builtin.pylongFrames < recursionLimit:=by
 have:=hr.dp;have e:Builtin.pylongFrames<=200:=by decide
 omega
theorem Zfn {i j:Int} (h:0 < j):i.fdiv j = i / j:=Jbu i (by omega)
theorem Zvj {a b c d x y:Int} (h:a * d - b * c = 1\/a * d - b * c = -1):Int.gcd (a * x + b * y) (c * x + d * y) = Int.gcd x y:=by
 apply Nat.dvd_antisymm
 .have h1:((Int.gcd (a * x + b * y) (c * x + d * y):Nat):Int) ∣ a * x + b * y:=Jbn ..;have h2:((Int.gcd (a * x + b * y) (c * x + d * y):Nat):Int) ∣ c * x + d * y:=Jbs ..;generalize Int.gcd (a * x + b * y) (c * x + d * y) = g at *;obtain ⟨u,hu⟩:=h1;obtain ⟨v,hv⟩:=h2;have dx:(g:Int) ∣ x:=by
   rcases h with h | h
   .exact ⟨d * u - b * v,by grind⟩
   .exact ⟨b * v - d * u,by grind⟩
  have dy:(g:Int) ∣ y:=by
   rcases h with h | h
   .exact ⟨a * v - c * u,by grind⟩
   .exact ⟨c * u - a * v,by grind⟩
  exact Int.ofNat_dvd.mp (Int.dvd_coe_gcd dx dy)
 .have h1:((Int.gcd x y:Nat):Int) ∣ x:=Jbn ..;have h2:((Int.gcd x y:Nat):Int) ∣ y:=Jbs ..;generalize Int.gcd x y = g at *;obtain ⟨u,hu⟩:=h1;obtain ⟨v,hv⟩:=h2;exact Int.ofNat_dvd.mp (Int.dvd_coe_gcd ⟨a * u + b * v,by grind⟩ ⟨c * u + d * v,by grind⟩)
structure Steps (x0 y0 a b c d x y:Int):Prop where
 hx:a * x0 + b * y0 = x
 hy:c * x0 + d * y0 = y
 sg:∃ e:Int,(e = 1\/e = -1)/\a * d - b * c = e/\0<=e * a/\0<=-(e * b)/\0<=-(e * c)/\0<=e * d
 x64:18446744073709551616<=x
 yn:0<=y
 yx:y<=x
 ab:a.natAbs < 4611686018427387904/\b.natAbs < 4611686018427387904
 pr:(a = 1/\b = 0/\c = 0/\d = 1)\/(b ≠ 0/\x + y + 18446744073709551616<=x0 + y0)
theorem Zlu {u x m:Int} (hu:0<=u) (hx:18446744073709551616<=x) (h:u * x<=m) (hm:m < 85070591730234615865843651857942052864):u < 4611686018427387904:=by
 apply Jb6;intro z;have h1:(4611686018427387904:Int) * 18446744073709551616<=u * x:=Int.mul_le_mul (by omega) hx (by omega) hu;omega
theorem Steps.cd {x0 y0 a b c d x y:Int} (h:Steps x0 y0 a b c d x y) (h0:x0 < 85070591730234615865843651857942052864) (h1:y0<=x0):c.natAbs < 4611686018427387904/\d.natAbs < 4611686018427387904:=by
 refine Ztm h.sg λe he det sa sb sc sd=>?_;have ee:e * e = 1:=by rcases he with rfl | rfl <;> rfl
 have ex:(e * d) * x + (-(e * b)) * y = x0:=by
  rw [<- h.hx,<- h.hy];have:(e * d) * (a * x0 + b * y0) + (-(e * b)) * (c * x0 + d * y0) = e * (a * d - b * c) * x0:=by grind
  rw [this,det,ee,Int.one_mul]
 have ey:(-(e * c)) * x + (e * a) * y = y0:=by
  rw [<- h.hx,<- h.hy];have:(-(e * c)) * (a * x0 + b * y0) + (e * a) * (c * x0 + d * y0) = e * (a * d - b * c) * y0:=by grind
  rw [this,det,ee,Int.one_mul]
 have p1:0<=(-(e * b)) * y:=Jdb sb h.yn;have p2:0<=(e * a) * y:=Jdb sa h.yn;have q1:=Zlu sd h.x64 (show (e * d) * x<=x0 by omega) h0;have q2:=Zlu sc h.x64 (show (-(e * c)) * x<=x0 by omega) h0;constructor
 .rcases he with rfl | rfl <;> omega
 .rcases he with rfl | rfl <;> omega
theorem Steps.next {x0 y0 a b c d x y:Int} (h:Steps x0 y0 a b c d x y) (h0:x0 < 85070591730234615865843651857942052864) (h1:y0<=x0) (hy:18446744073709551616<=y):Steps x0 y0 c d (a - x / y * c) (b - x / y * d) y (x - x / y * y):=by
 have cd:=h.cd h0 h1;refine Ztm h.sg λe he det sa sb sc sd=>?_;have m0:0<=x / y:=Jef (by have:=h.x64; omega) (by omega);have m1:1<=x / y:=by
  have:=h.yx;exact (Int.le_ediv_iff_mul_le (by omega)).mpr (by omega)
 have hr:x - x / y * y = x % y:=by
  have:=Jd4 x y;rw [Jdg y] at this;omega
 have r0:=Jbi x (show y ≠ 0 by omega);have r1:=Ja7 x (show 0 < y by omega);have e1:=h.hx;have e2:=h.hy;generalize hq:x / y = q at *;have qy:y<=q * y:=by
  have:=Jc2 m1 (show 0<=y by omega);omega
 refine ⟨h.hy,by rw [<- e1,<- e2]; grind,⟨-e,?_,by grind,by grind,by grind,?_,?_⟩,hy,by omega,by omega,cd,.inr ⟨?_,?_⟩⟩
 .rcases he with rfl | rfl <;> simp
 .have p:=Jdb m0 sc;have:-(-e * (a - q * c)) = e * a + q * -(e * c):=by grind
  omega
 .have p:=Jdb m0 sd;have:-e * (b - q * d) = -(e * b) + q * (e * d):=by grind
  omega
 .rcases h.pr with ⟨_,_,_,rfl⟩ | ⟨hb,_⟩
  .decide
  .intro z;subst z;have hbc:-(b * c) = e:=by rw [<- det]; grind
   -- b * c = -e,d = 0: then y = c * x0 and x = a * x0 + b * y0
   have hc1:c.natAbs = 1:=by
    have:b.natAbs * c.natAbs = 1:=by rw [<- Jcu]; rcases he with rfl | rfl <;> omega
    exact Nat.eq_one_of_mul_eq_one_left this
   have e2':c * x0 = y:=by rw [<- e2]; grind
   have hc:c = 1:=by
    rcases (show c = 1\/c = -1 by omega) with z | z
    .exact z
    .subst z;have:=h.x64;have:=h.yx;omega
   subst hc;rcases h.pr with ⟨_,hb0,_⟩ | ⟨_,hs⟩
   .exact hb hb0
   .have:=h.x64;have:=h.yx;have:=h.yn;omega
 .rcases h.pr with ⟨rfl,rfl,rfl,rfl⟩ | ⟨_,hs⟩
  .have g1:x0 = x:=by rw [<- e1]; grind
   have g2:y0 = y:=by rw [<- e2]; grind
   omega
  .omega
end L2
namespace L2
open PySem PySem.Spec PyProof.Rows PySem.W
def Zl6 (X:Cx) (N:List Str) (qual:Str) (scope:Scope) (cl:List (Str × Addr)) (f:Addr) (cd:Value) (A:Around) (s:Shared) (H:Hp):Cx where
 prog:=X.prog
 w:=X.w
 K:=X.K
 mg:=X.mg
 base:=X.base
 A:=A.deeper (envX qual scope s.heap.objs.size f cd cl)
 N:=N
 s₀:=s
 H₀:=H
 env:=envX qual scope s.heap.objs.size f cd cl
 outer:=X.stack
 stack:=envX qual scope s.heap.objs.size f cd cl :: X.stack
 ex:=[]
 fn:=λ_=>false
 calm:=true
 pn:=[]
 xe:=λ_ _=>False
structure LamScope (X:Cx) (sc:Scope) (x:Str) (fr:List (Str × Nat)):Prop where
 kind:sc.kind = .function
 co:sc.isCoroutine = false
 gen:sc.isGenerator = false
 nocell:∀ y ∈ sc.names,y.2 ≠ .cell
 par:sc.names.lookup x = some .local
 free:∀ y ∈ sc.names,y.2 = .free->X.env.scope.names.lookup y.1 = some .cell\/X.env.scope.names.lookup y.1 = some .free
 cap:∀ y ∈ fr,sc.names.lookup y.1 = some .free/\X.N[y.2]? = some y.1
abbrev Ztd (x:Str) (fr:List (Str × Nat)):List Str:=x :: fr.map (·.1)
abbrev Zwf (v:V) (fr:List (Str × Nat)) (σ:St):St:=some v :: fr.map λy=>(σ[y.2]?).getD none
section
variable {X:Cx} {pins:List (Addr × Obj)} {σ:St} {H:Hp} {s:Shared} {A:Around} {sc:Scope} {x:Str} {fr:List (Str × Nat)} {cl:List (Str × Addr)} {f:Addr} {cd:Value} {qual:Str}
theorem inv_lam {h':Heap} {v:V} {u:Value} (I:Inv X pins σ H s) (B:LamScope X sc x fr) (hfr:A.frames = some X.stack) (hd:A.handled = none)
  (hcl:∀ x c,cl.lookup x = some c->X.env.cells.lookup x = some c) (hcl2:∀ y ∈ sc.names,y.2 = .free->∃ c,cl.lookup y.1 = some c) (rv:RelV v u)
  (hn:h'.Ns s.heap.objs.size (λy=>[(x,u)].reverse.lookup y)) (hk:∀ b o,s.heap.get? b = some o->h'.get? b = some o):
  Inv (Zl6 X (Ztd x fr) qual sc cl f cd A s H) [] (Zwf v fr σ) H { s with heap:=h',toks:=s.toks + 1 }:=by
 have bsz:X.base.objs.size<=s.heap.objs.size:=Jav I.ok.bsz I.sz;have noA:∀ b:Addr,b ∉ (Zl6 X (Ztd x fr) qual sc cl f cd A s H).ex:=λb z=>absurd (show b ∈ ([]:List Addr) from z) (by simp);refine ⟨⟨I.ok.mod,B.kind,rfl,rfl,Jaf _,λy z c h1 h2=>I.ok.inj y z c (hcl y c h1) (hcl z c h2),λy hy=>?_,λy c hf _=>absurd (show false = true from hf) Jau,λ_=>hd,Around.frames_deeper hfr,.inr ⟨rfl,rfl⟩,λb z=>absurd z (noA b),I.bs,bsz,λb _ _=>noA b,λb z=>absurd z (noA b),I.stack,I.stkFree,⟨_,_,rfl,B.gen,B.co,rfl,rfl⟩⟩,
  rfl,I.bare,Un.kept hk,⟨_,hn,λi y w h1 h2 h3=>?_⟩,λy c e=>?_,I.hok.fresh (Jaf _),λy c e=>I.freeC y c (hcl y c e),λp hp=>absurd (show p ∈ ([]:List (Addr × Obj)) from hp) (by simp),I.hok.kept hk,by show (Zwf v fr σ).length = (Ztd x fr).length; simp⟩
 .have hy:sc.names.lookup y = some .cell\/sc.names.lookup y = some .free:=hy;rcases hy with z | z
  .exact absurd rfl (B.nocell _ (Jbh z))
  .exact hcl2 _ (Jbh z) rfl
 .have h1:(Ztd x fr)[i]? = some y:=h1;cases i with
  | zero=>
   have e1:x = y:=Jbd h1;have e2:some v = some w:=Jbd h2;cases e2;subst e1;exact ⟨u,rv,.inl ⟨B.par,by simp⟩⟩
  | succ i=>
   rw [List.getElem?_cons_succ,Jah] at h1 h2;cases e:fr[i]? with
   | none=>rw [e] at h1; cases h1
   | some z=>
    rw [e] at h1 h2;have hy1:z.1 = y:=Jbd h1;have hy2:(σ[z.2]?).getD none = some w:=Jbd h2;obtain ⟨c1,c2⟩:=B.cap z (Jad e);rw [hy1] at c1 c2;have hs:σ[z.2]? = some (some w):=by
     cases e2:σ[z.2]? with
     | none=>rw [e2] at hy2; cases hy2
     | some o=>rw [e2] at hy2; cases o with
      | none=>cases hy2
      | some w=>cases hy2; rfl
    refine Zad I.loc λm hm hl=>?_;have hfree:=B.free _ (Jbh c1) rfl;refine Zad (hl z.2 y w c2 hs (hfree.elim (λz=>.inr (.inl z)) λz=>.inr (.inr z))) λu' r l=>?_;refine ⟨u',r,?_⟩;obtain ⟨k,c,e3,ce⟩:(X.env.kindOf y = some .cell\/X.env.kindOf y = some .free)/\∃ c,X.env.cells.lookup y = some c/\s.heap.IsCell c (some u'):=by
     rcases l with ⟨k,_⟩ | q
     .have k:X.env.scope.names.lookup y = some .local:=k;rcases hfree with z | z <;> (rw [z] at k; cases k)
     .exact q
    obtain ⟨d,hd'⟩:=hcl2 _ (Jbh c1) rfl;have hd2:=hcl y d hd';rw [e3] at hd2;cases hd2;exact .inr ⟨.inr c1,c,hd',ce.keeps hk⟩
 .obtain ⟨w,q⟩:=I.cell y c (hcl y c e);exact ⟨w,q.keeps hk⟩
theorem run_lam {c':Addr} {params:Arguments} {body:Expr} {name:Str} {pm ctv:Value} {v:V} {u:Value} {te:TE} {Q:VK} (I:Inv X pins σ H s) (B:LamScope X sc x fr) (hfr:A.frames = some X.stack) (hd:A.handled = none) (hroom:A.depth < recursionLimit)
  (hcl:∀ x c,cl.lookup x = some c->X.env.cells.lookup x = some c) (hcl2:∀ y ∈ sc.names,y.2 = .free->∃ c,cl.lookup y.1 = some c) (rv:RelV v u)
  (hf:s.heap.get? f = some (kla_obj name qual params body sc cl pm c' ctv)) (hcd:s.heap.CodeRec (.ref c') qual)
  (hb:bindArgs (kla_fn name qual params body sc cl pm (.ref c') ctv) ⟨[u],[]⟩ = pure [(x,u)])
  (he:PE (Zl6 X (Ztd x fr) qual sc cl f (.ref c') A.in1 s H) body te) (q:te (Zwf v fr σ) H Q):
  wpAny (model X.prog X.w) A.in1 (call (.ref f) [u]) (EP X pins σ Q) (λ_ _=>False) s:=by
 refine wpAny_call (kla_callFunE (A:=A.in1) hroom hf rfl B.co B.gen rfl hcd ?_);rw [hb];refine Jbj (wpAny_newFunctionEnv B.nocell (λy hy=>?_) (λh₁ hns hsb=>⟨I.nolimit.fresh _ hsb,?_⟩) B.kind)
 .rw [Jaq.mp hy];exact B.par
 .show codeAny _ _ (.expr body (envX qual sc s.heap.objs.size f (.ref c') cl)) _ _;have hk₁:∀ b o,s.heap.get? b = some o->h₁.get? b = some o:=λb o e=>hsb.extBut b o (Jbe (Jam e)) (Jak _ e);have I1:Inv (Zl6 X (Ztd x fr) qual sc cl f (.ref c') A.in1 s H) [] (Zwf v fr σ) H { s with heap:=h₁,toks:=s.toks + 1 }:=inv_lam (A:=A.in1) I B hfr hd hcl hcl2 rv hns hk₁;refine kla_codeExpr (Jcs (he [] _ _ _ _ I1 q) (λy s' h=>?_) λ_ _ h=>h.elim);refine Zbl h λv' H' J r' q'=>?_;clear h;exact I.after ⟨v',H',J.os,J.bare,J.base,J.hok,r',q'⟩
end
structure LamAt (X:Cx) (pins:List (Addr × Obj)) (sc:Scope) (params:Arguments) (body:Expr) (qual:Str) (P:Addr) (H:Hp) (s:Shared) (f c':Addr) (cl:List (Str × Addr)) (ctv pm:Value):Prop where
 fn:s.heap.get? f = some (kla_obj "<lambda>" qual params body sc cl pm c' ctv)
 fp:FpOk X pins H f
 cod:∃ oc vs t,H c' = some (.frz oc (.own P))/\oc.data = .fields vs/\vs[1]? = some (.str qual t)
 hcl:∀ x c,cl.lookup x = some c->X.env.cells.lookup x = some c
 hcl2:∀ y ∈ sc.names,y.2 = .free->∃ c,cl.lookup y.1 = some c
section
variable {X:Cx} {pins:List (Addr × Obj)} {σ:St} {H:Hp} {s:Shared} {sc:Scope} {x:Str} {fr:List (Str × Nat)} {P c:Addr} {params:Arguments} {body:Expr} {pos:Pos}
theorem LamAt.code {H:Hp} {s:Shared} {f c':Addr} {cl:List (Str × Addr)} {ctv pm:Value} {qual:Str} (L:LamAt X pins sc params body qual P H s f c' cl ctv pm) (I:Inv X pins σ H s):s.heap.CodeRec (.ref c') qual:=by
 refine Zia L.cod λoc vs t e d v=>?_;obtain ⟨e1,_⟩:=I.hok c' _ e;exact Zke c' oc vs t ⟨rfl,e1,d,v⟩
theorem mk_lam {Q:Value->Shared->Prop} (I:Inv X pins σ H s) (B:LamScope X sc x fr) (hcode:X.env.code = .ref c) (C:CodeHd X.base c P) (hP:H P = some (.tab (pos.line:Int) (pos.col:Int) (X.env.qual ++ "<lambda>")))
  (hdef:defaultsOf params X.env = ([],[]))
  (h:∀ s' H' f c' cl ctv pm,Inv X pins σ H' s'->Same H H'->LamAt X pins sc params body (X.env.qual ++ "<lambda>") P H' s' f c' cl ctv pm->Q (.ref f) s'):
  wpAny (model X.prog X.w) X.A (eval (.Lambda params body sc pos) X.env) Q X.xe s:=by
 refine Zav (Znf (scope:=sc) (env:=X.env) λy hy hf=>I.ok.has y.1 ((B.free y hy hf).elim .inl .inr)) λcl hcl q1 q2=>?_;have hg:s.heap.Ns mainGlobals X.mg:=I.mod.glob.keeps I.bk;have CH:CodeHd s.heap c P:=by
  refine Zo1 C λo vs file tf flags tg inF text tt e1 r=>?_;clear C;exact Zmi o vs file tf flags tg inF text tt ⟨I.bk _ _ e1,r⟩
 refine Zib I.mod.bmain λbm ob b1 b2 b3 b4 b5 b6=>?_;have b3':=I.bs _ _ b3;have hgP:mainGlobals ≠ P:=λq=>by
  refine Zia I.mod.glob λo es ep e hd _=>?_;have:=(I.bs _ _ e).2;rw [q,hP] at this;cases this
 have hbP:bm ≠ P:=λq=>by
  have:=b3'.2;rw [q,hP] at this;cases this
 have hbG:bm ≠ mainGlobals:=λq=>by
  refine Zia I.mod.glob λo es ep e hd _=>?_;rw [q,e] at b3; cases b3; rw [hd] at b6; cases b6
 have BA:s.heap.BuiltinsAt X.mg P:=⟨bm,ob,b1,b2,hbG,hbP,b3'.1,b4,b5,b6⟩
 have ok:=I.hok P _ hP;refine kla_eval hdef ?_;rcases ok with e0 | ⟨c',oc,vs,t,e0,ne,e2,d2,v2⟩
 .-- the first one
  refine kla_makeFunction (mg:=X.mg) hcl I.ok.glob hg hcode CH e0 (by exact True.intro) rfl hgP BA λc' ctv h' tk hx hge hlt hrec htb=>?_;refine Zdc hrec λc2 oc vs t ec hoc hd hv=>?_;clear hrec;cases ec;have hcn:H c' = none:=I.hok.fresh hge;have hcP:c' ≠ P:=λz=>by rw [z,hP] at hcn; cases hcn
  have hxk:∀ b o,b ≠ P->s.heap.get? b = some o->(h'.push (kla_obj "<lambda>" (X.env.qual ++ "<lambda>") params body sc cl ((X.mg "__name__").getD .none) c' ctv)).get? b = some o:=λb o hb e=>Jak _ (hx b o hb e);have gP:(h'.push (kla_obj "<lambda>" (X.env.qual ++ "<lambda>") params body sc cl ((X.mg "__name__").getD .none) c' ctv)).get? P = some (tabObj (#[] ++ #[rawInt pos.line,rawInt pos.col,.ref c'])):=Jak _ htb;have gc:(h'.push (kla_obj "<lambda>" (X.env.qual ++ "<lambda>") params body sc cl ((X.mg "__name__").getD .none) c' ctv)).get? c' = some oc:=Jak _ hoc;have sm:Same H (upd H c' (.frz oc (.own P))):=λb u e=>by rw [Zah (Zag e hcn)]; exact e
  have nP:∀ {b:Addr},H b = none->b ≠ P:=λe z=>by rw [z,hP] at e; cases e
  have U:Un X.fs [] H (upd H c' (.frz oc (.own P))) s.heap (h'.push (kla_obj "<lambda>" (X.env.qual ++ "<lambda>") params body sc cl ((X.mg "__name__").getD .none) c' ctv)):=by
   refine ⟨λb o e n _ _=>hxk b o (nP n) e,λb o e n _ _=>⟨o.slots,hxk b o (nP n) e⟩,λb o e n _=>?_,λb o e _=>?_,λb xs e=>sm _ _ e,λb o u e=>sm _ _ e,λb ps e=>⟨#[],by rw [sm _ _ e]; simp⟩⟩
   .rw [Zah (Jbe (Jaw (Jam e) hge))];exact n
   .by_cases z:b = P
    .exact ⟨_,by rw [z]; exact gP⟩
    .exact ⟨o,hxk b o z e⟩
  have O:HOk X.prog X.w (upd H c' (.frz oc (.own P))) (h'.push (kla_obj "<lambda>" (X.env.qual ++ "<lambda>") params body sc cl ((X.mg "__name__").getD .none) c' ctv)):=λb u e=>by
   by_cases hb:b = c'
   .subst hb;rw [Zac] at e;cases e;exact ⟨gc,⟨oc,gc⟩⟩
   .rw [Zah hb] at e;by_cases hbP':b = P
    .subst hbP';rw [hP] at e;cases e;exact .inr ⟨c',oc,vs,t,gP,hcP,Zac,hd,hv⟩
    .refine (I.hok b u e).stay (λa v ha q=>hxk a v ?_ q) (λa z=>sm _ _ z) (λa xs z=>sm _ _ z) λa o' u' z=>sm _ _ z;rcases ha with rfl | ha
     .exact hbP'
     .intro z;rw [z,hP] at ha;cases ha
  have I':Inv X pins σ (upd H c' (.frz oc (.own P))) { s with heap:=h'.push (kla_obj "<lambda>" (X.env.qual ++ "<lambda>") params body sc cl ((X.mg "__name__").getD .none) c' ctv),toks:=tk }:=I.un U O;have hsz:s.heap.objs.size<=h'.objs.size:=Jb3 (Jbk hge hlt);refine h _ _ h'.objs.size c' cl ctv _ I' sm ⟨Ja6 _ rfl,I.fpOk hsz ?_,⟨oc,vs,t,Zac,hd,hv⟩,q1,q2⟩;rw [Zah (Jei hlt)];exact I.hok.fresh hsz
 .-- the code is there
  refine kla_makeFunctionHit (cv:=.ref c') (mg:=X.mg) hcl I.ok.glob hg hcode CH e0 (by simp [TriplesOk,rawInt]) (by simp [codeAmong,rawInt]) BA λctv h' tk hk hsz=>?_;have I':Inv X pins σ H { s with heap:=h'.push (kla_obj "<lambda>" (X.env.qual ++ "<lambda>") params body sc cl ((X.mg "__name__").getD .none) c' ctv),toks:=tk }:=I.kept λb o e=>Jak _ (hk b o e);exact h _ _ h'.objs.size c' cl ctv _ I' (Same.refl _) ⟨Ja6 _ rfl,I.fpOk hsz (I.hok.fresh hsz),⟨oc,vs,t,e2,d2,v2⟩,q1,q2⟩
end
theorem Same.sqL {K:PySem.W.Frag} {H H':Hp} {a:Addr} {xs:List V} (s:Same H H') (h:SqL K H a xs):SqL K H' a xs:=s.seq h
def IsMin (kf:Nat->Int) (n i:Nat):Prop:=i < n/\∀ j,j < n->kf i<=kf j/\(j < i->kf i < kf j)
section
variable {X:Cx} {pins:List (Addr × Obj)} {σ:St} {sc:Scope} {x:Str} {fr:List (Str × Nat)} {P:Addr} {params:Arguments} {body:Expr} {qual:Str} {f c' l It S:Addr} {cl:List (Str × Addr)} {ctv pm:Value} {xs:List V} {te:TE} {H0:Hp} {kf:Nat->Int}
abbrev KWd:List (Str × Value):=[("default",Value.none)]
theorem FpOk.same {pins:List (Addr × Obj)} {H H':Hp} {b:Addr} (h:FpOk X pins H b) (e:H' b = none):FpOk X pins H' b:=⟨e,h.2⟩
theorem Zry {H:Hp} {s:Shared} {i:Nat} {v:V} {u:Value} {b₁:Addr} {o₁:Obj} {b₂:Addr} {o₂:Obj} (hc:X.calm = true) (hroom:X.A.depth < recursionLimit) (B:LamScope X sc x fr) (hbd:∀ u pm c' ctv cl,bindArgs (kla_fn "<lambda>" qual params body sc cl pm (.ref c') ctv) ⟨[u],[]⟩ = pure [(x,u)])
  (he:∀ cl f c' s H,PE (Zl6 X (Ztd x fr) qual sc cl f (.ref c') X.A.in1 s H) body te) (I:Inv X pins σ H s) (L:LamAt X pins sc params body qual P H s f c' cl ctv pm)
  (ht:te (Zwf v fr σ) H λy H'=>y = .int (kf i)/\Same H H') (rv:RelV v u)
  (f1:FpOk X pins H b₁) (g1:s.heap.get? b₁ = some o₁) (d1:∀ v,o₁.data ≠ .cell v) (f2:FpOk X pins H b₂) (g2:s.heap.get? b₂ = some o₂) (d2:∀ v,o₂.data ≠ .cell v):
  wpAny (model X.prog X.w) X.A.in1 (call (.ref f) [u]) (λy s'=>∃ t H',y = .int (kf i) t/\Same H H'/\Inv X pins σ H' s'/\LamAt X pins sc params body qual P H' s' f c' cl ctv pm/\s'.heap.get? b₁ = some o₁/\H' b₁ = none/\s'.heap.get? b₂ = some o₂/\H' b₂ = none) (λ_ _=>False) s:=by
 have Ip:=I.pinned (fp:=[b₁,b₂,f]) (λb hb=>by
  rcases Jbp.mp hb with rfl | hb
  .exact f1
  .rcases Jbp.mp hb with rfl | hb
   .exact f2
   .rw [Jaq.mp hb]; exact L.fp) (λb hb=>by
  rcases Jbp.mp hb with rfl | hb
  .exact ⟨_,g1,d1⟩
  .rcases Jbp.mp hb with rfl | hb
   .exact ⟨_,g2,d2⟩
   .rw [Jaq.mp hb]; exact ⟨_,L.fn,λv z=>by cases z⟩)
 refine thn (run_lam Ip B I.ok.frames (I.ok.hd hc) hroom L.hcl L.hcl2 rv L.fn (L.code I) (hbd _ _ _ _ _) (he _ _ _ _ _) ht) λy s' h=>?_;refine Zdv h λw H' I' r e91 sm=>?_;clear h;obtain rfl:=e91;obtain ⟨t,rfl⟩:=r;have pn:∀ b ∈ [b₁,b₂,f],∀ o,s.heap.get? b = some o->s'.heap.get? b = some o/\H' b = none:=λb hb o e=>by
  have:=I'.pin (b,o) (Jbf _ (Jbf _ (Zdz hb e)));exact ⟨this.1,this.2.1⟩
 refine Zdu L.cod λoc vs tk e r=>?_;obtain ⟨p1,p1'⟩:=pn b₁ (by simp) _ g1;obtain ⟨p2,p2'⟩:=pn b₂ (by simp) _ g2;obtain ⟨p3,p3'⟩:=pn f (by simp) _ L.fn;exact Zau t H' ⟨rfl,sm,I'.unpinned,⟨p3,L.fp.same p3',⟨oc,vs,tk,sm _ _ e,r⟩,L.hcl,L.hcl2⟩,p1,p1',p2,p2'⟩
theorem Zu5 (hc:X.calm = true) (hroom:X.A.depth < recursionLimit) (B:LamScope X sc x fr) (hbd:∀ u pm c' ctv cl,bindArgs (kla_fn "<lambda>" qual params body sc cl pm (.ref c') ctv) ⟨[u],[]⟩ = pure [(x,u)])
  (he:∀ cl f c' s H,PE (Zl6 X (Ztd x fr) qual sc cl f (.ref c') X.A.in1 s H) body te) (hlI:l ≠ It) (hSI:S ≠ It) (hfI:f ≠ It) (hfS:f ≠ S)
  (ht:∀ i v H,xs[i]? = some v->Same H0 H->te (Zwf v fr σ) H λy H'=>y = .int (kf i)/\Same H H') (hl0:SqL X.K H0 l xs)
  {R:Result->Shared->Prop} (hR:∀ i v u s' H',IsMin kf xs.length i->xs[i]? = some v->RelV v u->Same H0 H'->Inv X pins σ H' s'->R (.ok (.ret u)) s'):
  ∀ (r j i:Nat) (s:Shared) (H:Hp) (vb:V) (ub:Value) (tb:Tok) (n:Nat),xs.length - (j + 1) = r->j + 1<=xs.length->Same H0 H->Inv X pins σ H s->LamAt X pins sc params body qual P H s f c' cl ctv pm->FpOk X pins H S->FpOk X pins H It->
   s.heap.get? S = some (seqObj "list" #[ub,.int (kf i) tb] n)->s.heap.IsListIter It l (j + 1)->xs[i]? = some vb->RelV vb ub->i<=j->(∀ j',j'<=j->kf i<=kf j'/\(j' < i->kf i < kf j'))->
   codeAny (model X.prog X.w) X.A (.builtin "min.loop" ⟨[.ref It,.ref f,.ref S],KWd⟩) R s:=by
 have hname:(toString "min" ++ toString ".loop" : String) = "min.loop" := by decide
 intro r
 induction r with
 | zero=>
  intro j i s H vb ub tb n hr hj sm I L fS fI gS hit hvb rvb hij hbest;have hin:j + 1 = xs.length:=by omega
  refine Zav (I.list (sm.sqL hl0)) λits rv p hz=>?_;have hlen:=rv.length;refine codeAny_builtin Jdy ?_;rw [Jd5 Jb4 _];show wpAny _ X.A.in1 (seqItems? (.ref S) >>= _) _ _ _;refine Jas (wpAny_seqItems gS rfl ?_);show wpAny _ X.A.in1 (tryCatch (pyNext (.ref It)) _ >>= _) _ _ _;refine Jas (Jdc (Jd3 (A:=X.A.in1) (I.ok.hd hc) hit p.isList (by simp; omega) λh' eb=>?_));have I1:Inv X pins σ H { s with heap:=h' }:=I.turned (t':=s.toks) (λb o hb e=>eb b o hb e) fI.1 fI.2.1 fI.2.2.2.1 fI.2.2.2.2.1 fI.2.2.2.2.2;have gS':h'.get? S = some (seqObj "list" #[ub,.int (kf i) tb] n):=eb S _ hSI gS;show wpAny _ X.A.in1 (updateSeq S (λ_=>#[]) >>= _) _ _ _;refine Jas ?_;refine wpAny_updateSeq gS' rfl (Jas (wpAny_letGo (Jbj ?_)));have s1:=Jeg h' S (Obj.mapSeq λ_=>(#[]:Array Value));have I2:=I1.turned (t':=s.toks) (h':=h'.update S (Obj.mapSeq λ_=>(#[]:Array Value))) (λb o hb e=>(s1.2 b hb).trans e) fS.1 fS.2.1 fS.2.2.2.1 fS.2.2.2.2.1 fS.2.2.2.2.2;exact hR i vb ub _ H ⟨by omega,λj' hj'=>hbest j' (by omega)⟩ hvb rvb sm I2
 | succ r ih=>
  intro j i s H vb ub tb n hr hj sm I L fS fI gS hit hvb rvb hij hbest;have hlt:j + 1 < xs.length:=by omega
  refine Zav (I.list (sm.sqL hl0)) λits rv p hz=>?_;have hlen:=rv.length;have hx:xs[j + 1]? = some (xs[j + 1]'hlt):=Jaa hlt;refine Zad (rv.get hx) λu hu ru=>?_;refine codeAny_builtin Jdy ?_;rw [Jd5 Jb4 _];show wpAny _ X.A.in1 (seqItems? (.ref S) >>= _) _ _ _;refine Jas (wpAny_seqItems gS rfl ?_);show wpAny _ X.A.in1 (tryCatch (pyNext (.ref It)) _ >>= _) _ _ _;refine Jas (Jdc (Jdx (A:=X.A.in1) hit p.isList (x:=u) (by simpa using hu) λh' hit' sb=>?_));have I1:Inv X pins σ H { s with heap:=h' }:=I.turned (t':=s.toks) (λb o hb e=>(sb.2 b hb).trans e) fI.1 fI.2.1 fI.2.2.2.1 fI.2.2.2.2.1 fI.2.2.2.2.2;have gS':h'.get? S = some (seqObj "list" #[ub,.int (kf i) tb] n):=(sb.2 S hSI).trans gS;refine Zav (id hit') λoI goI hoc hod=>?_;have L1:LamAt X pins sc params body qual P H { s with heap:=h' } f c' cl ctv pm:=⟨(sb.2 f hfI).trans L.fn,L.fp,L.cod,L.hcl,L.hcl2⟩
  show wpAny _ X.A.in1 (tryCatch (holding [u] (call (.ref f) [u])) _ >>= _) _ _ _;refine Jas (Jdc (Jdj (Jcs (Zry (i:=j + 1) hc hroom B hbd he I1 L1 (ht (j + 1) _ H hx sm) ru fS gS' (λv z=>by cases z) fI goI (λv z=>by rw [hod] at z; cases z)) (λy s2 hy=>?_) λ_ _ hF=>hF.elim)));refine Zib hy λt2 H2 e92 sm2 I2 L2' gS2 e93=>?_;clear hy;obtain rfl:=e92;refine Za9 e93 λnS2 gI2 nI2=>?_;clear e93;have hit2:s2.heap.IsListIter It l (j + 1 + 1):=⟨oI,gI2,hoc,hod⟩
  show wpAny _ X.A.in1 (tryCatch (holding [u,.int (kf (j + 1)) t2] (richCompare .Lt (.int (kf (j + 1)) t2) (.int (kf i) tb) >>= _)) _ >>= _) _ _ _;refine Jas (Jdc (Jdj (Jas (CmpOf.ints_lt (prog:=X.prog) (w:=X.w) (A:=X.A.in1) (P:=λi v=>∃ t,v = .int (kf i) t) kf (λi v h=>h) (j + 1) i _ _ _ _ _ ⟨t2,rfl⟩ ⟨tb,rfl⟩ ?_))));refine Jas (Jdj (Jbm ?_));refine Jas (wpAny_letGo (Jbj ?_));by_cases hb':kf (j + 1) < kf i
  .have s1:=Jeg s2.heap S (Obj.mapSeq λ_=>#[u,.int (kf (j + 1)) t2]);obtain ⟨c2,hc2⟩:∃ c2,(s2.heap.update S (Obj.mapSeq λ_=>#[u,.int (kf (j + 1)) t2])).get? S = some (seqObj "list" #[u,.int (kf (j + 1)) t2] c2):=⟨_,get?_update_seq gS2 λ_=>#[u,.int (kf (j + 1)) t2]⟩
   simp only [hb',decide_true,Jcy];refine Jas ?_;refine wpAny_updateSeq gS2 rfl (Jas (wpAny_letGo ?_));rw [hname];have I3:=I2.turned (t':=s2.toks) (h':=s2.heap.update S (Obj.mapSeq λ_=>#[u,.int (kf (j + 1)) t2])) (λb o hb e=>(s1.2 b hb).trans e) nS2 fS.2.1 fS.2.2.2.1 fS.2.2.2.2.1 fS.2.2.2.2.2;have L3:LamAt X pins sc params body qual P H2 { s2 with heap:=s2.heap.update S (Obj.mapSeq λ_=>#[u,.int (kf (j + 1)) t2]) } f c' cl ctv pm:=⟨(s1.2 f hfS).trans L2'.fn,L2'.fp,L2'.cod,L2'.hcl,L2'.hcl2⟩
   refine Jbj ⟨Jez Jb4 _,ih (j + 1) (j + 1) _ H2 _ u t2 c2 (by omega) hlt (sm.trans sm2) I3 L3 (fS.same nS2) (fI.same nI2) hc2 ⟨oI,(s1.2 It hSI.symm).trans gI2,hoc,hod⟩ hx ru (Jaf _) λj' hj'=>?_⟩;by_cases e:j' = j + 1
   .subst e;exact ⟨by omega,λ_=>by omega⟩
   .have hb1:=hbest j' (by omega);have hb2:=hb1.1;exact ⟨by omega,λ_=>by omega⟩
  .simp only [hb',decide_false,Bool.false_eq_true,Jex];refine Jas (wpAny_letGo ?_);rw [hname];refine Jbj ⟨Jez Jb4 _,ih (j + 1) i s2 H2 vb ub tb n (by omega) hlt (sm.trans sm2) I2 L2' (fS.same nS2) (fI.same nI2) gS2 hit2 hvb rvb (by omega) λj' hj'=>?_⟩;by_cases e:j' = j + 1
   .subst e;exact ⟨by omega,λ_=>by omega⟩
   .exact hbest j' (by omega)
theorem Zu7 (a v d:Value):argsOk "min" ⟨[a],[(Str.ofString "key",v),(Str.ofString "default",d)]⟩:=by unfold argsOk; kernel_rfl
theorem Zu6 {s:Shared} {Q:Value->Shared->Prop} (hc:X.calm = true) (hroom:X.A.depth < recursionLimit) (B:LamScope X sc x fr) (hbd:∀ u pm c' ctv cl,bindArgs (kla_fn "<lambda>" qual params body sc cl pm (.ref c') ctv) ⟨[u],[]⟩ = pure [(x,u)])
  (he:∀ cl f c' s H,PE (Zl6 X (Ztd x fr) qual sc cl f (.ref c') X.A.in1 s H) body te) (I:Inv X pins σ H0 s) (L:LamAt X pins sc params body qual P H0 s f c' cl ctv pm)
  (ht:∀ i v H,xs[i]? = some v->Same H0 H->te (Zwf v fr σ) H λy H'=>y = .int (kf i)/\Same H H') (hl0:SqL X.K H0 l xs)
  (q0:xs = []->∀ s' H',Same H0 H'->Inv X pins σ H' s'->Q .none s')
  (q1:∀ i v u s' H',IsMin kf xs.length i->xs[i]? = some v->RelV v u->Same H0 H'->Inv X pins σ H' s'->Q u s'):
  wpAny (model X.prog X.w) X.A (call (.builtin "min") [.ref l] [(Str.ofString "key",.ref f),(Str.ofString "default",.none)]) Q X.xe s:=by
 have hname:(toString "min" ++ toString ".loop" : String) = "min.loop" := by decide
 refine Zav (I.list hl0) λits rv p hz=>?_;have hlen:=rv.length;refine Zad (id p.isList) λol hol _=>?_;have hll:l < s.heap.objs.size:=Jam hol;have hfl:f < s.heap.objs.size:=Jam L.fn;refine kmk_tree PySem.F.kind_min PySem.F.plain_min PySem.F.entry_min (Zu7 _ _ _) ?_;show wpAny _ X.A.in1 (Builtin.Builtins.bindParams "min" ["key","default"] 0 ⟨[],[(Str.ofString "key",.ref f),(Str.ofString "default",.none)]⟩ >>= _) _ _ s;refine Jas (wpAny_of_eq (show Builtin.Builtins.bindParams "min" ["key","default"] 0 ⟨[],[(Str.ofString "key",.ref f),(Str.ofString "default",.none)]⟩ = pure [some (.ref f),some .none] from rfl) ?_);refine Jas (Jbj ?_);refine Jas (Jd0 p.isList ?_);refine Jas (wpAny_newList ?_ (Jb2 _));rw [hname];have hS:(s.heap.push { cls:=.type "list_iterator",data:=.fields #[.ref l,.int 0 0] }).objs.size = s.heap.objs.size + 1:=size_push' ..;have gI:((s.heap.push { cls:=.type "list_iterator",data:=.fields #[.ref l,.int 0 0] }).push (seqObj "list" #[] 0)).get? s.heap.objs.size = some { cls:=.type "list_iterator",data:=.fields #[.ref l,.int 0 0] }:=
  Jak _ (Ja6 _ rfl)
 have gS:((s.heap.push { cls:=.type "list_iterator",data:=.fields #[.ref l,.int 0 0] }).push (seqObj "list" #[] 0)).get? (s.heap.push { cls:=.type "list_iterator",data:=.fields #[.ref l,.int 0 0] }).objs.size = some (seqObj "list" #[] 0):=Ja6 _ rfl;rw [hS] at gS;have hk:∀ b o,s.heap.get? b = some o->((s.heap.push { cls:=.type "list_iterator",data:=.fields #[.ref l,.int 0 0] }).push (seqObj "list" #[] 0)).get? b = some o:=λb o e=>Jak _ (Jak _ e);have I0:Inv X pins σ H0 { s with heap:=(s.heap.push { cls:=.type "list_iterator",data:=.fields #[.ref l,.int 0 0] }).push (seqObj "list" #[] 0) }:=I.kept (t':=s.toks) hk;have fI:FpOk X pins H0 s.heap.objs.size:=I.fpOk (Jaf _) (I.hok.fresh (Jaf _));have fS:FpOk X pins H0 (s.heap.objs.size + 1):=I.fpOk (Nat.le_succ _) (I.hok.fresh (Nat.le_succ _));have L0:LamAt X pins sc params body qual P H0 { s with heap:=(s.heap.push { cls:=.type "list_iterator",data:=.fields #[.ref l,.int 0 0] }).push (seqObj "list" #[] 0) } f c' cl ctv pm:=⟨hk _ _ L.fn,L.fp,L.cod,L.hcl,L.hcl2⟩
 have hSI:s.heap.objs.size + 1 ≠ s.heap.objs.size:=by omega
 have p0:PlainL ((s.heap.push { cls:=.type "list_iterator",data:=.fields #[.ref l,.int 0 0] }).push (seqObj "list" #[] 0)) l its.toArray:=by
  refine Zbo p λo n e r=>?_;clear p;exact Zau o n ⟨hk _ _ e,r⟩
 have hit:Heap.IsListIter ((s.heap.push { cls:=.type "list_iterator",data:=.fields #[.ref l,.int 0 0] }).push (seqObj "list" #[] 0)) s.heap.objs.size l 0:=⟨_,gI,rfl,rfl⟩
 refine Jbj ⟨Jez Jb4 _,?_⟩;rw [hS];refine codeAny_builtin Jdy ?_;rw [Jd5 Jb4 _];show wpAny _ X.A.in1 (seqItems? (.ref _) >>= _) _ _ _;refine Jas (wpAny_seqItems gS rfl ?_);show wpAny _ X.A.in1 (tryCatch (pyNext (.ref s.heap.objs.size)) _ >>= _) _ _ _;cases hxs:xs with
 | nil=>
  subst hxs;have e0:its = []:=List.length_eq_zero_iff.mp (by simpa using hlen.symm);refine Jas (Jdc (Jd3 (A:=X.A.in1) (I.ok.hd hc) hit p0.isList (by rw [e0]; rfl) λh' eb=>?_));have I1:Inv X pins σ H0 { s with heap:=h' }:=I0.turned (t':=s.toks) (λb o hb e=>eb b o hb e) fI.1 fI.2.1 fI.2.2.2.1 fI.2.2.2.2.1 (λp hp=>fI.2.2.2.2.2 p hp);show wpAny _ X.A.in1 (rule _ >>= _) _ _ _;exact Jas (wpAny_rule (Jbj (q0 rfl _ H0 (Same.refl _) I1)))
 | cons v0 r0=>
  have hne:0 < xs.length:=by rw [hxs]; exact Nat.zero_lt_succ _
  have hx:xs[0]? = some v0:=by rw [hxs]; rfl
  rw [<- hxs] at *;refine Zad (rv.get hx) λu hu ru=>?_;refine Jas (Jdc (Jdx (A:=X.A.in1) hit p0.isList (x:=u) (by simpa using hu) λh' hit' sb=>?_));have I1:Inv X pins σ H0 { s with heap:=h' }:=I0.turned (t':=s.toks) (λb o hb e=>(sb.2 b hb).trans e) fI.1 fI.2.1 fI.2.2.2.1 fI.2.2.2.2.1 fI.2.2.2.2.2;have gS':h'.get? (s.heap.objs.size + 1) = some (seqObj "list" #[] 0):=(sb.2 _ hSI).trans gS;refine Zav (id hit') λoI goI hoc hod=>?_;have L1:LamAt X pins sc params body qual P H0 { s with heap:=h' } f c' cl ctv pm:=⟨(sb.2 f (Jbe hfl)).trans L0.fn,L.fp,L.cod,L.hcl,L.hcl2⟩
  show wpAny _ X.A.in1 (tryCatch (holding [u] (call (.ref f) [u])) _ >>= _) _ _ _;refine Jas (Jdc (Jdj (Jcs (Zry (i:=0) hc hroom B hbd he I1 L1 (ht 0 _ H0 hx (Same.refl _)) ru fS gS' (λv z=>by cases z) fI goI (λv z=>by rw [hod] at z; cases z)) (λy s2 hy=>?_) λ_ _ hF=>hF.elim)));refine Zib hy λt2 H2 e94 sm2 I2 L2' gS2 e95=>?_;clear hy;obtain rfl:=e94;refine Za9 e95 λnS2 gI2 nI2=>?_;clear e95;have s1:=Jeg s2.heap (s.heap.objs.size + 1) (Obj.mapSeq λ_=>#[u,.int (kf 0) t2]);obtain ⟨c2,hc2⟩:∃ c2,(s2.heap.update (s.heap.objs.size + 1) (Obj.mapSeq λ_=>#[u,.int (kf 0) t2])).get? (s.heap.objs.size + 1) = some (seqObj "list" #[u,.int (kf 0) t2] c2):=⟨_,get?_update_seq gS2 λ_=>#[u,.int (kf 0) t2]⟩
  show wpAny _ X.A.in1 (updateSeq (s.heap.objs.size + 1) (λ_=>#[u,.int (kf 0) t2]) >>= _) _ _ _;refine Jas ?_;refine wpAny_updateSeq gS2 rfl ?_;rw [hname];have I3:=I2.turned (t':=s2.toks) (h':=s2.heap.update (s.heap.objs.size + 1) (Obj.mapSeq λ_=>#[u,.int (kf 0) t2])) (λb o hb e=>(s1.2 b hb).trans e) nS2 fS.2.1 fS.2.2.2.1 fS.2.2.2.2.1 fS.2.2.2.2.2;have hfS:f ≠ s.heap.objs.size + 1:=Jbe (Jcg hfl);have L3:LamAt X pins sc params body qual P H2 { s2 with heap:=s2.heap.update (s.heap.objs.size + 1) (Obj.mapSeq λ_=>#[u,.int (kf 0) t2]) } f c' cl ctv pm:=⟨(s1.2 f hfS).trans L2'.fn,L2'.fp,L2'.cod,L2'.hcl,L2'.hcl2⟩
  refine Jbj ⟨Jez Jb4 _,Zu5 (H0:=H0) hc hroom B hbd he (Jbe hll) hSI (Jbe hfl) hfS ht hl0 (λi v u s' H' a b c d e=>q1 i v u s' H' a b c d e) _ 0 0 _ H2 v0 u t2 c2 rfl hne sm2 I3 L3 (fS.same nS2) (fI.same nI2) hc2 ⟨oI,(s1.2 _ hSI.symm).trans gI2,hoc,hod⟩ hx ru (Jaf _) λj' hj'=>?_⟩;have e:j' = 0:=by omega
  subst e;exact ⟨by omega,λh=>absurd h (Jb1 _)⟩
end
def tMinL (K:PySem.W.Frag) (P:Addr) (ln co:Int) (q:Str) (fr:List (Str × Nat)) (ta te:TE):TE:=λσ H Q=>ta σ H λv H1=>∃ l xs,∃ kf:Nat->Int,v = .ref l/\SqL K H1 l xs/\H1 P = some (.tab ln co q) /\
 (∀ i v H,xs[i]? = some v->Same H1 H->te (Zwf v fr σ) H λy H'=>y = .int (kf i)/\Same H H')/\(xs = []->∀ H',Same H1 H'->Q .non H')/\∀ i v H',IsMin kf xs.length i->xs[i]? = some v->Same H1 H'->Q v H'
section
variable {X:Cx} {sc:Scope} {x:Str} {fr:List (Str × Nat)} {P c:Addr} {params:Arguments} {body e:Expr} {lpos p pos k1 k2 kp:Pos} {ta te:TE}
theorem pe_minL {i0:Nat} (hc:X.calm = true) (hroom:X.A.depth < recursionLimit) (hg:Gl X "min") (hm:X.mg "min" = none) (B:LamScope X sc x fr) (hcode:X.env.code = .ref c) (C:CodeHd X.base c P) (hdef:defaultsOf params X.env = ([],[]))
  (hbd:∀ u pm c' ctv cl,bindArgs (kla_fn "<lambda>" (X.env.qual ++ "<lambda>") params body sc cl pm (.ref c') ctv) ⟨[u],[]⟩ = pure [(x,u)])
  (ha:PE X e ta) (he:∀ cl f c' s H,PE (Zl6 X (Ztd x fr) (X.env.qual ++ "<lambda>") sc cl f (.ref c') X.A.in1 s H) body te) (hs:Zcd e = false:=by rfl):
  PE X (.Call (.Name "min" p) [e] [⟨some "key",.Lambda params body sc lpos,k1⟩,⟨some "default",.Constant .none i0 kp,k2⟩] pos) (tMinL X.K P (lpos.line:Int) (lpos.col:Int) (X.env.qual ++ "<lambda>") fr ta te):=by
 intro pins s σ H Q I h;refine Jdf (Zh7 I hg hm boot_min ?_ (by decide) (by decide));have hst:backTo pos (starEach [e] X.env) = (false,eval e X.env) :: backTo pos (starEach [] X.env):=by rw [Zbd hs]; rfl
 refine callWith_kw (id:="min") (e:=e) (rest:=[]) ?_ hst (by rw [hst]; rfl) (by rfl) (by rfl);rw [hst];refine Calls.spliced_cons (thn (ha pins s σ H _ I h) λu s1 ⟨v,H1,I1,r1,h1⟩=>?_);refine Zbj h1 λl xs kf e96 hl hP e97=>?_;clear h1;obtain rfl:=e96;refine Za9 e97 λht q0 q1=>?_;clear e97;cases r1;refine Calls.spliced_nil ?_;refine kws_cons (mk_lam I1 B hcode C hP hdef λs2 H2 f c' cl ctv pm I2 sm L=>?_);refine kws_cons (Constant_none (kws_nil ?_));show wpAny _ _ (call (.builtin "min") [.ref l] [(Str.ofString "key",.ref f),(Str.ofString "default",.none)]) _ _ s2;refine Zu6 (kf:=kf) hc hroom B hbd he I2 L (λi v H hi sm2=>ht i v H hi (sm.trans sm2)) (sm.sqL hl) (λe0 s' H' sm2 I'=>?_) λi v u s' H' hmn hi ru sm2 I'=>?_
 .exact Zau .non H' ⟨I',rfl,q0 e0 H' (sm.trans sm2)⟩
 .exact Zau v H' ⟨I',ru,q1 i v H' hmn hi (sm.trans sm2)⟩
end
abbrev Tbs:=List (Addr × Int × Int × Str)
def Zmg (tb:Tbs) (H:Hp):Prop:=∀ b t,tb.lookup b = some t->H b = some (.tab t.1 t.2.1 t.2.2)
def hp0 (K:PySem.W.Frag) (tb:Tbs) (a:Addr) (oa:Obj) (xs:List V):Hp:=λb=>if b = a then (if (K.lookup a).isSome = true then none else some (.frz oa (.lst xs))) else (tb.lookup b).map λt=>.tab t.1 t.2.1 t.2.2
theorem Zrv {P:Program} {w:World} {K:PySem.W.Frag} {mg mb:Str->Option Value} {CX:CXT} {k:Nat} {fa a:Addr} {fd:FuncData} {x:Str} {sp:Sp} {s₁:Shared} {vs:List Value} {ns:List Int} {tb:Tbs}
  (KX:K.In s₁.heap) (hns:s₁.heap.Ns mainGlobals mg) (hb:s₁.heap.Ns builtinsNs mb) (hbb:∀ x:Str,x ≠ "__name__" -> mb x = bootBuiltins x) (hlim:s₁.heap.NoLimit) (hseer:s₁.heap.NoSeer)
  (hbm:∃ bm ob,mg "__builtins__" = some (.ref bm)/\bm ≠ builtinsNs/\s₁.heap.get? bm = some ob/\ob.cls = .type "module" /\ ob.dict = some builtinsNs/\ob.data = .plain) (hg:s₁.gens = #[])
  (htb:∀ b t,tb.lookup b = some t->s₁.heap.get? b = some (tabObj #[])/\K.lookup b = none/\isCodeTable s₁.heap b)
  (ha:s₁.heap.get? a = some { cls:=.type "list",data:=.seq vs.toArray }) (hi:IntsAre vs ns) (hl:ns.length<=sizeLine) (hr:Room k callerA)
  (F:∀ base:Heap,K.In base->base.Ns mainGlobals mg->FnOk P w K mg base CX k fa fd [x] sp) (hbind:∀ (s:Shared) (u:Value),BindsTo s fd ⟨[u],[]⟩ [(x,u)])
  (hsp:∀ H:Hp,SqL K H a (ns.map V.int)->Zmg tb H->sp [.ref a] H (λv H'=>v = .bl true/\Zmg tb H') λ_ _ _=>False)
  (hCX:∀ H e s',CX [] H s₁ (λ_ _ _=>False) e s'->False):
  codeAny (model P w) callerA (.call (.ref fa) ⟨[.ref a],[]⟩) (λr s'=>r = .ok (.ret (.bool true))/\OldK s₁.heap s'.heap/\s'.os = s₁.os/\AllBare s'.gens) s₁:=by
 have rv:=Zlb hi;have lenV:=hi.length;generalize hH:hp0 K tb a { cls:=.type "list",data:=.seq vs.toArray } (ns.map V.int) = H;have tne:∀ b t,tb.lookup b = some t->b ≠ a:=λb t e z=>by
  have:=(htb b t e).1;rw [z,ha] at this;cases this
 have hT:Zmg tb H:=λb t e=>by
  rw [<- hH];unfold hp0;rw [if_neg (tne b t e),e];rfl
 have cases3:∀ b,H b = none\/(b = a/\K.lookup a = none/\H b = some (.frz { cls:=.type "list",data:=.seq vs.toArray } (.lst (ns.map V.int))))\/∃ t,tb.lookup b = some t/\H b = some (.tab t.1 t.2.1 t.2.2):=λb=>by
  rw [<- hH];unfold hp0;by_cases hba:b = a
  .rw [if_pos hba];cases hk:K.lookup a with
   | none=>exact .inr (.inl ⟨hba,rfl,rfl⟩)
   | some o=>exact .inl rfl
  .rw [if_neg hba];cases ht:tb.lookup b with
   | none=>exact .inl rfl
   | some t=>exact .inr (.inr ⟨t,rfl,rfl⟩)
 have free:∀ {b:Addr} {o:Obj},s₁.heap.get? b = some o->(∀ xs n,o.data ≠ .seq xs n)->(∀ xs,o.data ≠ .fields xs)->H b = none:=λ{b o} e d1 d2=>by
  rcases cases3 b with h | ⟨rfl,_,_⟩ | ⟨t,h,_⟩
  .exact h
  .rw [ha] at e;cases e;exact absurd rfl (d1 _ _)
  .rw [(htb b t h).1] at e;cases e;exact absurd rfl (d2 _)
 have base_of:∀ {b:Addr} {o:Obj},s₁.heap.get? b = some o->H b = none->(Zte s₁.heap H).get? b = some o:=λe n=>Zve e n;have nsK:∀ {b:Addr} {m:Str->Option Value},s₁.heap.Ns b m->(Zte s₁.heap H).Ns b m:=λ{b m} ⟨o,es,ep,e,d,r⟩=>⟨o,es,ep,base_of e (free e (λxs n z=>by rw [d] at z; cases z) λxs z=>by rw [d] at z; cases z),d,r⟩
 have hKb:K.In (Zte s₁.heap H):=λb o e=>base_of (KX b o e) (by
  rcases cases3 b with h | ⟨rfl,h,_⟩ | ⟨t,h,_⟩
  .exact h
  .rw [h] at e; cases e
  .rw [(htb b t h).2.1] at e; cases e)
 have seerB:(Zte s₁.heap H).NoSeer:=⟨let ⟨mc,x,y⟩:=hseer.statics; ⟨mc,nsK x,y⟩,let ⟨mc,x,y⟩:=hseer.mods; ⟨mc,nsK x,y⟩,let ⟨mc,x,y⟩:=hseer.imp; ⟨mc,nsK x,y⟩,let ⟨mg',bm,ob,x,y,z,u,v⟩:=hseer.main; ⟨mg',bm,ob,nsK x,y,base_of z (by
   rcases cases3 bm with h | ⟨rfl,_,_⟩ | ⟨t,h,_⟩
   .exact h
   .rw [ha] at z; cases z;have u':Value.type "list" = Value.type "module" := u
    injection u' with u'
    exact absurd u' (by decide)
   .rw [(htb bm t h).1] at z; cases z;cases u),u,v⟩⟩
 have hM:Mod K mg (Zte s₁.heap H):=⟨hKb,nsK hns,⟨mb,nsK hb,hbb⟩,let ⟨mc,h1,h2⟩:=hlim; ⟨mc,nsK h1,h2⟩,seerB,let ⟨bm,ob,x1,x2,x3,x4,x5,x6⟩:=hbm; ⟨bm,ob,x1,x2,base_of x3 (free x3 (λxs n z=>by rw [x6] at z; cases z) λxs z=>by rw [x6] at z; cases z),x4,x5,x6⟩⟩
 have hS:SqL K H a (ns.map V.int):=by
  rcases hk:K.lookup a with _ | o
  .refine .inl (.inr ⟨{ cls:=.type "list",data:=.seq vs.toArray },?_⟩);rw [<- hH];unfold hp0;rw [if_pos rfl,hk];rfl
  .have e:=KX a o hk;rw [ha] at e;cases e;exact .inr ⟨_,vs.toArray,_,hk,rfl,rfl,rfl,by rw [Jat,lenV]; exact hl,by simpa using rv⟩
 have hok:HOk P w H s₁.heap:=λb u e=>by
  rcases cases3 b with h | ⟨rfl,_,h⟩ | ⟨t,h0,h⟩
  .rw [h] at e; cases e
  .rw [h] at e; cases e;exact ⟨ha,by rw [Jab]; exact hl,vs,_,rv,ha⟩
  .rw [h] at e; cases e;exact .inl (htb b t h0).1
 have e0:Env0 P w K mg (Zte s₁.heap H) callerA [] s₁ H:=⟨rfl,hM,λb o e=>of_hidT e,Nat.le_of_eq (Zsf _ _),trivial,λb hb=>absurd (show b ∈ ([]:List Addr) from hb) (by simp),hok,.of_eq hg⟩
 refine codeAny_mono ((F _ hKb (nsK hns)).run callerA [] s₁ H ⟨[.ref a],[]⟩ [.ref a] [.ref a] _ _ hr e0 (hbind s₁ (.ref a)) (.cons rfl .nil) (hsp H hS hT)) λr s' h=>?_;cases r with
 | error e=>exact (hCX H e s' h).elim
 | ok fl=>
  cases fl with
  | next=>exact False.elim h
  | brk=>exact False.elim h
  | cont=>exact False.elim h
  | ret u=>
   refine Zib h λv H' os bare un hok' r' q=>?_;clear h;obtain ⟨q',hT'⟩:=q;subst q';obtain rfl:u = Value.bool true:=r';have noF:∀ b:Addr,b ∉ frs ([]:List Env):=λb z=>absurd (show b ∈ ([]:List Addr) from z) (by simp);refine ⟨rfl,⟨λb o e=>?_,λb o e=>un.there b o e (by simp)⟩,os,bare⟩;rcases cases3 b with h | ⟨rfl,_,h⟩ | ⟨t,h0,h⟩
   .exact .inl (un.keep b o e h (noF b) (by simp))
   .have z2:=un.frzs _ _ _ h;obtain ⟨e1,_⟩:=hok _ _ h;obtain ⟨e2,_⟩:=hok' _ _ z2;rw [e] at e1; cases e1;exact .inl e2
   .rw [(htb b t h0).1] at e;cases e;rcases hok' b _ (hT' b t h0) with e2 | ⟨c',oc,ws,tk,e2,_⟩
    .exact .inl e2
    .exact .inr (.inl ⟨(htb b t h0).2.2,rfl,#[],_,rfl,by rw [e2,Array.empty_append]⟩)
theorem Ztr {l:PySem.W.OpenLaw} {n k:Nat} {q:Program} {loose:List Str} {XP:(Str->Option Value)->Heap->Prop} {YP:World->Heap->Prop} {d:DefRec} {K:Params->PySem.W.Frag} {CX:World->CXT} {sp:World->Sp} {x:Str} {tb:Tbs}
  (hq:importsNone q = true) (hn:l.most = some n) (hn2:n<=sizeLine) (hdf:d.params.defaults = []) (hr:Room k callerA)
  (hY:∀ (w:World) (h:Heap),YP w h->(K w.params).In h) (htb:∀ (w:World) (h:Heap),YP w h->∀ b t,tb.lookup b = some t->h.get? b = some (tabObj #[])/\(K w.params).lookup b = none/\isCodeTable h b)
  (F:∀ (w:World) (mg:Str->Option Value) (fa:Addr) (h:Heap),(K w.params).In h->h.Ns mainGlobals mg->mg d.name = some (.ref fa)->
   ∃ fd:FuncData,(∀ (s:Shared) (u:Value),BindsTo s fd ⟨[u],[]⟩ [(x,u)]) /\
    ∀ base:Heap,(K w.params).In base->base.Ns mainGlobals mg->FnOk l.prog w (K w.params) mg base (CX w) k fa fd [x] (sp w))
  (hsp:∀ (w:World) (H:Hp) (a:Addr) (ns:List Int),ns.length<=n->SqL (K w.params) H a (ns.map V.int)->Zmg tb H->sp w [.ref a] H (λv H'=>v = .bl true/\Zmg tb H') λ_ _ _=>False)
  (hCX:∀ (w:World) (H:Hp) (s:Shared) (e:Value) (s':Shared),CX w [] H s (λ_ _ _=>False) e s'->False):
  PySem.W.WalkO q loose XP YP l.row.toRowW d [] (λf vs=>PySem.call f vs):=by
 refine Att.attach_call hn hdf λw s₀ s₁ mg mb fa o pm cd doc a vs ns G Y ho hd hcd hmg hobj hints hlen hg=>?_;have KX:=hY w _ Y;refine Zad (F w mg fa _ KX G.T.g hmg) λfd hb hF=>?_;exact Zrv KX G.T.g G.T.b G.T.builtins G.T.nolimit (G.T.seer hq) G.T.bmain hg (htb w _ Y) hobj hints (Jav hlen hn2) hr hF hb (λH hS hT=>hsp w H a ns hlen hS hT) λH e s'=>hCX w H s₁ e s'
def lamOk (outer:List (Str × NameKind)) (N:List Str) (sc:Scope) (x:Str) (fr:List (Str × Nat)):Bool:=
 sc.kind == .function && !sc.isCoroutine && !sc.isGenerator && sc.names.all (λy=>y.2 != .cell) && sc.names.lookup x == some .local &&
 sc.names.all (λy=>y.2 != .free || outer.lookup y.1 == some .cell || outer.lookup y.1 == some .free) &&
 fr.all λy=>sc.names.lookup y.1 == some .free && N[y.2]? == some y.1
theorem lam_of {X:Cx} {sc:Scope} {x:Str} {fr:List (Str × Nat)} (h:lamOk X.env.scope.names X.N sc x fr = true):LamScope X sc x fr:=by
 unfold lamOk at h;simp only [Jce,Jbl] at h;obtain ⟨⟨⟨⟨⟨⟨h1,h2⟩,h3⟩,h4⟩,h5⟩,h6⟩,h7⟩:=h;refine ⟨?_,?_,?_,λy hy z=>?_,Jbr.mp h5,λy hy hf=>?_,λy hy=>?_⟩
 .cases e:sc.kind <;> rw [e] at h1 <;> first | rfl | (exact absurd h1 (by decide))
 .simpa using h2
 .simpa using h3
 .have:=h4 y hy;rw [z] at this;exact absurd this (by decide)
 .have:=h6 y hy;rw [hf] at this;simp only [Jcz,Jbr] at this;rcases this with (q | q) | q
  .exact absurd q (by decide)
  .exact .inl q
  .exact .inr q
 .have:=h7 y hy;exact ⟨Jbr.mp this.1,Jbr.mp this.2⟩
structure FunC (K:PySem.W.Frag) (x qual:Str) (st:Stmt) (f:Addr) (fd:FuncData) (c:Addr):Prop where
 ex:∃ (oc:Value) (od:Option Addr) (kV doc pm:Value) (an:Option Addr) (ct:Value) (osl:Array (Option Value)),
  fd = PySem.W.fnOf x qual (Zcq st) (Zb7 st) (Zaf st) .none kV doc pm an (.ref c) ct/\K.lookup f = some ⟨oc,od,.func fd,osl⟩/\PySem.W.codeIn K (.ref c) qual = true
section
variable {P:Program} {w:World} {K:PySem.W.Frag} {mg:Str->Option Value} {base:Heap}
theorem FunC.ok {x qual:Str} {st:Stmt} {f c:Addr} {fd:FuncData} {N ps:List Str} {k:Nat} {sp:L2.Sp} (F:FunC K x qual st f fd c) (S:FnScope N ps (Zaf st)) (len:∀ vs H Q E,sp vs H Q E->vs.length = ps.length)
  (hbody:∀ (A:Around) (outer:List Env) (s:Shared) (H:Hp) (vs:List V) (Q:VK) (E:XK),Room k (A.deeper (envOfC qual (Zaf st) s.heap.objs.size f (.ref c)))->sp vs H Q E->
   ∃ t,PSs (Zvq CX0 P w K mg base N qual (Zaf st) f (.ref c) A outer s H E).nox (Zb7 st) t/\t { nx:=λ_ H'=>Q .non H',rt:=Q } (start N vs) H):FnOk P w K mg base CX0 (k + 1) f fd ps sp:=by
 refine xE8_3 F.ex λoc od kV doc pm an ct osl e98 lk hcd=>?_;obtain rfl:=e98;refine fn_of lk hcd S len λA outer s H vs Q E hr hsp=>?_;refine Zad (hbody A outer s H vs Q E hr hsp) λt h q=>?_;exact ⟨t,h.nox,q⟩
theorem FunC.binds {x qual:Str} {st:Stmt} {f c:Addr} {fd:FuncData} {ps:List Str} (F:FunC K x qual st f fd c)
  (h:∀ (kV doc pm:Value) (an:Option Addr) (cdv ct:Value) (us:List Value),us.length = ps.length->bindArgs (PySem.W.fnOf x qual (Zcq st) (Zb7 st) (Zaf st) .none kV doc pm an cdv ct) ⟨us,[]⟩ = pure (ps.zip us)):Binds K fd ps []:=by
 refine xE8_3 F.ex λoc od kV doc pm an ct osl e99 lk hcd=>?_;obtain rfl:=e99;exact .all (h kV doc pm an (.ref c) ct)
end
end L2
namespace L2
open PySem PySem.Spec PyProof.Rows PySem.W
def hdIn (K:PySem.W.Frag) (c P:Addr):Bool:=
 match List.lookup c K with
 | some ⟨.type t,_,.fields (vs:Array Value),_⟩=>t == "code" && (match (vs[11]?:Option Value) with | some (Value.ref q)=>q == P | _=>false) && (match vs.getD 11 .none with | .ref q=>q == P | _=>false) && (match vs.getD 18 .none with | .str _ _=>true | _=>false) && (match vs.getD 7 .none with | .int _ _=>true | _=>false) && (match vs.getD 9 .none with | .bool _=>true | _=>false) && (match vs.getD 10 .none with | .int _ _=>true | _=>false) && c != P
 | _=>false
theorem hd_of {K:PySem.W.Frag} {h:Heap} {c P:Addr} (X:K.In h) (e:hdIn K c P = true):PySem.W.CodeHd h c P:=by
 unfold hdIn at e;split at e
 .rename_i t d vs sl hl
  simp only [Jce] at e;obtain ⟨⟨⟨⟨⟨⟨⟨e1,e2⟩,e3⟩,e4⟩,e5⟩,e6⟩,e7⟩,e8⟩:=e;have e1:=eq_of_beq e1;subst e1;have h2:vs[11]? = some (.ref P):=by
   split at e2
   .rename_i q hq
    rw [hq,eq_of_beq e2]
   .cases e2
  have h3:vs.getD 11 .none = .ref P:=by
   split at e3
   .rename_i q hq
    rw [hq,eq_of_beq e3]
   .cases e3
  have h4:∃ f t,vs.getD 18 .none = .str f t:=by
   split at e4
   .rename_i f t hq
    exact ⟨f,t,hq⟩
   .cases e4
  have h5:∃ f t,vs.getD 7 .none = .int f t:=by
   split at e5
   .rename_i f t hq
    exact ⟨f,t,hq⟩
   .cases e5
  have h6:∃ f,vs.getD 9 .none = .bool f:=by
   split at e6
   .rename_i f hq
    exact ⟨f,hq⟩
   .cases e6
  have h7:∃ f t,vs.getD 10 .none = .int f t:=by
   split at e7
   .rename_i f t hq
    exact ⟨f,t,hq⟩
   .cases e7
  obtain ⟨f1,t1,h4⟩:=h4;obtain ⟨f2,t2,h5⟩:=h5;obtain ⟨f3,h6⟩:=h6;obtain ⟨f4,t4,h7⟩:=h7;exact ⟨_,vs,f1,t1,f2,t2,f3,f4,t4,X c _ hl,rfl,rfl,h2,h3,h4,h5,h6,h7,by simpa using e8⟩
 .cases e
theorem Zts {l:PySem.W.OpenLaw} {n k:Nat} {q:Program} {loose:List Str} {XP:(Str->Option Value)->Heap->Prop} {YP:World->Heap->Prop} {d:DefRec} {K:Params->PySem.W.Frag} {sp:World->Sp} {x:Str} (cL PL:Addr) (ln co:Int) (qu:Str)
  (hq:importsNone q = true) (hn:l.most = some n) (hn2:n<=sizeLine) (hdf:d.params.defaults = []) (hr:Room k callerA)
  (hY:∀ (w:World) (h:Heap),YP w h->(K w.params).In h) (hP:∀ (w:World) (h:Heap),YP w h->h.get? PL = some (PySem.W.tabObj #[])) (hN:∀ p,(K p).lookup PL = none) (hC:∀ p,hdIn (K p) cL PL = true)
  (F:∀ (w:World) (mg:Str->Option Value) (fa:Addr) (h:Heap),(K w.params).In h->h.Ns mainGlobals mg->mg d.name = some (.ref fa)->
   ∃ fd:FuncData,(∀ (s:Shared) (u:Value),BindsTo s fd ⟨[u],[]⟩ [(x,u)]) /\
    ∀ base:Heap,(K w.params).In base->base.Ns mainGlobals mg->FnOk l.prog w (K w.params) mg base CX0 k fa fd [x] (sp w))
  (hsp:∀ (w:World) (H:Hp) (a:Addr) (ns:List Int) (Q:VK) (E:XK),ns.length<=n->SqL (K w.params) H a (ns.map V.int)->H PL = some (.tab ln co qu)->(∀ H',H' PL = some (.tab ln co qu)->Q (.bl true) H')->sp w [.ref a] H Q E):
  PySem.W.WalkO q loose XP YP l.row.toRowW d [] (λf vs=>PySem.call f vs):=by
 have one:∀ b t,([(PL,ln,co,qu)]:Tbs).lookup b = some t->b = PL/\t = (ln,co,qu):=λb t e=>by
  rw [Ja5] at e;split at e
  .rename_i hb
   cases e;exact ⟨eq_of_beq hb,rfl⟩
  .cases e
 have two:([(PL,ln,co,qu)]:Tbs).lookup PL = some (ln,co,qu):=by rw [Ja5]; simp
 refine Ztr (l:=l) (n:=n) (k:=k) (K:=K) (CX:=λ_=>CX0) (sp:=sp) (x:=x) (tb:=[(PL,ln,co,qu)]) hq hn hn2 hdf hr hY (λw h Y b t e=>?_) F (λw H a ns hl hS hT=>?_) (λ_ _ _ _ _ h=>h)
 .obtain ⟨rfl,_⟩:=one b t e;have g:=hP w h Y;exact ⟨g,hN _,((hd_of (hY w h Y) (hC _)).tab g).isCodeTable⟩
 .refine hsp w H a ns _ _ hl hS (hT PL _ two) λH' h'=>⟨rfl,λb t e=>?_⟩
  obtain ⟨rfl,rfl⟩:=one b t e;exact h'
end L2
namespace L2
open PySem PySem.Spec PyProof.Rows
abbrev two (elt t1 i1 t2 i2:Expr) (scope:Scope) (pos:Pos):Expr:=.ListComp elt [⟨t1,i1,[],0⟩,⟨t2,i2,[],0⟩] scope pos
section
variable {prog:Program} {w:World} {A:Around} {R:Result->Shared->Prop} {s:Shared} {elt t1 i1 t2 i2:Expr} {scope:Scope} {pos:Pos} {it acc:Value} {env:Env}
end
section
variable {X:Cx} {tg iter t2 i2 elt:Expr} {scope:Scope} {pos:Pos} {own:List Str} {fr:List (Str × Nat)} {wi wi2:TI} {g g2:TG} {te:TE}
end
end L2
namespace L3
open L2
open Lean.Grind
def Zp (n:Nat):Type:=Fin n
instance {n:Nat} [NeZero n]:CommRing (Zp n):=inferInstanceAs (CommRing (Fin n))
class PrimeN (n:Nat):Prop where
 gt:1 < n
 inv:∀ r:Nat,0 < r->r < n->∃ k,k < n/\k * r % n = 1
instance {n:Nat} [h:PrimeN n]:NeZero n:=⟨by have:=h.gt; omega⟩
section
variable {n:Nat} [hn:PrimeN n]
theorem Zvx (a:Zp n) (h:a ≠ 0):∃ b:Zp n,a * b = 1:=by
 have h0:0 < (show Fin n from a).val:=by
  rcases Nat.eq_zero_or_pos (show Fin n from a).val with z | z
  .exact absurd (show a = 0 from Fin.ext (by rw [z]; rfl)) h
  .exact z
 refine Zad (hn.inv _ h0 (show Fin n from a).isLt) λk hk e=>?_;refine ⟨(⟨k,hk⟩:Fin n),?_⟩;apply Fin.ext;show ((show Fin n from a).val * k) % n = 1 % n;rw [Nat.mul_comm,e,Nat.mod_eq_of_lt hn.gt]
open Classical in
noncomputable def zinv (a:Zp n):Zp n:=if h:a ≠ 0 then Classical.choose (Zvx a h) else 0
theorem Zig {a:Zp n} (h:a ≠ 0):a * zinv a = 1:=by
 unfold zinv;rw [dif_pos h];exact Jdh (Zvx a h)
theorem Zin:zinv (0:Zp n) = 0:=by
 unfold zinv;rw [dif_neg (by simp)]
theorem Zim:(0:Zp n) ≠ 1:=λz=>by
 have:=Jdt (λx:Fin n=>x.val) z;have h1:(0:Nat) % n = 1 % n:=this;rw [Nat.zero_mod,Nat.mod_eq_of_lt hn.gt] at h1;omega
theorem Zpu {a b c:Zp n} (h1:a * b = 1) (h2:a * c = 1):b = c:=by
 have:b = b * (a * c):=by rw [h2]; grind
 rw [this]
 grind
theorem Zpv (a:Zp n):zinv (zinv a) = a:=by
 by_cases h:a = 0
 .rw [h,Zin,Zin]
 .have h1:=Zig h;have h2:zinv a ≠ 0:=λz=>by
   rw [z] at h1;exact Zim (by rw [<- h1]; grind)
  exact Zpu (Zig h2) (by rw [<- h1]; grind)
theorem Ztg:zinv (1:Zp n) = 1:=Zpu (Zig (λz=>Zim z.symm)) (by grind)
noncomputable instance:Inv (Zp n):=⟨zinv⟩
noncomputable instance:Div (Zp n):=⟨λa b=>a * zinv b⟩
noncomputable def zpw (a:Zp n):Int->Zp n
 | .ofNat k=>a ^ k
 | .negSucc k=>zinv (a ^ (k + 1))
noncomputable instance:HPow (Zp n) Int (Zp n):=⟨zpw⟩
noncomputable instance:Field (Zp n) where
 div_eq_mul_inv:=λa b=>rfl
 zero_ne_one:=Zim
 inv_zero:=Zin
 mul_inv_cancel:=λh=>Zig h
 zpow_zero:=λa=>Semiring.pow_zero a
 zpow_succ:=λa k=>Semiring.pow_succ a k
 zpow_neg:=λa k=>by
  match k with
  | .ofNat 0=>exact (show a ^ (0:Nat) = zinv (a ^ (0:Nat)) by rw [Semiring.pow_zero,Ztg])
  | .ofNat (m + 1)=>rfl
  | .negSucc m=>exact (Zpv (a ^ (m + 1))).symm
end
section
variable {F:Type} [Field F]
def ic (z:Int):F:=(Ring.intCast:IntCast F).intCast z
theorem Zsc (x y:Int):(ic (x + y):F) = ic x + ic y:=Ring.intCast_add x y
theorem Zl0 (x y:Int):(ic (x - y):F) = ic x - ic y:=Ring.intCast_sub x y
theorem Zb6 (x y:Int):(ic (x * y):F) = ic x * ic y:=Ring.intCast_mul x y
theorem Zon (x:Int):(ic (-x):F) = -ic x:=Ring.intCast_neg x
theorem Zkv:(ic 0:F) = 0:=Ring.intCast_zero
theorem Zdn:(ic 1:F) = 1:=Ring.intCast_one
end
def Rz (p z:Int):Prop:=p = 0\/(0<=z/\z < p)
structure FdOk (p:Int) (F:Type) [Field F]:Prop where
 z0:∀ z:Int,Rz p z->(ic z:F) = 0->z = 0
 md:p ≠ 0->(ic p:F) = 0
theorem fd_zero:FdOk 0 Rat:=⟨λz _ h=>by
 have h2:(z:Rat) = ((0:Int):Rat):=h;exact Rat.intCast_inj.mp h2,λh=>absurd rfl h⟩
theorem Zvw {n:Nat} [PrimeN n] (k:Nat):(show Fin n from (ic ((k:Nat):Int):Zp n)).val = k % n:=by
 have:(ic ((k:Nat):Int):Zp n) = (Semiring.natCast:NatCast (Zp n)).natCast k:=Ring.intCast_natCast k;rw [this];rfl
theorem Zvm {n:Nat} [hn:PrimeN n]:FdOk n (Zp n):=by
 refine ⟨λz hz h=>?_,λ_=>?_⟩
 .have hz:0<=z/\z < n:=hz.resolve_left (by have:=hn.gt; omega);obtain ⟨k,rfl⟩:=Int.eq_ofNat_of_zero_le hz.1;have h2:=Zvw (n:=n) k;rw [h,Nat.mod_eq_of_lt (by omega)] at h2;have h3:0 % n = k:=h2;rw [Nat.zero_mod] at h3;rw [<- h3];rfl
 .apply Fin.ext;have h2:=Zvw (n:=n) n;rw [Nat.mod_self] at h2;refine h2.trans ?_;show 0 = 0 % n;rw [Nat.zero_mod]
def nm {F:Type} [Field F] (x:Int × Int):F:=ic x.1 / ic x.2
section
variable {p:Int} {F:Type} [Field F]
theorem Zl5 {a b c:F} (h:b ≠ 0) (e:c * b = a):a / b = c:=by grind
theorem FdOk.modF (hF:FdOk p F) (hp:p ≠ 0) (z:Int):(ic (z % p):F) = ic z:=by
 have e:z = z % p + p * (z / p):=(Jd4 z p).symm;have e2:(ic z:F) = ic (z % p) + ic p * ic (z / p):=by
  rw [<- Zb6,<- Zsc,<- e]
 rw [e2,hF.md hp]
 grind
theorem FdOk.ne0 (hF:FdOk p F) {z:Int} (hz:Rz p z) (h:z ≠ 0):(ic z:F) ≠ 0:=λe=>h (hF.z0 z hz e)
theorem FdOk.bot (hF:FdOk p F) {x:Int × Int} (h:Isn p x):(ic x.2:F) ≠ 0:=by
 rcases h with ⟨hp,h1,_⟩ | ⟨_,_,_,h1⟩
 .exact hF.ne0 (.inl hp) (by omega)
 .rw [h1,Zdn];exact λz=>Field.zero_ne_one (α:=F) z.symm
theorem FdOk.nrmF (hF:FdOk p F) (hp:p = 0) {a b:Int} (hb:0 < b):(nm (nrm a b):F) = ic a / ic b:=by
 have g0:(ic ((Int.gcd a b:Nat):Int):F) ≠ 0:=hF.ne0 (.inl hp) (by have:=Zem (a:=a) hb; omega);have b0:(ic b:F) ≠ 0:=hF.ne0 (.inl hp) (by omega);have e1:(ic (nrm a b).1:F) * ic ((Int.gcd a b:Nat):Int) = ic a:=by rw [<- Zb6,Zrr]
 have e2:(ic (nrm a b).2:F) * ic ((Int.gcd a b:Nat):Int) = ic b:=by rw [<- Zb6,Zm9]
 have c0:(ic (nrm a b).2:F) ≠ 0:=λz=>b0 (by rw [<- e2,z]; grind);unfold nm;rw [<- e1,<- e2];generalize (ic (nrm a b).1:F) = x at *;generalize (ic (nrm a b).2:F) = y at *;generalize (ic ((Int.gcd a b:Nat):Int):F) = g at *;exact Zl5 c0 (by grind)
theorem FdOk.one (hF:FdOk p F) (z:Int):(nm (z,1):F) = ic z:=by
 unfold nm;rw [Zdn];exact Zl5 (λz=>Field.zero_ne_one (α:=F) z.symm) (by grind)
theorem FdOk.plus (hF:FdOk p F) {x y:Int × Int} (hx:Isn p x) (hy:Isn p y):(nm (Zey p x y):F) = nm x + nm y:=by
 have bx:=hF.bot hx;have by':=hF.bot hy
 unfold Zey;split
 .rename_i hp
  rw [hF.nrmF hp (Jc5 hx.pos hy.pos),Zsc,Zb6,Zb6,Zb6];unfold nm
  grind
 .rename_i hp
  rw [hF.one,hF.modF hp,Zsc];rcases hx with ⟨z,_⟩ | ⟨_,_,_,h1⟩
  .exact absurd z hp
  .rcases hy with ⟨z,_⟩ | ⟨_,_,_,h2⟩
   .exact absurd z hp
   .unfold nm;rw [h1,h2,Zdn]
    grind
theorem FdOk.minus (hF:FdOk p F) {x y:Int × Int} (hx:Isn p x) (hy:Isn p y):(nm (Zdy p x y):F) = nm x - nm y:=by
 have bx:=hF.bot hx;have by':=hF.bot hy
 unfold Zdy;split
 .rename_i hp
  rw [hF.nrmF hp (Jc5 hx.pos hy.pos),Zl0,Zb6,Zb6,Zb6];unfold nm
  grind
 .rename_i hp
  rw [hF.one,hF.modF hp,Zl0];rcases hx with ⟨z,_⟩ | ⟨_,_,_,h1⟩
  .exact absurd z hp
  .rcases hy with ⟨z,_⟩ | ⟨_,_,_,h2⟩
   .exact absurd z hp
   .unfold nm;rw [h1,h2,Zdn]
    grind
theorem FdOk.times (hF:FdOk p F) {x y:Int × Int} (hx:Isn p x) (hy:Isn p y):(nm (Zbk p x y):F) = nm x * nm y:=by
 have bx:=hF.bot hx;have by':=hF.bot hy
 unfold Zbk;split
 .rename_i hp
  rw [hF.nrmF hp (Jc5 hx.pos hy.pos),Zb6,Zb6];unfold nm
  grind
 .rename_i hp
  rw [hF.one,hF.modF hp,Zb6];rcases hx with ⟨z,_⟩ | ⟨_,_,_,h1⟩
  .exact absurd z hp
  .rcases hy with ⟨z,_⟩ | ⟨_,_,_,h2⟩
   .exact absurd z hp
   .unfold nm;rw [h1,h2,Zdn]
    grind
theorem FdOk.intF (hF:FdOk p F) (k:Int):(nm (Zhl p k):F) = ic k:=by
 unfold Zhl;split
 .exact hF.one k
 .rename_i hp
  rw [hF.one,hF.modF hp]
theorem FdOk.inj (hF:FdOk p F) {x y:Int × Int} (hx:Isn p x) (hy:Isn p y) (e:(nm x:F) = nm y):x = y:=by
 have bx:=hF.bot hx;have by':=hF.bot hy
 have e2:(ic x.1:F) * ic y.2 = ic y.1 * ic x.2:=by unfold nm at e; grind
 rw [<- Zb6,<- Zb6] at e2;have e3:(ic (x.1 * y.2 - y.1 * x.2):F) = 0:=by rw [Zl0,e2]; grind
 by_cases hp:p = 0
 .have h:=hF.z0 _ (.inl hp) e3;rcases hx with ⟨_,lx⟩ | ⟨z,_⟩
  .rcases hy with ⟨_,ly⟩ | ⟨z,_⟩
   .exact Zpe lx ly (by omega)
   .omega
  .omega
 .rcases hx with ⟨z,_⟩ | ⟨pp,x0,x1,h1⟩
  .exact absurd z hp
  .rcases hy with ⟨z,_⟩ | ⟨_,y0,y1,h2⟩
   .exact absurd z hp
   .rw [h1,h2,Jev,Jev] at e3;rw [<- hF.modF hp] at e3;have h:=hF.z0 _ (.inr ⟨Jbi _ hp,Ja7 _ pp⟩) e3;have h3:x.1 = y.1:=by
     have:=Int.emod_emod_of_dvd (x.1 - y.1) (Int.dvd_refl p);by_cases q:y.1<=x.1
     .rw [Jc0 (by omega) (by omega)] at h;omega
     .have h4:(x.1 - y.1 + p) % p = 0:=by rw [Int.add_emod_right]; exact h
      rw [Jc0 (by omega) (by omega)] at h4;omega
    exact Prod.ext h3 (by rw [h1,h2])
end
end L3
namespace L3
open Lean.Grind
section
variable {F:Type} [Field F]
def sm:Nat->(Nat->F)->F
 | 0,_=>0
 | n + 1,f=>sm n f + f n
theorem Zar:∀ {n:Nat} {f g:Nat->F},(∀ i,i < n->f i = g i)->sm n f = sm n g
 | 0,_,_,_=>rfl
 | n + 1,f,g,h=>by
  show sm n f + f n = sm n g + g n;rw [Zar (n:=n) λi hi=>h i (by omega),h n (by omega)]
theorem Zc4:∀ n:Nat,sm n (λ_=>(0:F)) = 0
 | 0=>rfl
 | n + 1=>by
  show sm n (λ_=>(0:F)) + 0 = 0;rw [Zc4 n]
  grind
theorem Zli:∀ (n:Nat) (f g:Nat->F),sm n (λi=>f i + g i) = sm n f + sm n g
 | 0,_,_=>by show (0:F) = 0 + 0; grind
 | n + 1,f,g=>by
  show sm n (λi=>f i + g i) + (f n + g n) = (sm n f + f n) + (sm n g + g n);rw [Zli n]
  grind
theorem Zdh (a:F):∀ (n:Nat) (f:Nat->F),sm n (λi=>a * f i) = a * sm n f
 | 0,_=>by show (0:F) = a * 0; grind
 | n + 1,f=>by
  show sm n (λi=>a * f i) + a * f n = a * (sm n f + f n);rw [Zdh a n]
  grind
theorem Zfz (a:F) (n:Nat) (f:Nat->F):sm n (λi=>f i * a) = sm n f * a:=by
 rw [show (λi=>f i * a) = λi=>a * f i from funext λi=>by grind,Zdh]
 grind
theorem Zfy:∀ (n m:Nat) (f:Nat->Nat->F),sm n (λi=>sm m (λj=>f i j)) = sm m (λj=>sm n (λi=>f i j))
 | 0,m,f=>(Zc4 m).symm
 | n + 1,m,f=>by
  show sm n (λi=>sm m (λj=>f i j)) + sm m (λj=>f n j) = sm m (λj=>sm n (λi=>f i j) + f n j);rw [Zfy n m,Zli]
theorem Zny:∀ {n k:Nat} (f:Nat->F),k < n->sm n (λi=>if i = k then f i else 0) = f k
 | 0,_,_,h=>absurd h (Nat.not_lt_zero _)
 | n + 1,k,f,h=>by
  show sm n (λi=>if i = k then f i else 0) + (if n = k then f n else 0) = f k;by_cases e:n = k
  .subst e;rw [if_pos rfl,Zar (g:=λ_=>0) (λi hi=>by rw [if_neg (by omega)]),Zc4]
   grind
  .rw [if_neg e,Zny f (by omega)]
   grind
theorem Zv4 {n k:Nat} (f:Nat->F) (h:k < n):sm n (λi=>(if i = k then 1 else 0) * f i) = f k:=by
 rw [<- Zny f h];exact Zar λi _=>by split <;> grind
theorem Zqu {n k:Nat} (f:Nat->F) (h:k < n):sm n (λi=>f i * (if i = k then 1 else 0)) = f k:=by
 rw [<- Zny f h];exact Zar λi _=>by split <;> grind
theorem Znz {n k:Nat} (f:Nat->F) (h:k < n):sm n (λi=>f i * (if k = i then 1 else 0)) = f k:=by
 rw [<- Zny f h];exact Zar λi _=>by
  by_cases e:i = k
  .rw [if_pos e,if_pos e.symm]; grind
  .rw [if_neg e,if_neg (λz=>e z.symm)]; grind
def sk (k j:Nat):Nat:=if j < k then j else j + 1
theorem Znx:∀ {n k:Nat} (f:Nat->F),k<=n->sm (n + 1) f = f k + sm n (λj=>f (sk k j))
 | n,k,f,h=>by
  by_cases e:k = n
  .subst e;show sm k f + f k = _;rw [Zar (n:=k) (f:=f) (g:=λj=>f (sk k j)) λi hi=>by unfold sk; rw [if_pos hi]]
   grind
  .cases n with
   | zero=>omega
   | succ n=>
    show sm (n + 1) f + f (n + 1) = f k + (sm n (λj=>f (sk k j)) + f (sk k n));rw [Znx (n:=n) (k:=k) f (by omega)];have:sk k n = n + 1:=by unfold sk; rw [if_neg (by omega)]
    rw [this]
    grind
theorem Zrz:∀ (r s:Nat) (Y:Nat->Nat->F),r < s->∃ v:Nat->F,(∃ j,j < s/\v j ≠ 0)/\∀ i,i < r->sm s (λj=>Y i j * v j) = 0
 | 0,s,Y,h=>⟨λ_=>1,⟨0,h,λz=>Field.zero_ne_one (α:=F) z.symm⟩,λi hi=>absurd hi (Nat.not_lt_zero _)⟩
 | r + 1,s,Y,h=>by
  by_cases hz:∀ j,j < s->Y r j = 0
  .obtain ⟨v,hv,he⟩:=Zrz r s Y (by omega);refine ⟨v,hv,λi hi=>?_⟩;by_cases e:i = r
   .subst e;rw [Zar (g:=λ_=>0) λj hj=>by rw [hz j hj]; grind,Zc4]
   .exact he i (by omega)
  .obtain ⟨k,hk⟩:∃ k,k < s/\Y r k ≠ 0:=by
    apply Jb6;intro z;exact hz λj hj=>Jb6 λq=>z ⟨j,hj,q⟩
   obtain ⟨hk,hy⟩:=hk;obtain ⟨s',rfl⟩:∃ s',s = s' + 1:=⟨s - 1,by omega⟩
   obtain ⟨v',⟨j0,hj0,hv0⟩,he⟩:=Zrz r s' (λi j=>Y i (sk k j) - Y i k / Y r k * Y r (sk k j)) (by omega);obtain ⟨v,hvk,hv'⟩:∃ v:Nat->F,v k = -(sm s' (λj=>Y r (sk k j) * v' j)) / Y r k/\∀ j,v (sk k j) = v' j:=by
    refine ⟨λi=>if i = k then -(sm s' (λj=>Y r (sk k j) * v' j)) / Y r k else v' (if i < k then i else i - 1),if_pos rfl,λj=>?_⟩;have h1:sk k j ≠ k:=by unfold sk; split <;> omega
    show (if sk k j = k then _ else v' (if sk k j < k then sk k j else sk k j - 1)) = v' j;rw [if_neg h1];congr 1;unfold sk;by_cases q:j < k
    .rw [if_pos q,if_pos q]
    .rw [if_neg q,if_neg (by omega)];omega
   refine ⟨v,⟨sk k j0,by unfold sk; split <;> omega,by rw [hv']; exact hv0⟩,λi hi=>?_⟩;rw [Znx (k:=k) _ (by omega),hvk];rw [Zar (n:=s') (f:=λj=>Y i (sk k j) * v (sk k j)) (g:=λj=>Y i (sk k j) * v' j) λj hj=>by rw [hv']];by_cases e:i = r
   .subst e;generalize sm s' (λj=>Y i (sk k j) * v' j) = S
    grind
   .have h2:=he i (by omega);have h3:sm s' (λj=>(Y i (sk k j) - Y i k / Y r k * Y r (sk k j)) * v' j) = sm s' (λj=>Y i (sk k j) * v' j) - Y i k / Y r k * sm s' (λj=>Y r (sk k j) * v' j):=by
     rw [<- Zdh];have:∀ (f g:Nat->F),sm s' (λj=>f j - g j) = sm s' f - sm s' g:=λf g=>by
      have e1:=Zli s' (λj=>f j - g j) g;rw [show (λj=>f j - g j + g j) = f from funext λj=>by grind] at e1;rw [e1]
      grind
     rw [<- this];exact Zar λj _=>by grind
    rw [h3] at h2;generalize sm s' (λj=>Y i (sk k j) * v' j) = S1 at *;generalize sm s' (λj=>Y r (sk k j) * v' j) = S2 at *
    grind
abbrev del (i k:Nat):F:=if i = k then 1 else 0
theorem dim_le {r s:Nat} {X Y:Nat->Nat->F} (h:∀ i k,i < s->k < s->sm r (λt=>X i t * Y t k) = del i k):s<=r:=by
 apply Jb6;intro z;obtain ⟨v,⟨j,hj,hv⟩,he⟩:=Zrz r s Y (by omega);apply hv;have h1:sm s (λk=>sm r (λt=>X j t * Y t k) * v k) = v j:=by
  rw [Zar (g:=λk=>del j k * v k) λk hk=>by rw [h j k hj hk]];rw [show (λk=>del j k * v k) = λk=>v k * (if j = k then 1 else 0) from funext λk=>by grind];exact Znz v hj
 rw [<- h1];rw [Zar (g:=λk=>sm r (λt=>X j t * Y t k * v k)) λk _=>by rw [Zfz],Zfy];rw [Zar (g:=λ_=>0) λt ht=>?_,Zc4];rw [show (λk=>X j t * Y t k * v k) = λk=>X j t * (Y t k * v k) from funext λk=>by grind,Zdh,he t ht]
 grind
structure Rk (A:Nat->Nat->F) (m n r:Nat):Prop where
 fac:∃ B C:Nat->Nat->F,∀ i j,i < m->j < n->A i j = sm r λk=>B i k * C k j
 piv:∃ P Q:Nat->Nat->F,∀ i k,i < r->k < r->sm m (λa=>P i a * sm n λb=>A a b * Q b k) = del i k
theorem Zmn {m n r s:Nat} {A B C P Q:Nat->Nat->F} (hf:∀ i j,i < m->j < n->A i j = sm r λk=>B i k * C k j) (hp:∀ i k,i < s->k < s->sm m (λa=>P i a * sm n λb=>A a b * Q b k) = del i k):s<=r:=by
 refine dim_le (X:=λi t=>sm m λa=>P i a * B a t) (Y:=λt k=>sm n λb=>C t b * Q b k) λi k hi hk=>?_;rw [<- hp i k hi hk];have e1:∀ a,a < m->(sm n λb=>A a b * Q b k) = sm r λt=>B a t * sm n λb=>C t b * Q b k:=λa ha=>by
  rw [Zar (g:=λb=>sm r λt=>B a t * (C t b * Q b k)) λb hb=>?_,Zfy]
  .exact Zar λt _=>Zdh _ _ _
  .rw [hf a b ha hb,<- Zfz];exact Zar λt _=>by grind
 rw [Zar (n:=m) (g:=λa=>sm r λt=>P i a * B a t * sm n λb=>C t b * Q b k) λa ha=>?_,Zfy]
 .exact Zar λt _=>by rw [Zfz]
 .rw [e1 a ha,<- Zdh];exact Zar λt _=>by grind
theorem Rk.uniq {A:Nat->Nat->F} {m n r s:Nat} (h:Rk A m n r) (h':Rk A m n s):r = s:=by
 obtain ⟨B,C,hf⟩:=h.fac;obtain ⟨P,Q,hp⟩:=h.piv;obtain ⟨B',C',hf'⟩:=h'.fac;obtain ⟨P',Q',hp'⟩:=h'.piv;have:=Zmn hf hp';have:=Zmn hf' hp;omega
theorem Rk.congr {A B:Nat->Nat->F} {m n r:Nat} (h:Rk A m n r) (e:∀ i j,i < m->j < n->A i j = B i j):Rk B m n r:=by
 obtain ⟨X,Y,hf⟩:=h.fac;obtain ⟨P,Q,hp⟩:=h.piv;refine ⟨⟨X,Y,λi j hi hj=>by rw [<- e i j hi hj]; exact hf i j hi hj⟩,⟨P,Q,λi k hi hk=>?_⟩⟩;rw [<- hp i k hi hk];exact Zar λa ha=>by rw [Zar (n:=n) λb hb=>by rw [<- e a b ha hb]]
abbrev zv:Nat->F:=λ_=>0
inductive Sp (S:(Nat->F)->Prop):(Nat->F)->Prop
 | mem {v:Nat->F}:S v->Sp S v
 | zero:Sp S zv
 | comb {u v:Nat->F} (a b:F):Sp S u->Sp S v->Sp S λj=>a * u j + b * v j
theorem Sp.trans {S T:(Nat->F)->Prop} {v:Nat->F} (h:Sp S v) (k:∀ u,S u->Sp T u):Sp T v:=by
 induction h with
 | mem h=>exact k _ h
 | zero=>exact .zero
 | comb a b _ _ h1 h2=>exact .comb a b h1 h2
theorem Sp.smul {S:(Nat->F)->Prop} {v:Nat->F} (a:F) (h:Sp S v):Sp S λj=>a * v j:=by
 have:=Sp.comb a 0 h Sp.zero;rwa [show (λj=>a * v j + 0 * (zv j:F)) = λj=>a * v j from funext λj=>by grind] at this
abbrev SpL (L:List (Nat->F)) (v:Nat->F):Prop:=Sp (· ∈ L) v
structure SpEq (L L':List (Nat->F)):Prop where
 le:∀ v ∈ L,SpL L' v
 ge:∀ v ∈ L',SpL L v
theorem SpEq.refl (L:List (Nat->F)):SpEq L L:=⟨λ_ h=>.mem h,λ_ h=>.mem h⟩
theorem SpEq.symm {L L':List (Nat->F)} (h:SpEq L L'):SpEq L' L:=⟨h.ge,h.le⟩
theorem SpEq.trans {L L' L'':List (Nat->F)} (h:SpEq L L') (h':SpEq L' L''):SpEq L L'':=⟨λv hv=>(h.le v hv).trans λu hu=>h'.le u hu,λv hv=>(h'.ge v hv).trans λu hu=>h.ge u hu⟩
theorem SpEq.mems {L L':List (Nat->F)} (h:∀ v,v ∈ L ↔ v ∈ L'):SpEq L L':=⟨λv hv=>.mem ((h v).mp hv),λv hv=>.mem ((h v).mpr hv)⟩
abbrev at' (L:List (Nat->F)) (i:Nat):Nat->F:=L.getD i zv
theorem Zd3 {L:List (Nat->F)} {i:Nat} (h:i < L.length):at' L i ∈ L:=by
 unfold at';rw [Jac,Jaa h];exact Ja2 h
theorem Sp.coef {L:List (Nat->F)} {v:Nat->F} (h:SpL L v):∃ c:Nat->F,∀ j,v j = sm L.length λi=>c i * at' L i j:=by
 induction h with
 | mem h=>
  obtain ⟨i,hi,rfl⟩:=Jap.mp h;refine ⟨λk=>del k i,λj=>?_⟩;rw [Zv4 (λk=>at' L k j) hi];unfold at';rw [Jac,Jaa hi];rfl
 | zero=>exact ⟨λ_=>0,λj=>by rw [Zar (g:=λ_=>0) λi _=>by grind,Zc4]⟩
 | comb a b _ _ h1 h2=>
  obtain ⟨c,hc⟩:=h1;obtain ⟨d,hd⟩:=h2;refine ⟨λi=>a * c i + b * d i,λj=>?_⟩;show a * _ + b * _ = _;rw [hc j,hd j,<- Zdh,<- Zdh,<- Zli];exact Zar λi _=>by grind
structure RR (L:List (Nat->F)) (n r:Nat) (c:Nat->Nat):Prop where
 rl:r<=L.length
 cn:∀ i,i < r->c i < n
 mono:∀ i k,i < k->k < r->c i < c k
 piv:∀ i k,i < r->k < r->at' L i (c k) = del i k
 low:∀ i j,i < r->j < c i->at' L i j = 0
 zer:∀ i j,r<=i->i < L.length->j < n->at' L i j = 0
theorem RR.expand {L:List (Nat->F)} {n r:Nat} {c:Nat->Nat} (R:RR L n r c) {v:Nat->F} (h:SpL L v):∀ j,j < n->v j = sm r λi=>v (c i) * at' L i j:=by
 induction h with
 | mem h=>
  obtain ⟨i,hi,rfl⟩:=Jap.mp h;have e:L[i] = at' L i:=by unfold at'; rw [Jac,Jaa hi]; rfl
  rw [e];intro j hj;by_cases hr:i < r
  .rw [Zar (g:=λk=>at' L k j * (if i = k then 1 else 0)) λk hk=>by rw [R.piv i k hr hk]; grind,Znz _ hr]
  .rw [R.zer i j (by omega) hi hj,Zar (g:=λ_=>0) λk hk=>by rw [R.zer i (c k) (by omega) hi (R.cn k hk)]; grind,Zc4]
 | zero=>exact λj _=>by rw [Zar (g:=λ_=>0) λi _=>by grind,Zc4]
 | comb a b _ _ h1 h2=>
  intro j hj;show a * _ + b * _ = _;rw [h1 j hj,h2 j hj,<- Zdh,<- Zdh,<- Zli];exact Zar λi _=>by grind
theorem RR.rk {L L':List (Nat->F)} {n r:Nat} {c:Nat->Nat} (R:RR L n r c) (h:SpEq L' L):Rk (λi j=>at' L' i j) L'.length n r:=by
 refine ⟨⟨λi k=>at' L' i (c k),λk j=>at' L k j,λi j hi hj=>R.expand (h.le _ (Zd3 hi)) j hj⟩,?_⟩;have hc:∀ k,k < r->∃ d:Nat->F,∀ j,at' L k j = sm L'.length λi=>d i * at' L' i j:=λk hk=>(h.ge _ (Zd3 (Jaw hk R.rl))).coef;refine ⟨λk=>if hk:k < r then Classical.choose (hc k hk) else zv,λb k=>del b (c k),λi k hi hk=>?_⟩;rw [Zar (g:=λa=>Classical.choose (hc i hi) a * at' L' a (c k)) λa _=>by
  show (if hk:i < r then Classical.choose (hc i hk) else zv) a * sm n (λb=>at' L' a b * (if b = c k then 1 else 0)) = _;rw [dif_pos hi,Zqu _ (R.cn k hk)]]
 rw [<- Jdh (hc i hi) (c k)];exact R.piv i k hi hk
end
end L3
namespace L3
open Lean.Grind
section
variable {F:Type} [Field F]
theorem Zqt:∀ {n r:Nat} {f:Nat->F},r<=n->(∀ i,r<=i->i < n->f i = 0)->sm n f = sm r f
 | 0,r,f,h,_=>by rw [show r = 0 by omega]
 | n + 1,r,f,h,hz=>by
  by_cases e:r = n + 1
  .rw [e]
  .show sm n f + f n = _;rw [hz n (by omega) (by omega),Zqt (n:=n) (by omega) λi a b=>hz i a (by omega)]
   grind
theorem Zp5:∀ (r:Nat) (U:Nat->Nat->F),(∀ i,i < r->U i i ≠ 0)->(∀ i k,k < i->i < r->U i k = 0)->∃ Q:Nat->Nat->F,∀ i k,i < r->k < r->sm r (λt=>U i t * Q t k) = del i k
 | 0,U,_,_=>⟨λ_ _=>0,λi k h=>absurd h (Nat.not_lt_zero _)⟩
 | r + 1,U,hd,hz=>by
  obtain ⟨Q,hQ⟩:=Zp5 r U (λi h=>hd i (by omega)) λi k a b=>hz i k a (by omega);have u0:=hd r (by omega);refine ⟨λt k=>if k = r then (if t = r then (U r r)⁻¹ else (0 - sm r (λs=>Q t s * U s r)) * (U r r)⁻¹) else if t = r then 0 else Q t k,λi k hi hk=>?_⟩;show sm r _ + _ = _;by_cases ek:k = r
  .subst ek;simp only [Jcy];rw [Zar (g:=λt=>(0 - sm k (λs=>U i t * Q t s * U s k)) * (U k k)⁻¹) λt ht=>by
    rw [if_neg (by omega),show (λs=>U i t * Q t s * U s k) = λs=>U i t * (Q t s * U s k) from funext λs=>by grind,Zdh]
    grind]
   rw [Zfz,show (λt=>(0:F) - sm k (λs=>U i t * Q t s * U s k)) = λt=>(0 - 1) * sm k (λs=>U i t * Q t s * U s k) from funext λt=>by grind,Zdh,Zfy];by_cases ei:i = k
   .subst ei;rw [Zar (g:=λ_=>0) λs hs=>?_,Zc4]
    .show _ = if i = i then (1:F) else 0
     rw [if_pos rfl]
     grind
    .rw [Zar (g:=λ_=>0) λt ht=>by rw [hz i t (by omega) (by omega)]; grind,Zc4]
   .rw [Zar (g:=λs=>del i s * U s k) λs hs=>?_]
    .rw [show (λs=>del i s * U s k) = λs=>(if s = i then 1 else 0) * U s k from funext λs=>by
      show (if i = s then (1:F) else 0) * _ = _;by_cases e:i = s
      .rw [if_pos e,if_pos e.symm]
      .rw [if_neg e,if_neg (λz=>e z.symm)],Zv4 (λs=>U s k) (by omega)]
     show _ = if i = k then (1:F) else 0
     rw [if_neg ei]
     grind
    .rw [Zfz,hQ i s (by omega) hs]
  .simp only [if_neg ek,Jcy];rw [Zar (g:=λt=>U i t * Q t k) λt ht=>by rw [if_neg (by omega)]];by_cases ei:i = r
   .subst ei;rw [Zar (g:=λ_=>0) λt ht=>by rw [hz i t ht (by omega)]; grind,Zc4];show _ = if i = k then (1:F) else 0
    rw [if_neg (λz=>ek z.symm)]
    grind
   .rw [hQ i k (by omega) (by omega)]
    grind
structure Ec (L:List (Nat->F)) (n r:Nat) (c:Nat->Nat):Prop where
 rl:r<=L.length
 cn:∀ i,i < r->c i < n
 mono:∀ i k,i < k->k < r->c i < c k
 piv:∀ i,i < r->at' L i (c i) ≠ 0
 low:∀ i j,i < r->j < c i->at' L i j = 0
 zer:∀ i j,r<=i->i < L.length->j < n->at' L i j = 0
theorem Ec.rk {L L':List (Nat->F)} {n r:Nat} {c:Nat->Nat} (R:Ec L n r c) (h:SpEq L' L):Rk (λi j=>at' L' i j) L'.length n r:=by
 have hb:∀ i,i < L'.length->∃ d:Nat->F,∀ j,at' L' i j = sm L.length λk=>d k * at' L k j:=λi hi=>(h.le _ (Zd3 hi)).coef;refine ⟨⟨λi k=>if hi:i < L'.length then Classical.choose (hb i hi) k else 0,λk j=>at' L k j,λi j hi hj=>?_⟩,?_⟩
 .show _ = sm r λk=>(if hi:i < L'.length then Classical.choose (hb i hi) k else 0) * at' L k j;rw [Zar (n:=r) (g:=λk=>Classical.choose (hb i hi) k * at' L k j) λk _=>by rw [dif_pos hi],Jdh (hb i hi) j];exact Zqt R.rl λk a b=>by rw [R.zer k j a b hj]; grind
 have hc:∀ k,k < r->∃ d:Nat->F,∀ j,at' L k j = sm L'.length λi=>d i * at' L' i j:=λk hk=>(h.ge _ (Zd3 (Jaw hk R.rl))).coef;obtain ⟨Q,hQ⟩:=Zp5 r (λi t=>at' L i (c t)) R.piv λi k a b=>R.low i (c k) b (R.mono k i a b);refine ⟨λk=>if hk:k < r then Classical.choose (hc k hk) else zv,λb k=>sm r λt=>del b (c t) * Q t k,λi k hi hk=>?_⟩;rw [<- hQ i k hi hk];have e1:∀ a,(sm n λb=>at' L' a b * sm r λt=>del b (c t) * Q t k) = sm r λt=>at' L' a (c t) * Q t k:=λa=>by
  rw [Zar (g:=λb=>sm r λt=>at' L' a b * (del b (c t) * Q t k)) λb _=>by rw [Zdh],Zfy];refine Zar λt ht=>?_;rw [show (λb=>at' L' a b * (del b (c t) * Q t k)) = λb=>at' L' a b * (if b = c t then 1 else 0) * Q t k from funext λb=>by show at' L' a b * ((if b = c t then (1:F) else 0) * Q t k) = _; grind,Zfz,Zqu _ (R.cn t ht)]
 rw [Zar (g:=λa=>sm r λt=>Classical.choose (hc i hi) a * at' L' a (c t) * Q t k) λa _=>by
  show (if hk:i < r then Classical.choose (hc i hk) else zv) a * _ = _;rw [dif_pos hi,e1 a,<- Zdh];exact Zar λt _=>by grind,Zfy]
 exact Zar λt ht=>by rw [Zfz,<- Jdh (hc i hi) (c t)]
end
end L3
namespace L3
open L2 Lean.Grind
def gcdL (zs:List Int):Nat:=zs.foldl (λd z=>Int.gcd z d) 0
theorem Zkz:∀ (zs:List Int) (d:Nat),(zs.foldl (λd z=>Int.gcd z d) d) ∣ d/\∀ z ∈ zs,((zs.foldl (λd z=>Int.gcd z d) d:Nat):Int) ∣ z
 | [],d=>⟨Nat.dvd_refl _,λz h=>by simp at h⟩
 | y :: zs,d=>by
  obtain ⟨h1,h2⟩:=Zkz zs (Int.gcd y d);have h3:Int.gcd y d ∣ d:=by have:=Int.gcd_dvd_natAbs_right y d; simpa using this
  refine ⟨Nat.dvd_trans h1 h3,λz hz=>?_⟩;rcases Jbp.mp hz with rfl | hz
  .exact Int.dvd_trans (Int.ofNat_dvd.mpr h1) (Jbn z d)
  .exact h2 z hz
theorem Zky {zs:List Int} {z:Int} (h:z ∈ zs):(gcdL zs:Int) ∣ z:=(Zkz zs 0).2 z h
theorem Zsj (zs:List Int) (i:Nat):gcdL zs ∣ gcdL (zs.take i):=by
 have e:gcdL zs = (zs.drop i).foldl (λd z=>Int.gcd z d) (gcdL (zs.take i)):=by
  unfold gcdL;rw [<- List.foldl_append,Jdi]
 rw [e];exact (Zkz _ _).1
theorem Zsk {zs:List Int} {i:Nat} {z:Int} (h:zs[i]? = some z):gcdL (zs.take (i + 1)) = Int.gcd z (gcdL (zs.take i)):=by
 rw [Jdl,h];unfold gcdL;rw [List.foldl_append];rfl
theorem Zsi {zs:List Int} (h:gcdL zs = 0) {z:Int} (hz:z ∈ zs):z = 0:=by
 have:=Zky hz;rw [h] at this;exact Int.zero_dvd.mp this
def Zde (p:Int) (zs:List Int):List Int:=if p = 0 then zs.map (· / (gcdL zs:Int)) else zs.map (· % p)
theorem Ztv {zs:List Int} (h:gcdL zs = 1):Zde 0 zs = zs:=by
 unfold Zde;rw [if_pos rfl,h];have:(λz:Int=>z / ((1:Nat):Int)) = id:=by funext z; simp
 rw [this,List.map_id]
theorem Zio {zs:List Int} (h:gcdL zs = 0):Zde 0 zs = zs:=by
 unfold Zde;rw [if_pos rfl];have:∀ z ∈ zs,z / (gcdL zs:Int) = id z:=λz hz=>by rw [Zsi h hz]; simp
 rw [List.map_congr_left this,List.map_id]
theorem Ztw {p:Int} {zs:List Int}:(Zde p zs).length = zs.length:=by unfold Zde; split <;> simp
theorem Zoq {f:Int->Int} (h:f 0 = 0) (zs:List Int) (j:Nat):(zs.map f).getD j 0 = f (zs.getD j 0):=by
 rw [Jac,Jac,Jah];cases zs[j]? with
 | none=>exact h.symm
 | some z=>rfl
theorem Zvi {f:Int->Int->Int} (h:f 0 0 = 0) {xs ys:List Int} (hl:xs.length = ys.length) (j:Nat):(List.zipWith f xs ys).getD j 0 = f (xs.getD j 0) (ys.getD j 0):=by
 rw [Jac,Jac,Jac,List.getElem?_zipWith];by_cases hj:j < xs.length
 .rw [Jaa hj,Jaa (show j < ys.length by omega)];rfl
 .rw [Jal (by omega),Jal (by omega)];exact h.symm
theorem Zjd {zs:List Int} (j:Nat):zs.getD j 0 ∈ zs\/zs.getD j 0 = 0:=by
 rw [Jac];cases e:zs[j]? with
 | none=>exact .inr rfl
 | some z=>exact .inl (Jad e)
theorem Zmm {p:Int} (zs:List Int) (j:Nat):(Zde p zs).getD j 0 = if p = 0 then zs.getD j 0 / (gcdL zs:Int) else zs.getD j 0 % p:=by
 unfold Zde;split
 .exact Zoq (f:=(· / (gcdL zs:Int))) (by simp) zs j
 .exact Zoq (f:=(· % p)) (by simp) zs j
theorem Zld {p:Int} {zs:List Int} {j:Nat} (h:zs.getD j 0 = 0):(Zde p zs).getD j 0 = 0:=by
 rw [Zmm,h];split <;> simp
def Rw (p:Int) (W:Nat) (zs:List Int):Prop:=zs.length = W/\∀ z ∈ zs,Rz p z
theorem Rw.at {p:Int} {W:Nat} {zs:List Int} (h:Rw p W zs) (h0:0<=p) (j:Nat):Rz p (zs.getD j 0):=by
 rcases Zjd (zs:=zs) j with m | e
 .exact h.2 _ m
 .rw [e];rcases Jes p 0 with h | h | h
  .omega
  .exact .inl h
  .exact .inr ⟨by omega,h⟩
theorem Zq2 {p:Int} {W:Nat} {zs:List Int} (h0:0<=p) (h:zs.length = W):Rw p W (Zde p zs):=by
 refine ⟨by rw [Ztw]; exact h,λz hz=>?_⟩;unfold Zde at hz;split at hz
 .exact .inl (by assumption)
 .refine Zad (Ja3.mp hz) λy _ e93=>?_;obtain rfl:=e93;exact .inr ⟨Jbi _ (by assumption),Ja7 _ (by omega)⟩
def Zj2 (row lead:List Int) (k:Nat):List Int:=List.zipWith (λx y=>lead.getD k 0 / (Int.gcd (row.getD k 0) (lead.getD k 0):Int) * x - row.getD k 0 / (Int.gcd (row.getD k 0) (lead.getD k 0):Int) * y) row lead
def Zbr (p:Int) (row lead:List Int) (k:Nat):List Int:=if row.getD k 0 = 0 then row else Zde p (Zj2 row lead k)
theorem Zn2 {p:Int} {W:Nat} {row lead:List Int} {k:Nat} (h0:0<=p) (h:Rw p W row) (h':Rw p W lead):Rw p W (Zbr p row lead k):=by
 unfold Zbr;split
 .exact h
 .exact Zq2 h0 (by unfold Zj2; rw [Jc6,h.1,h'.1]; omega)
theorem Zn3 {row lead:List Int} (hl:row.length = lead.length) (k j:Nat):(Zj2 row lead k).getD j 0 = lead.getD k 0 / (Int.gcd (row.getD k 0) (lead.getD k 0):Int) * row.getD j 0 - row.getD k 0 / (Int.gcd (row.getD k 0) (lead.getD k 0):Int) * lead.getD j 0:=by
 unfold Zj2;exact Zvi (by simp) hl j
theorem Zpp {p:Int} {row lead:List Int} {k j:Nat} (hl:row.length = lead.length) (h:row.getD j 0 = 0) (h':lead.getD j 0 = 0):(Zbr p row lead k).getD j 0 = 0:=by
 unfold Zbr;split
 .exact h
 .exact Zld (by rw [Zn3 hl,h,h']; simp)
theorem Zov {p:Int} {row lead:List Int} {k:Nat} (hl:row.length = lead.length):(Zbr p row lead k).getD k 0 = 0:=by
 unfold Zbr;split
 .assumption
 .refine Zld ?_;rw [Zn3 hl];have d1:(Int.gcd (row.getD k 0) (lead.getD k 0):Int) ∣ row.getD k 0:=Jbn ..;have d2:(Int.gcd (row.getD k 0) (lead.getD k 0):Int) ∣ lead.getD k 0:=Jbs ..;generalize (Int.gcd (row.getD k 0) (lead.getD k 0):Int) = g at *;have e1:=Jb9 d1;have e2:=Jb9 d2;generalize row.getD k 0 / g = u at *;generalize lead.getD k 0 / g = v at *;rw [<- e1,<- e2]
  grind
section
variable {p:Int} {F:Type} [Field F]
def vz (zs:List Int):Nat->F:=λj=>ic (zs.getD j 0)
theorem Zwj:(1:F) ≠ 0:=λz=>Field.zero_ne_one (α:=F) z.symm
theorem Zp7 (hF:FdOk p F) (zs:List Int):∃ c:F,c ≠ 0/\∀ j,c * vz (Zde p zs) j = vz zs j:=by
 by_cases hp:p = 0
 .by_cases hg:gcdL zs = 0
  .subst hp;rw [Zio hg];exact ⟨1,Zwj,λj=>by grind⟩
  .refine ⟨ic (gcdL zs:Int),hF.ne0 (.inl hp) (by omega),λj=>?_⟩;unfold vz;rw [Zmm,if_pos hp,<- Zb6,Jdg,Jb9];rcases Zjd (zs:=zs) j with m | e
   .exact Zky m
   .rw [e]; exact Int.dvd_zero _
 .refine ⟨1,Zwj,λj=>?_⟩;unfold vz;rw [Zmm,if_neg hp,hF.modF hp]
  grind
theorem Zgx {W:Nat} {row lead:List Int} {k:Nat} (h0:0<=p) (hF:FdOk p F) (h:Rw p W row) (h':Rw p W lead) (hk:lead.getD k 0 ≠ 0):∃ a b:F,a ≠ 0/\∀ j,vz (Zbr p row lead k) j = a * vz row j + b * vz lead j:=by
 unfold Zbr;split
 .exact Zau 1 0 ⟨Zwj,λj=>by grind⟩
 .have hl:row.length = lead.length:=h.1.trans h'.1.symm;refine Zad (Zp7 hF (Zj2 row lead k)) λc hc e=>?_;have d2:(Int.gcd (row.getD k 0) (lead.getD k 0):Int) ∣ lead.getD k 0:=Jbs ..;have e2:=Jb9 d2;have l0:(ic (lead.getD k 0):F) ≠ 0:=hF.ne0 (h'.at h0 k) hk;have ek:∀ j,(vz (Zj2 row lead k) j:F) = ic (lead.getD k 0 / (Int.gcd (row.getD k 0) (lead.getD k 0):Int)) * vz row j - ic (row.getD k 0 / (Int.gcd (row.getD k 0) (lead.getD k 0):Int)) * vz lead j:=λj=>by
   unfold vz;rw [Zn3 hl,Zl0,Zb6,Zb6]
  generalize (Int.gcd (row.getD k 0) (lead.getD k 0):Int) = g at *;have k0:(ic (lead.getD k 0 / g):F) ≠ 0:=λz=>l0 (by rw [<- e2,Zb6,z]; grind);generalize (ic (lead.getD k 0 / g):F) = u at *;generalize (ic (row.getD k 0 / g):F) = v at *;refine Zau (u / c) (-(v / c)) ⟨by grind,λj=>?_⟩;have e3:=e j;rw [ek j] at e3;generalize (vz (Zde p (Zj2 row lead k)) j:F) = y at *
  grind
theorem Znb {Z:List (List Int)} {v:Nat->F} (h:v ∈ Z.map vz):∃ row ∈ Z,v = vz row:=by
 refine Zad (Ja3.mp h) λrow h1 h2=>?_;exact ⟨row,h1,h2.symm⟩
theorem Zju {W k:Nat} {A B:List (List Int)} {lead:List Int} (h0:0<=p) (hF:FdOk p F) (hA:∀ row ∈ A,Rw p W row) (hB:lead ∈ B) (hL:Rw p W lead) (hk:lead.getD k 0 ≠ 0):
  SpEq (F:=F) ((A.map (λrow=>Zbr p row lead k) ++ B).map vz) ((A ++ B).map vz):=by
 refine ⟨λv hv=>?_,λv hv=>?_⟩
 .refine Zad (Znb hv) λrow hr e94=>?_;obtain rfl:=e94;rcases Jai.mp hr with hr | hr
  .refine Zad (Ja3.mp hr) λrow' hr' e95=>?_;obtain rfl:=e95;refine Zbo (Zgx (k:=k) h0 hF (hA _ hr') hL hk) λa b _ e=>?_;rw [show vz (Zbr p row' lead k) = λj=>a * vz row' j + b * vz lead j from funext e];exact .comb a b (.mem (Ja3.mpr ⟨row',Jai.mpr (.inl hr'),rfl⟩)) (.mem (Ja3.mpr ⟨lead,Jai.mpr (.inr hB),rfl⟩))
  .exact .mem (Ja3.mpr ⟨row,Jai.mpr (.inr hr),rfl⟩)
 .refine Zad (Znb hv) λrow hr e96=>?_;obtain rfl:=e96;rcases Jai.mp hr with hr | hr
  .refine Zbo (Zgx (k:=k) h0 hF (hA _ hr) hL hk) λa b ha e=>?_;rw [show (vz row:Nat->F) = λj=>(1 / a) * vz (Zbr p row lead k) j + (-(b / a)) * vz lead j from funext λj=>by rw [e j]; grind];exact .comb _ _ (.mem (Ja3.mpr ⟨_,Jai.mpr (.inl (Ja3.mpr ⟨row,hr,rfl⟩)),rfl⟩)) (.mem (Ja3.mpr ⟨lead,Jai.mpr (.inr hB),rfl⟩))
  .exact .mem (Ja3.mpr ⟨row,Jai.mpr (.inr hr),rfl⟩)
end
inductive Sw (p:Int) (Z:List (List Int)):Nat->List (List Int)->List (List Int)->List Nat->Prop
 | start:Sw p Z 0 [] Z []
 | skip {k:Nat} {done left:List (List Int)} {pl:List Nat}:Sw p Z k done left pl->(∀ row ∈ left,row.getD k 0 = 0)->Sw p Z (k + 1) done left pl
 | take {k:Nat} {done left:List (List Int)} {pl:List Nat} (i:Nat) (lead:List Int):Sw p Z k done left pl->left[i]? = some lead->lead.getD k 0 ≠ 0->Sw p Z (k + 1) (done ++ [lead]) ((left.eraseIdx i).map λrow=>Zbr p row lead k) (pl ++ [k])
structure SwI (p:Int) (W:Nat) (Z:List (List Int)) (k:Nat) (done left:List (List Int)) (pl:List Nat):Prop where
 len:done.length = pl.length
 all:done.length + left.length = Z.length
 rw:∀ row ∈ done ++ left,Rw p W row
 asc:∀ i j,i < j->j < pl.length->pl.getD i 0 < pl.getD j 0
 lt:∀ i,i < pl.length->pl.getD i 0 < k
 piv:∀ i,i < pl.length->(done.getD i []).getD (pl.getD i 0) 0 ≠ 0
 low:∀ i j,i < pl.length->j < pl.getD i 0->(done.getD i []).getD j 0 = 0
 zer:∀ row ∈ left,∀ j,j < k->row.getD j 0 = 0
 sp:∀ (F:Type) [Field F],FdOk p F->SpEq (F:=F) ((done ++ left).map vz) (Z.map vz)
theorem Zrt {α:Type} {xs:List α} {i:Nat} {x y:α} (h:xs[i]? = some x) (hy:y ∈ xs):y = x\/y ∈ xs.eraseIdx i:=by
 obtain ⟨j,hj,rfl⟩:=Jap.mp hy;by_cases e:j = i
 .subst e;rw [Jaa hj] at h;cases h;exact .inl rfl
 .refine .inr ?_;rw [List.mem_eraseIdx_iff_getElem?];exact ⟨j,e,Jaa hj⟩
theorem Zd1 {α:Type} {xs:List α} {x d:α} {i:Nat}:(xs ++ [x]).getD i d = if i < xs.length then xs.getD i d else if i = xs.length then x else d:=by
 rw [Jac,Jac];by_cases h:i < xs.length
 .rw [if_pos h,Jar h]
 .rw [if_neg h,Jao (by omega)];by_cases e:i = xs.length
  .rw [if_pos e,e,Nat.sub_self];rfl
  .rw [if_neg e,Jal (by simp; omega)];rfl
theorem Sw.inv {p:Int} {W:Nat} {Z:List (List Int)} {k:Nat} {done left:List (List Int)} {pl:List Nat} (h0:0<=p) (hZ:∀ row ∈ Z,Rw p W row) (h:Sw p Z k done left pl):SwI p W Z k done left pl:=by
 induction h with
 | start=>exact ⟨rfl,by simp,by simpa using hZ,λi j _ h=>by simp at h,λi h=>by simp at h,λi h=>by simp at h,λi j h=>by simp at h,λ_ _ j h=>by omega,λF _ _=>SpEq.refl _⟩
 | @skip k done left pl h hz ih=>
  refine ⟨ih.len,ih.all,ih.rw,ih.asc,λi hi=>Jcg (ih.lt i hi),ih.piv,ih.low,λrow hr j hj=>?_,ih.sp⟩;by_cases e:j = k
  .subst e; exact hz row hr
  .exact ih.zer row hr j (by omega)
 | @take k done left pl i lead h hi hk ih=>
  have hlm:lead ∈ left:=Jad hi;have hil:i < left.length:=(Jag.mp hi).1;have rl:Rw p W lead:=ih.rw _ (Jai.mpr (.inr hlm));have re:∀ row ∈ left.eraseIdx i,Rw p W row:=λrow hr=>ih.rw _ (Jai.mpr (.inr (Jby hr)));have hlen:=ih.len;refine ⟨by rw [Jae,Jae,hlen]; rfl,?_,λrow hr=>?_,λa b hab hb=>?_,λa ha=>?_,λa ha=>?_,λa b ha hb=>?_,λrow hr j hj=>?_,λF _ hF=>?_⟩
  .rw [Jae,Jab,List.length_eraseIdx_of_lt hil];have:=ih.all;simp only [Jbq,Jcj];omega
  .rcases Jai.mp hr with hr | hr
   .rcases Jai.mp hr with hr | hr
    .exact ih.rw _ (Jai.mpr (.inl hr))
    .rw [Jaq.mp hr]; exact rl
   .refine Zad (Ja3.mp hr) λrow' hr' e97=>?_;obtain rfl:=e97;exact Zn2 h0 (re _ hr') rl
  .rw [Jae] at hb;simp only [Jbq,Jcj] at hb;rw [Zd1,Zd1,if_pos (by omega)];by_cases e:b < pl.length
   .rw [if_pos e]; exact ih.asc a b hab e
   .rw [if_neg e,if_pos (by omega)]; exact ih.lt a (by omega)
  .rw [Jae] at ha;simp only [Jbq,Jcj] at ha;rw [Zd1];by_cases e:a < pl.length
   .rw [if_pos e]; exact Jcg (ih.lt a e)
   .rw [if_neg e,if_pos (by omega)]; omega
  .rw [Jae] at ha;simp only [Jbq,Jcj] at ha;rw [Zd1,Zd1];by_cases e:a < pl.length
   .rw [if_pos e,if_pos (by omega)]; exact ih.piv a e
   .rw [if_neg e,if_neg (by omega),if_pos (by omega),if_pos (by omega)]; exact hk
  .rw [Jae] at ha;simp only [Jbq,Jcj] at ha;rw [Zd1] at hb ⊢;by_cases e:a < pl.length
   .rw [if_pos e] at hb;rw [if_pos (by omega)];exact ih.low a b e hb
   .rw [if_neg e,if_pos (by omega)] at hb;rw [if_neg (by omega),if_pos (by omega)];exact ih.zer _ hlm b hb
  .refine Zad (Ja3.mp hr) λrow' hr' e98=>?_;obtain rfl:=e98;have hl:row'.length = lead.length:=(re _ hr').1.trans rl.1.symm;by_cases e:j = k
   .subst e; exact Zov hl
   .exact Zpp hl (ih.zer _ (Jby hr') j (by omega)) (ih.zer _ hlm j (by omega))
  .refine SpEq.trans ?_ (ih.sp F hF);refine SpEq.trans (SpEq.mems (L':=((left.eraseIdx i).map (λrow=>Zbr p row lead k) ++ (done ++ [lead])).map vz) λv=>?_) (SpEq.trans (Zju (k:=k) h0 hF re (by simp) rl hk) (SpEq.mems λv=>?_))
   .simp only [Ja3,Jai];exact ⟨λ⟨a,b,c⟩=>⟨a,b.symm,c⟩,λ⟨a,b,c⟩=>⟨a,b.symm,c⟩⟩
   .simp only [Ja3,Jai,Jaq];constructor
    .intro e91;refine Zad e91 λa b c=>?_;clear e91;refine ⟨a,?_,c⟩;rcases b with b | b | b
     .exact .inr (Jby b)
     .exact .inl b
     .rw [b]; exact .inr hlm
    .intro e92;refine Zad e92 λa b c=>?_;clear e92;refine ⟨a,?_,c⟩;rcases b with b | b
     .exact .inr (.inl b)
     .rcases Zrt hi b with b | b
      .exact .inr (.inr b)
      .exact .inl b
def Zdf (p:Int) (pl:List Nat) (R0:List (List Int)):Nat->List (List Int)
 | 0=>R0
 | t + 1=>((Zdf p pl R0 t).take (pl.length - 1 - t)).map (λrow=>Zbr p row ((Zdf p pl R0 t).getD (pl.length - 1 - t) []) (pl.getD (pl.length - 1 - t) 0)) ++ (Zdf p pl R0 t).drop (pl.length - 1 - t)
theorem Zbe {α:Type} {xs:List α} {i:Nat} {d:α} (h:i < xs.length):xs.getD i d = xs[i]:=by rw [Jac,Jaa h]; rfl
theorem back_at {p:Int} {pl:List Nat} {R0:List (List Int)} {t i:Nat}:(Zdf p pl R0 (t + 1)).getD i [] =
  if i < pl.length - 1 - t/\i < (Zdf p pl R0 t).length then Zbr p ((Zdf p pl R0 t).getD i []) ((Zdf p pl R0 t).getD (pl.length - 1 - t) []) (pl.getD (pl.length - 1 - t) 0) else (Zdf p pl R0 t).getD i []:=by
 show (((Zdf p pl R0 t).take (pl.length - 1 - t)).map (λrow=>Zbr p row ((Zdf p pl R0 t).getD (pl.length - 1 - t) []) (pl.getD (pl.length - 1 - t) 0)) ++ (Zdf p pl R0 t).drop (pl.length - 1 - t)).getD i [] = _;generalize Zdf p pl R0 t = R;generalize pl.length - 1 - t = a;rw [Jac];by_cases h:i < a/\i < R.length
 .rw [if_pos h,Jar (by rw [Jab,Jbb]; omega),Jah,Jck h.1,Jaa h.2,Zbe h.2];rfl
 .rw [if_neg h,Jao (by rw [Jab,Jbb]; omega),Jab,Jbb,Jdv,Jac];by_cases h2:i < R.length
  .congr 2;omega
  .rw [Jal (by omega),Jal (by omega)]
structure BkI (p:Int) (W wide:Nat) (Z:List (List Int)) (pl:List Nat) (F:Type) [Field F] (t:Nat) (R:List (List Int)):Prop where
 len:R.length = Z.length
 rw:∀ row ∈ R,Rw p W row
 piv:∀ i,i < pl.length->(vz (R.getD i []) (pl.getD i 0):F) ≠ 0
 low:∀ i j,i < pl.length->j < pl.getD i 0->(vz (R.getD i []) j:F) = 0
 zer:∀ i j,pl.length<=i->i < R.length->j < wide->(vz (R.getD i []) j:F) = 0
 up:∀ i l,i < pl.length->l < pl.length->pl.length - t<=l->l ≠ i->(vz (R.getD i []) (pl.getD l 0):F) = 0
 sp:SpEq (F:=F) (R.map vz) (Z.map vz)
theorem Zkf {F:Type} [Field F] {zs:List Int} {j:Nat} (h:zs.getD j 0 = 0):(vz zs j:F) = 0:=by unfold vz; rw [h,Zkv]
theorem Zei {α:Type} {xs:List α} {x:α} (h:x ∈ xs) (d:α):∃ i,i < xs.length/\xs.getD i d = x:=by
 obtain ⟨i,hi,rfl⟩:=Jap.mp h;exact ⟨i,hi,Zbe hi⟩
theorem Za7 {α:Type} {xs:List α} {i:Nat} {d:α} (h:i < xs.length):xs.getD i d ∈ xs:=by rw [Zbe h]; exact Ja2 h
theorem Sw.back {p:Int} {W wide:Nat} {Z:List (List Int)} {done left:List (List Int)} {pl:List Nat} (h0:0<=p) (I:SwI p W Z wide done left pl) {F:Type} [Field F] (hF:FdOk p F):
  ∀ t,t<=pl.length->BkI p W wide Z pl F t (Zdf p pl (done ++ left) t)
 | 0,_=>by
  have hlen:=I.len;have e:∀ i,i < pl.length->(done ++ left).getD i [] = done.getD i []:=λi hi=>by
   rw [Jac,Jar (by omega),Jac]
  refine ⟨by show (done ++ left).length = _; rw [Jae]; exact I.all,I.rw,λi hi=>?_,λi j hi hj=>?_,λi j hi hi2 hj=>?_,λi l hi hl h=>by omega,I.sp F hF⟩
  .show (ic (((done ++ left).getD i []).getD (pl.getD i 0) 0):F) ≠ 0;have hr:(done ++ left).getD i [] ∈ done ++ left:=Za7 (by rw [Jae]; omega);exact hF.ne0 ((I.rw _ hr).at h0 _) (by rw [e i hi]; exact I.piv i hi)
  .exact Zkf (by show ((done ++ left).getD i []).getD j 0 = 0; rw [e i hi]; exact I.low i j hi hj)
  .have hi2':i < done.length + left.length:=by rw [<- Jae]; exact hi2
   refine Zkf (I.zer _ ?_ j hj);show (done ++ left).getD i [] ∈ left;rw [Jac,Jao (by omega),<- Jac];exact Za7 (by omega)
 | t + 1,ht=>by
  have B:=Sw.back h0 I hF t (by omega);have hlen:=I.len;have hall:=I.all;have bat:∀ i,(Zdf p pl (done ++ left) (t + 1)).getD i [] = _:=λi=>back_at (p:=p) (pl:=pl) (R0:=done ++ left) (t:=t) (i:=i);have bdef:Zdf p pl (done ++ left) (t + 1) = ((Zdf p pl (done ++ left) t).take (pl.length - 1 - t)).map (λrow=>Zbr p row ((Zdf p pl (done ++ left) t).getD (pl.length - 1 - t) []) (pl.getD (pl.length - 1 - t) 0)) ++ (Zdf p pl (done ++ left) t).drop (pl.length - 1 - t):=rfl;generalize Zdf p pl (done ++ left) (t + 1) = R' at *;generalize Zdf p pl (done ++ left) t = R at *;have bl:=B.len;have ha:pl.length - 1 - t < R.length:=by omega
  have hap:pl.length - 1 - t < pl.length:=by omega
  have hla:R.getD (pl.length - 1 - t) [] ∈ R:=Za7 ha;have rl:=B.rw _ hla;have pa:=B.piv _ hap;have ka:(R.getD (pl.length - 1 - t) []).getD (pl.getD (pl.length - 1 - t) 0) 0 ≠ 0:=λz=>pa (Zkf z)
  -- the place of each
  have lowA:=B.low (pl.length - 1 - t);have upA:=B.up (pl.length - 1 - t);generalize hla':R.getD (pl.length - 1 - t) [] = lead at *;have ascA:∀ i,i < pl.length - 1 - t->pl.getD i 0 < pl.getD (pl.length - 1 - t) 0:=λi hi=>I.asc i _ hi hap;have ri:∀ i,i < R.length->Rw p W (R.getD i []):=λi hi=>B.rw _ (Za7 hi);refine ⟨?_,λrow hr=>?_,λi hi=>?_,λi j hi hj=>?_,λi j hi hi2 hj=>?_,λi l hi hl h hne=>?_,?_⟩
  .rw [bdef,Jae,Jab,Jbb,Jb0];omega
  .rw [bdef] at hr;rcases Jai.mp hr with hr | hr
   .refine Zad (Ja3.mp hr) λrow' hr' e99=>?_;obtain rfl:=e99;exact Zn2 h0 (B.rw _ (Jcv hr')) rl
   .exact B.rw _ (Jd6 hr)
  .rw [bat];split
   .rename_i hc
    refine Zbo (Zgx (k:=pl.getD (pl.length - 1 - t) 0) h0 hF (ri i hc.2) rl ka) λa b ha0 e=>?_;rw [e,lowA _ hap (ascA i hc.1)];have:=B.piv i hi
    grind
   .exact B.piv i hi
  .rw [bat];split
   .rename_i hc
    refine Zbo (Zgx (k:=pl.getD (pl.length - 1 - t) 0) h0 hF (ri i hc.2) rl ka) λa b ha0 e=>?_;have:=ascA i hc.1;rw [e,lowA j hap (by omega),B.low i j hi hj]
    grind
   .exact B.low i j hi hj
  .rw [bat,if_neg (by omega)];refine B.zer i j hi ?_ hj;have:R'.length = R.length:=by
    rw [bdef,Jae,Jab,Jbb,Jb0];omega
   omega
  .rw [bat];by_cases hla2:l = pl.length - 1 - t
   .subst hla2;by_cases hc:i < pl.length - 1 - t
    .rw [if_pos ⟨hc,by omega⟩];exact Zkf (Zov ((ri i (by omega)).1.trans rl.1.symm))
    .rw [if_neg (by omega)];exact B.low i _ hi (I.asc _ _ (by omega) hi)
   .have hu:=B.up i l hi hl (by omega) hne;split
    .rename_i hc
     refine Zbo (Zgx (k:=pl.getD (pl.length - 1 - t) 0) h0 hF (ri i hc.2) rl ka) λa b ha0 e=>?_;rw [e,hu,upA l hap hl (by omega) (by omega)]
     grind
    .exact hu
  .refine SpEq.trans ?_ B.sp;rw [bdef];have hm:lead ∈ R.drop (pl.length - 1 - t):=by
    rw [<- hla',Zbe ha,List.drop_eq_getElem_cons ha];exact Jcb
   have:=Zju (A:=R.take (pl.length - 1 - t)) (B:=R.drop (pl.length - 1 - t)) (k:=pl.getD (pl.length - 1 - t) 0) h0 hF (λrow hr=>B.rw _ (Jcv hr)) hm rl ka;rwa [Jdi] at this
def Zdm (pl:List Nat) (R:List (List Int)) (i:Nat):Int:=if i < pl.length then (R.getD i []).getD (pl.getD i 0) 0 else 1
theorem BkI.lead {p:Int} {W wide:Nat} {Z:List (List Int)} {pl:List Nat} {F:Type} [Field F] {R:List (List Int)} (B:BkI p W wide Z pl F pl.length R) (i:Nat):(ic (Zdm pl R i):F) ≠ 0:=by
 unfold Zdm;split
 .exact B.piv i (by assumption)
 .rw [Zdn]; exact Zwj
theorem BkI.rr {p:Int} {W wide:Nat} {Z:List (List Int)} {pl:List Nat} {F:Type} [Field F] {R:List (List Int)} (B:BkI p W wide Z pl F pl.length R) (asc:∀ i j,i < j->j < pl.length->pl.getD i 0 < pl.getD j 0) (lt:∀ i,i < pl.length->pl.getD i 0 < wide) (hr:pl.length<=Z.length)
  {L:List (Nat->F)} (hl:L.length = Z.length) (he:∀ i,i < Z.length->at' L i = λj=>vz (R.getD i []) j / ic (Zdm pl R i)):RR L wide pl.length (λi=>pl.getD i 0)/\SpEq L (Z.map vz):=by
 have bl:=B.len;refine ⟨⟨by omega,lt,λi k h1 h2=>asc i k h1 h2,λi k hi hk=>?_,λi j hi hj=>?_,λi j hi hi2 hj=>?_⟩,?_⟩
 .rw [he i (by omega)];show (vz (R.getD i []) (pl.getD k 0):F) / ic (Zdm pl R i) = if i = k then 1 else 0
  by_cases e:i = k
  .subst e;rw [if_pos rfl];have:=B.piv i hi;have e2:(ic (Zdm pl R i):F) = vz (R.getD i []) (pl.getD i 0):=by unfold Zdm vz; rw [if_pos hi]
   rw [e2]
   grind
  .rw [if_neg e,B.up i k hi hk (by omega) (λz=>e z.symm)];have:=B.lead i
   grind
 .rw [he i (by omega)];show (vz (R.getD i []) j:F) / ic (Zdm pl R i) = 0;rw [B.low i j hi hj];have:=B.lead i
  grind
 .rw [he i (by omega)];show (vz (R.getD i []) j:F) / ic (Zdm pl R i) = 0;rw [B.zer i j hi (by omega) hj];have:=B.lead i
  grind
 .refine SpEq.trans ⟨λv hv=>?_,λv hv=>?_⟩ B.sp
  .refine Zad (Zei hv zv) λi hi e=>?_;have e':v = at' L i:=e.symm;rw [e',he i (by omega)];have hm:SpL (R.map vz) (vz (R.getD i []):Nat->F):=.mem (Ja3.mpr ⟨_,Za7 (by omega),rfl⟩);have:=hm.smul (1 / ic (Zdm pl R i));rwa [show (λj=>1 / ic (Zdm pl R i) * vz (R.getD i []) j:Nat->F) = λj=>vz (R.getD i []) j / ic (Zdm pl R i) from funext λj=>by have:=B.lead i; grind] at this
  .refine Zad (Znb hv) λrow hr e910=>?_;obtain rfl:=e910;refine Zad (Zei hr []) λi hi e911=>?_;obtain rfl:=e911;have hm:SpL L (at' L i):=.mem (Zd3 (by omega));have:=hm.smul (ic (Zdm pl R i));rwa [show (λj=>ic (Zdm pl R i) * at' L i j:Nat->F) = vz (R.getD i []) from funext λj=>by rw [he i (by omega)]; have:=B.lead i; grind] at this
def SmallR (n:Nat) (row:List Int):Prop:=∀ z ∈ row,Bt n z
theorem SmallR.le {n m:Nat} {row:List Int} (h:SmallR n row) (hm:n<=m):SmallR m row:=λz hz=>(h z hz).le hm
theorem SmallR.at {n:Nat} {row:List Int} (h:SmallR n row) (j:Nat):Bt n (row.getD j 0):=by
 rcases Zjd (zs:=row) j with m | e
 .exact h _ m
 .rw [e]; exact Zs4 n
theorem Zjv {p:Int} {n:Nat} {row:List Int} (hp:0<=p) (p97:p<=97) (h7:7<=n) (h:p = 0->SmallR n row):SmallR n (Zde p row):=λz hz=>by
 unfold Zde at hz;split at hz
 .rename_i h0
  refine Zad (Ja3.mp hz) λy hy e912=>?_;obtain rfl:=e912;exact (h h0 y hy).quo (Zky hy)
 .rename_i h0
  refine Zad (Ja3.mp hz) λy hy e913=>?_;obtain rfl:=e913;have h1:=Jbi y h0;have h2:=Ja7 y (show 0 < p by omega);exact Za8 h7 (by omega)
theorem Zlh {n:Nat} {row lead:List Int} {k:Nat} (h:SmallR n row) (h':SmallR n lead):SmallR (2 * n + 1) (Zj2 row lead k):=λz hz=>by
 obtain ⟨j,hj0,rfl⟩:=Jap.mp hz;have hj:j < min row.length lead.length:=by have:=hj0; unfold Zj2 at this; rwa [Jc6] at this
 have e:(Zj2 row lead k)[j]'(by unfold Zj2; rw [Jc6]; exact hj) = lead.getD k 0 / (Int.gcd (row.getD k 0) (lead.getD k 0):Int) * row[j]'(by omega) - row.getD k 0 / (Int.gcd (row.getD k 0) (lead.getD k 0):Int) * lead[j]'(by omega):=by
  unfold Zj2;rw [List.getElem_zipWith]
 rw [e];have b1:=((h'.at k).quo (Jbs (row.getD k 0) (lead.getD k 0))).mul (h _ (Ja2 (show j < row.length by omega)));have b2:=((h.at k).quo (Jbn (row.getD k 0) (lead.getD k 0))).mul (h' _ (Ja2 (show j < lead.length by omega)));have:=Bt.sub b1 b2;rwa [show n + n + 1 = 2 * n + 1 by omega] at this
theorem Zm2 {p:Int} {n:Nat} {row lead:List Int} {k:Nat} (hp:0<=p) (p97:p<=97) (h7:7<=n) (h:SmallR n row) (h':SmallR n lead):SmallR (2 * n + 1) (Zbr p row lead k):=by
 unfold Zbr;split
 .exact h.le (by omega)
 .exact Zjv hp p97 (by omega) λ_=>Zlh h h'
theorem Sw.dbl {p:Int} {Z:List (List Int)} {k n:Nat} {done left:List (List Int)} {pl:List Nat} (hp:0<=p) (p97:p<=97) (h7:7<=n) (hZ:∀ row ∈ Z,SmallR n row) (h:Sw p Z k done left pl):∀ row ∈ done ++ left,SmallR ((n + 1) * 2 ^ k - 1) row:=by
 induction h with
 | start=>simpa using hZ
 | @skip k done left pl h hz ih=>
  intro row hr;refine (ih row hr).le ?_;rw [Jeo];have:0 < (n + 1) * 2 ^ k:=Nat.mul_pos (by omega) (Jdu k);rw [<- Nat.mul_assoc];omega
 | @take k done left pl i lead h hi hk ih=>
  have e:(n + 1) * 2 ^ (k + 1) - 1 = 2 * ((n + 1) * 2 ^ k - 1) + 1:=by
   rw [Jeo,<- Nat.mul_assoc];have:0 < (n + 1) * 2 ^ k:=Nat.mul_pos (by omega) (Jdu k);omega
  have h7':7<=(n + 1) * 2 ^ k - 1:=by
   have:(n + 1) * 1<=(n + 1) * 2 ^ k:=Jca (Jaf _) (Jdu k);omega
  have sl:=ih lead (Jai.mpr (.inr (Jad hi)));intro row hr;rw [e];rcases Jai.mp hr with hr | hr
  .rcases Jai.mp hr with hr | hr
   .exact (ih row (Jai.mpr (.inl hr))).le (by omega)
   .rw [Jaq.mp hr]; exact sl.le (by omega)
  .refine Zad (Ja3.mp hr) λrow' hr' e914=>?_;obtain rfl:=e914;exact Zm2 hp p97 h7' (ih _ (Jai.mpr (.inr (Jby hr')))) sl
end L3
namespace L2
open PySem PySem.Spec PyProof.Rows
section
variable {H:Hp} {Q:VK} {σ:St} {x:V} {z0 z1 z2 z3 z4 z5 z6 z7 z8 z9 z10 z11 z12:Option V}
theorem Zgi {i:Nat} (h:σ[i]? = some (some x)):Zho i σ H Q = Q x H:=by
 unfold Zho;rw [h];exact propext ⟨λ⟨v,e,q⟩=>by cases e; exact q,λq=>⟨x,rfl,q⟩⟩
theorem tv0:Zho 0 (some x :: σ) H Q = Q x H:=Zgi rfl
theorem tv1:Zho 1 (z0 :: some x :: σ) H Q = Q x H:=Zgi rfl
theorem tv2:Zho 2 (z0 :: z1 :: some x :: σ) H Q = Q x H:=Zgi rfl
theorem tv3:Zho 3 (z0 :: z1 :: z2 :: some x :: σ) H Q = Q x H:=Zgi rfl
theorem tv4:Zho 4 (z0 :: z1 :: z2 :: z3 :: some x :: σ) H Q = Q x H:=Zgi rfl
theorem tv5:Zho 5 (z0 :: z1 :: z2 :: z3 :: z4 :: some x :: σ) H Q = Q x H:=Zgi rfl
theorem tv6:Zho 6 (z0 :: z1 :: z2 :: z3 :: z4 :: z5 :: some x :: σ) H Q = Q x H:=Zgi rfl
theorem tv7:Zho 7 (z0 :: z1 :: z2 :: z3 :: z4 :: z5 :: z6 :: some x :: σ) H Q = Q x H:=Zgi rfl
theorem tv8:Zho 8 (z0 :: z1 :: z2 :: z3 :: z4 :: z5 :: z6 :: z7 :: some x :: σ) H Q = Q x H:=Zgi rfl
theorem tv9:Zho 9 (z0 :: z1 :: z2 :: z3 :: z4 :: z5 :: z6 :: z7 :: z8 :: some x :: σ) H Q = Q x H:=Zgi rfl
theorem tv10:Zho 10 (z0 :: z1 :: z2 :: z3 :: z4 :: z5 :: z6 :: z7 :: z8 :: z9 :: some x :: σ) H Q = Q x H:=Zgi rfl
theorem tv11:Zho 11 (z0 :: z1 :: z2 :: z3 :: z4 :: z5 :: z6 :: z7 :: z8 :: z9 :: z10 :: some x :: σ) H Q = Q x H:=Zgi rfl
theorem tv12:Zho 12 (z0 :: z1 :: z2 :: z3 :: z4 :: z5 :: z6 :: z7 :: z8 :: z9 :: z10 :: z11 :: some x :: σ) H Q = Q x H:=Zgi rfl
theorem tv13:Zho 13 (z0 :: z1 :: z2 :: z3 :: z4 :: z5 :: z6 :: z7 :: z8 :: z9 :: z10 :: z11 :: z12 :: some x :: σ) H Q = Q x H:=Zgi rfl
theorem pI0 {g:Int->Int->V} {i j:Int}:rI0 g (.int i) (.int j) H Q = Q (g i j) H:=propext ⟨λ⟨_,_,e,e',q⟩=>by cases e; cases e'; exact q,λq=>⟨i,j,rfl,rfl,q⟩⟩
theorem pI {D:Int->Int->Prop} {g:Int->Int->V} {i j:Int}:rI D g (.int i) (.int j) H Q = (D i j/\Q (g i j) H):=propext ⟨λ⟨_,_,e,e',q⟩=>by cases e; cases e'; exact q,λq=>⟨i,j,rfl,rfl,q⟩⟩
theorem pU {g:Int->V} {i:Int}:rU g (.int i) H Q = Q (g i) H:=propext ⟨λ⟨_,e,q⟩=>by cases e; exact q,λq=>⟨i,rfl,q⟩⟩
theorem pIxL {K:PySem.W.Frag} {a:Addr} {k:Int}:rIxL K (.ref a) (.int k) H Q = ∃ xs,SqL K H a xs/\∃ v,atI xs k = some v/\Q v H:=propext ⟨λ⟨_,xs,_,v,e,e',h,h',q⟩=>by cases e; cases e'; exact ⟨xs,h,v,h',q⟩,λ⟨xs,h,v,h',q⟩=>⟨a,xs,k,v,rfl,rfl,h,h',q⟩⟩
theorem pIxT {K:PySem.W.Frag} {a:Addr} {k:Int}:rIxT K (.ref a) (.int k) H Q = ∃ xs,SqT K H a xs/\∃ v,atI xs k = some v/\Q v H:=propext ⟨λ⟨_,xs,_,v,e,e',h,h',q⟩=>by cases e; cases e'; exact ⟨xs,h,v,h',q⟩,λ⟨xs,h,v,h',q⟩=>⟨a,xs,k,v,rfl,rfl,h,h',q⟩⟩
theorem pEb {b:Bool} {p:Bool->Prop}:(∃ k,V.bl b = V.bl k/\p k) = p b:=propext ⟨λ⟨_,e,q⟩=>by cases e; exact q,λq=>⟨b,rfl,q⟩⟩
theorem pEi {b:Int} {p:Int->Prop}:(∃ k,V.int b = V.int k/\p k) = p b:=propext ⟨λ⟨_,e,q⟩=>by cases e; exact q,λq=>⟨b,rfl,q⟩⟩
theorem pEr {b:Addr} {p:Addr->Prop}:(∃ k,V.ref b = V.ref k/\p k) = p b:=propext ⟨λ⟨_,e,q⟩=>by cases e; exact q,λq=>⟨b,rfl,q⟩⟩
theorem pEqT {K:PySem.W.Frag} {b:Bool} {a c:Addr}:Zv8 K b (.ref a) (.ref c) H Q = ∃ xs,SqT K H a xs/\∃ ys,SqT K H c ys/\∃ bs,Zjm K H 6 xs ys bs/\Q (V.bl (if b = true then !bs.all id else bs.all id)) H:=propext ⟨λ⟨_,_,xs,ys,bs,e,e',h,h',h'',q⟩=>by cases e; cases e'; exact ⟨xs,h,ys,h',bs,h'',q⟩,λ⟨xs,h,ys,h',bs,h'',q⟩=>⟨a,c,xs,ys,bs,rfl,rfl,h,h',h'',q⟩⟩
theorem pEqL {K:PySem.W.Frag} {b:Bool} {a c:Addr}:rEqL K b (.ref a) (.ref c) H Q = ∃ xs,SqL K H a xs/\∃ ys,SqL K H c ys/\(xs.length ≠ ys.length/\Q (V.bl b) H\/∃ bs,Zjm K H 6 xs ys bs/\Q (V.bl (if b = true then !bs.all id else bs.all id)) H):=propext ⟨λ⟨_,_,xs,ys,e,e',h,h',q⟩=>by cases e; cases e'; exact ⟨xs,h,ys,h',q⟩,λ⟨xs,h,ys,h',q⟩=>⟨a,c,xs,ys,rfl,rfl,h,h',q⟩⟩
theorem pSlL {K:PySem.W.Frag} {a:Addr} {lo hi:Option Int}:rSlL K (.ref a) lo hi H Q = ∃ xs,SqL K H a xs/\∀ p,H p = none->Q (.ref p) (upd H p (.lst (Zew xs lo hi))):=propext ⟨λ⟨_,xs,e,h,q⟩=>by cases e; exact ⟨xs,h,q⟩,λ⟨xs,h,q⟩=>⟨a,xs,rfl,h,q⟩⟩
theorem pCat {a c:Addr}:rCat (.ref a) (.ref c) H Q = ∃ xs,H a = some (.lst xs)/\∃ ys,H c = some (.lst ys)/\xs.length + ys.length<=sizeLine/\∀ p,H p = none->Q (.ref p) (upd H p (.lst (xs ++ ys))):=propext ⟨λ⟨_,_,xs,ys,e,e',h,h',q⟩=>by cases e; cases e'; exact ⟨xs,h,ys,h',q⟩,λ⟨xs,h,ys,h',q⟩=>⟨a,c,xs,ys,rfl,rfl,h,h',q⟩⟩
theorem pApp {a:Addr} {v:V}:Zi8 (.ref a) [v] H Q = ∃ xs,H a = some (.lst xs)/\xs.length < sizeLine/\Q .non (upd H a (.lst (xs ++ [v]))):=propext ⟨λ⟨_,xs,_,e,e',q⟩=>by cases e; cases e'; exact ⟨xs,q⟩,λ⟨xs,q⟩=>⟨a,xs,v,rfl,rfl,q⟩⟩
theorem pTup {K:PySem.W.Frag} {n:Nat} {t:TGs} {a:Addr} {R:St->Hp->Prop}:Zps K n t (.ref a) σ H R = ∃ xs,SqT K H a xs/\xs.length = n/\t xs σ H R:=propext ⟨λ⟨_,xs,e,q⟩=>by cases e; exact ⟨xs,q⟩,λ⟨xs,q⟩=>⟨a,xs,rfl,q⟩⟩
theorem pL1 {α:Type} {a:Addr} {p:Addr->α->Prop}:(∃ b y,[V.ref a] = [V.ref b]/\p b y) = ∃ y,p a y:=propext ⟨λ⟨_,y,e,q⟩=>by cases e; exact ⟨y,q⟩,λ⟨y,q⟩=>⟨a,y,rfl,q⟩⟩
theorem pL0 {a:Addr} {p:Addr->Prop}:(∃ b,[V.ref a] = [V.ref b]/\p b) = p a:=propext ⟨λ⟨_,e,q⟩=>by cases e; exact q,λq=>⟨a,rfl,q⟩⟩
theorem pLi {a:Int} {p:Int->Prop}:(∃ b,[V.int a] = [V.int b]/\p b) = p a:=propext ⟨λ⟨_,e,q⟩=>by cases e; exact q,λq=>⟨a,rfl,q⟩⟩
theorem pE5 {α β γ δ:Type} {a:Addr} {p:Addr->α->β->γ->δ->Prop}:(∃ b x y z u,V.ref a = V.ref b/\p b x y z u) = ∃ x y z u,p a x y z u:=propext ⟨λ⟨_,x,y,z,u,e,q⟩=>by cases e; exact ⟨x,y,z,u,q⟩,λ⟨x,y,z,u,q⟩=>⟨a,x,y,z,u,rfl,q⟩⟩
end
def onV:Option (Option V)->(V->Prop)->Prop
 | some (some v),k=>k v
 | _,_=>False
theorem Zod (v:V) (k:V->Prop):onV (some (some v)) k = k v:=rfl
def tVr (i:Nat):TE:=λσ H Q=>onV σ[i]? λv=>Q v H
theorem tVr_old {i:Nat} {σ:St} {H:Hp} {Q:VK} (h:tVr i σ H Q):Zho i σ H Q:=by
 unfold tVr at h;cases e:σ[i]? with
 | none=>rw [e] at h; exact h.elim
 | some o=>
  rw [e] at h;cases o with
  | none=>exact h.elim
  | some v=>exact ⟨v,e,h⟩
theorem pvr {X:Cx} (i:Nat) {x:Str} {pos:Pos} (hN:X.N[i]? = some x:=by rfl) (hv:Vis X.env.scope x:=by first | exact Or.inl rfl | exact Or.inr (Or.inl rfl) | exact Or.inr (Or.inr rfl)) (hd:(x == ("__debug__" : Str)) = false:=by decide)
  (hcd:(x == ("__classdict__" : Str)) = false:=by decide):PE X (.Name x pos) (tVr i):=λpins s σ H Q I h=>pv i hN hv hd hcd pins s σ H Q I (tVr_old h)
def onI:V->(Int->Prop)->Prop
 | .int i,k=>k i
 | _,_=>False
def onR:V->(Addr->Prop)->Prop
 | .ref a,k=>k a
 | _,_=>False
def onB:V->(Bool->Prop)->Prop
 | .bl b,k=>k b
 | _,_=>False
def on1:List V->(V->Prop)->Prop
 | [y],k=>k y
 | _,_=>False
theorem Zrj (i:Int) (k:Int->Prop):onI (.int i) k = k i:=rfl
theorem Zri (a:Addr) (k:Addr->Prop):onR (.ref a) k = k a:=rfl
theorem Zwc (b:Bool) (k:Bool->Prop):onB (.bl b) k = k b:=rfl
theorem Zrk (y:V) (k:V->Prop):on1 [y] k = k y:=rfl
theorem Zfw {x:V} {k:Int->Prop} (h:onI x k):∃ i,x = .int i/\k i:=by
 cases x <;> first | exact ⟨_,rfl,h⟩ | exact False.elim h
theorem Zoe {x:V} {k:Addr->Prop} (h:onR x k):∃ a,x = .ref a/\k a:=by
 cases x <;> first | exact ⟨_,rfl,h⟩ | exact False.elim h
theorem onB_of {x:V} {k:Bool->Prop} (h:onB x k):∃ b,x = .bl b/\k b:=by
 cases x <;> first | exact ⟨_,rfl,h⟩ | exact False.elim h
theorem on1_of {vs:List V} {k:V->Prop} (h:on1 vs k):∃ y,vs = [y]/\k y:=by
 match vs,h with
 | [y],h=>exact ⟨y,rfl,h⟩
def rJ0 (g:Int->Int->V):R2:=λx y H Q=>onI x λi=>onI y λj=>Q (g i j) H
def rJ (C:Int->Int->Prop) (g:Int->Int->V):R2:=λx y H Q=>onI x λi=>onI y λj=>C i j/\Q (g i j) H
def rEqJ:R2:=λx y H Q=>onI x λi=>onI y λj=>Q (.bl (decide (i = j))) H
def rNeJ:R2:=λx y H Q=>onI x λi=>onI y λj=>Q (.bl (!decide (i = j))) H
section
variable {X:Cx} {f:Value->Value->Sem Value}
theorem Zj3 {g:Int->Int->V} (h:OpR X f (rI0 g)):OpR X f (rJ0 g):=λpins s σ H x y v u Q I rx ry q=>h pins s σ H x y v u Q I rx ry (let ⟨i,ei,q⟩:=Zfw q; let ⟨j,ej,q⟩:=Zfw q; ⟨i,j,ei,ej,q⟩)
theorem opJ {C:Int->Int->Prop} {g:Int->Int->V} (h:OpR X f (rI C g)):OpR X f (rJ C g):=λpins s σ H x y v u Q I rx ry q=>h pins s σ H x y v u Q I rx ry (let ⟨i,ei,q⟩:=Zfw q; let ⟨j,ej,q⟩:=Zfw q; ⟨i,j,ei,ej,q⟩)
theorem Zwk {i j:Int}:decide (V.int i = V.int j) = decide (i = j):=by
 by_cases c:i = j
 .rw [Jaj c,Jaj (by rw [c])]
 .rw [Ja9 c,Ja9 λz=>c (V.int.inj z)]
theorem Zif (h:OpR X f rEq):OpR X f rEqJ:=λpins s σ H x y v u Q I rx ry q=>h pins s σ H x y v u Q I rx ry (by
 refine Zad (Zfw q) λi e91 q1=>?_;obtain rfl:=e91;refine Zad (Zfw q1) λj e92 q2=>?_;obtain rfl:=e92;exact ⟨rfl,by rw [Zwk]; exact q2⟩)
theorem opNeJ (h:OpR X f rNe):OpR X f rNeJ:=λpins s σ H x y v u Q I rx ry q=>h pins s σ H x y v u Q I rx ry (by
 refine Zad (Zfw q) λi e93 q1=>?_;obtain rfl:=e93;refine Zad (Zfw q1) λj e94 q2=>?_;obtain rfl:=e94;exact ⟨rfl,by rw [Zwk]; exact q2⟩)
def tTst (t:TE):TT:=λσ H Q=>t σ H λx H'=>onB x λk=>Q k H'
theorem Zao {op:CmpOp} {r:R2} {a b:Expr} {ta tb:TE} {pos:Pos} (ho:OpR X (compareOp op) r) (ha:PE X a ta) (hb:PE X b tb) (hm:behindInMarks op b = false):PT X (.Compare a [op] [b] pos) (tTst (tOp r ta tb)):=by
 intro pins s σ H Q I h;refine Jd2 (thn (ha pins s σ H _ I h) λv s1 ⟨x,H1,I1,r1,q1⟩=>thn (hb pins s1 σ H1 _ I1 q1) λu s2 ⟨y,H2,I2,r2,q2⟩=>
  thn (ho pins s2 σ H2 x y v u _ I2 r1 r2 q2) λc s3 ⟨z,H3,I3,r3,q3⟩=>?_) hm
 refine Zad (onB_of q3) λk e q3=>?_;subst e;cases r3;exact Jbm ⟨H3,I3,q3⟩
def rIxJ (K:PySem.W.Frag):R2:=λx y H Q=>onR x λp=>onI y λi=>∃ xs,SqL K H p xs/\∃ v,atI xs i = some v/\Q v H
def rIxTJ (K:PySem.W.Frag):R2:=λx y H Q=>onR x λp=>onI y λi=>∃ xs,SqT K H p xs/\∃ v,atI xs i = some v/\Q v H
theorem ixJ {K:PySem.W.Frag} (h:IxR X (rIxL K)):IxR X (rIxJ K):=λa b pins s σ H x y v u Q I rx ry q=>h a b pins s σ H x y v u Q I rx ry (by
 refine Zad (Zoe q) λp e95 q1=>?_;obtain rfl:=e95;refine Zad (Zfw q1) λi e96 e97=>?_;obtain rfl:=e96;obtain ⟨xs,h1,v,h2,q2⟩:=e97;exact ⟨p,xs,i,v,rfl,rfl,h1,h2,q2⟩)
theorem Zjq {K:PySem.W.Frag} (h:IxR X (rIxT K)):IxR X (rIxTJ K):=λa b pins s σ H x y v u Q I rx ry q=>h a b pins s σ H x y v u Q I rx ry (by
 refine Zad (Zoe q) λp e98 q1=>?_;obtain rfl:=e98;refine Zad (Zfw q1) λi e99 e910=>?_;obtain rfl:=e99;obtain ⟨xs,h1,v,h2,q2⟩:=e910;exact ⟨p,xs,i,v,rfl,rfl,h1,h2,q2⟩)
def rAppJ:V->List V->Hp->VK->Prop:=λx vs H Q=>onR x λl=>on1 vs λy=>∃ xs,H l = some (.lst xs)/\xs.length < sizeLine/\Q .non (upd H l (.lst (xs ++ [y])))
theorem mtJ {id:String} (h:MtR X id Zi8):MtR X id rAppJ:=λpins s σ H x xs v us Q I rx rv q=>h pins s σ H x xs v us Q I rx rv (by
 refine Zad (Zoe q) λl e911 q1=>?_;obtain rfl:=e911;refine Zad (on1_of q1) λy e912 e913=>?_;obtain rfl:=e912;obtain ⟨ys,h1,h2,q2⟩:=e913;exact ⟨l,ys,y,rfl,rfl,h1,h2,q2⟩)
def tFldJ (K:PySem.W.Frag) (ta:TE) (f:Str):TE:=λσ H Q=>ta σ H λx H1=>onR x λa=>∃ C dx fs,H1 a = some (.ins C dx fs)/\Cls K C/\NoAttr K C f/\∃ v,fs.lookup f = some v/\Q v H1
theorem Ztz {i:Nat} {σ:St} {H:Hp} {Q Q':VK} (h:tVr i σ H Q) (m:∀ x H1,Q x H1->Q' x H1):tVr i σ H Q':=by
 unfold tVr at *;cases e:σ[i]? with
 | none=>rw [e] at h; exact h.elim
 | some o=>
  rw [e] at h;cases o with
  | none=>exact h.elim
  | some v=>exact m _ _ h
theorem Zbc {e:Expr} {i:Nat} {f:Str} {pos:Pos} (he:PE X e (tVr i)) (hb:attributeBase e f X.env (eval e X.env) = eval e X.env):PE X (.Attribute e f pos) (tFldJ X.K (tVr i) f):=λpins s σ H Q I h=>Zcz he hb pins s σ H Q I (Ztz h λx H1 q=>by
 refine Zad (Zoe q) λa e914 e915=>?_;obtain rfl:=e914;obtain ⟨C,dx,fs,h1,h2,h3,v,h4,q⟩:=e915;exact ⟨a,C,dx,fs,v,rfl,h1,h2,h3,h4,q⟩)
end
end L2
set_option maxHeartbeats 4000000
open PySem L2 PyProof.Rows
local macro_rules | `($a<&>$b)=>`(@pa_c _ _ _ _ _ $a $b (by rfl))
local macro_rules | `($a<*>$b)=>`(@Zue _ _ _ _ _ $a $b)
local macro_rules | `($o<|>$a<&&>$b)=>`(@pe_op _ _ _ _ _ _ _ _ $o $a $b)
local macro_rules | `($o<|>$a<||>$b)=>`(@pe_ix _ _ _ _ _ _ _ $o $a $b (λ_ _=>rfl))
local macro_rules | `(~~~$x)=>`(@Zal _ _ _ (@ps_ret _ _ _ _ $x))
local macro_rules | `(tactic| walk_at "wp")=>do
 let f (s:String):=(s.splitOn " ").toArray.map λx=>Lean.mkIdent x.toName
 let a:=f "tv0 tv1 tv2 tv3 tv4 tv5 tv6 tv7 tv8 tv9 tv10 tv11 tv12 tv13 pI0 pI pU pIxL pIxT pEb pEi pEr pEqT pEqL pSlL pCat pApp pTup pL1 pL0 pLi pE5 Zmo tIfS Zt0 tOp tUn tVr Zod Zrj Zri Zwc Zrk rJ0 rJ rEqJ rNeJ tTst rIxJ rIxTJ rAppJ tFldJ tC tCB Ze1 Zp9 tRet tRetN tNext tDrop tAsg tAug ipI Zbi Zps Zge Ztf gSub tTup tLst tSl Zmp tPart Znr Zo4 tBM tBM0 tPar tB tAnd tOr tNot tAndV tOrV tNotV tIf Zgj Zqb Zqa tFld sFld tAugS rGetL rI0 rI rU rIxL rIxT rSetL rSlL Zi8 Zq6 iEnm iRvl tLE gSl0 tMinL rBits tTry hEnds Zv3 hnd_K pnx_K rCat rEq rNe rEqL Zv8 rIn Zqy Zqz Zqx Zse iTup Zsd Zvd cV cx_K in_K Zv0 E0 L2.start"
 let b:=f "Zho List.map List.length List.replicate List.cons_append List.nil_append List.getElem?_cons_zero List.getElem?_cons_succ List.set_cons_zero List.set_cons_succ"
 let c:=f "Jcp Option.some.injEq exists_eq_left' exists_eq_left exists_and_left V.int.injEq V.bl.injEq V.ref.injEq V.ty.injEq List.cons.injEq reduceCtorEq false_and and_false exists_false or_false false_or and_true true_and Nat.reduceSub Nat.reduceAdd Nat.reduceLT Jcy Jex Bool.false_eq_true"
 `(tactic| ((try dsimp only [$[↓$a:term],*,$[$b:term],*]);(try simp only [$[↓$a:term],*,$[$b:term],*,$[$c:term],*])))
namespace Pf
open PySem L2 PyProof.Rows
def top (i:Nat):Stmt:=PySem.Challenge.pw_limbtables_k33_ties_beyond.main.body.getD i (.Pass ⟨0,0,0,0⟩)
abbrev Zfm:Stmt:=top 10
abbrev Zc7:Stmt:=top 19
abbrev Zhd:Stmt:=top 20
abbrev Zds:Stmt:=Zhm (top 21) 0
abbrev Zg9:Stmt:=top 54
abbrev Zi4:Stmt:=top 55
abbrev Zg8:Stmt:=top 56
abbrev Zf8:Stmt:=top 57
abbrev Zcw:Stmt:=top 58
abbrev Zc9:Stmt:=top 59
abbrev Zf9:Stmt:=top 60
abbrev Zga:Stmt:=top 61
abbrev Zce:Stmt:=top 11
abbrev Zc6:Stmt:=top 12
abbrev Zf3:Stmt:=top 13
abbrev Zc8:Stmt:=top 14
abbrev Zcp:Stmt:=top 15
abbrev Zhb:Stmt:=top 25
abbrev Zkn:Stmt:=top 26
abbrev Zf0:Stmt:=top 27
abbrev Zkl:Stmt:=top 28
abbrev Zi6:Stmt:=top 29
abbrev Zbs:Stmt:=top 30
abbrev Zm3:Stmt:=top 31
abbrev Zq1:Stmt:=top 32
abbrev Zgc:Stmt:=top 34
abbrev Zd8:Stmt:=top 35
abbrev Zfd:Stmt:=top 36
abbrev Zda:Stmt:=Zhm (top 37) 0
abbrev Zf2:Stmt:=top 38
abbrev Zdp:Stmt:=top 39
abbrev Zcx:Stmt:=top 40
abbrev Zea:Stmt:=top 41
abbrev Zfc:Stmt:=top 42
abbrev Zhc:Stmt:=top 46
abbrev Zdo:Stmt:=top 47
abbrev Zhe:Stmt:=top 48
abbrev Zi5:Stmt:=top 49
abbrev Zi2:Stmt:=top 50
abbrev Zd9:Stmt:=top 51
abbrev Zeb:Stmt:=Zhm (top 52) 0
abbrev Zaw:Stmt:=Zhm (top 52) 1
abbrev Zdr:Stmt:=Zhm (top 52) 3
abbrev Zck:Stmt:=Zhm (top 52) 6
abbrev Zfa:Stmt:=top 62
abbrev Ze9:Stmt:=top 63
abbrev Zg4:Stmt:=top 64
abbrev Zf5:Stmt:=top 65
abbrev Zf4:Stmt:=top 66
abbrev Zf7:Stmt:=top 67
abbrev Zf6:Stmt:=top 68
abbrev Ze8:Stmt:=top 69
abbrev Zg5:Stmt:=top 70
abbrev Zha:Stmt:=top 71
abbrev Zd7:Stmt:=top 72
abbrev Zg3:Stmt:=top 73
abbrev Zi3:Stmt:=top 74
abbrev Zdq:Stmt:=top 75
abbrev Zgb:Stmt:=top 76
abbrev Zf1:Stmt:=top 23
abbrev Zfb:Stmt:=top 43
abbrev Zg7:Stmt:=top 77
abbrev Zg6:Stmt:=top 78
abbrev Zkm:Stmt:=top 79
theorem Zd6:FnScope ["thing"] ["thing"] (Zaf Zfm):=⟨rfl,rfl,rfl,by decide +kernel,rfl,by decide +kernel,by decide +kernel⟩
theorem Zer:FnScope ["many","arrows"] ["many","arrows"] (Zaf Zc7):=⟨rfl,rfl,rfl,by decide +kernel,rfl,by decide +kernel,by decide +kernel⟩
theorem Zi0:FnScope ["many","thing"] ["many","thing"] (Zaf Zhd):=⟨rfl,rfl,rfl,by decide +kernel,rfl,by decide +kernel,by decide +kernel⟩
theorem Ze7:FnScope ["self","many","arrows"] ["self","many","arrows"] (Zaf Zds):=⟨rfl,rfl,rfl,by decide +kernel,rfl,by decide +kernel,by decide +kernel⟩
theorem Ziw:FnScope ["_law_script","_law_k"] ["_law_script","_law_k"] (Zaf Zg9):=⟨rfl,rfl,rfl,by decide +kernel,rfl,by decide +kernel,by decide +kernel⟩
theorem Zjz:FnScope ["_law_cell_here"] ["_law_cell_here"] (Zaf Zi4):=⟨rfl,rfl,rfl,by decide +kernel,rfl,by decide +kernel,by decide +kernel⟩
theorem Ziv:FnScope ["_law_bag_here","_law_many","_law_found"] ["_law_bag_here","_law_many"] (Zaf Zg8):=⟨rfl,rfl,rfl,by decide +kernel,rfl,by decide +kernel,by decide +kernel⟩
theorem Zhx:FnScope ["_law_bag_here","_law_many","_law_left","_law_row","_law_at"] ["_law_bag_here","_law_many"] (Zaf Zf8):=⟨rfl,rfl,rfl,by decide +kernel,rfl,by decide +kernel,by decide +kernel⟩
theorem Zdw:FnScope ["_law_bag_here","_law_way","_law_edges_here","_law_many","_law_k","_law_one"] ["_law_bag_here","_law_way"] (Zaf Zcw):=⟨rfl,rfl,rfl,by decide +kernel,rfl,by decide +kernel,by decide +kernel⟩
theorem Zet:FnScope ["_law_bag_here","_law_sort","_law_many","_law_long","_law_edges_here"] ["_law_bag_here"] (Zaf Zc9):=⟨rfl,rfl,rfl,by decide +kernel,rfl,by decide +kernel,by decide +kernel⟩
theorem Zhy:FnScope ["_law_bag_here","_law_way","_law_many"] ["_law_bag_here","_law_way"] (Zaf Zf9):=⟨rfl,rfl,rfl,by decide +kernel,rfl,by decide +kernel,by decide +kernel⟩
theorem Zhz:FnScope ["_law_bag_here","_law_way","_law_many","_law_left","_law_order_here","_law_arrows","_law_at","_law_one","_law_other"] ["_law_bag_here","_law_way"] (Zaf Zga):=⟨rfl,rfl,rfl,by decide +kernel,rfl,by decide +kernel,by decide +kernel⟩
theorem Zb4:FnScope ["one","other"] ["one","other"] (Zaf Zce):=⟨rfl,rfl,rfl,by decide +kernel,rfl,by decide +kernel,by decide +kernel⟩
theorem Zeq:FnScope ["one","other"] ["one","other"] (Zaf Zc6):=⟨rfl,rfl,rfl,by decide +kernel,rfl,by decide +kernel,by decide +kernel⟩
theorem Zhs:FnScope ["one","other","shift","a","b","c","d"] ["one","other"] (Zaf Zf3):=⟨rfl,rfl,rfl,by decide +kernel,rfl,by decide +kernel,by decide +kernel⟩
theorem Zes:FnScope ["one","other","a","b","c","d","many"] ["one","other"] (Zaf Zc8):=⟨rfl,rfl,rfl,by decide +kernel,rfl,by decide +kernel,by decide +kernel⟩
theorem Zdk:FnScope ["one","other"] ["one","other"] (Zaf Zcp):=⟨rfl,rfl,rfl,by decide +kernel,rfl,by decide +kernel,by decide +kernel⟩
theorem Ziy:FnScope ["ground","thing","high","wide","rows"] ["ground","thing"] (Zaf Zhb):=⟨rfl,rfl,rfl,by decide +kernel,rfl,by decide +kernel,by decide +kernel⟩
theorem Zlm:FnScope ["ground","wide","thing"] ["ground","wide","thing"] (Zaf Zkn):=⟨rfl,rfl,rfl,by decide +kernel,rfl,by decide +kernel,by decide +kernel⟩
theorem Zhp:FnScope ["ground","row","bottom","number"] ["ground","row"] (Zaf Zf0):=⟨rfl,rfl,rfl,by decide +kernel,rfl,by decide +kernel,by decide +kernel⟩
theorem Zll:FnScope ["ground","row","divisor","number"] ["ground","row"] (Zaf Zkl):=⟨rfl,rfl,rfl,by decide +kernel,rfl,by decide +kernel,by decide +kernel⟩
theorem Zj1:FnScope ["ground","row","lead","place","divisor","keep","take"] ["ground","row","lead","place"] (Zaf Zi6):=⟨rfl,rfl,rfl,by decide +kernel,rfl,by decide +kernel,by decide +kernel⟩
theorem Zfq:FnScope ["rows","place","found"] ["rows","place"] (Zaf Zbs):=⟨rfl,rfl,rfl,by decide +kernel,rfl,by decide +kernel,by decide +kernel⟩
theorem Zn1:FnScope ["ground","rows","wide","done","left","places","place","at","lead"] ["ground","rows","wide"] (Zaf Zm3):=⟨rfl,rfl,rfl,by decide +kernel,rfl,by decide +kernel,by decide +kernel⟩
theorem Zq0:FnScope ["ground","table"] ["ground","table"] (Zaf Zq1):=⟨rfl,rfl,rfl,by decide +kernel,rfl,by decide +kernel,by decide +kernel⟩
theorem Zh1:FnScope ["drawing","thing"] ["drawing","thing"] (Zaf Zgc):=⟨rfl,rfl,rfl,by decide +kernel,rfl,by decide +kernel,by decide +kernel⟩
theorem Zfs:FnScope ["ground","high","wide","thing"] ["ground","high","wide","thing"] (Zaf Zd8):=⟨rfl,rfl,rfl,by decide +kernel,rfl,by decide +kernel,by decide +kernel⟩
theorem Zgr:FnScope ["ground","drawing","sizes","thing"] ["ground","drawing","sizes","thing"] (Zaf Zfd):=⟨rfl,rfl,rfl,by decide +kernel,rfl,by decide +kernel,by decide +kernel⟩
theorem Zeu:FnScope ["self","ground","drawing","sizes","tables"] ["self","ground","drawing","sizes","tables"] (Zaf Zda):=⟨rfl,rfl,rfl,by decide +kernel,rfl,by decide +kernel,by decide +kernel⟩
theorem Zhr:FnScope ["standing","ground","drawing"] ["standing","ground","drawing"] (Zaf Zf2):=⟨rfl,rfl,rfl,by decide +kernel,rfl,by decide +kernel,by decide +kernel⟩
theorem Ze4:FnScope ["one","other","starts","wide","high"] ["one","other"] (Zaf Zdp):=⟨rfl,rfl,rfl,by decide +kernel,rfl,by decide +kernel,by decide +kernel⟩
theorem Zdx:FnScope ["one","other","at","row_place","column_place","ground","starts","tail","head","found","k","number","row","place"] ["one","other","at","row_place","column_place"] (Zaf Zcx):=⟨rfl,rfl,rfl,by decide +kernel,rfl,by decide +kernel,by decide +kernel⟩
theorem Zfu:FnScope ["one","other","rows","at","tail","head","row_place","column_place"] ["one","other"] (Zaf Zea):=⟨rfl,rfl,rfl,by decide +kernel,rfl,by decide +kernel,by decide +kernel⟩
theorem Zgq:FnScope ["one","other","table"] ["one","other"] (Zaf Zfc):=⟨rfl,rfl,rfl,by decide +kernel,rfl,by decide +kernel,by decide +kernel⟩
theorem Ziz:FnScope ["number"] ["number"] (Zaf Zhc):=⟨rfl,rfl,rfl,by decide +kernel,rfl,by decide +kernel,by decide +kernel⟩
theorem Ze3:FnScope ["thing"] ["thing"] (Zaf Zdo):=⟨rfl,rfl,rfl,by decide +kernel,rfl,by decide +kernel,by decide +kernel⟩
theorem Zi1:FnScope ["top","bottom","divisor"] ["top","bottom"] (Zaf Zhe):=⟨rfl,rfl,rfl,by decide +kernel,rfl,by decide +kernel,by decide +kernel⟩
theorem Zj0:FnScope ["rest","prime","low","high","low_times","high_times","many"] ["rest","prime"] (Zaf Zi5):=⟨rfl,rfl,rfl,by decide +kernel,rfl,by decide +kernel,by decide +kernel⟩
theorem Zjw:FnScope ["top","bottom","prime","below"] ["top","bottom","prime"] (Zaf Zi2):=⟨rfl,rfl,rfl,by decide +kernel,rfl,by decide +kernel,by decide +kernel⟩
theorem Zft:FnScope ["thing","top","bottom"] ["thing"] (Zaf Zd9):=⟨rfl,rfl,rfl,by decide +kernel,rfl,by decide +kernel,by decide +kernel⟩
theorem Zfv:FnScope ["self","prime"] ["self","prime"] (Zaf Zeb):=⟨rfl,rfl,rfl,by decide +kernel,rfl,by decide +kernel,by decide +kernel⟩
theorem Zev:FnScope ["self","top","bottom"] ["self","top","bottom"] (Zaf Zaw):=⟨rfl,rfl,rfl,by decide +kernel,rfl,by decide +kernel,by decide +kernel⟩
theorem Ze6:FnScope ["self","a","b"] ["self","a","b"] (Zaf Zdr):=⟨rfl,rfl,rfl,by decide +kernel,rfl,by decide +kernel,by decide +kernel⟩
theorem Zc5:FnScope ["self","thing"] ["self","thing"] (Zaf Zck):=⟨rfl,rfl,rfl,by decide +kernel,rfl,by decide +kernel,by decide +kernel⟩
theorem Zjy:FnScope ["_law_top","_law_bottom","_law_one","_law_other","_law_rest"] ["_law_top","_law_bottom"] (Zaf Zfa):=⟨rfl,rfl,rfl,by decide +kernel,rfl,by decide +kernel,by decide +kernel⟩
theorem Zgo:FnScope ["_law_bag_here","_law_p","_law_top"] ["_law_bag_here","_law_p"] (Zaf Ze9):=⟨rfl,rfl,rfl,by decide +kernel,rfl,by decide +kernel,by decide +kernel⟩
theorem Zir:FnScope ["_law_p","_law_a","_law_b"] ["_law_p","_law_a","_law_b"] (Zaf Zg4):=⟨rfl,rfl,rfl,by decide +kernel,rfl,by decide +kernel,by decide +kernel⟩
theorem Zhu:FnScope ["_law_p","_law_a","_law_b"] ["_law_p","_law_a","_law_b"] (Zaf Zf5):=⟨rfl,rfl,rfl,by decide +kernel,rfl,by decide +kernel,by decide +kernel⟩
theorem Zht:FnScope ["_law_p","_law_k"] ["_law_p","_law_k"] (Zaf Zf4):=⟨rfl,rfl,rfl,by decide +kernel,rfl,by decide +kernel,by decide +kernel⟩
theorem Zhw:FnScope ["_law_bag_here","_law_many","_law_most","_law_sizes_here","_law_left","_law_k","_law_size"] ["_law_bag_here","_law_many","_law_most"] (Zaf Zf7):=⟨rfl,rfl,rfl,by decide +kernel,rfl,by decide +kernel,by decide +kernel⟩
theorem Zhv:FnScope ["_law_bag_here","_law_p","_law_high","_law_wide","_law_bare","_law_rows","_law_k","_law_row","_law_j","_law_number_here"] ["_law_bag_here","_law_p","_law_high","_law_wide"] (Zaf Zf6):=⟨rfl,rfl,rfl,by decide +kernel,rfl,by decide +kernel,by decide +kernel⟩
theorem Zgn:FnScope ["_law_bag_here","_law_p","_law_arrows","_law_sizes_here","_law_tables_here","_law_tail","_law_head"] ["_law_bag_here","_law_p","_law_arrows","_law_sizes_here"] (Zaf Ze8):=⟨rfl,rfl,rfl,by decide +kernel,rfl,by decide +kernel,by decide +kernel⟩
theorem Zis:FnScope ["_law_tables_here"] ["_law_tables_here"] (Zaf Zg5):=⟨rfl,rfl,rfl,by decide +kernel,rfl,by decide +kernel,by decide +kernel⟩
theorem Zix:FnScope ["_law_p","_law_a","_law_found","_law_k"] ["_law_p","_law_a"] (Zaf Zha):=⟨rfl,rfl,rfl,by decide +kernel,rfl,by decide +kernel,by decide +kernel⟩
theorem Zfr:FnScope ["_law_p","_law_one","_law_often","_law_other","_law_row","_law_k"] ["_law_p","_law_one","_law_often","_law_other"] (Zaf Zd7):=⟨rfl,rfl,rfl,by decide +kernel,rfl,by decide +kernel,by decide +kernel⟩
theorem Ziq:FnScope ["_law_p","_law_rows","_law_wide","_law_left","_law_deep","_law_k","_law_at","_law_first","_law_back_here","_law_j","_law_often"] ["_law_p","_law_rows","_law_wide"] (Zaf Zg3):=⟨rfl,rfl,rfl,by decide +kernel,rfl,by decide +kernel,by decide +kernel⟩
theorem Zjx:FnScope ["_law_bag_here","_law_p","_law_more","_law_way","_law_many","_law_arrows","_law_most","_law_loops","_law_pairs","_law_turn","_law_sizes_here"] ["_law_bag_here","_law_p","_law_more"] (Zaf Zi3):=⟨rfl,rfl,rfl,by decide +kernel,rfl,by decide +kernel,by decide +kernel⟩
theorem Ze5:FnScope ["_law_p","_law_many","_law_arrows","_law_pair"] ["_law_p","_law_many","_law_arrows","_law_pair"] (Zaf Zdq):=⟨rfl,rfl,rfl,by decide +kernel,rfl,by decide +kernel,by decide +kernel⟩
theorem Zh0:FnScope ["_law_p","_law_arrows","_law_one","_law_other","_law_ahead","_law_here","_law_there","_law_rows","_law_k","_law_arrow","_law_tail","_law_head","_law_high","_law_wide","_law_row","_law_j","_law_at","_law_less"] ["_law_p","_law_arrows","_law_one","_law_other"] (Zaf Zgb):=⟨rfl,rfl,rfl,by decide +kernel,rfl,by decide +kernel,by decide +kernel⟩
theorem Zhq:FnScope ["drawing","one","other","at_points"] ["drawing","one","other"] (Zaf Zf1):=⟨rfl,rfl,rfl,by decide +kernel,rfl,by decide +kernel,by decide +kernel⟩
theorem Zgp:FnScope ["one","other"] ["one","other"] (Zaf Zfb):=⟨rfl,rfl,rfl,by decide +kernel,rfl,by decide +kernel,by decide +kernel⟩
theorem Ziu:FnScope ["_law_arrows","_law_one","_law_other","_law_total","_law_k","_law_tail","_law_head"] ["_law_arrows","_law_one","_law_other"] (Zaf Zg7):=⟨rfl,rfl,rfl,by decide +kernel,rfl,by decide +kernel,by decide +kernel⟩
theorem Zit:FnScope ["_law_p","_law_many","_law_arrows","_law_one","_law_other","_law_rows","_law_wide","_law_due","_law_first","_law_second","_law_told"] ["_law_p","_law_many","_law_arrows","_law_one","_law_other"] (Zaf Zg6):=⟨rfl,rfl,rfl,by decide +kernel,rfl,by decide +kernel,by decide +kernel⟩
theorem Zv6:FnScope ["_law_script","_law_k","_law_bag_here","_law_p","_law_many","_law_arrows","_law_pairs"] ["_law_script"] (Zaf Zkm):=⟨rfl,rfl,rfl,by decide +kernel,rfl,by decide +kernel,by decide +kernel⟩
structure Txt (K:PySem.W.Frag) (mg:Str->Option Value) (C G S:Addr):Prop where
 cl_Drawing:Cls K C
 nM:NoAttr K C "many"
 nA:NoAttr K C "arrows"
 cl_Ground:Cls K G
 nP:NoAttr K G "prime"
 cl_Standing:Cls K S
 nSg:NoAttr K S "ground"
 nSd:NoAttr K S "drawing"
 nSs:NoAttr K S "sizes"
 nSt:NoAttr K S "tables"
 n_len:mg "len" = none
 n_range:mg "range" = none
 n_list:mg "list" = none
 n_min:mg "min" = none
 n_int:mg "int" = none
 n_bool:mg "bool" = none
 n_tuple:mg "tuple" = none
 n_all:mg "all" = none
 n_isinstance:mg "isinstance" = none
 n_abs:mg "abs" = none
 n_zip:mg "zip" = none
 n_enumerate:mg "enumerate" = none
 n_reversed:mg "reversed" = none
 n_sum:mg "sum" = none
 g_MOST_POINTS:∃ t,mg "MOST_POINTS" = some (.int 8 t)
 g_MOST_ARROWS:∃ t,mg "MOST_ARROWS" = some (.int 9 t)
 g_LARGEST_PRIME:∃ t,mg "LARGEST_PRIME" = some (.int 97 t)
 g_LONG:∃ t,mg "LONG" = some (.int 4000 t)
 g_LEADING:∃ t,mg "LEADING" = some (.int 126 t)
def Znl (a b:Int):HO:=.lst [.int a,.int b]
def Bag (H:Hp) (l:Addr):Prop:=∃ a b:Int,H l = some (Znl a b)/\0<=b/\b < 2147483647
def Zqs (K:PySem.W.Frag):Sp:=λvs H Q _=>∃ (a:Addr) (ns:List Int) (k:Int),vs = [.ref a,.int k]/\SqL K H a (ns.map V.int)/\ns.length<=63/\0<=k/\∀ c,Q (.int c) H
def spBag:Sp:=λvs H Q _=>∃ c:Int,vs = [.int c]/\∀ (l:Addr) (a b:Int),H l = none->0<=b->b < 2147483647->Q (.ref l) (upd H l (Znl a b))
def Zdg:Sp:=λvs H Q _=>∃ (l:Addr) (a b n:Int),vs = [.ref l,.int n]/\H l = some (Znl a b)/\0<=b/\b < 2147483647/\0 < n/\n < 1000000000 /\
 ∀ (r a' b':Int),0<=r->r < n->0<=b'->b' < 2147483647->Q (.int r) (upd H l (Znl a' b'))
section
variable {P:Program} {w:World} {K:PySem.W.Frag} {mg:Str->Option Value} {base:Heap} {C G S:Addr}
theorem ok_cell {f:Addr} {fd:FuncData} (F:Fun K "_law_cell" "_law_cell" Zg9 f fd) (T:Txt K mg C G S):FnOk P w K mg base CX0 1 f fd ["_law_script","_law_k"] (Zqs K):=by
 have nd:=Ziw.nd;refine F.ok Ziw (λvs H Q E h=>?_) (λcdv A outer s H vs Q E hr h=>?_)
 .refine Zdu h λa ns k e91 _=>?_;clear h;obtain rfl:=e91;rfl
 .refine Zbj h λa ns k e92 hS hl e93=>?_;clear h;obtain rfl:=e92;obtain ⟨h0,q⟩:=e93;refine ⟨_,((@Za1 _ _ _ _ _ _ _ _ (Zao Zhg (pvr 1) (Za3 Zaq rfl T.n_len Ja8 ((pvr 0)<&>Zaa)) (Zam _)) (~~~((ixJ Zaj)<|>(pvr 0)<||>(pvr 1))) Zan)<*>(~~~Zab)),?_⟩;walk_at "wp";refine ⟨_,.inl hS,Zbx (λhc=>?_) (λ_=>q 0)⟩;have hc:=Ja0 hc;rw [Jab] at hc;refine ⟨_,hS,V.int (ns[k.toNat]'(by omega)),Zb0 h0 ?_,q _⟩;rw [Jah,Jaa (by omega)];rfl
theorem pow60:IntMulOk (10 ^ (60:Int).toNat) (10 ^ (60:Int).toNat):=IntMulOk.of_bits (by decide +kernel) (by decide +kernel)
theorem cpow (k:Int) (h0:0<=k) (h1:k<=1000):CPow 10 k:=⟨h0,by omega,by decide⟩
theorem Zj4 (c n:Int) (h:0 < n):0<=c % n:=Jbi _ (by omega)
theorem Zj5 (c n:Int) (h:0 < n):c % n < n:=Ja7 _ h
theorem ok_bag {f:Addr} {fd:FuncData} (F:Fun K "_law_bag" "_law_bag" Zi4 f fd) (T:Txt K mg C G S):FnOk P w K mg base CX0 1 f fd ["_law_cell_here"] spBag:=by
 have nd:=Zjz.nd;refine F.ok Zjz (λvs H Q E h=>?_) (λcdv A outer s H vs Q E hr h=>?_)
 .refine Zad h λc e94 _=>?_;clear h;obtain rfl:=e94;rfl
 .refine Zad h λc e95 q=>?_;clear h;obtain rfl:=e95;refine ⟨_,((@Za1 _ _ _ _ _ _ _ _ (Zao Zuk (pvr 0) ((opJ Zoc)<|>Zab<&&>Zab) (Zam _)) (~~~(@Zbm _ _ _ _ ((Zcb<|>(pvr 0)<&&>(Za4<|>((opJ Zoc)<|>Zab<&&>Zab)<&&>((opJ Zoc)<|>Zab<&&>Zab)))<&>(((opJ Zcb)<|>(pvr 0)<&&>Zab)<&>Zaa)))) Zan)<*>(~~~(@Zbm _ _ _ _ (Zab<&>(((opJ Zcb)<|>((Zj3 Zay)<|>((opJ Zgt)<|>((opJ Zcb)<|>(pvr 0)<&&>Zab)<&&>Zab)<&&>Zab)<&&>Zab)<&>Zaa))))),?_⟩;walk_at "wp";refine ⟨cpow _ (by decide) (by decide),Zbx (λ_=>?_) (λ_=>?_)⟩
  .exact ⟨cpow _ (by decide) (by decide),cpow _ (by decide) (by decide),pow60,by decide +kernel,by decide,by decide,λp hp=>q p _ _ hp (Zj4 _ _ (by decide)) (Zj5 _ _ (by decide))⟩
  .exact ⟨by decide,.inr ⟨by decide,by decide⟩,by decide,by decide,λp hp=>q p _ _ hp (Zj4 _ _ (by decide)) (Zj5 _ _ (by decide))⟩
theorem ok_draw {f:Addr} {fd:FuncData} (F:Fun K "_law_draw" "_law_draw" Zg8 f fd) (T:Txt K mg C G S):FnOk P w K mg base CX0 1 f fd ["_law_bag_here","_law_many"] Zdg:=by
 have nd:=Ziv.nd;refine F.ok Ziv (λvs H Q E h=>?_) (λcdv A outer s H vs Q E hr h=>?_)
 .refine Zml h λl a b n e96 _=>?_;clear h;obtain rfl:=e96;rfl
 .refine Zdc h λl a b n e97 hl b0 e98=>?_;clear h;obtain rfl:=e97;refine Zcj e98 λb1 n0 n1 q=>?_;clear e98;refine ⟨_,((@Za1 _ _ _ _ _ _ _ _ (Zao Zuk ((ixJ Zaj)<|>(pvr 0)<||>Zab) (pvr 1) (Zam _)) ((Zak (i:=2) nd rfl (Or.inl rfl) (Zcb<|>((ixJ Zaj)<|>(pvr 0)<||>Zab)<&&>(pvr 1)))<*>((Zb3 (Zkp<|>((ixJ Zaj)<|>(pvr 0)<||>Zab)<&&>(pvr 1)) (Zh4 (pvr 0) Zab Zdj))<*>(~~~(pvr 2)))) Zan)<*>((Zb3 Zab (Zh4 (pvr 0) Zab Zdj))<*>((Zb3 (Zcb<|>(Zay<|>(Zgt<|>((ixJ Zaj)<|>(pvr 0)<||>Zab)<&&>Zab)<&&>Zab)<&&>Zab) (Zh4 (pvr 0) Zab Zdj))<*>(~~~(Zcb<|>(Zkp<|>(Zcb<|>(Zgt<|>((ixJ Zaj)<|>(pvr 0)<||>Zab)<&&>(Zay<|>(Zkp<|>((ixJ Zaj)<|>(pvr 0)<||>Zab)<&&>Zab)<&&>Zab))<&&>Zab)<&&>Zab)<&&>(pvr 1)))))),?_⟩;walk_at "wp";refine ⟨_,SqL.of hl,_,rfl,_,rfl,Zbx (λhc=>?_) (λhc=>?_)⟩
  .refine ⟨_,SqL.of hl,_,rfl,_,rfl,n0,_,SqL.of hl,_,rfl,_,rfl,⟨n0,by omega⟩,_,hl,_,rfl,?_⟩;exact q _ _ _ (Zj4 _ _ n0) (Zj5 _ _ n0) b0 b1
  .refine ⟨_,hl,_,rfl,_,SqL.of Zac,_,rfl,_,rfl,.inr ⟨by decide,by decide⟩,by decide,_,Zac,_,rfl,_,SqL.of Zac,_,rfl,_,SqL.of Zac,_,rfl,_,rfl,⟨by decide,by decide⟩,_,rfl,?_⟩;have h1:=Zj4 (b * 48271 + 4099) 2147483647 (by decide);have h2:=Zj5 (b * 48271 + 4099) 2147483647 (by decide);refine ⟨.inl ⟨by omega,by omega⟩,by decide,⟨by decide,by decide⟩,n0,?_⟩;rw [upd_upd];exact q _ _ _ (Zj4 _ _ n0) (Zj5 _ _ n0) h1 h2
end
end Pf
namespace Pf
open PySem L2 PyProof.Rows
section
variable {P:Program} {w:World} {K:PySem.W.Frag} {mg:Str->Option Value} {base:Heap} {C G S:Addr}
def InR (m:Int) (ys:List Int):Prop:=∀ y ∈ ys,0<=y/\y < m
def Zmw:Sp:=λvs H Q _=>∃ (l:Addr) (m:Int),vs = [.ref l,.int m]/\Bag H l/\0<=m/\m<=8 /\
 ∀ (p:Addr) (ys:List Int) (H':Hp),Ext l H H'->Bag H' l->H p = none->H' p = some (.lst (ys.map V.int))->(ys.length:Int) = m->InR m ys->Q (.ref p) H'
theorem Zq5 (lo hi:Int):rngV lo hi = ((List.range (hi - lo).toNat).map λ(i:Nat)=>lo + (i:Int)).map V.int:=by
 unfold rngV;rw [List.map_map];rfl
theorem Zst (xs:List V) (k:Int) (h0:0<=k) (h1:k<=xs.length):Zew xs none (some k) = xs.take k.toNat:=by
 unfold Zew HT.sIx;have:¬ k < 0:=by omega
 simp only [this,Jex,List.drop_zero,Nat.sub_zero];congr 1;omega
theorem Zsu (xs:List V) (k:Int) (h0:0<=k) (h1:k<=xs.length):Zew xs (some k) none = xs.drop k.toNat:=by
 unfold Zew HT.sIx;have e:¬ k < 0:=by omega
 have e2:min k.toNat xs.length = k.toNat:=by omega
 simp only [e,Jex,e2];rw [List.take_of_length_le];rw [Jb0];omega
theorem Bag.ne {H:Hp} {l p:Addr} (h:Bag H l) (hp:H p = none):p ≠ l:=by
 refine Zbo h λa b e _=>?_;clear h;exact (Zag e hp).symm
theorem Bag.new {H:Hp} {l p:Addr} {o:HO} (h:Bag H l) (hp:p ≠ l):Bag (upd H p o) l:=by
 refine Zbl h λa b e h1 h2=>?_;clear h;exact Zau a b ⟨by rw [Zah hp.symm]; exact e,h1,h2⟩
theorem Bag.set {H:Hp} {l:Addr} {a b:Int} (h1:0<=b) (h2:b < 2147483647):Bag (upd H l (Znl a b)) l:=⟨a,b,Zac,h1,h2⟩
theorem Zus {f:Addr} {fd:FuncData} (F:Fun K "_law_order" "_law_order" Zf8 f fd) (T:Txt K mg C G S) (C_law_draw:Cal P w K mg base "_law_draw" 1 Zdg):FnOk P w K mg base CX0 2 f fd ["_law_bag_here","_law_many"] Zmw:=by
 have nd:=Zhx.nd;refine F.ok Zhx (λvs H Q E h=>?_) (λcdv A outer s H vs Q E hr h=>?_)
 .refine Zbo h λl m e92 _=>?_;clear h;obtain rfl:=e92;rfl
 .refine Zic h λl m e93 hb m0 m8 q=>?_;clear h;obtain rfl:=e93;refine ⟨_,((Zak (i:=2) nd rfl (Or.inl rfl) (Zie (Zk7 rfl) rfl T.n_list Jc1 ((Zie Zs3 rfl T.n_range boot_range ((pvr 1)<&>Zaa))<&>Zaa)))<*>((Zak (i:=3) nd rfl (Or.inl rfl) (@Zbm _ _ _ _ Zaa))<*>((Zc0 Jan (Zcl Ze0 (Za3 Zaq rfl T.n_len Ja8 ((pv 2)<&>Zaa)) Zab (Zam _)) ((Zak (i:=4) nd rfl (Or.inl rfl) (Za6 C_law_draw hr.m rfl ((pvr 0)<&>((Za3 Zaq rfl T.n_len Ja8 ((pvr 2)<&>Zaa))<&>Zaa))))<*>((Zb2 (Zez Jax Jay Jaz (mtJ Zba) (pvr 3) ((Zaj<|>(pvr 2)<||>(pvr 4))<&>Zaa)))<*>(@Zal _ _ _ (Zak (i:=2) nd rfl (Or.inl rfl) (Zgu<|>(@Zdl _ _ _ _ _ _ _ _ _ _ Ze2 (pvr 2) Zgd (@Zef _ _ _ (pvr 4)))<&&>(@Zdl _ _ _ _ _ _ _ _ _ _ Ze2 (pvr 2) (@Zef _ _ _ (Zay<|>(pvr 4)<&&>Zab)) Zgd)))))))<*>(~~~(pvr 3))))),?_⟩;walk_at "wp";intro p hp;refine Zau _ _ ⟨Zac,⟨by decide,by decide,by omega,by omega⟩,by omega,λl1 hl1=>⟨by decide,λp1 hp1=>?_⟩⟩;have hpl:=hb.ne hp;have b1:Bag (upd H p (.rng 0 m)) l:=hb.new hpl;have hll:=b1.ne hl1;have b2:Bag (upd (upd H p (.rng 0 m)) l1 (.lst (rngV 0 m))) l:=b1.new hll;have hl1p:p1 ≠ l1:=(Zag Zac hp1).symm;have hHp1:H p1 = none:=((Same.new hp).trans (Same.new hl1)).free hp1;rw [Zq5] at *;refine ⟨λk σ H2=>∃ (pl:Addr) (ls rs:List Int) (v:Option V),σ = [some (.ref l),some (.int m),some (.ref pl),some (.ref p1),v]/\k = ls.length/\Ext l H H2/\Bag H2 l /\
   H2 pl = some (.lst (ls.map V.int))/\H2 p1 = some (.lst (rs.map V.int))/\pl ≠ p1/\pl ≠ l/\((ls.length:Int) + rs.length = m)/\InR m ls/\InR m rs,?_,?_⟩
  .refine Zg0 _ l1 ((List.range (m - 0).toNat).map λ(i:Nat)=>(0:Int) + (i:Int)) [] none ⟨rfl,rfl,?_,b2.new (b2.ne hp1),?_,Zac,hl1p.symm,hll,?_,?_,λ_ h=>nomatch h⟩
   .exact ((Ext.new hp).trans (Ext.new hl1)).trans (Ext.new hp1)
   .rw [Zah hl1p.symm,Zac]
   .rw [Jab,Ja4];simp;omega
   .intro y hy;refine Zad (Ja3.mp hy) λi hi e94=>?_;obtain rfl:=e94;have:=Jbc.mp hi;omega
  .intro k σ H2 e91;refine Zdc e91 λpl ls rs v e95 e96 ex e97=>?_;clear e91;obtain rfl:=e95;obtain rfl:=e96;refine xE0_8 e97 λhb2 hpl2 hp12 n1 n2 hlen il ir=>?_;clear e97;walk_at "wp";refine ⟨_,.inl (SqL.of hpl2),Zbx (λhc=>?_) (λhc=>?_)⟩
   .refine ⟨_,λ_ _ h=>h,?_⟩;have hc:=Ja0 hc;rw [Jab] at hc;walk_at "wp";refine ⟨_,.inl (SqL.of hpl2),?_⟩;refine Zbl hb2 λa b hla b0 b1'=>?_;clear hb2;rw [Jab];refine Zke l a b _ ⟨rfl,hla,b0,b1',hc,by omega,λr a' b' r0 r1 c0 c1=>?_⟩;have hr1:r.toNat < ls.length:=by omega
    have hp1l:p1 ≠ l:=hb.ne hHp1;have h3pl:(upd H2 l (Znl a' b')) pl = some (.lst (ls.map V.int)):=by rw [Zah n2]; exact hpl2
    have h3p1:(upd H2 l (Znl a' b')) p1 = some (.lst (rs.map V.int)):=by rw [Zah hp1l]; exact hp12
    have e1:Ext l H (upd H2 l (Znl a' b')):=ex.trans Ext.set;have B1:Bag (upd H2 l (Znl a' b')) l:=Bag.set c0 c1;refine ⟨.inl ⟨rfl,_,SqL.of h3p1⟩,_,r,rfl,SqL.of h3pl,V.int (ls[r.toNat]),Zb0 r0 (by rw [Jah,Jaa hr1]; rfl),_,h3p1,Zap (by rw [Jab]; omega),r,rfl,_,
     SqL.of (by rw [Zah n1]; exact h3pl),λp2 hp2=>⟨r,rfl,ls.map V.int,SqL.of ?g1,λp3 hp3=>⟨Zew (ls.map V.int) none (some r),?g2,_,Zac,?g3,λp4 hp4=>?g4⟩⟩⟩
    case g1=>
     have:pl ≠ p2:=Zag (by rw [Zah n1]; exact h3pl) hp2;rw [Zah this,Zah n1];exact h3pl
    case g2=>rw [Zah (Zag Zac hp3)]; exact Zac
    case g3=>
     have h1:=Zcr (ls.map V.int) none (some r);have h2:=Zcr (ls.map V.int) (some (r + 1)) none;rw [Jab] at h1 h2;exact Jb3 (Zap (by omega))
    case g4=>
     have e2:=e1.upd (o:=.lst (rs.map V.int ++ [V.int ls[r.toNat]])) hHp1;have B2:Bag (upd (upd H2 l (Znl a' b')) p1 (.lst (rs.map V.int ++ [V.int ls[r.toNat]]))) l:=B1.new hp1l;have e3:=e2.trans (Ext.new (o:=.lst (Zew (ls.map V.int) none (some r))) hp2);have B3:=B2.new (o:=.lst (Zew (ls.map V.int) none (some r))) (B2.ne hp2);have e4:=e3.trans (Ext.new (o:=.lst (Zew (ls.map V.int) (some (r + 1)) none)) hp3);have B4:=B3.new (o:=.lst (Zew (ls.map V.int) (some (r + 1)) none)) (B3.ne hp3);have n21:p2 ≠ p1:=(Zag Zac hp2).symm;have q2:(upd (upd (upd H2 l (Znl a' b')) p1 (.lst (rs.map V.int ++ [V.int ls[r.toNat]]))) p2 (.lst (Zew (ls.map V.int) none (some r)))) p1 = some (.lst (rs.map V.int ++ [V.int ls[r.toNat]])):=by
      rw [Zah n21.symm]; exact Zac
     have n31:p1 ≠ p3:=Zag q2 hp3;have q3:(upd (upd (upd (upd H2 l (Znl a' b')) p1 (.lst (rs.map V.int ++ [V.int ls[r.toNat]]))) p2 (.lst (Zew (ls.map V.int) none (some r)))) p3 (.lst (Zew (ls.map V.int) (some (r + 1)) none))) p1 = some (.lst (rs.map V.int ++ [V.int ls[r.toNat]])):=by
      rw [Zah n31]; exact q2
     have n41:p1 ≠ p4:=Zag q3 hp4;refine ⟨(ls.take r.toNat ++ ls.drop (r.toNat + 1)).length,by rw [Jae,Jbb,Jb0]; omega,p4,ls.take r.toNat ++ ls.drop (r.toNat + 1),rs ++ [ls[r.toNat]],_,⟨rfl,rfl⟩,rfl,e4.trans (Ext.new hp4),B4.new (B4.ne hp4),?_,?_,n41.symm,B4.ne hp4,?_,?_,?_⟩
     .rw [Zac,Zst _ _ r0 (by rw [Jab]; omega),Zsu _ _ (by omega) (by rw [Jab]; omega),Ja1,List.map_take,List.map_drop,show (r + 1).toNat = r.toNat + 1 by omega]
     .rw [Zah n41,q3,Ja1];rfl
     .rw [Jae,Jae,Jbb,Jb0];simp;omega
     .intro y hy;rcases Jai.mp hy with h | h
      .exact il y (Jcv h)
      .exact il y (Jd6 h)
     .intro y hy;rcases Jai.mp hy with h | h
      .exact ir y h
      .rw [Jaq.mp h];exact il _ (Ja2 hr1)
   .have hc:¬ (0:Int) < ((ls.map V.int).length:Nat):=λz=>hc (Jaj z);rw [Jab] at hc;exact q p1 rs H2 ex hb2 hHp1 hp12 (by omega) ir
def Edge (H:Hp) (m:Int) (x:V):Prop:=∃ (t:Addr) (i j:Int),x = .ref t/\H t = some (.tup [.int i,.int j])/\0<=i/\i < m/\0<=j/\j < m
def Edges (H:Hp) (m:Int) (xs:List V):Prop:=∀ x ∈ xs,Edge H m x
theorem Edge.same {H H':Hp} {m:Int} {x:V} (e:Edge H m x) (s:Same H H'):Edge H' m x:=by
 refine Zia e λt i j h1 h2 h3=>?_;clear e;exact Zby t i j ⟨h1,s _ _ h2,h3⟩
theorem Edges.same {H H':Hp} {m:Int} {xs:List V} (e:Edges H m xs) (s:Same H H'):Edges H' m xs:=λx hx=>(e x hx).same s
theorem Edge.ext {H H':Hp} {m:Int} {l:Addr} {x:V} {ys:List V} (e:Edge H m x) (s:Ext l H H') (hl:H l = some (.lst ys)):Edge H' m x:=by
 refine Zia e λt i j h1 h2 h3=>?_;clear e;exact Zby t i j ⟨h1,s _ _ (Zeh h2 hl (by intro z; cases z)) h2,h3⟩
theorem Edges.ext {H H':Hp} {m:Int} {l:Addr} {xs ys:List V} (e:Edges H m xs) (s:Ext l H H') (hl:H l = some (.lst ys)):Edges H' m xs:=λx hx=>(e x hx).ext s hl
theorem Edges.nil {H:Hp} {m:Int}:Edges H m []:=λ_ h=>nomatch h
theorem Edges.snoc {H:Hp} {m:Int} {xs:List V} {x:V} (e:Edges H m xs) (h:Edge H m x):Edges H m (xs ++ [x]):=λy hy=>by
 rcases Jai.mp hy with z | z
 .exact e y z
 .rw [Jaq.mp z]; exact h
theorem Edges.append {H:Hp} {m:Int} {xs ys:List V} (e:Edges H m xs) (h:Edges H m ys):Edges H m (xs ++ ys):=λy hy=>by
 rcases Jai.mp hy with z | z
 .exact e y z
 .exact h y z
theorem Edges.lift {H:Hp} {m m':Int} {xs:List V} (e:Edges H m xs) (h:m<=m'):Edges H m' xs:=λy hy=>by
 refine Zbj (e y hy) λt i j h1 h2 h3 e99=>?_;refine Za9 e99 λh4 h5 h6=>?_;clear e99;exact Zby t i j ⟨h1,h2,h3,by omega,h5,by omega⟩
theorem Edges.put {H:Hp} {m:Int} {xs ys:List V} {p:Addr} {o:HO} (e:Edges H m xs) (hp:H p = some (.lst ys)):Edges (upd H p o) m xs:=e.ext (l:=p) Ext.set hp
structure Out (l:Addr) (H:Hp) (p e:Addr) (m:Int) (xs:List V) (H':Hp):Prop where
 ext:Ext l H H'
 bag:Bag H' l
 tup:H' p = some (.tup [.int m,.ref e])
 lst:H' e = some (.lst xs)
 new:H e = none
 lo:1<=m
 hi:m<=8
 len:xs.length<=9
 ed:Edges H' m xs
def Zid (K0:List V->Prop):Sp:=λvs H Q _=>∃ (l:Addr) (r:List V),vs = .ref l :: r/\K0 r/\Bag H l/\∀ p e m xs H',Out l H p e m xs H'->Q (.ref p) H'
def Ztq (r:List V):Prop:=∃ k:Int,r = [.int k]
def way0 (r:List V):Prop:=r = []
theorem Edge.mk {H:Hp} {p:Addr} {i j m:Int} (h1:0<=i) (h2:i < m) (h3:0<=j) (h4:j < m):Edge (upd H p (.tup [.int i,.int j])) m (.ref p):=⟨p,i,j,rfl,Zac,h1,h2,h3,h4⟩
theorem Edges.add {H:Hp} {p:Addr} {i j m:Int} {xs:List V} (e:Edges H m xs) (hp:H p = none) (h1:0<=i) (h2:i < m) (h3:0<=j) (h4:j < m):Edges (upd H p (.tup [.int i,.int j])) m (xs ++ [.ref p]):=
 (e.same (Same.new hp)).snoc (Edge.mk h1 h2 h3 h4)
theorem Zc3 {fr:List (Str × Nat)} {σ:L2.St} {t1 t2:TE} {lo m:Int} {n:Nat} {D:Addr} {H1:Hp} {Q:VK} (a b:Nat->Int) (hD:H1 D = none) (hn:n<=9)
  (h1:∀ i H Q,i < n->Q (.int (a i)) H->t1 (some (.int (lo + (i:Nat))) :: Zb8 fr σ) H Q) (h2:∀ i H Q,i < n->Q (.int (b i)) H->t2 (some (.int (lo + (i:Nat))) :: Zb8 fr σ) H Q)
  (hr:∀ i,i < n->0<=a i/\a i < m/\0<=b i/\b i < m) (hQ:∀ xs H',Same H1 H'->H' D = some (.lst xs)->xs.length = n->Edges H' m xs->Q (.ref D) H'):
  Zb9 (Zbi 0) Zgj (tTup (Ze1 t1 (Ze1 t2 Zp9))) (Itr lo n) D (Zh8 1 fr σ) H1 Q:=by
 refine Zk5 (λi vs H=>Same H1 H/\H D = some (.lst vs)/\vs.length = i/\Edges H m vs) ⟨Same.new hD,Zac,rfl,Edges.nil⟩ ?_ (λvs H ⟨s,e,l,d⟩=>hQ vs H s e l d);intro i x vs σ' H hi e91;obtain rfl:=e91;intro sh e92;refine Zcj e92 λs e hl d=>?_;clear e92;obtain ⟨z,rfl⟩:=sh.one;simp only [Zfx,Zbi,Zgj,List.set_cons_zero,Jcy,tTup,Ze1,Zp9];refine h1 i H _ hi (h2 i H _ hi ⟨by show 2<=sizeLine; decide,λp hp=>?_⟩);refine Zcj (hr i hi) λr1 r2 r3 r4=>?_;have nD:D ≠ p:=Zag e hp;have e':(upd H p (.tup [.int (a i),.int (b i)])) D = some (.lst vs):=by rw [Zah nD]; exact e
 exact Zok (ws:=vs ++ [.ref p]) hi Sh.mk1 e' (Zap (by omega)) ⟨(s.trans (Same.new hp)).upd hD,Zac,by rw [Jae,hl]; rfl,(d.add hp r1 r2 r3 r4).put e'⟩
theorem Out.fin {l p t:Addr} {m:Int} {xs:List V} {H H2:Hp} (ex:Ext l H H2) (b:Bag H2 l) (hp:H2 p = some (.lst xs)) (new:H p = none) (lo:1<=m) (hi:m<=8) (len:xs.length<=9) (d:Edges H2 m xs) (ht:H2 t = none):
  Out l H t p m xs (upd H2 t (.tup [.int m,.ref p])):=
 ⟨ex.trans (Ext.new ht),b.new (b.ne ht),Zac,by rw [Zah (Zag hp ht)]; exact hp,new,lo,hi,len,d.same (Same.new ht)⟩
theorem Bag.draw {H:Hp} {l:Addr} {n:Int} {Q:VK} {E:XK} (b:Bag H l) (h0:0 < n) (h1:n < 1000000000) (q:∀ (r:Int) (H':Hp),0<=r->r < n->Ext l H H'->Bag H' l->Q (.int r) H'):Zdg [.ref l,.int n] H Q E:=by
 refine Zbl b λx y e y0 y1=>?_;clear b;exact Zke l x y n ⟨rfl,e,y0,y1,h0,h1,λr a' b' r0 r1 c0 c1=>q r _ r0 r1 Ext.set (Bag.set c0 c1)⟩
theorem Bag.lst {H:Hp} {l:Addr} (b:Bag H l):∃ ys,H l = some (.lst ys):=by
 refine Zbo b λx y e _=>?_;clear b;exact ⟨_,e⟩
theorem Edges.bag {H H':Hp} {m:Int} {l:Addr} {xs:List V} (e:Edges H m xs) (s:Ext l H H') (b:Bag H l):Edges H' m xs:=by
 obtain ⟨ys,h⟩:=b.lst;exact e.ext s h
theorem Zub {R:It->Hp->Prop} {l:Addr} {σ:L2.St} {H:Hp} {k:Int} (b:Bag H l) (h0:0 < k) (h1:k < 1000000000) (q:∀ (n:Int) (H3:Hp),0<=n->n < k->Ext l H H3->Bag H3 l->R (Itr 0 n.toNat) H3):
  Zsd (Ze1 (Zo4 Zdg [] E0 (Ze1 (Zho 0) (Ze1 (tC (.int k)) Zp9))) Zp9) (some (.ref l) :: σ) H R:=by
 refine ⟨_,rfl,?_⟩;simp only [Ze1,tC,Zp9,Jcp];exact b.draw h0 h1 λn H3 n0 n1 e3 b3=>⟨n,rfl,by omega,by omega,q n H3 n0 n1 e3 b3⟩
theorem ok_rest {f:Addr} {fd:FuncData} (F:Fun K "_law_rest_edges" "_law_rest_edges" Zcw f fd) (T:Txt K mg C G S) (C_law_draw:Cal P w K mg base "_law_draw" 1 Zdg):FnOk P w K mg base CX0 2 f fd ["_law_bag_here","_law_way"] (Zid Ztq):=by
 have nd:=Zdw.nd;refine F.ok Zdw (λvs H Q E h=>?_) (λcdv A outer s H vs Q E hr h=>?_)
 .refine Zbl h λl r e910 e911 _=>?_;clear h;obtain rfl:=e910;obtain ⟨k,rfl⟩:=e911;rfl
 .refine Zdv h λl r e912 e913 hb q=>?_;clear h;obtain rfl:=e912;obtain ⟨k,rfl⟩:=e913;refine ⟨_,((Zak (i:=2) nd rfl (Or.inl rfl) (@Zbm _ _ _ _ Zaa))<*>((Zak (i:=3) nd rfl (Or.inl rfl) (Zay<|>Zab<&&>(Za6 C_law_draw hr.m rfl ((pvr 0)<&>(Zab<&>Zaa)))))<*>((@Za1 _ _ _ _ _ _ _ _ (Zao (Zif Zcc) (pvr 1) Zab (Zam _)) (@Zal _ _ _ (Zbh Jan rfl (Zm7 rfl T.n_range (Zab<&>((pv 3)<&>Zaa))) (@Zae _ _ 4 _ nd rfl (Or.inl rfl) (Or.inl rfl)) (@Zal _ _ _ (@Za1 _ _ _ _ _ _ _ _ (Zao Ze0 (Za6 C_law_draw hr.m rfl ((pvr 0)<&>(Zab<&>Zaa))) Zab (Zam _)) (@Zal _ _ _ (Zb2 (Zez Jax Jay Jaz (mtJ Zba) (pvr 2) ((@Zas _ _ _ _ _ (((Zj3 Zbp)<|>(pvr 4)<&&>Zab)<&>((pvr 4)<&>Zaa)))<&>Zaa)))) Zan)))) (@Zal _ _ _ (@Za1 _ _ _ _ _ _ _ _ (Zao (Zif Zcc) (pvr 1) Zab (Zam _)) (@Zal _ _ _ (Zbh Jan rfl (Zdt rfl T.n_range ((Za6 C_law_draw hr.m rfl ((pv 0)<&>(Zab<&>Zaa)))<&>Zaa)) (@Zae _ _ 4 _ nd rfl (Or.inl rfl) (Or.inl rfl)) ((Zak (i:=5) nd rfl (Or.inl rfl) (Za6 C_law_draw hr.m rfl ((pvr 0)<&>((pvr 3)<&>Zaa))))<*>(@Zal _ _ _ (Zb2 (Zez Jax Jay Jaz (mtJ Zba) (pvr 2) ((@Zas _ _ _ _ _ ((pvr 5)<&>((Za6 C_law_draw hr.m rfl ((pvr 0)<&>((pvr 3)<&>Zaa)))<&>Zaa)))<&>Zaa))))))) (@Zal _ _ _ (Zbh Jan rfl (Zm7 rfl T.n_range (Zab<&>((pv 3)<&>Zaa))) (@Zae _ _ 4 _ nd rfl (Or.inl rfl) (Or.inl rfl)) (@Zal _ _ _ (Zb2 (Zez Jax Jay Jaz (mtJ Zba) (pvr 2) ((@Zas _ _ _ _ _ ((Za6 C_law_draw hr.m rfl ((pvr 0)<&>((pvr 4)<&>Zaa)))<&>((pvr 4)<&>Zaa)))<&>Zaa)))))))))<*>(~~~(@Zas _ _ _ _ _ ((pvr 3)<&>((pvr 2)<&>Zaa))))))),?_⟩;walk_at "wp";refine ⟨by decide,λp hp=>?_⟩;have hpl:=hb.ne hp;refine (hb.new hpl).draw (by decide) (by decide) λx H2 x0 x1 e2 b2=>⟨x,rfl,?_⟩
  have hp2:H2 p = some (.lst []):=e2 _ _ hpl Zac;have ex2:Ext l H H2:=(Ext.new hp).trans e2;have fin:∀ (σ:L2.St) (H3:Hp) (xs:List V) (v v5:Option V),σ = [some (.ref l),some (.int k),some (.ref p),some (.int (1 + x)),v,v5]->Ext l H H3->Bag H3 l->H3 p = some (.lst xs)->xs.length<=9->Edges H3 (1 + x) xs->
    tRet (tTup (Ze1 (tVr 3) (Ze1 (tVr 2) Zp9))) { nx:=λx H'=>Q V.non H',rt:=Q } σ H3:=by
   rintro σ H3 xs v v5 rfl ex b hx hl d;exact ⟨by show 2<=sizeLine; decide,λt ht=>q _ _ _ _ _ (Out.fin ex b hx hp (by omega) (by omega) hl d ht)⟩
  have Iv:∀ (_:Nat),True:=λ_=>trivial;refine Zbx (λ_=>?_) (λ_=>Zbx (λ_=>?_) (λ_=>?_))
  .refine ⟨_,rfl,1,1 + x,rfl,⟨by decide,by decide,by omega,by omega⟩,Za2 (λi σ H3=>∃ (xs:List V) (v v5:Option V),σ = [some (.ref l),some (.int k),some (.ref p),some (.int (1 + x)),v,v5]/\Ext l H H3/\Bag H3 l/\H3 p = some (.lst xs)/\xs.length<=i/\Edges H3 (1 + x) xs)
    ⟨[],none,none,rfl,ex2,b2,hp2,Jaf _,Edges.nil⟩ ?_ ?_⟩
   .intro i σ H3 hi e93;refine Zbj e93 λxs v v5 e914 ex b e915=>?_;clear e93;obtain rfl:=e914;refine Za9 e915 λhx hl d=>?_;clear e915;walk_at "wp";refine b.draw (by decide) (by decide) λr H4 r0 r1 e4 b4=>⟨r,rfl,Zbx (λ_=>?_) (λ_=>?_)⟩
    .have hx4:H4 p = some (.lst xs):=e4 _ _ hpl hx;refine ⟨.inl ⟨rfl,_,SqL.of hx4⟩,by decide,λt ht=>?_⟩;have nt:p ≠ t:=Zag hx4 ht;have hx5:(upd H4 t (.tup [.int (1 + (i:Int) - 1),.int (1 + (i:Int))])) p = some (.lst xs):=by rw [Zah nt]; exact hx4
     refine ⟨_,hx5,Zap (by omega),xs ++ [.ref t],_,_,⟨rfl,rfl⟩,((ex.trans e4).trans (Ext.new ht)).upd hp,(b4.new (b4.ne ht)).new hpl,Zac,by rw [Jae]; show _ + 1<=_; omega,((d.bag e4 b).add ht (by omega) (by omega) (by omega) (by omega)).put hx5⟩
    .exact Zby xs _ _ ⟨⟨rfl,rfl⟩,ex.trans e4,b4,e4 _ _ hpl hx,by omega,d.bag e4 b⟩
   .intro σ H3 e94;refine Zbj e94 λxs v v5 e916 ex b e917=>?_;clear e94;obtain rfl:=e916;refine Za9 e917 λhx hl d=>?_;clear e917;exact fin _ H3 xs v v5 rfl ex b hx (by omega) d
  .refine Zub b2 (by decide) (by decide) λn H3 n0 n1 e3 b3=>?_;refine (Za2 (λi σ H3=>∃ (xs:List V) (v v5:Option V),σ = [some (.ref l),some (.int k),some (.ref p),some (.int (1 + x)),v,v5]/\Ext l H H3/\Bag H3 l/\H3 p = some (.lst xs)/\xs.length<=i/\Edges H3 (1 + x) xs)
    ⟨[],none,none,rfl,ex2.trans e3,b3,e3 _ _ hpl hp2,Jaf _,Edges.nil⟩ ?_ ?_)
   .intro i σ H3 hi e95;refine Zbj e95 λxs v v5 e918 ex b e919=>?_;clear e95;obtain rfl:=e918;refine Za9 e919 λhx hl d=>?_;clear e919;walk_at "wp";refine b.draw (by omega) (by omega) λr H4 r0 r1 e4 b4=>?_;refine ⟨.inl ⟨rfl,_,SqL.of (e4 _ _ hpl hx)⟩,b4.draw (by omega) (by omega) λr' H5 r0' r1' e5 b5=>⟨by decide,λt ht=>?_⟩⟩;have hx4:H5 p = some (.lst xs):=e5 _ _ hpl (e4 _ _ hpl hx);have nt:p ≠ t:=Zag hx4 ht;have hx5:(upd H5 t (.tup [.int r,.int r'])) p = some (.lst xs):=by rw [Zah nt]; exact hx4
    refine ⟨_,hx5,Zap (by omega),xs ++ [.ref t],_,_,⟨rfl,rfl⟩,(((ex.trans e4).trans e5).trans (Ext.new ht)).upd hp,(b5.new (b5.ne ht)).new hpl,Zac,by rw [Jae]; show _ + 1<=_; omega,(((d.bag e4 b).bag e5 b4).add ht r0 r1 r0' r1').put hx5⟩
   .intro σ H3 e96;refine Zbj e96 λxs v v5 e920 ex b e921=>?_;clear e96;obtain rfl:=e920;refine Za9 e921 λhx hl d=>?_;clear e921;exact fin _ H3 xs v v5 rfl ex b hx (by omega) d
  .refine ⟨_,rfl,1,1 + x,rfl,⟨by decide,by decide,by omega,by omega⟩,Za2 (λi σ H3=>∃ (xs:List V) (v v5:Option V),σ = [some (.ref l),some (.int k),some (.ref p),some (.int (1 + x)),v,v5]/\Ext l H H3/\Bag H3 l/\H3 p = some (.lst xs)/\xs.length<=i/\Edges H3 (1 + x) xs)
    ⟨[],none,none,rfl,ex2,b2,hp2,Jaf _,Edges.nil⟩ ?_ ?_⟩
   .intro i σ H3 hi e97;refine Zbj e97 λxs v v5 e922 ex b e923=>?_;clear e97;obtain rfl:=e922;refine Za9 e923 λhx hl d=>?_;clear e923;walk_at "wp";refine ⟨.inl ⟨rfl,_,SqL.of hx⟩,b.draw (by omega) (by omega) λr H4 r0 r1 e4 b4=>⟨by decide,λt ht=>?_⟩⟩;have hx4:H4 p = some (.lst xs):=e4 _ _ hpl hx;have nt:p ≠ t:=Zag hx4 ht;have hx5:(upd H4 t (.tup [.int r,.int (1 + (i:Int))])) p = some (.lst xs):=by rw [Zah nt]; exact hx4
    refine ⟨_,hx5,Zap (by omega),xs ++ [.ref t],_,_,⟨rfl,rfl⟩,((ex.trans e4).trans (Ext.new ht)).upd hp,(b4.new (b4.ne ht)).new hpl,Zac,by rw [Jae]; show _ + 1<=_; omega,((d.bag e4 b).add ht r0 (by omega) (by omega) (by omega)).put hx5⟩
   .intro σ H3 e98;refine Zbj e98 λxs v v5 e924 ex b e925=>?_;clear e98;obtain rfl:=e924;refine Za9 e925 λhx hl d=>?_;clear e925;exact fin _ H3 xs v v5 rfl ex b hx (by omega) d
theorem Bag.same {H H':Hp} {l:Addr} (b:Bag H l) (s:Same H H'):Bag H' l:=by
 refine Zbl b λx y e h1 h2=>?_;clear b;exact Zau x y ⟨s _ _ e,h1,h2⟩
theorem Out.done {l p t:Addr} {m:Int} {xs:List V} {H H2 H5:Hp} (ex:Ext l H H2) (b:Bag H2 l) (s:Same H2 H5) (hp:H5 p = none) (lo:1<=m) (hi:m<=8) (len:xs.length<=9) (d:Edges H5 m xs) (ht:(upd H5 p (.lst xs)) t = none):
  Out l H t p m xs (upd (upd H5 p (.lst xs)) t (.tup [.int m,.ref p])):=
 have b5:=b.same s;have e5:Ext l H H5:=ex.trans s.ext
 Out.fin (e5.trans (Ext.new hp)) (b5.new (b5.ne hp)) Zac (e5.free (b5.ne hp) hp) lo hi len (d.same (Same.new hp)) ht
theorem Edges.sub {H:Hp} {m:Int} {xs ys:List V} (e:Edges H m xs) (h:∀ y ∈ ys,y ∈ xs):Edges H m ys:=λy hy=>e y (h y hy)
theorem ok_bad {f:Addr} {fd:FuncData} (F:Fun K "_law_bad_edges" "_law_bad_edges" Zc9 f fd) (T:Txt K mg C G S) (C_law_draw:Cal P w K mg base "_law_draw" 1 Zdg):FnOk P w K mg base CX0 2 f fd ["_law_bag_here"] (Zid way0):=by
 have nd:=Zet.nd;refine F.ok Zet (λvs H Q E h=>?_) (λcdv A outer s H vs Q E hr h=>?_)
 .refine Zbl h λl r e91 e92 _=>?_;clear h;obtain rfl:=e91;obtain rfl:=e92;rfl
 .refine Zdv h λl r e93 e94 hb q=>?_;clear h;obtain rfl:=e93;obtain rfl:=e94;refine ⟨_,((Zak (i:=1) nd rfl (Or.inl rfl) (Za6 C_law_draw hr.m rfl ((pvr 0)<&>(Zab<&>Zaa))))<*>((@Za1 _ _ _ _ _ _ _ _ (Zao Zcc (pvr 1) Zab (Zam _)) ((Zak (i:=2) nd rfl (Or.inr rfl) (Zay<|>Zab<&&>(Za6 C_law_draw hr.m rfl ((pvr 0)<&>(Zab<&>Zaa)))))<*>(~~~(@Zas _ _ _ _ _ ((pvr 2)<&>((Zbf (own:=["_law_k"]) (fr:=[("_law_many",2)]) rfl (Zcn (by kernel_rfl)) (Zdt rfl T.n_range ((pv 2)<&>Zaa)) (λ_ _ _ _=>⟨(@Zae _ _ 0 _ (show (["_law_k","_law_many"]:List Str).Nodup by decide +kernel) rfl (Or.inl rfl) (Or.inr rfl)),Zbb,(@Zas _ _ _ _ _ ((pv 0)<&>((Zcb<|>(Zay<|>(pv 0)<&&>Zab)<&&>(pv 1))<&>Zaa)))⟩))<&>Zaa))))) Zan)<*>((@Za1 _ _ _ _ _ _ _ _ (Zao Zcc (pvr 1) Zab (Zam _)) ((Zak (i:=2) nd rfl (Or.inr rfl) (Zay<|>Zab<&&>(Za6 C_law_draw hr.m rfl ((pvr 0)<&>(Zab<&>Zaa)))))<*>(~~~(@Zas _ _ _ _ _ ((pvr 2)<&>((Zbf (own:=["_law_k"]) (fr:=[]) rfl (Zcn (by kernel_rfl)) (Zm7 rfl T.n_range (Zab<&>((pv 2)<&>Zaa))) (λ_ _ _ _=>⟨(@Zae _ _ 0 _ (show (["_law_k"]:List Str).Nodup by decide +kernel) rfl (Or.inl rfl) (Or.inr rfl)),Zbb,(@Zas _ _ _ _ _ (Zab<&>((pv 0)<&>Zaa)))⟩))<&>Zaa))))) Zan)<*>((@Za1 _ _ _ _ _ _ _ _ (Zao Zcc (pvr 1) Zab (Zam _)) ((Zak (i:=3) nd rfl (Or.inl rfl) (Zay<|>Zab<&&>(Za6 C_law_draw hr.m rfl ((pvr 0)<&>(Zab<&>Zaa)))))<*>((Zhf (i:=4) (own:=["_law_k"]) (fr:=[]) rfl (Zcn (by kernel_rfl)) (Zdt rfl T.n_range ((Zbp<|>(pv 3)<&&>Zab)<&>Zaa)) (λ_ _ _ _=>⟨(@Zae _ _ 0 _ (show (["_law_k"]:List Str).Nodup by decide +kernel) rfl (Or.inl rfl) (Or.inr rfl)),Zbb,(@Zas _ _ _ _ _ ((pv 0)<&>((Zay<|>(pv 0)<&&>Zab)<&>Zaa)))⟩) nd rfl rfl rfl)<*>(~~~(@Zas _ _ _ _ _ ((Zay<|>(pvr 3)<&&>Zab)<&>((Zgu<|>(pvr 4)<&&>(@Zbm _ _ _ _ ((@Zas _ _ _ _ _ (Zab<&>((pvr 3)<&>Zaa)))<&>((@Zas _ _ _ _ _ (Zab<&>((Zay<|>(pvr 3)<&&>Zab)<&>Zaa)))<&>((@Zas _ _ _ _ _ ((Zbp<|>(pvr 3)<&&>Zab)<&>((Zay<|>(pvr 3)<&&>Zab)<&>Zaa)))<&>((@Zas _ _ _ _ _ ((Zbp<|>(pvr 3)<&&>Zab)<&>((Zay<|>(pvr 3)<&&>Zab)<&>Zaa)))<&>Zaa))))))<&>Zaa)))))) Zan)<*>((@Za1 _ _ _ _ _ _ _ _ (Zao Zcc (pvr 1) Zab (Zam _)) ((Zak (i:=2) nd rfl (Or.inr rfl) (Zay<|>Zab<&&>(Za6 C_law_draw hr.m rfl ((pvr 0)<&>(Zab<&>Zaa)))))<*>(~~~(@Zas _ _ _ _ _ ((pvr 2)<&>((@Zdl _ _ _ _ _ _ _ _ _ _ Ze2 (@Zbm _ _ _ _ ((@Zas _ _ _ _ _ (Zab<&>(Zab<&>Zaa)))<&>((@Zas _ _ _ _ _ (Zab<&>(Zab<&>Zaa)))<&>((@Zas _ _ _ _ _ (Zab<&>(Zab<&>Zaa)))<&>((@Zas _ _ _ _ _ (Zab<&>(Zab<&>Zaa)))<&>((@Zas _ _ _ _ _ (Zab<&>(Zab<&>Zaa)))<&>((@Zas _ _ _ _ _ (Zab<&>(Zab<&>Zaa)))<&>((@Zas _ _ _ _ _ (Zab<&>(Zab<&>Zaa)))<&>Zaa)))))))) Zgd (@Zef _ _ _ (Zbp<|>(pvr 2)<&&>Zab)))<&>Zaa))))) Zan)<*>(~~~(@Zas _ _ _ _ _ (Zab<&>((@Zbm _ _ _ _ ((@Zas _ _ _ _ _ (Zab<&>(Zab<&>Zaa)))<&>((@Zas _ _ _ _ _ (Zab<&>(Zab<&>Zaa)))<&>((@Zas _ _ _ _ _ (Zab<&>(Zab<&>Zaa)))<&>((@Zas _ _ _ _ _ (Zab<&>(Zab<&>Zaa)))<&>((@Zas _ _ _ _ _ (Zab<&>(Zab<&>Zaa)))<&>((@Zas _ _ _ _ _ (Zab<&>(Zab<&>Zaa)))<&>((@Zas _ _ _ _ _ (Zab<&>(Zab<&>Zaa)))<&>Zaa))))))))<&>Zaa))))))))),?_⟩;walk_at "wp";refine hb.draw (by decide) (by decide) λz H1 z0 z1 e1 b1=>⟨rfl,Zbx (λ_=>?_) (λ_=>⟨rfl,Zbx (λ_=>?_) (λ_=>⟨rfl,Zbx (λ_=>?_) (λ_=>⟨rfl,Zbx (λ_=>?_) (λ_=>?_)⟩)⟩)⟩)⟩
  .refine b1.draw (by decide) (by decide) λr H2 r0 r1 e2 b2=>⟨r,rfl,?_⟩
   refine ⟨_,rfl,1 + r,rfl,by omega,by omega,λD hD=>Zc3 (m:=1 + r) (λi=>0 + (i:Int)) (λi=>(0 + (i:Int) + 1) % (1 + r)) hD (by omega) (λi H Q _ h=>⟨_,rfl,h⟩) (λi H Q _ h=>⟨_,rfl,_,_,rfl,rfl,_,rfl,_,_,rfl,rfl,by omega,h⟩)
    (λi hi=>⟨by omega,by omega,Zj4 _ _ (by omega),Zj5 _ _ (by omega)⟩) λxs H' s e hl d=>⟨by decide,λt ht=>?_⟩⟩
   have n1:=b2.ne hD;have ex:Ext l H H2:=e1.trans e2;refine Zbl (id b2) λya yb ye y0 y1=>?_;exact q _ _ _ _ _ (Out.fin (ex.trans s.ext) ⟨ya,yb,s _ _ ye,y0,y1⟩ e (ex.free n1 hD) (by omega) (by omega) (by omega) d ht)
  .refine b1.draw (by decide) (by decide) λr H2 r0 r1 e2 b2=>⟨r,rfl,?_⟩
   refine ⟨_,rfl,1,5 + r,rfl,⟨by decide,by decide,by omega,by omega⟩,λD hD=>Zc3 (m:=5 + r) (λi=>0) (λi=>1 + (i:Int)) hD (by omega) (λi H Q _ h=>h) (λi H Q _ h=>⟨_,rfl,h⟩)
    (λi hi=>⟨by omega,by omega,by omega,by omega⟩) λxs H' s e hl d=>⟨by decide,λt ht=>?_⟩⟩
   have n1:=b2.ne hD;have ex:Ext l H H2:=e1.trans e2;refine Zbl (id b2) λya yb ye y0 y1=>?_;exact q _ _ _ _ _ (Out.fin (ex.trans s.ext) ⟨ya,yb,s _ _ ye,y0,y1⟩ e (ex.free n1 hD) (by omega) (by omega) (by omega) d ht)
  .refine b1.draw (by decide) (by decide) λr H2 r0 r1 e2 b2=>⟨r,rfl,?_⟩
   refine ⟨_,rfl,_,_,rfl,rfl,_,rfl,by omega,by omega,λD hD=>Zc3 (m:=2 + r) (λi=>0 + (i:Int)) (λi=>0 + (i:Int) + 1) hD (by omega) (λi H Q _ h=>⟨_,rfl,h⟩) (λi H Q _ h=>⟨_,rfl,_,_,rfl,rfl,h⟩)
    (λi hi=>⟨by omega,by omega,by omega,by omega⟩) λxs H' s e hl d=>?_⟩
   refine ⟨by decide,λp1 h1=>⟨by decide,λp2 h2=>⟨by decide,λp3 h3=>⟨by decide,λp4 h4=>⟨by decide,λp5 h5=>?_⟩⟩⟩⟩⟩;have D1:=(Edges.nil (H:=H') (m:=2 + r + 4)).add (i:=0) (j:=2 + r) h1 (by omega) (by omega) (by omega) (by omega);have D2:=D1.add (i:=0) (j:=2 + r + 1) h2 (by omega) (by omega) (by omega) (by omega);have D3:=D2.add (i:=2 + r - 1) (j:=2 + r + 2) h3 (by omega) (by omega) (by omega) (by omega);have D4:=D3.add (i:=2 + r - 1) (j:=2 + r + 3) h4 (by omega) (by omega) (by omega) (by omega);have S5:=((((Same.new h1).trans (Same.new h2)).trans (Same.new h3)).trans (Same.new h4)).trans (Same.new (o:=.lst [.ref p1,.ref p2,.ref p3,.ref p4]) h5);refine ⟨D,rfl,xs,S5 _ _ e,_,Zac,Zap (by show xs.length + 4<=1000; omega) |> Jb3,λp6 h6=>⟨by decide,λp7 h7=>?_⟩⟩;exact q _ _ _ _ _ (Out.done (e1.trans e2) b2 (s.trans S5) h6 (by omega) (by omega) (by rw [Jae]; show xs.length + 4<=9; omega) (Edges.append ((d.lift (by omega)).same S5) (D4.same (Same.new h5))) h7)
  .refine b1.draw (by decide) (by decide) λr H2 r0 r1 e2 b2=>⟨r,rfl,?_⟩
   refine ⟨by decide,λp1 h1=>⟨by decide,λp2 h2=>⟨by decide,λp3 h3=>⟨by decide,λp4 h4=>⟨by decide,λp5 h5=>⟨by decide,λp6 h6=>⟨by decide,λp7 h7=>⟨by decide,λp8 h8=>⟨_,SqL.of Zac,λp9 h9=>⟨by decide,λp10 h10=>?_⟩⟩⟩⟩⟩⟩⟩⟩⟩⟩;have D1:=(Edges.nil (H:=H2) (m:=7)).add (i:=0) (j:=1) (m:=7) h1 (by omega) (by omega) (by omega) (by omega);have D2:=D1.add (i:=1) (j:=2) (m:=7) h2 (by omega) (by omega) (by omega) (by omega);have D3:=D2.add (i:=0) (j:=3) (m:=7) h3 (by omega) (by omega) (by omega) (by omega);have D4:=D3.add (i:=3) (j:=4) (m:=7) h4 (by omega) (by omega) (by omega) (by omega);have D5:=D4.add (i:=0) (j:=5) (m:=7) h5 (by omega) (by omega) (by omega) (by omega);have D6:=D5.add (i:=5) (j:=6) (m:=7) h6 (by omega) (by omega) (by omega) (by omega);have S8:=(((((((Same.new h1).trans (Same.new h2)).trans (Same.new h3)).trans (Same.new h4)).trans (Same.new h5)).trans (Same.new h6)).trans (Same.new h7)).trans (Same.new (o:=.lst [.ref p1,.ref p2,.ref p3,.ref p4,.ref p5,.ref p6,.ref p7]) h8);have E6:=D6.same ((Same.new (o:=.tup [.int 6,.int 7]) h7).trans (Same.new (o:=.lst [.ref p1,.ref p2,.ref p3,.ref p4,.ref p5,.ref p6,.ref p7]) h8));rcases (show r = 0\/r = 1 by omega) with rfl | rfl
   .exact q _ _ _ _ _ (Out.done (e1.trans e2) b2 S8 h9 (by decide) (by decide) (Jav (Zcr _ _ _) (by show 7<=9; decide)) (E6.lift (by decide)) h10)
   .exact q _ _ _ _ _ (Out.done (e1.trans e2) b2 S8 h9 (by decide) (by decide) (Jav (Zcr _ _ _) (by show 7<=9; decide)) (((D6.lift (m':=8) (by decide)).add (i:=6) (j:=7) h7 (by decide) (by decide) (by decide) (by decide)).same (Same.new h8)) h10)
  .refine ⟨by decide,λp1 h1=>⟨by decide,λp2 h2=>⟨by decide,λp3 h3=>⟨by decide,λp4 h4=>⟨by decide,λp5 h5=>⟨by decide,λp6 h6=>⟨by decide,λp7 h7=>⟨by decide,λp8 h8=>⟨by decide,λp9 h9=>?_⟩⟩⟩⟩⟩⟩⟩⟩⟩;have D1:=(Edges.nil (H:=H1) (m:=8)).add (i:=0) (j:=1) (m:=8) h1 (by omega) (by omega) (by omega) (by omega);have D2:=D1.add (i:=0) (j:=2) (m:=8) h2 (by omega) (by omega) (by omega) (by omega);have D3:=D2.add (i:=2) (j:=3) (m:=8) h3 (by omega) (by omega) (by omega) (by omega);have D4:=D3.add (i:=3) (j:=4) (m:=8) h4 (by omega) (by omega) (by omega) (by omega);have D5:=D4.add (i:=0) (j:=5) (m:=8) h5 (by omega) (by omega) (by omega) (by omega);have D6:=D5.add (i:=5) (j:=6) (m:=8) h6 (by omega) (by omega) (by omega) (by omega);have D7:=D6.add (i:=6) (j:=7) (m:=8) h7 (by omega) (by omega) (by omega) (by omega);exact q _ _ _ _ _ (Out.done e1 b1 (((((((Same.new h1).trans (Same.new h2)).trans (Same.new h3)).trans (Same.new h4)).trans (Same.new h5)).trans (Same.new h6)).trans (Same.new h7)) h8 (by decide) (by decide) (by show 7<=9; decide) D7 h9)
theorem Zuy {f:Addr} {fd:FuncData} (F:Fun K "_law_edges" "_law_edges" Zf9 f fd) (T:Txt K mg C G S) (C_law_draw:Cal P w K mg base "_law_draw" 1 Zdg) (C_law_bad_edges:Cal P w K mg base "_law_bad_edges" 2 (Zid way0)) (C_law_rest_edges:Cal P w K mg base "_law_rest_edges" 2 (Zid Ztq)):FnOk P w K mg base CX0 3 f fd ["_law_bag_here","_law_way"] (Zid Ztq):=by
 have nd:=Zhy.nd;refine F.ok Zhy (λvs H Q E h=>?_) (λcdv A outer s H vs Q E hr h=>?_)
 .refine Zbl h λl r e92 e93 _=>?_;clear h;obtain rfl:=e92;obtain ⟨k,rfl⟩:=e93;rfl
 .refine Zdv h λl r e94 e95 hb q=>?_;clear h;obtain rfl:=e94;obtain ⟨k,rfl⟩:=e95;refine ⟨_,((@Za1 _ _ _ _ _ _ _ _ (Zao (Zj3 Zhg) (pvr 1) Zab (Zam _)) ((Zak (i:=2) nd rfl (Or.inl rfl) (Zay<|>Zab<&&>(Za6 C_law_draw hr.m rfl ((pvr 0)<&>(Zab<&>Zaa)))))<*>(~~~(@Zas _ _ _ _ _ ((pvr 2)<&>((Zbf (own:=["_law_k"]) (fr:=[]) rfl (Zcn (by kernel_rfl)) (Zdt rfl T.n_range ((Zbp<|>(pv 2)<&&>Zab)<&>Zaa)) (λ_ _ _ _=>⟨(@Zae _ _ 0 _ (show (["_law_k"]:List Str).Nodup by decide +kernel) rfl (Or.inl rfl) (Or.inr rfl)),Zbb,(@Zas _ _ _ _ _ ((pv 0)<&>((Zay<|>(pv 0)<&&>Zab)<&>Zaa)))⟩))<&>Zaa))))) Zan)<*>((@Za1 _ _ _ _ _ _ _ _ (Zao (Zif Zcc) (pvr 1) Zab (Zam _)) ((Zak (i:=2) nd rfl (Or.inl rfl) (Zay<|>Zab<&&>(Za6 C_law_draw hr.m rfl ((pvr 0)<&>(Zab<&>Zaa)))))<*>(~~~(@Zas _ _ _ _ _ ((pvr 2)<&>((Zgu<|>(@Zbm _ _ _ _ ((@Zas _ _ _ _ _ (Zab<&>(Zab<&>Zaa)))<&>((@Zas _ _ _ _ _ (Zab<&>(Zab<&>Zaa)))<&>((@Zas _ _ _ _ _ (Zab<&>(Zab<&>Zaa)))<&>Zaa))))<&&>(Zbf (own:=["_law_k"]) (fr:=[]) rfl (Zcn (by kernel_rfl)) (Zm7 rfl T.n_range (Zab<&>((Zbp<|>(pv 2)<&&>Zab)<&>Zaa))) (λ_ _ _ _=>⟨(@Zae _ _ 0 _ (show (["_law_k"]:List Str).Nodup by decide +kernel) rfl (Or.inl rfl) (Or.inr rfl)),Zbb,(@Zas _ _ _ _ _ ((pv 0)<&>((Zay<|>(pv 0)<&&>Zab)<&>Zaa)))⟩)))<&>Zaa))))) Zan)<*>((@Za1 _ _ _ _ _ _ _ _ (Zao (Zif Zcc) (pvr 1) Zab (Zam _)) ((Zak (i:=2) nd rfl (Or.inl rfl) (Zay<|>Zab<&&>(Za6 C_law_draw hr.m rfl ((pvr 0)<&>(Zab<&>Zaa)))))<*>(~~~(@Zas _ _ _ _ _ ((pvr 2)<&>((Zgu<|>(@Zbm _ _ _ _ ((@Zas _ _ _ _ _ (Zab<&>(Zab<&>Zaa)))<&>((@Zas _ _ _ _ _ (Zab<&>(Zab<&>Zaa)))<&>((@Zas _ _ _ _ _ (Zab<&>(Zab<&>Zaa)))<&>((@Zas _ _ _ _ _ (Zab<&>(Zab<&>Zaa)))<&>Zaa)))))<&&>(Zbf (own:=["_law_k"]) (fr:=[]) rfl (Zcn (by kernel_rfl)) (Zm7 rfl T.n_range (Zab<&>((Zbp<|>(pv 2)<&&>Zab)<&>Zaa))) (λ_ _ _ _=>⟨(@Zae _ _ 0 _ (show (["_law_k"]:List Str).Nodup by decide +kernel) rfl (Or.inl rfl) (Or.inr rfl)),Zbb,(@Zas _ _ _ _ _ ((pv 0)<&>((Zay<|>(pv 0)<&&>Zab)<&>Zaa)))⟩)))<&>Zaa))))) Zan)<*>((@Za1 _ _ _ _ _ _ _ _ (Zao (Zif Zcc) (pvr 1) Zab (Zam _)) (~~~(Za6 C_law_bad_edges hr.m rfl ((pvr 0)<&>Zaa))) Zan)<*>(~~~(Za6 C_law_rest_edges hr.m rfl ((pvr 0)<&>((pvr 1)<&>Zaa)))))))),?_⟩;walk_at "wp";refine Zbx (λ_=>?_) (λ_=>Zbx (λ_=>?_) (λ_=>Zbx (λ_=>?_) (λ_=>Zbx (λ_=>⟨l,[],rfl,rfl,hb,q⟩) (λ_=>⟨l,[.int k],rfl,⟨k,rfl⟩,hb,q⟩))))
  .refine hb.draw (by decide) (by decide) λr H2 r0 r1 e2 b2=>⟨r,rfl,?_⟩
   refine ⟨_,rfl,_,_,rfl,rfl,_,rfl,by omega,by omega,λD hD=>Zc3 (m:=1 + r) (λi=>0 + (i:Int)) (λi=>0 + (i:Int) + 1) hD (by omega) (λi H Q _ h=>⟨_,rfl,h⟩) (λi H Q _ h=>⟨_,rfl,_,_,rfl,rfl,h⟩)
    (λi hi=>⟨by omega,by omega,by omega,by omega⟩) λxs H' s e hl d=>⟨by decide,λt ht=>?_⟩⟩
   exact q _ _ _ _ _ (Out.fin (e2.trans s.ext) (b2.same s) e (e2.free (b2.ne hD) hD) (by omega) (by omega) (by omega) d ht)
  .refine hb.draw (by decide) (by decide) λr H2 r0 r1 e2 b2=>⟨r,rfl,?_⟩
   refine ⟨by decide,λp1 h1=>⟨by decide,λp2 h2=>⟨by decide,λp3 h3=>⟨by decide,λp4 h4=>?_⟩⟩⟩⟩;have D1:=(Edges.nil (H:=H2) (m:=4 + r)).add (i:=0) (j:=1) h1 (by omega) (by omega) (by omega) (by omega);have D2:=D1.add (i:=0) (j:=2) h2 (by omega) (by omega) (by omega) (by omega);have D3:=D2.add (i:=0) (j:=3) h3 (by omega) (by omega) (by omega) (by omega);have S4:=(((Same.new h1).trans (Same.new h2)).trans (Same.new h3)).trans (Same.new (o:=.lst [.ref p1,.ref p2,.ref p3]) h4);refine ⟨_,rfl,_,_,rfl,rfl,_,_,rfl,⟨by decide,by decide,by omega,by omega⟩,λD hD=>Zc3 (m:=4 + r) (λi=>3 + (i:Int)) (λi=>3 + (i:Int) + 1) hD (by omega) (λi H Q _ h=>⟨_,rfl,h⟩) (λi H Q _ h=>⟨_,rfl,_,_,rfl,rfl,h⟩)
    (λi hi=>⟨by omega,by omega,by omega,by omega⟩) λxs H' s e hl d=>⟨D,rfl,_,s _ _ Zac,_,e,Jb3 (Zap (by show 3 + xs.length<=1000; omega)),λp6 h6=>⟨by decide,λp7 h7=>?_⟩⟩⟩
   exact q _ _ _ _ _ (Out.done e2 b2 (S4.trans s) h6 (by omega) (by omega) (by rw [Jae]; show 3 + xs.length<=9; omega) (Edges.append ((D3.same (Same.new h4)).same s) d) h7)
  .refine hb.draw (by decide) (by decide) λr H2 r0 r1 e2 b2=>⟨r,rfl,?_⟩
   refine ⟨by decide,λp1 h1=>⟨by decide,λp2 h2=>⟨by decide,λp3 h3=>⟨by decide,λp4 h4=>⟨by decide,λp5 h5=>?_⟩⟩⟩⟩⟩;have D1:=(Edges.nil (H:=H2) (m:=6 + r)).add (i:=0) (j:=1) h1 (by omega) (by omega) (by omega) (by omega);have D2:=D1.add (i:=0) (j:=2) h2 (by omega) (by omega) (by omega) (by omega);have D3:=D2.add (i:=2) (j:=3) h3 (by omega) (by omega) (by omega) (by omega);have D4:=D3.add (i:=0) (j:=4) h4 (by omega) (by omega) (by omega) (by omega);have S5:=((((Same.new h1).trans (Same.new h2)).trans (Same.new h3)).trans (Same.new h4)).trans (Same.new (o:=.lst [.ref p1,.ref p2,.ref p3,.ref p4]) h5);refine ⟨_,rfl,_,_,rfl,rfl,_,_,rfl,⟨by decide,by decide,by omega,by omega⟩,λD hD=>Zc3 (m:=6 + r) (λi=>4 + (i:Int)) (λi=>4 + (i:Int) + 1) hD (by omega) (λi H Q _ h=>⟨_,rfl,h⟩) (λi H Q _ h=>⟨_,rfl,_,_,rfl,rfl,h⟩)
    (λi hi=>⟨by omega,by omega,by omega,by omega⟩) λxs H' s e hl d=>⟨D,rfl,_,s _ _ Zac,_,e,Jb3 (Zap (by show 4 + xs.length<=1000; omega)),λp6 h6=>⟨by decide,λp7 h7=>?_⟩⟩⟩
   exact q _ _ _ _ _ (Out.done e2 b2 (S5.trans s) h6 (by omega) (by omega) (by rw [Jae]; show 4 + xs.length<=9; omega) (Edges.append ((D4.same (Same.new h5)).same s) d) h7)
theorem Zuz {f:Addr} {fd:FuncData} (F:Fun K "_law_drawn" "_law_drawn" Zga f fd) (T:Txt K mg C G S) (C_law_draw:Cal P w K mg base "_law_draw" 1 Zdg) (C_law_edges:Cal P w K mg base "_law_edges" 3 (Zid Ztq)) (C_law_order:Cal P w K mg base "_law_order" 2 Zmw):FnOk P w K mg base CX0 4 f fd ["_law_bag_here","_law_way"] (Zid Ztq):=by
 have nd:=Zhz.nd;refine F.ok Zhz (λvs H Q E h=>?_) (λcdv A outer s H vs Q E hr h=>?_)
 .refine Zbl h λl r e96 e97 _=>?_;clear h;obtain rfl:=e96;obtain ⟨k,rfl⟩:=e97;rfl
 .refine Zdv h λl r e98 e99 hb q=>?_;clear h;obtain rfl:=e98;obtain ⟨k,rfl⟩:=e99;refine ⟨_,((Zb3 (Za6 C_law_edges hr.m rfl ((pvr 0)<&>((pvr 1)<&>Zaa))) (@Zbv _ _ _ _ _ 2 rfl (@Zai _ _ _ _ _ (@Zae _ _ 2 _ nd rfl (Or.inl rfl) (Or.inl rfl)) (@Zai _ _ _ _ _ (@Zae _ _ 3 _ nd rfl (Or.inl rfl) (Or.inl rfl)) (@Za0 _) (by rfl)) (by rfl)) (by rfl) (by rfl)))<*>((Zak (i:=4) nd rfl (Or.inl rfl) (Za6 C_law_order hr.m rfl ((pvr 0)<&>((pvr 2)<&>Zaa))))<*>((Zak (i:=5) nd rfl (Or.inl rfl) (@Zbm _ _ _ _ Zaa))<*>((Zc0 Jan (Zcl Ze0 (Za3 Zaq rfl T.n_len Ja8 ((pv 3)<&>Zaa)) Zab (Zam _)) ((Zak (i:=6) nd rfl (Or.inl rfl) (Za6 C_law_draw hr.m rfl ((pvr 0)<&>((Za3 Zaq rfl T.n_len Ja8 ((pvr 3)<&>Zaa))<&>Zaa))))<*>((Zb3 (Zaj<|>(pvr 3)<||>(pvr 6)) (@Zbv _ _ _ _ _ 2 rfl (@Zai _ _ _ _ _ (@Zae _ _ 7 _ nd rfl (Or.inl rfl) (Or.inl rfl)) (@Zai _ _ _ _ _ (@Zae _ _ 8 _ nd rfl (Or.inl rfl) (Or.inl rfl)) (@Za0 _) (by rfl)) (by rfl)) (by rfl) (by rfl)))<*>((Zak (i:=3) nd rfl (Or.inl rfl) (Zgu<|>(@Zdl _ _ _ _ _ _ _ _ _ _ Ze2 (pvr 3) Zgd (@Zef _ _ _ (pvr 6)))<&&>(@Zdl _ _ _ _ _ _ _ _ _ _ Ze2 (pvr 3) (@Zef _ _ _ (Zay<|>(pvr 6)<&&>Zab)) Zgd)))<*>((@Za1 _ _ _ _ _ _ _ _ (Zao Zcc (Za6 C_law_draw hr.m rfl ((pvr 0)<&>(Zab<&>Zaa))) Zab (Zam _)) (@Zal _ _ _ (Zh3 (i:=7) (j:=8) rfl nd rfl rfl (by decide) rfl rfl ((pvr 8)<&>((pvr 7)<&>Zaa)) rfl)) Zan)<*>(@Zal _ _ _ (Zb2 (Zez Jax Jay Jaz (mtJ Zba) (pvr 5) ((@Zas _ _ _ _ _ ((Zaj<|>(pvr 4)<||>(pvr 7))<&>((Zaj<|>(pvr 4)<||>(pvr 8))<&>Zaa)))<&>Zaa)))))))))<*>(~~~(@Zas _ _ _ _ _ ((pvr 2)<&>((pvr 5)<&>Zaa)))))))),?_⟩;walk_at "wp";refine Zau l _ ⟨rfl,⟨k,rfl⟩,hb,λp e m xs H1 O=>⟨p,rfl,_,SqT.of O.tup,rfl,_,_,rfl,_,_,rfl,rfl,?_⟩⟩;have m0:=O.lo;have m8:=O.hi;refine Zau l m ⟨rfl,O.bag,by omega,O.hi,λpo ys H2 ex2 b2 hpo hpo2 hlen inr=>⟨by decide,λpa hpa=>?_⟩⟩;have nel:e ≠ l:=hb.ne O.new;have e2e:H2 e = some (.lst xs):=ex2 _ _ nel O.lst;have nal:pa ≠ l:=b2.ne hpa;have nae:e ≠ pa:=Zag e2e hpa;have nao:po ≠ pa:=Zag hpo2 hpa;have exH:Ext l H H2:=O.ext.trans ex2;have fpa:H pa = none:=exH.free nal hpa;have noe:e ≠ po:=(Zag O.lst hpo)
  have nol:po ≠ l:=O.bag.ne hpo;refine ⟨λn σ H3=>∃ (pl:Addr) (ls as:List V) (v6 v7 v8:Option V),σ = [some (.ref l),some (.int k),some (.int m),some (.ref pl),some (.ref po),some (.ref pa),v6,v7,v8]/\n = ls.length/\Ext l H H3/\Bag H3 l /\
   H3 pl = some (.lst ls)/\H3 po = some (.lst (ys.map V.int))/\H3 pa = some (.lst as)/\pl ≠ l/\pl ≠ pa/\ls.length + as.length<=9/\Edges H3 m ls/\Edges H3 m as,?_,?_⟩
  .exact Zth _ e xs [] none none none ⟨rfl,rfl,exH.trans (Ext.new hpa),b2.new nal,by rw [Zah nae]; exact e2e,by rw [Zah nao]; exact hpo2,Zac,nel,nae,by have:=O.len; simpa using this,(O.ed.bag ex2 O.bag).same (Same.new hpa),Edges.nil⟩
  .intro n σ H3 e91;refine Zpy e91 λpl ls as v6 v7 v8 e910 e911 ex e912=>?_;clear e91;obtain rfl:=e910;obtain rfl:=e911;refine Ztn e912 λb hpl hpo3 hpa3 n1 n2 hl dl da=>?_;clear e912;walk_at "wp";refine ⟨_,.inl (SqL.of hpl),Zbx (λhc=>?_) (λhc=>?_)⟩
   .have hc:=Ja0 hc;refine ⟨_,λ_ _ h=>h,?_⟩;walk_at "wp";refine ⟨_,.inl (SqL.of hpl),b.draw hc (by omega) λr H4 r0 r1 e4 b4=>?_⟩;have hr1:r.toNat < ls.length:=by omega
    have hpl4:=e4 _ _ n1 hpl;have hpo4:=e4 _ _ nol hpo3;have hpa4:=e4 _ _ nal hpa3;have dl4:=dl.bag e4 b;have da4:=da.bag e4 b;refine Zbj (dl4 _ (Ja2 hr1)) λt i j hx ht4 i0 e913=>?_;refine Za9 e913 λi1 j0 j1=>?_;clear e913;refine Zau ls r ⟨rfl,SqL.of hpl4,.ref t,Zb0 r0 (by rw [Jaa hr1,hx]),t,rfl,_,SqT.of ht4,rfl,_,_,rfl,_,_,rfl,rfl,r,rfl,ls,SqL.of hpl4,λp2 h2=>⟨r,rfl,ls,SqL.of (by rw [Zah (Zag hpl4 h2)]; exact hpl4),λp3 h3=>?_⟩⟩;have l1:=Zst ls r r0 (by omega);have l2:=Zsu ls (r + 1) (by omega) (by omega);have hNL:(Zew ls none (some r) ++ Zew ls (some (r + 1)) none).length < ls.length:=by
     rw [l1,l2,Jae,Jbb,Jb0]; omega
    refine ⟨Zew ls none (some r),by rw [Zah (Zag Zac h3)]; exact Zac,_,Zac,Jb3 (Zap (by rw [Jae] at hNL; omega)),λp4 h4=>?_⟩;have S6:=(Same.new (o:=.lst (Zew ls none (some r))) h2).trans (Same.new (o:=.lst (Zew ls (some (r + 1)) none)) h3);have S:=S6.trans (Same.new (o:=.lst (Zew ls none (some r) ++ Zew ls (some (r + 1)) none)) h4);have b7:=b4.same S;have p4nl:p4 ≠ l:=(b4.same S6).ne h4;have npa4:pa ≠ p4:=Zag (S6 _ _ hpa4) h4;refine b7.draw (by decide) (by decide) λz H8 z0 z1 e8 b8=>⟨rfl,?_⟩
    have pa8:=e8 _ _ nal (S _ _ hpa4);have po8:=e8 _ _ nol (S _ _ hpo4);have p48:=e8 _ _ p4nl Zac;have exH8:Ext l H H8:=(ex.trans e4).trans (S.ext.trans e8);have dN8:Edges H8 m (Zew ls none (some r) ++ Zew ls (some (r + 1)) none):=((dl4.sub λy hy=>by
     rw [l1,l2] at hy;rcases Jai.mp hy with h | h
     .exact Jcv h
     .exact Jd6 h).same S).bag e8 b7
    have da8:=(da4.same S).bag e8 b7;refine Zbx (λ_=>?_) (λ_=>?_)
    .
     refine Zau _ _ ⟨⟨rfl,rfl⟩,.inl ⟨rfl,_,SqL.of pa8⟩,_,j,rfl,SqL.of po8,V.int (ys[j.toNat]'(by omega)),Zb0 j0 (by rw [Jah,Jaa (by omega)]; rfl),_,i,rfl,SqL.of po8,V.int (ys[i.toNat]'(by omega)),Zb0 i0 (by rw [Jah,Jaa (by omega)]; rfl),by decide,λp5 h5=>?_⟩;have ia:=inr _ (Ja2 (show j.toNat < ys.length by omega));have ic:=inr _ (Ja2 (show i.toNat < ys.length by omega));have pa9:(upd H8 p5 (.tup [V.int (ys[j.toNat]'(by omega)),V.int (ys[i.toNat]'(by omega))])) pa = some (.lst as):=by rw [Zah (Zag pa8 h5)]; exact pa8
     have n5:p4 ≠ p5:=Zag p48 h5;have n5o:po ≠ p5:=Zag po8 h5;exact ⟨as,pa9,Zap (by omega),_,hNL,p4,_,as ++ [.ref p5],_,_,_,⟨rfl,rfl,rfl,rfl⟩,rfl,(exH8.trans (Ext.new h5)).upd fpa,(b8.new (b8.ne h5)).new nal,by rw [Zah npa4.symm,Zah n5]; exact p48,by rw [Zah nao,Zah n5o]; exact po8,Zac,p4nl,npa4.symm,
      by have hL:(as ++ [V.ref p5]).length = as.length + 1:=by { rw [Jae]; rfl }; rw [hL]; omega,(dN8.same (Same.new h5)).put pa9,(da8.add h5 ia.1 ia.2 ic.1 ic.2).put pa9⟩
    .
     refine ⟨.inl ⟨rfl,_,SqL.of pa8⟩,_,i,rfl,SqL.of po8,V.int (ys[i.toNat]'(by omega)),Zb0 i0 (by rw [Jah,Jaa (by omega)]; rfl),_,j,rfl,SqL.of po8,V.int (ys[j.toNat]'(by omega)),Zb0 j0 (by rw [Jah,Jaa (by omega)]; rfl),by decide,λp5 h5=>?_⟩;have ia:=inr _ (Ja2 (show i.toNat < ys.length by omega));have ic:=inr _ (Ja2 (show j.toNat < ys.length by omega));have pa9:(upd H8 p5 (.tup [V.int (ys[i.toNat]'(by omega)),V.int (ys[j.toNat]'(by omega))])) pa = some (.lst as):=by rw [Zah (Zag pa8 h5)]; exact pa8
     have n5:p4 ≠ p5:=Zag p48 h5;have n5o:po ≠ p5:=Zag po8 h5;exact ⟨as,pa9,Zap (by omega),_,hNL,p4,_,as ++ [.ref p5],_,_,_,⟨rfl,rfl,rfl,rfl⟩,rfl,(exH8.trans (Ext.new h5)).upd fpa,(b8.new (b8.ne h5)).new nal,by rw [Zah npa4.symm,Zah n5]; exact p48,by rw [Zah nao,Zah n5o]; exact po8,Zac,p4nl,npa4.symm,
      by have hL:(as ++ [V.ref p5]).length = as.length + 1:=by { rw [Jae]; rfl }; rw [hL]; omega,(dN8.same (Same.new h5)).put pa9,(da8.add h5 ia.1 ia.2 ic.1 ic.2).put pa9⟩
   .have hc:¬ (0:Int) < (ls.length:Nat):=λz=>hc (Jaj z);exact ⟨by decide,λt ht=>q _ _ _ _ _ (Out.fin ex b hpa3 fpa m0 m8 (by omega) da ht)⟩
theorem iteP {c A B:Prop} [Decidable c] (hc:c) (h:A):if c then A else B:=by rw [if_pos hc]; exact h
theorem Zj8 {c A B:Prop} [Decidable c] (hc:¬ c) (h:B):if c then A else B:=by rw [if_neg hc]; exact h
theorem Zgw {a D:Addr} {xs:List V} {fr:List (Str × Nat)} {σ:L2.St} {te:TE} {H1:Hp} {Q:VK} (fb:Nat->Bool) (ha:H1 a = some (.lst xs)) (hD:H1 D = none) (hn:xs.length<=1000)
  (h:∀ (i:Nat) x H (Q:VK),xs[i]? = some x->Same H1 H->(∀ H',Same H H'->Q (.bl (fb i)) H')->te (some x :: Zb8 fr σ) H Q)
  (hQ:∀ H',Same H1 H'->H' D = some (.lst (((List.range xs.length).map fb).map V.bl))->Q (.ref D) H'):Zb9 (Zbi 0) Zgj te (Itl K a) D (Zh8 1 fr σ) H1 Q:=by
 refine Zfo (xs:=xs) (λi vs H=>Same H1 H/\H D = some (.lst vs)/\vs = ((List.range i).map fb).map V.bl) ⟨Same.new hD,Zac,rfl⟩ (λi vs H _ p=>SqL.of (p.1 _ _ ha)) ?_ (λvs H ⟨s,e,hv⟩=>hQ H s (by rw [e,hv]));intro i x vs σ' H hi hx sh e91;refine Za9 e91 λs e e93=>?_;clear e91;obtain rfl:=e93;obtain ⟨z,rfl⟩:=sh.one;simp only [Zfx,Zbi,Zgj,List.set_cons_zero,Jcy];refine h i x H _ hx s λH' s'=>?_;exact Zok (ws:=((List.range (i + 1)).map fb).map V.bl) hi Sh.mk1 (s' _ _ e) (Zap (by rw [Jab,Jab,Ja4]; omega)) ⟨(s.trans s').upd hD,by rw [Zac,Jb7,Ja1,Ja1]; rfl,rfl⟩
theorem Zsy {a D:Addr} {xs:List V} {fr:List (Str × Nat)} {σ:L2.St} {te:TE} {H1:Hp} {Q:VK} (fb:Nat->Bool) (ha:H1 a = some (.tup xs)) (hD:H1 D = none) (hn:xs.length<=1000)
  (h:∀ (i:Nat) x H (Q:VK),xs[i]? = some x->Same H1 H->(∀ H',Same H H'->Q (.bl (fb i)) H')->te (some x :: Zb8 fr σ) H Q)
  (hQ:∀ H',Same H1 H'->H' D = some (.lst (((List.range xs.length).map fb).map V.bl))->Q (.ref D) H'):Zb9 (Zbi 0) Zgj te (Itt K a) D (Zh8 1 fr σ) H1 Q:=by
 refine Zvr (xs:=xs) (λi vs H=>Same H1 H/\H D = some (.lst vs)/\vs = ((List.range i).map fb).map V.bl) ⟨Same.new hD,Zac,rfl⟩ (λi vs H _ p=>SqT.of (p.1 _ _ ha)) ?_ (λvs H ⟨s,e,hv⟩=>hQ H s (by rw [e,hv]));intro i x vs σ' H hi hx sh e92;refine Za9 e92 λs e e94=>?_;clear e92;obtain rfl:=e94;obtain ⟨z,rfl⟩:=sh.one;simp only [Zfx,Zbi,Zgj,List.set_cons_zero,Jcy];refine h i x H _ hx s λH' s'=>?_;exact Zok (ws:=((List.range (i + 1)).map fb).map V.bl) hi Sh.mk1 (s' _ _ e) (Zap (by rw [Jab,Jab,Ja4]; omega)) ⟨(s.trans s').upd hD,by rw [Zac,Jb7,Ja1,Ja1]; rfl,rfl⟩
theorem Zgz (n:Nat):((List.range n).map λ_=>true).all id = true:=by
 rw [Jbl];intro b hb;refine Zad (Ja3.mp hb) λ_ _ e95=>?_;obtain rfl:=e95;rfl
def Zg1:Sp:=λvs H Q _=>∃ i:Int,vs = [.int i]/\Q (.bl true) H
theorem Zul {f:Addr} {fd:FuncData} (F:Fun K "is_whole" "is_whole" Zfm f fd) (T:Txt K mg C G S):FnOk P w K mg base CX0 1 f fd ["thing"] Zg1:=by
 have nd:=Zd6.nd;refine F.ok Zd6 (λvs H Q E h=>?_) (λcdv A outer s H vs Q E hr h=>?_)
 .refine Zad h λi e96 _=>?_;clear h;obtain rfl:=e96;rfl
 .refine Zad h λi e97 q=>?_;clear h;obtain rfl:=e97;refine ⟨_,(~~~(Zh6 (Za3 Za5 rfl T.n_isinstance Jbt ((pvr 0)<&>((Zgs rfl T.n_int boot_int)<&>Zaa))) (Zh5 (Zv9 (Za3 Za5 rfl T.n_isinstance Jbt ((pvr 0)<&>((Zgs rfl T.n_bool boot_bool)<&>Zaa))))))),?_⟩;walk_at "wp";exact Zau _ _ ⟨⟨rfl,rfl⟩,_,rfl,_,.int i,_,Zly K,iteT ⟨_,_,⟨rfl,rfl⟩,_,rfl,_,.int i,_,Zj7 K,q⟩⟩
def Zm1:Sp:=λvs H Q _=>∃ (m:Int) (x:V),vs = [.int m,x]/\Edge H m x/\∀ H',Same H H'->Q (.bl true) H'
theorem Zu1 {f:Addr} {fd:FuncData} (F:Fun K "is_arrow" "is_arrow" Zhd f fd) (T:Txt K mg C G S) (C_is_whole:Cal P w K mg base "is_whole" 1 Zg1):FnOk P w K mg base CX0 2 f fd ["many","thing"] Zm1:=by
 have nd:=Zi0.nd;refine F.ok Zi0 (λvs H Q E h=>?_) (λcdv A outer s H vs Q E hr h=>?_)
 .refine Zbo h λm x e98 _=>?_;clear h;obtain rfl:=e98;rfl
 .refine Zbl h λm x e99 e910 q=>?_;clear h;obtain rfl:=e99;obtain ⟨t,i,j,rfl,ht,i0,i1,j0,j1⟩:=e910;refine ⟨_,((@Za1 _ _ _ _ _ _ _ _ (PW.pt (Zec (Zbz (Zb1 (Za3 Za5 rfl T.n_isinstance Jbt ((pvr 1)<&>((Zgs rfl T.n_tuple boot_tuple)<&>Zaa))))) (Zdb (Zao Zfh (Za3 Zaq rfl T.n_len Ja8 ((pvr 1)<&>Zaa)) Zab (Zam _))))) (~~~Zfg) Zan)<*>(~~~(Za3 (Zeo rfl) rfl T.n_all boot_all ((Zbf (own:=["end"]) (fr:=[("many",0)]) rfl (Zcn (by kernel_rfl)) (pi_tup (pv 1)) (λ_ _ _ _=>⟨(@Zae _ _ 0 _ (show (["end","many"]:List Str).Nodup by decide +kernel) rfl (Or.inl rfl) (Or.inr rfl)),Zbb,(Zh6 (Za6 C_is_whole hr.m rfl ((pv 0)<&>Zaa)) (Zh5 (Zn9 Zpa Zhg Zab (pv 0) (pv 1))))⟩))<&>Zaa)))),?_⟩;walk_at "wp";refine Zau _ _ ⟨⟨rfl,rfl⟩,_,rfl,_,.tup ht,_,Zlx K,iteF ⟨_,.inr (SqT.of ht),iteF ?_⟩⟩;refine ⟨_,rfl,t,rfl,⟨_,SqT.of ht⟩,λD hD=>Zsy (λ_=>true) ht hD (by show 2<=1000; decide) (λk x H' Q' hx s' q'=>?_) λH' s' e'=>⟨D,rfl,_,SqL.of e',?_⟩⟩
  .have hx':∃ z:Int,x = .int z/\0<=z/\z < m:=by
    match k,hx with
    | 0,hx=>exact ⟨i,(Jbd hx).symm,i0,i1⟩
    | 1,hx=>exact ⟨j,(Jbd hx).symm,j0,j1⟩
    | k + 2,hx=>cases hx
   refine Zav hx' λz e911 z0 z1=>?_;clear hx';obtain rfl:=e911;refine ⟨_,rfl,⟨z,rfl,true,rfl,iteT ⟨_,rfl,_,_,rfl,rfl,_,rfl,?_⟩⟩⟩;refine iteP (Jaj z0) ⟨_,rfl,_,_,rfl,rfl,?_⟩;show Q' (V.bl (decide (z < m))) H';rw [Jaj z1];exact q' H' (Same.refl _)
  .rw [Zgz];exact q H' s'
def Zmx:Sp:=λvs H Q _=>∃ (m:Int) (a:Addr) (xs:List V),vs = [.int m,.ref a]/\1<=m/\m<=8/\H a = some (.lst xs)/\xs.length<=9/\Edges H m xs/\∀ H',Same H H'->Q (.bl true) H'
theorem Zut {f:Addr} {fd:FuncData} (F:Fun K "makes_drawing" "makes_drawing" Zc7 f fd) (T:Txt K mg C G S) (C_is_whole:Cal P w K mg base "is_whole" 1 Zg1) (C_is_arrow:Cal P w K mg base "is_arrow" 2 Zm1):FnOk P w K mg base CX0 3 f fd ["many","arrows"] Zmx:=by
 have nd:=Zer.nd;refine F.ok Zer (λvs H Q E h=>?_) (λcdv A outer s H vs Q E hr h=>?_)
 .refine Zdu h λm a xs e912 _=>?_;clear h;obtain rfl:=e912;rfl
 .refine Zbj h λm a xs e913 m0 m8 e914=>?_;clear h;obtain rfl:=e913;refine Zcj e914 λha hl d q=>?_;clear e914;refine ⟨_,((@Za1 _ _ _ _ _ _ _ _ (PW.pt (Zec (Zbz (Zb1 (Za6 C_is_whole hr.m rfl ((pvr 0)<&>Zaa)))) (Zdb (Zbz (Zn6 Zpa Zpa Zab (pvr 0) (Zeg rfl T.g_MOST_POINTS)))))) (~~~Zfg) Zan)<*>((@Za1 _ _ _ _ _ _ _ _ (PW.pt (Zec (Zbz (Zb1 (Za3 Za5 rfl T.n_isinstance Jbt ((pvr 1)<&>((Zgs rfl T.n_list Jc1)<&>Zaa))))) (Zdb (Zao Ze0 (Za3 Zaq rfl T.n_len Ja8 ((pvr 1)<&>Zaa)) (Zeg rfl T.g_MOST_ARROWS) (Zam _))))) (~~~Zfg) Zan)<*>(~~~(Za3 (Zeo rfl) rfl T.n_all boot_all ((Zbf (own:=["arrow"]) (fr:=[("many",0)]) rfl (Zcn (by kernel_rfl)) (Zbt (pv 1)) (λ_ _ _ _=>⟨(@Zae _ _ 0 _ (show (["arrow","many"]:List Str).Nodup by decide +kernel) rfl (Or.inl rfl) (Or.inr rfl)),Zbb,(Za6 C_is_arrow hr.m rfl ((pv 1)<&>((pv 0)<&>Zaa)))⟩))<&>Zaa))))),?_⟩;walk_at "wp";refine ⟨m,rfl,true,rfl,iteF (iteP (Jaj m0) (Zj8 (by rw [Jaj m8]; decide) ⟨_,_,⟨rfl,rfl⟩,_,rfl,_,.lst ha,_,Zek K,iteF ⟨_,.inl (SqL.of ha),Zj8 (by rw [Ja9 (by omega)]; decide) ?_⟩⟩))⟩;refine ⟨_,rfl,a,rfl,⟨_,SqL.of ha⟩,λD hD=>Zgw (λ_=>true) ha hD (by omega) (λk x H' Q' hx s' q'=>?_) λH' s' e'=>⟨D,rfl,_,SqL.of e',?_⟩⟩
  .exact ⟨_,rfl,_,rfl,m,x,rfl,(d x (Jad hx)).same s',q'⟩
  .rw [Zgz];exact q H' s'
def flds (m:Int) (lp:Addr):List (Str × V):=Zcs "arrows" (.ref lp) (Zcs "many" (.int m) [])
theorem Zcg (m:Int) (lp:Addr):(flds m lp).lookup ("arrows" : Str) = some (.ref lp):=by
 unfold flds;rw [Zax,if_pos rfl]
theorem Zje (m:Int) (lp:Addr):(flds m lp).lookup ("many" : Str) = some (.int m):=by
 unfold flds;rw [Zax,if_neg (by decide +kernel),Zax,if_pos rfl]
theorem Zvl (m:Int):(Zcs "many" (.int m) ([]:List (Str × V))).length < 1000:=by
 have:=Zcf "many" (.int m) [];simp at this;omega
def Zqp (C:Addr):Sp:=λvs H Q _=>∃ (p dx:Addr) (m:Int) (a:Addr) (xs:List V),vs = [.ref p,.int m,.ref a]/\H p = some (.ins C dx [])/\1<=m/\m<=8/\H a = some (.lst xs)/\xs.length<=9/\Edges H m xs /\
 ∀ (lp:Addr) (H':Hp),Ext p H H'->H' p = some (.ins C dx (flds m lp))->H lp = none->H' lp = some (.lst xs)->Q .non H'
theorem ok_init {f:Addr} {fd:FuncData} (F:Fun K "__init__" "Drawing.__init__" Zds f fd) (T:Txt K mg C G S) (C_makes_drawing:Cal P w K mg base "makes_drawing" 3 Zmx):FnOk P w K mg base CX0 4 f fd ["self","many","arrows"] (Zqp C):=by
 have nd:=Ze7.nd;refine F.ok Ze7 (λvs H Q E h=>?_) (λcdv A outer s H vs Q E hr h=>?_)
 .refine Ztk h λp dx m a xs e92 _=>?_;clear h;obtain rfl:=e92;rfl
 .refine Zgh h λp dx m a xs e93 hp m0 e94=>?_;clear h;obtain rfl:=e93;refine Zcv e94 λm8 ha hl d q=>?_;clear e94;refine ⟨_,((@Za1 _ _ _ _ _ _ _ _ (Zbz (Zb1 (Za6 C_makes_drawing hr.m rfl ((pvr 1)<&>((pvr 2)<&>Zaa))))) (@Zal _ _ _ Zee) Zan)<*>((Zi9 (pvr 0) (pvr 1) rfl)<*>(@Zal _ _ _ (Zi9 (pvr 0) (Zie Zci rfl T.n_list Jc1 ((pvr 2)<&>Zaa)) rfl)))),?_⟩;walk_at "wp";refine Zby m a xs ⟨rfl,m0,m8,ha,hl,d,λH1 s1=>⟨true,rfl,iteF ?_⟩⟩;have nap:a ≠ p:=Zeh ha hp (by intro z; cases z);refine Zby C dx [] ⟨s1 _ _ hp,T.cl_Drawing,T.nM,by show 0 < 1000; decide,xs,.inl (SqL.of (by rw [Zah nap]; exact s1 _ _ ha)),λl hl0=>?_⟩;have npl:p ≠ l:=Zag Zac hl0;refine Zby C dx _ ⟨by rw [Zah npl]; exact Zac,T.cl_Drawing,T.nA,Zvl m,?_⟩;have fl:H l = none:=by
   rw [Zah npl.symm] at hl0;exact s1.free hl0
  refine q l _ (λb o nb e=>?_) Zac fl (by rw [Zah npl.symm]; exact Zac);rw [Zah nb,Zah (Zag e fl),Zah nb];exact s1 _ _ e
def Prs (H:Hp) (xs:List V) (ps:List (Int × Int)):Prop:=xs.length = ps.length/\∀ (i:Nat) (x:V) (q:Int × Int),xs[i]? = some x->ps[i]? = some q->∃ t,x = .ref t/\H t = some (.tup [.int q.1,.int q.2])
theorem Prs.same {H H':Hp} {xs:List V} {ps:List (Int × Int)} (h:Prs H xs ps) (s:Same H H'):Prs H' xs ps:=⟨h.1,λi x q h1 h2=>let ⟨t,e1,e2⟩:=h.2 i x q h1 h2; ⟨t,e1,s _ _ e2⟩⟩
def Zfj (C:Addr) (H:Hp) (p:Addr) (m:Int) (lp:Addr) (xs:List V):Prop:=∃ dx,H p = some (.ins C dx (flds m lp))/\H lp = some (.lst xs)
def InP (m:Int) (ps:List (Int × Int)):Prop:=∀ q ∈ ps,0<=q.1/\q.1 < m/\0<=q.2/\q.2 < m
theorem Prs.nil {H:Hp}:Prs H [] []:=⟨rfl,λi x q h=>by simp at h⟩
theorem Zq8 {H:Hp} {m:Int}:∀ {xs:List V},Edges H m xs->∃ ps,Prs H xs ps/\InP m ps
 | [],_=>⟨[],Prs.nil,λq h=>by simp at h⟩
 | x :: xs,d=>by
  refine Zad (Zq8 (xs:=xs) λy hy=>d y (Jbo _ hy)) λps e92 h3=>?_;obtain ⟨h1,h2⟩:=e92;refine Zia (d x Jcb) λt i j e93 ht hb=>?_;obtain rfl:=e93;refine ⟨(i,j) :: ps,⟨by simp [h1],λk y q e1 e2=>?_⟩,λq hq=>?_⟩
  .cases k with
   | zero=>
    simp at e1 e2;subst e1 e2;exact ⟨t,rfl,ht⟩
   | succ k=>exact h2 k y q (by simpa using e1) (by simpa using e2)
  .rcases Jbp.mp hq with rfl | hq
   .exact hb
   .exact h3 q hq
theorem Zvn {H:Hp} {m:Int} {xs:List V} {ps:List (Int × Int)} (h:Prs H xs ps) (r:InP m ps):Edges H m xs:=by
 intro x hx;obtain ⟨i,hi,rfl⟩:=Jap.mp hx;have hl:=h.1;have hq:ps[i]? = some (ps[i]'(by omega)):=Jaa _;refine Zad (h.2 i _ _ (Jaa hi) hq) λt e1 e2=>?_;exact Zby t _ _ ⟨e1,e2,r _ (Jad hq)⟩
def Drw (C:Addr) (H:Hp) (p:Addr) (m:Int) (ps:List (Int × Int)):Prop:=∃ lp xs,Zfj C H p m lp xs/\xs.length<=9/\Prs H xs ps
theorem room8 {k:Nat} {A:Around} (hr:Room k A):A.units + 8 < cLine:=by have:=hr.units; omega
theorem Same.thru {l:Addr} {H H1 H2:Hp} (s:Same H H1) (h:H l = none) (e:Ext l H1 H2):Same H H2:=λb o eb=>e b o (Zag eb h) (s b o eb)
theorem Zsz {lo:Int} {n:Nat} {D:Addr} {fr:List (Str × Nat)} {σ:L2.St} {te:TE} {H1:Hp} {Q:VK} (fb:Nat->Bool) (hD:H1 D = none) (hn:n<=1000)
  (h:∀ (i:Nat) H (Q:VK),i < n->Same H1 H->(∀ H',Same H H'->Q (.bl (fb i)) H')->te (some (.int (lo + (i:Nat))) :: Zb8 fr σ) H Q)
  (hQ:∀ H',Same H1 H'->H' D = some (.lst (((List.range n).map fb).map V.bl))->Q (.ref D) H'):Zb9 (Zbi 0) Zgj te (Itr lo n) D (Zh8 1 fr σ) H1 Q:=by
 refine Zk5 (λi vs H=>Same H1 H/\H D = some (.lst vs)/\vs = ((List.range i).map fb).map V.bl) ⟨Same.new hD,Zac,rfl⟩ ?_ (λvs H ⟨s,e,hv⟩=>hQ H s (by rw [e,hv]));intro i x vs σ' H hi e91;obtain rfl:=e91;intro sh e92;refine Za9 e92 λs e e94=>?_;clear e92;obtain rfl:=e94;obtain ⟨z,rfl⟩:=sh.one;simp only [Zfx,Zbi,Zgj,List.set_cons_zero,Jcy];refine h i H _ hi s λH' s'=>?_;exact Zok (ws:=((List.range (i + 1)).map fb).map V.bl) hi Sh.mk1 (s' _ _ e) (Zap (by rw [Jab,Jab,Ja4]; omega)) ⟨(s.trans s').upd hD,by rw [Zac,Jb7,Ja1,Ja1]; rfl,rfl⟩
def Top (a:Int):Prop:=a.natAbs < 2 ^ 4000
theorem Top.of {a:Int} (h:a.natAbs<=100000000000000000000000000000000000000000000000000000000000000000000000000000000):Top a:=Jbk h (by decide +kernel)
def spCd:Sp:=λvs H Q _=>∃ a b:Int,vs = [.int a,.int b]/\Top a/\0<=b/\Q (.int (Int.gcd a b:Int)) H
theorem ok_cd {f:Addr} {fd:FuncData} (F:Fun K "common_divisor" "common_divisor" Zce f fd) (T:Txt K mg C G S):FnOk P w K mg base CX0 1 f fd ["one","other"] spCd:=by
 have nd:=Zb4.nd;refine F.ok Zb4 (λvs H Q E h=>?_) (λcdv A outer s H vs Q E hr h=>?_)
 .refine Zbo h λa b e95 _=>?_;clear h;obtain rfl:=e95;rfl
 .refine Zdv h λa b e96 ht hb q=>?_;clear h;obtain rfl:=e96;refine ⟨_,((@Za1 _ _ _ _ _ _ _ _ (Zao Ze0 (Zoa Jde Jcq Jcr Zkq (pvr 0)) (Zeg rfl T.g_LONG) (Zam _)) (@Zal _ _ _ Zee) Zan)<*>((Zc0 Jan (Zcl Zfh (pv 1) Zab (Zam _)) (@Zal _ _ _ (Zh3 (i:=0) (j:=1) rfl nd rfl rfl (by decide) rfl rfl ((pvr 1)<&>(((opJ Zcb)<|>(pvr 0)<&&>(pvr 1))<&>Zaa)) rfl)))<*>(~~~(Za3 Zc1 rfl T.n_abs Jep ((pvr 0)<&>Zaa))))),?_⟩;have hbits:=Zs6 ht;walk_at "wp";refine ⟨rfl,Zj8 (by rw [Ja9 (by omega)]; decide) ?_⟩;refine ⟨λn σ H2=>∃ x y:Int,σ = [some (.int x),some (.int y)]/\H2 = H/\0<=y/\n = y.toNat/\Int.gcd x y = Int.gcd a b,⟨_,a,b,rfl,rfl,hb,rfl,rfl⟩,?_⟩;intro n σ H2 e93;refine Zic e93 λx y e97 e98 hy e99 hg=>?_;clear e93;obtain rfl:=e97;obtain rfl:=e98;obtain rfl:=e99;walk_at "wp";refine Zbx (λhc=>?_) (λhc=>?_)
  .have hy0:¬ y = 0:=by simpa using hc
   have y1:0 < y:=by omega
   have l1:=Jbi x (show y ≠ 0 by omega);have l2:=Ja7 x y1;exact ⟨_,λ_ _ h=>h,y1,_,_,⟨rfl,rfl⟩,(x % y).toNat,by omega,y,x % y,rfl,rfl,l1,rfl,by rw [Zkx]; exact hg⟩
  .have hy0:y = 0:=by simpa using hc
   subst hy0;have e:(if x < 0 then -x else x) = (Int.gcd a b:Int):=by
    rw [<- hg,Int.gcd_zero];split <;> omega
   rw [e];exact q
def Zex (p:Int):Prop:=1 < p/\p<=97/\∀ d:Int,2<=d->d < p->p % d ≠ 0
def Zmv:Sp:=λvs H Q _=>∃ p:Int,vs = [.int p]/\Zex p/\∀ H',Same H H'->Q (.bl true) H'
theorem Zur {f:Addr} {fd:FuncData} (F:Fun K "is_prime" "is_prime" Zhc f fd) (T:Txt K mg C G S):FnOk P w K mg base CX0 1 f fd ["number"] Zmv:=by
 have nd:=Ziz.nd;refine F.ok Ziz (λvs H Q E h=>?_) (λcdv A outer s H vs Q E hr h=>?_)
 .refine Zad h λp e910 _=>?_;clear h;obtain rfl:=e910;rfl
 .refine Zav h λp e911 e912 q=>?_;clear h;obtain rfl:=e911;obtain ⟨p1,p2,p3⟩:=e912;refine ⟨_,(~~~(Zh6 (Zcy (Zj3 Ze0) (pvr 0) Zab (Zam _)) (Zh5 (Za3 (Zeo rfl) rfl T.n_all boot_all ((Zbf (own:=["divisor"]) (fr:=[("number",0)]) rfl (Zcn (by kernel_rfl)) (Zm7 rfl T.n_range (Zab<&>((pv 0)<&>Zaa))) (λ_ _ _ _=>⟨(@Zae _ _ 0 _ (show (["divisor","number"]:List Str).Nodup by decide +kernel) rfl (Or.inl rfl) (Or.inr rfl)),Zbb,(Zcy Zfh (Zcb<|>(pv 1)<&&>(pv 0)) Zab (Zam _))⟩))<&>Zaa))))),?_⟩;walk_at "wp";refine iteP (Jaj p1) ⟨_,rfl,2,p,rfl,⟨by decide,by decide,by omega,by omega⟩,λD hD=>Zsz (λ_=>true) hD (by omega) (λi H' Q' hi s' q'=>?_) λH' s' e'=>⟨D,rfl,_,SqL.of e',?_⟩⟩
  .have h0:(0:Int) < 2 + (i:Int):=by omega
   have hne:=p3 (2 + (i:Int)) (by omega) (by omega);refine ⟨_,rfl,_,rfl,_,_,rfl,rfl,h0,rfl,?_⟩;have:(!decide (V.int (p % (2 + (i:Int))) = V.int 0)) = true:=by simp only [V.int.injEq,Ja9 hne]; rfl
   rw [this];exact q' H' (Same.refl _)
  .rw [Zgz];exact q H' s'
def GroundP (p:Int):Prop:=p = 0\/Zex p
def Zmq:Sp:=λvs H Q _=>∃ p:Int,vs = [.int p]/\GroundP p/\∀ H',Same H H'->Q (.bl true) H'
theorem Zum {f:Addr} {fd:FuncData} (F:Fun K "tells_ground" "tells_ground" Zdo f fd) (T:Txt K mg C G S) (C_is_whole:Cal P w K mg base "is_whole" 1 Zg1) (C_is_prime:Cal P w K mg base "is_prime" 1 Zmv):FnOk P w K mg base CX0 2 f fd ["thing"] Zmq:=by
 have nd:=Ze3.nd;refine F.ok Ze3 (λvs H Q E h=>?_) (λcdv A outer s H vs Q E hr h=>?_)
 .refine Zad h λp e913 _=>?_;clear h;obtain rfl:=e913;rfl
 .refine Zav h λp e914 hp q=>?_;clear h;obtain rfl:=e914;have p0:0<=p:=by rcases hp with rfl | ⟨h,_⟩ <;> omega
  have p97:p<=97:=by rcases hp with rfl | ⟨_,h,_⟩ <;> omega
  refine ⟨_,((@Za1 _ _ _ _ _ _ _ _ (PW.pt (Zec (Zbz (Zb1 (Za6 C_is_whole hr.m rfl ((pvr 0)<&>Zaa)))) (Zdb (Zbz (Zn6 Zpa Zpa Zab (pvr 0) (Zeg rfl T.g_LARGEST_PRIME)))))) (~~~Zfg) Zan)<*>(~~~(pe_or (Zcy (Zif Zcc) (pvr 0) Zab (Zam _)) (Zh5 (Za6 C_is_prime hr.m rfl ((pvr 0)<&>Zaa)))))),?_⟩;walk_at "wp";refine ⟨p,rfl,true,rfl,iteF (iteP (Jaj p0) (Zj8 (by rw [Jaj p97]; decide) (Zbx (λ_=>q H (Same.refl _)) (λhc=>?_))))⟩;rcases hp with rfl | hp
  .exact absurd (Jaj rfl) hc
  .exact ⟨p,rfl,hp,q⟩
def Znw:Sp:=λvs H Q _=>∃ a b:Int,vs = [.int a,.int b]/\Top a/\0 < b/\b.natAbs<=100000000000000000000000000000000/\∀ t,H t = none->Q (.ref t) (upd H t (.tup [.int (nrm a b).1,.int (nrm a b).2]))
def Zl1 (p:Int):List (Str × V):=Zcs "prime" (.int p) []
theorem Zbn (p:Int):(Zl1 p).lookup ("prime" : Str) = some (.int p):=by
 unfold Zl1;rw [Zax,if_pos rfl]
theorem Zkw (p:Int) {x:Str} (h1:¬ x = "prime"):(Zl1 p).lookup x = none:=by
 unfold Zl1;rw [Zax,if_neg h1];rfl
def Zmy (G:Addr):Sp:=λvs H Q _=>∃ (g dx:Addr) (p:Int),vs = [.ref g,.int p]/\H g = some (.ins G dx [])/\GroundP p/\∀ (H':Hp),Ext g H H'->H' g = some (.ins G dx (Zl1 p))->Q .non H'
theorem Zuw {f:Addr} {fd:FuncData} (F:Fun K "__init__" "Ground.__init__" Zeb f fd) (T:Txt K mg C G S) (C_tells_ground:Cal P w K mg base "tells_ground" 2 Zmq):FnOk P w K mg base CX0 3 f fd ["self","prime"] (Zmy G):=by
 have nd:=Zfv.nd;refine F.ok Zfv (λvs H Q E h=>?_) (λcdv A outer s H vs Q E hr h=>?_)
 .refine Zdu h λg dx p e915 _=>?_;clear h;obtain rfl:=e915;rfl
 .refine Zbj h λg dx p e916 hg hp q=>?_;clear h;obtain rfl:=e916;refine ⟨_,((@Za1 _ _ _ _ _ _ _ _ (Zbz (Zb1 (Za6 C_tells_ground hr.m rfl ((pvr 1)<&>Zaa)))) (@Zal _ _ _ Zee) Zan)<*>(@Zal _ _ _ (Zi9 (pvr 0) (pvr 1) rfl))),?_⟩;walk_at "wp";refine ⟨p,rfl,hp,λH1 s1=>⟨true,rfl,iteF ⟨G,dx,[],s1 _ _ hg,T.cl_Ground,T.nP,by show 0 < 1000; decide,?_⟩⟩⟩;exact q _ (λb o nb e=>by rw [Zah nb]; exact s1 _ _ e) Zac
def goodB (p:Int):Bool:=p == 0 || (decide (1 < p) && decide (p<=97) && (List.range 98).all λd=>decide ((d:Int) < 2) || decide (p<=(d:Int)) || decide (p % (d:Int) ≠ 0))
theorem Zvg {p:Int} (h:goodB p = true):GroundP p:=by
 unfold goodB at h;simp only [Jcz,Jce,Jbr,decide_eq_true_eq,Jbl,Jbc] at h;rcases h with h | ⟨⟨h1,h2⟩,h3⟩
 .exact .inl h
 .refine .inr ⟨h1,h2,λd d2 dp=>?_⟩;have:=h3 d.toNat (by omega);rw [show ((d.toNat:Nat):Int) = d by omega] at this;rcases this with (h | h) | h
  .omega
  .omega
  .exact h
theorem Zrc {L:List Int} (h:L.all goodB = true) {i:Int} (i0:0<=i) (i1:i < L.length):∃ p,atI (L.map V.int) i = some (.int p)/\GroundP p:=by
 have hi:i.toNat < L.length:=by omega
 exact ⟨_,Zb0 i0 (Zep hi),Zvg (Jbl.mp h _ (Zs8 hi))⟩
def NumV (H:Hp) (p:Int) (v:V) (x:Int × Int):Prop:=if p = 0 then ∃ t,v = .ref t/\H t = some (.tup [.int x.1,.int x.2]) else v = .int x.1
theorem NumV.same {H H':Hp} {p:Int} {v:V} {x:Int × Int} (h:NumV H p v x) (s:Same H H'):NumV H' p v x:=by
 unfold NumV at *;split
 .rename_i hp
  rw [if_pos hp] at h;refine Zad h λt e ht=>?_;clear h;exact ⟨t,e,s _ _ ht⟩
 .rename_i hp
  rw [if_neg hp] at h;exact h
theorem NumV.tup {H:Hp} {p:Int} {t:Addr} {x:Int × Int} (hp:p = 0) (h:H t = some (.tup [.int x.1,.int x.2])):NumV H p (.ref t) x:=by
 unfold NumV;rw [if_pos hp];exact ⟨t,rfl,h⟩
theorem NumV.of {H:Hp} {p:Int} {x:Int × Int} (hp:¬ p = 0):NumV H p (.int x.1) x:=by
 unfold NumV;rw [if_neg hp]
theorem NumV.ref {H:Hp} {p:Int} {v:V} {x:Int × Int} (h:NumV H p v x) (hp:p = 0):∃ t,v = .ref t/\H t = some (.tup [.int x.1,.int x.2]):=by
 unfold NumV at h;rw [if_pos hp] at h;exact h
theorem NumV.int {H:Hp} {p:Int} {v:V} {x:Int × Int} (h:NumV H p v x) (hp:¬ p = 0):v = .int x.1:=by
 unfold NumV at h;rw [if_neg hp] at h;exact h
theorem GroundP.lo {p:Int} (h:GroundP p):0<=p:=by rcases h with rfl | ⟨h,_⟩ <;> omega
theorem GroundP.hi {p:Int} (h:GroundP p):p<=97:=by rcases h with rfl | ⟨_,h,_⟩ <;> omega
def GAt (G:Addr) (H:Hp) (g:Addr) (p:Int):Prop:=∃ dx,H g = some (.ins G dx (Zl1 p))
theorem GAt.same {H H':Hp} {g:Addr} {p:Int} (h:GAt G H g p) (s:Same H H'):GAt G H' g p:=let ⟨dx,e⟩:=h; ⟨dx,s _ _ e⟩
def Kn (H:Hp) (v:V):Prop:=v = .non\/(∃ b,v = .bl b)\/(∃ i,v = .int i)\/(∃ s,v = .str s)\/(∃ a xs,v = .ref a/\H a = some (.lst xs)/\xs.length<=1000)\/∃ a xs,v = .ref a/\H a = some (.tup xs)/\xs.length<=1000
theorem Kn.same {H H':Hp} {v:V} (h:Kn H v) (s:Same H H'):Kn H' v:=by
 rcases h with h | h | h | h | ⟨a,xs,h1,h2,h3⟩ | ⟨a,xs,h1,h2,h3⟩
 .exact .inl h
 .exact .inr (.inl h)
 .exact .inr (.inr (.inl h))
 .exact .inr (.inr (.inr (.inl h)))
 .exact .inr (.inr (.inr (.inr (.inl ⟨a,xs,h1,s _ _ h2,h3⟩))))
 .exact .inr (.inr (.inr (.inr (.inr ⟨a,xs,h1,s _ _ h2,h3⟩))))
theorem Kn.int {H:Hp} {i:Int}:Kn H (.int i):=.inr (.inr (.inl ⟨i,rfl⟩))
theorem Kn.bl {H:Hp} {i:Bool}:Kn H (.bl i):=.inr (.inl ⟨i,rfl⟩)
theorem Kn.str {H:Hp} {i:Str}:Kn H (.str i):=.inr (.inr (.inr (.inl ⟨i,rfl⟩)))
theorem Kn.lst {H:Hp} {a:Addr} {xs:List V} (h:H a = some (.lst xs)) (hl:xs.length<=1000):Kn H (.ref a):=.inr (.inr (.inr (.inr (.inl ⟨a,xs,rfl,h,hl⟩))))
theorem Kn.tup {H:Hp} {a:Addr} {xs:List V} (h:H a = some (.tup xs)) (hl:xs.length<=1000):Kn H (.ref a):=.inr (.inr (.inr (.inr (.inr ⟨a,xs,rfl,h,hl⟩))))
def isI:V->Bool
 | .int _=>true
 | .bl _=>true
 | _=>false
def isBl:V->Bool
 | .bl _=>true
 | _=>false
def Zr3 (H:Hp):V->Bool
 | .ref a=>match H a with
  | some (.tup _)=>true
  | _=>false
 | _=>false
def Zvb (H:Hp):V->Bool
 | .ref a=>match H a with
  | some (.lst _)=>true
  | _=>false
 | _=>false
def whB:V->Bool
 | .int _=>true
 | _=>false
theorem Zwi {H:Hp} {v:V} (h:Kn H v):∃ t,TyOf K H v t/\PySem.W.kitOne K t (.type "int") = some (isI v):=by
 rcases h with rfl | ⟨b,rfl⟩ | ⟨i,rfl⟩ | ⟨z,rfl⟩ | ⟨a,xs,rfl,h2,_⟩ | ⟨a,xs,rfl,h2,_⟩
 .exact ⟨_,.non,by kernel_rfl⟩
 .exact ⟨_,.bl b,Zpf K⟩
 .exact ⟨_,.int i,Zly K⟩
 .exact ⟨_,.str z,by kernel_rfl⟩
 .exact ⟨_,.lst h2,by kernel_rfl⟩
 .exact ⟨_,.tup h2,by kernel_rfl⟩
theorem Zrx {H:Hp} {v:V} (h:Kn H v):∃ t,TyOf K H v t/\PySem.W.kitOne K t (.type "bool") = some (isBl v):=by
 rcases h with rfl | ⟨b,rfl⟩ | ⟨i,rfl⟩ | ⟨z,rfl⟩ | ⟨a,xs,rfl,h2,_⟩ | ⟨a,xs,rfl,h2,_⟩
 .exact ⟨_,.non,by kernel_rfl⟩
 .exact ⟨_,.bl b,Znd K⟩
 .exact ⟨_,.int i,Zj7 K⟩
 .exact ⟨_,.str z,by kernel_rfl⟩
 .exact ⟨_,.lst h2,by kernel_rfl⟩
 .exact ⟨_,.tup h2,by kernel_rfl⟩
theorem Zwh {H:Hp} {v:V} (h:Kn H v):∃ t,TyOf K H v t/\PySem.W.kitOne K t (.type "tuple") = some (Zr3 H v):=by
 rcases h with rfl | ⟨b,rfl⟩ | ⟨i,rfl⟩ | ⟨z,rfl⟩ | ⟨a,xs,rfl,h2,_⟩ | ⟨a,xs,rfl,h2,_⟩
 .exact ⟨_,.non,by kernel_rfl⟩
 .exact ⟨_,.bl b,by kernel_rfl⟩
 .exact ⟨_,.int i,by kernel_rfl⟩
 .exact ⟨_,.str z,by kernel_rfl⟩
 .refine ⟨_,.lst h2,?_⟩;simp only [Zr3,h2]
  kernel_rfl
 .refine ⟨_,.tup h2,?_⟩;simp only [Zr3,h2];exact Zlx K
theorem Zrw {H:Hp} {v:V} (h:Kn H v):∃ t,TyOf K H v t/\PySem.W.kitOne K t (.type "list") = some (Zvb H v):=by
 rcases h with rfl | ⟨b,rfl⟩ | ⟨i,rfl⟩ | ⟨z,rfl⟩ | ⟨a,xs,rfl,h2,_⟩ | ⟨a,xs,rfl,h2,_⟩
 .exact ⟨_,.non,by kernel_rfl⟩
 .exact ⟨_,.bl b,by kernel_rfl⟩
 .exact ⟨_,.int i,by kernel_rfl⟩
 .exact ⟨_,.str z,by kernel_rfl⟩
 .refine ⟨_,.lst h2,?_⟩;simp only [Zvb,h2];exact Zek K
 .refine ⟨_,.tup h2,?_⟩;simp only [Zvb,h2]
  kernel_rfl
def Zgk:Sp:=λvs H Q _=>∃ v:V,vs = [v]/\Kn H v/\Q (.bl (whB v)) H
theorem Zrl {f:Addr} {fd:FuncData} (F:Fun K "is_whole" "is_whole" Zfm f fd) (T:Txt K mg C G S):FnOk P w K mg base CX0 1 f fd ["thing"] Zgk:=by
 have nd:=Zd6.nd;refine F.ok Zd6 (λvs H Q E h=>?_) (λcdv A outer s H vs Q E hr h=>?_)
 .refine Zad h λi e91 _=>?_;clear h;obtain rfl:=e91;rfl
 .refine Zav h λv e92 hk q=>?_;clear h;obtain rfl:=e92;refine ⟨_,(~~~(Zh6 (Za3 Za5 rfl T.n_isinstance Jbt ((pvr 0)<&>((Zgs rfl T.n_int boot_int)<&>Zaa))) (Zh5 (Zv9 (Za3 Za5 rfl T.n_isinstance Jbt ((pvr 0)<&>((Zgs rfl T.n_bool boot_bool)<&>Zaa))))))),?_⟩;walk_at "wp";refine Zad (Zwi (K:=K) hk) λt1 h1 h2=>?_;refine Zad (Zrx (K:=K) hk) λt2 h3 h4=>?_;refine Zau _ _ ⟨⟨rfl,rfl⟩,_,rfl,_,h1,_,h2,Zbx (λhc=>⟨_,_,⟨rfl,rfl⟩,_,rfl,_,h3,_,h4,?_⟩) (λhc=>?_)⟩
  .cases v <;> first | exact q | cases hc
  .cases v <;> first | exact q | exact absurd rfl hc
def frB (H:Hp):V->Bool
 | .ref a=>match H a with
  | some (.tup [.int x,.int y])=>decide (1<=y) && decide (Int.gcd x y = 1)
  | _=>false
 | _=>false
def Zog (p:Int) (H:Hp) (v:V):Bool:=if p = 0 then frB H v else match v with
 | .int i=>decide (0<=i) && decide (i < p)
 | _=>false
def Zpr (p wd:Int) (H:Hp):V->Bool
 | .ref a=>match H a with
  | some (.lst xs)=>decide ((xs.length:Int) = wd) && xs.all (Zog p H)
  | _=>false
 | _=>false
def Zpq (p:Int) (H:Hp):V->Bool
 | .ref a=>match H a with
  | some (.tup [.int h,.int wd,.ref r])=>match H r with
   | some (.lst rows)=>decide (0<=h) && decide (0<=wd) && decide ((rows.length:Int) = h) && rows.all (Zpr p wd H)
   | _=>false
  | _=>false
 | _=>false
def TopV (y:V):Prop:=∀ i,y = .int i->Top i
def WfN (H:Hp) (v:V):Prop:=Kn H v/\∀ a xs,v = .ref a->H a = some (.tup xs)->∀ y ∈ xs,Kn H y/\TopV y
def WfR (H:Hp) (v:V):Prop:=Kn H v/\∀ a xs,v = .ref a->H a = some (.lst xs)->∀ y ∈ xs,WfN H y
def WfT (H:Hp) (v:V):Prop:=Kn H v/\∀ a xs,v = .ref a->H a = some (.tup xs)->∀ y ∈ xs,Kn H y/\∀ r rows,y = .ref r->H r = some (.lst rows)->∀ z ∈ rows,WfR H z
theorem Kn.back {H H':Hp} {a:Addr} {o:HO} (h:Kn H (.ref a)) (s:Same H H') (e:H' a = some o):H a = some o:=by
 rcases h with h | ⟨_,h⟩ | ⟨_,h⟩ | ⟨_,h⟩ | ⟨b,xs,h1,h2,_⟩ | ⟨b,xs,h1,h2,_⟩
 .cases h
 .cases h
 .cases h
 .cases h
 .cases h1;rw [s _ _ h2] at e;rw [h2,e]
 .cases h1;rw [s _ _ h2] at e;rw [h2,e]
theorem Kn.at {H H':Hp} {a:Addr} (h:Kn H (.ref a)) (s:Same H H'):H' a = H a:=by
 rcases h with h | ⟨_,h⟩ | ⟨_,h⟩ | ⟨_,h⟩ | ⟨b,xs,h1,h2,_⟩ | ⟨b,xs,h1,h2,_⟩
 .cases h
 .cases h
 .cases h
 .cases h
 .cases h1;rw [s _ _ h2,h2]
 .cases h1;rw [s _ _ h2,h2]
theorem WfN.same {H H':Hp} {v:V} (h:WfN H v) (s:Same H H'):WfN H' v:=
 ⟨h.1.same s,λa xs e1 e2 y hy=>by subst e1; exact ⟨(h.2 a xs rfl (h.1.back s e2) y hy).1.same s,(h.2 a xs rfl (h.1.back s e2) y hy).2⟩⟩
theorem WfR.same {H H':Hp} {v:V} (h:WfR H v) (s:Same H H'):WfR H' v:=
 ⟨h.1.same s,λa xs e1 e2 y hy=>by subst e1; exact (h.2 a xs rfl (h.1.back s e2) y hy).same s⟩
theorem Zlr {H H':Hp} {p:Int} {v:V} (h:WfN H v) (s:Same H H'):Zog p H' v = Zog p H v:=by
 unfold Zog;split
 .cases v <;> try rfl
  simp only [frB,h.1.at s]
 .rfl
theorem Zkc {α:Type} {f g:α->Bool}:∀ {xs:List α},(∀ x ∈ xs,f x = g x)->xs.all f = xs.all g
 | [],_=>rfl
 | x :: xs,h=>by
  rw [Jd8,Jd8,h x Jcb,Zkc λy hy=>h y (Jbo _ hy)]
theorem Zq3 {H H':Hp} {p wd:Int} {v:V} (h:WfR H v) (s:Same H H'):Zpr p wd H' v = Zpr p wd H v:=by
 cases v <;> try rfl
 rename_i a
 simp only [Zpr,h.1.at s];split
 .rename_i xs e
  rw [Zkc λy hy=>Zlr (h.2 a xs rfl e y hy) s]
 .rfl
theorem tu_of {H:Hp} {v:V} (h:Kn H v) (ht:Zr3 H v = true):∃ a xs,v = .ref a/\H a = some (.tup xs)/\xs.length<=1000:=by
 rcases h with rfl | ⟨b,rfl⟩ | ⟨i,rfl⟩ | ⟨z,rfl⟩ | ⟨a,xs,rfl,h2,_⟩ | h
 .cases ht
 .cases ht
 .cases ht
 .cases ht
 .simp only [Zr3,h2] at ht; cases ht
 .exact h
theorem li_of {H:Hp} {v:V} (h:Kn H v) (ht:Zvb H v = true):∃ a xs,v = .ref a/\H a = some (.lst xs)/\xs.length<=1000:=by
 rcases h with rfl | ⟨b,rfl⟩ | ⟨i,rfl⟩ | ⟨z,rfl⟩ | h | ⟨a,xs,rfl,h2,_⟩
 .cases ht
 .cases ht
 .cases ht
 .cases ht
 .exact h
 .simp only [Zvb,h2] at ht; cases ht
theorem Zp2 {v:V} (h:whB v = true):∃ i,v = .int i:=by
 cases v <;> first | exact ⟨_,rfl⟩ | cases h
theorem frB_noT {H:Hp} {v:V} (h:Zr3 H v = false):frB H v = false:=by
 cases v <;> try rfl
 simp only [Zr3] at h;simp only [frB];split
 .rename_i e; rw [e] at h; cases h
 .rfl
theorem frB_len {H:Hp} {a:Addr} {xs:List V} (h:H a = some (.tup xs)) (hl:xs.length ≠ 2):frB H (.ref a) = false:=by
 simp only [frB,h];split
 .rename_i e; cases e; exact absurd rfl hl
 .rfl
theorem Zsl {H:Hp} {a:Addr} {x y:V} (h:H a = some (.tup [x,y])) (hw:whB x = false\/whB y = false):frB H (.ref a) = false:=by
 simp only [frB,h];split
 .rename_i e
  cases e;rcases hw with hw | hw <;> cases hw
 .rfl
theorem Zor {H:Hp} {a:Addr} {x y:Int} (h:H a = some (.tup [.int x,.int y])):frB H (.ref a) = (decide (1<=y) && decide (Int.gcd x y = 1)):=by
 simp only [frB,h]
def spFr:Sp:=λvs H Q _=>∃ v:V,vs = [v]/\WfN H v/\Q (.bl (frB H v)) H
theorem ok_fr {f:Addr} {fd:FuncData} (F:Fun K "is_fraction" "is_fraction" Zd9 f fd) (T:Txt K mg C G S) (C_is_whole:Cal P w K mg base "is_whole" 1 Zgk) (C_common_divisor:Cal P w K mg base "common_divisor" 1 spCd):FnOk P w K mg base CX0 2 f fd ["thing"] spFr:=by
 have nd:=Zft.nd;refine F.ok Zft (λvs H Q E h=>?_) (λcdv A outer s H vs Q E hr h=>?_)
 .refine Zad h λv e91 _=>?_;clear h;obtain rfl:=e91;rfl
 .refine Zav h λv e92 e93 q=>?_;clear h;obtain rfl:=e92;obtain ⟨hk,hx⟩:=e93;refine ⟨_,((@Za1 _ _ _ _ _ _ _ _ (PW.pt (Zec (Zbz (Zb1 (Za3 Za5 rfl T.n_isinstance Jbt ((pvr 0)<&>((Zgs rfl T.n_tuple boot_tuple)<&>Zaa))))) (Zdb (Zao Zfh (Za3 Zaq rfl T.n_len Ja8 ((pvr 0)<&>Zaa)) Zab (Zam _))))) (~~~Zfg) Zan)<*>((Zb3 (pvr 0) (@Zbv _ _ _ _ _ 2 rfl (@Zai _ _ _ _ _ (@Zae _ _ 1 _ nd rfl (Or.inl rfl) (Or.inl rfl)) (@Zai _ _ _ _ _ (@Zae _ _ 2 _ nd rfl (Or.inl rfl) (Or.inl rfl)) (@Za0 _) (by rfl)) (by rfl)) (by rfl) (by rfl)))<*>((@Za1 _ _ _ _ _ _ _ _ (PW.pt (Zec (Zbz (Zb1 (Za6 C_is_whole hr.m rfl ((pvr 1)<&>Zaa)))) (Zec (Zbz (Zb1 (Za6 C_is_whole hr.m rfl ((pvr 2)<&>Zaa)))) (Zdb (Zao Zhg (pvr 2) Zab (Zam _)))))) (~~~Zfg) Zan)<*>(~~~(Zcy Zcc (Za6 C_common_divisor hr.m rfl ((pvr 1)<&>((pvr 2)<&>Zaa))) Zab (Zam _)))))),?_⟩;walk_at "wp";refine Zad (Zwh (K:=K) hk) λt1 h1 h2=>?_;refine Zau _ _ ⟨⟨rfl,rfl⟩,_,rfl,_,h1,_,h2,?_⟩;refine Zbx (λhc=>?_) (λhc=>?_)
  .have hc:Zr3 H v = false:=by simpa using hc
   rw [frB_noT hc] at q;exact q
  .have hc:Zr3 H v = true:=by simpa using hc
   refine Zbl (tu_of hk hc) λa xs e94 ha hl=>?_;obtain rfl:=e94;refine ⟨a,rfl,xs,.inr (SqT.of ha),Zbx (λhn=>?_) (λhn=>?_)⟩
   .have hn:¬ xs.length = 2:=by intro z; rw [z] at hn; exact absurd hn (by decide)
    rw [frB_len ha hn] at q;exact q
   .have hn:xs.length = 2:=by
     have:((xs.length:Nat):Int) = 2:=by simpa using hn
     omega
    obtain ⟨x,y,rfl⟩:∃ x y,xs = [x,y]:=by
     match xs,hn with
     | [x,y],_=>exact ⟨x,y,rfl⟩
    refine ⟨a,rfl,_,SqT.of ha,rfl,_,_,rfl,_,_,rfl,rfl,x,rfl,(hx a _ rfl ha x (by simp)).1,_,rfl,Zbx (λh1=>?_) (λh1=>?_)⟩
    .rw [Zsl ha (.inl (by simpa using h1))] at q;exact q
    .obtain ⟨i,rfl⟩:=Zp2 (v:=x) (by simpa using h1);refine ⟨y,rfl,(hx a _ rfl ha y (by simp)).1,_,rfl,Zbx (λh2=>?_) (λh2=>?_)⟩
     .rw [Zsl ha (.inr (by simpa using h2))] at q;exact q
     .obtain ⟨j,rfl⟩:=Zp2 (v:=y) (by simpa using h2);rw [Zor ha] at q;refine ⟨j,rfl,Zbx (λh3=>?_) (λh3=>?_)⟩
      .have h3:=Ja0 h3;rw [Ja9 (show ¬ 1<=j by omega)] at q;exact q
      .have h3:¬ j < 1:=λz=>h3 (Jaj z);refine Zau i j ⟨rfl,(hx a _ rfl ha _ (by simp)).2 i rfl,by omega,rfl,?_⟩;rw [Jaj (show 1<=j by omega)] at q;have:decide (V.int (Int.gcd i j:Int) = V.int 1) = decide (Int.gcd i j = 1):=by
        simp only [V.int.injEq];by_cases e:Int.gcd i j = 1
        .rw [Jaj e,Jaj (by omega)]
        .rw [Ja9 e,Ja9 (by omega)]
       rw [this];exact q
def spIsN (G:Addr):Sp:=λvs H Q _=>∃ (g:Addr) (p:Int) (v:V),vs = [.ref g,v]/\GAt G H g p/\GroundP p/\WfN H v/\Q (.bl (Zog p H v)) H
theorem numB_pr {p:Int} {H:Hp} {v:V} (hp:¬ p = 0) (h:whB v = false):Zog p H v = false:=by
 unfold Zog;rw [if_neg hp];cases v <;> first | rfl | cases h
theorem Zof {p i:Int} {H:Hp} (hp:¬ p = 0):Zog p H (.int i) = (decide (0<=i) && decide (i < p)):=by
 unfold Zog;rw [if_neg hp]
theorem Zrp {p:Int} {H:Hp} {v:V} (hp:p = 0):Zog p H v = frB H v:=by
 unfold Zog;rw [if_pos hp]
theorem ok_isn {f:Addr} {fd:FuncData} (F:Fun K "is_number" "Ground.is_number" Zck f fd) (T:Txt K mg C G S) (C_is_whole:Cal P w K mg base "is_whole" 1 Zgk) (C_is_fraction:Cal P w K mg base "is_fraction" 2 spFr):FnOk P w K mg base CX0 3 f fd ["self","thing"] (spIsN G):=by
 have nd:=Zc5.nd;refine F.ok Zc5 (λvs H Q E h=>?_) (λcdv A outer s H vs Q E hr h=>?_)
 .refine Zdu h λg p v e95 _=>?_;clear h;obtain rfl:=e95;rfl
 .refine Zbj h λg p v e96 e97 hp e98=>?_;clear h;obtain rfl:=e96;obtain ⟨dx,hg⟩:=e97;obtain ⟨hw,q⟩:=e98;refine ⟨_,((@Za1 _ _ _ _ _ _ _ _ (Zao Zcc (Zbc (pvr 0) rfl) Zab (Zam _)) (~~~(Za6 C_is_fraction hr.m rfl ((pvr 1)<&>Zaa))) Zan)<*>(~~~(Zh6 (Za6 C_is_whole hr.m rfl ((pvr 1)<&>Zaa)) (Zh5 (Zn9 Zpa Zhg Zab (pvr 1) (Zbc (pvr 0) rfl)))))),?_⟩;walk_at "wp";refine Zby G dx _ ⟨hg,T.cl_Ground,T.nP,_,Zbn p,rfl,Zbx (λhc=>?_) (λhc=>?_)⟩
  .have hp0:p = 0:=by simpa using hc
   rw [Zrp hp0] at q;exact ⟨v,rfl,hw,q⟩
  .have hp0:¬ p = 0:=by simpa using hc
   refine ⟨v,rfl,hw.1,_,rfl,Zbx (λh1=>?_) (λh1=>?_)⟩
   .obtain ⟨i,rfl⟩:=Zp2 h1;rw [Zof hp0] at q;refine ⟨i,rfl,Zbx (λh2=>⟨G,dx,_,hg,T.cl_Ground,T.nP,_,Zbn p,i,rfl,p,rfl,?_⟩) (λh2=>?_)⟩
    .rw [h2,Jd9] at q;exact q
    .rw [show decide (0<=i) = false by simpa using h2,Jer] at q;exact q
   .rw [numB_pr hp0 (by simpa using h1)] at q;exact q
theorem Zwn {f:V->Bool} (xs:List V):((List.range xs.length).map λi=>f (xs.getD i .non)).all id = xs.all f:=by
 rw [Jcx,Jbl,Jbl];constructor
 .intro h x hx;obtain ⟨i,hi,rfl⟩:=Jap.mp hx;have:=h (f (xs.getD i .non)) (Ja3.mpr ⟨i,Jbc.mpr hi,rfl⟩);simpa [hi] using this
 .intro h b hb;refine Zad (Ja3.mp hb) λi hi e99=>?_;obtain rfl:=e99;have hi:=Jbc.mp hi;simpa [hi] using h _ (Ja2 hi)
theorem Zsh {xs:List V} {i:Nat} {x:V} (h:xs[i]? = some x):xs.getD i .non = x:=by rw [Jac,h]; rfl
def Zqi (G:Addr):Sp:=λvs H Q _=>∃ (g:Addr) (p wd:Int) (v:V),vs = [.ref g,.int wd,v]/\GAt G H g p/\GroundP p/\WfR H v/\∀ H',Same H H'->Q (.bl (Zpr p wd H v)) H'
theorem Zua {p wd:Int} {H:Hp} {v:V} (h:Zvb H v = false):Zpr p wd H v = false:=by
 cases v <;> try rfl
 simp only [Zvb] at h;simp only [Zpr];split
 .rename_i e; rw [e] at h; cases h
 .rfl
theorem Zq4 {p wd:Int} {H:Hp} {a:Addr} {xs:List V} (h:H a = some (.lst xs)):Zpr p wd H (.ref a) = (decide ((xs.length:Int) = wd) && xs.all (Zog p H)):=by
 simp only [Zpr,h]
theorem Zuv {f:Addr} {fd:FuncData} (F:Fun K "is_row" "is_row" Zkn f fd) (T:Txt K mg C G S) (C_Ground_is_number:CalM P w K mg base G "is_number" 3 (spIsN G)):FnOk P w K mg base CX0 4 f fd ["ground","wide","thing"] (Zqi G):=by
 have nd:=Zlm.nd;refine F.ok Zlm (λvs H Q E h=>?_) (λcdv A outer s H vs Q E hr h=>?_)
 .refine Zml h λg p wd v e910 _=>?_;clear h;obtain rfl:=e910;rfl
 .refine Zdc h λg p wd v e911 e912 hp e913=>?_;clear h;obtain rfl:=e911;obtain ⟨dx,hg⟩:=e912;obtain ⟨⟨hk,hx⟩,q⟩:=e913;refine ⟨_,((@Za1 _ _ _ _ _ _ _ _ (PW.pt (Zec (Zbz (Zb1 (Za3 Za5 rfl T.n_isinstance Jbt ((pvr 2)<&>((Zgs rfl T.n_list Jc1)<&>Zaa))))) (Zdb (Zao Zfh (Za3 Zaq rfl T.n_len Ja8 ((pvr 2)<&>Zaa)) (pvr 1) (Zam _))))) (~~~Zfg) Zan)<*>(~~~(Za3 (Zeo rfl) rfl T.n_all boot_all ((Zbf (own:=["number"]) (fr:=[("ground",0)]) rfl (Zcn (by kernel_rfl)) (Zbt (pv 2)) (λ_ _ _ _=>⟨(@Zae _ _ 0 _ (show (["number","ground"]:List Str).Nodup by decide +kernel) rfl (Or.inl rfl) (Or.inr rfl)),Zbb,(Zwa T.cl_Ground C_Ground_is_number hr.m (pv 1) ((pv 0)<&>Zaa))⟩))<&>Zaa)))),?_⟩;walk_at "wp";refine Zad (Zrw (K:=K) hk) λt1 h1 h2=>?_;refine Zau _ _ ⟨⟨rfl,rfl⟩,_,rfl,_,h1,_,h2,Zbx (λhc=>?_) (λhc=>?_)⟩
  .rw [Zua (by simpa using hc)] at q;exact q H (Same.refl _)
  .refine Zbl (li_of hk (by simpa using hc)) λa xs e914 ha hl=>?_;obtain rfl:=e914;rw [Zq4 ha] at q;refine ⟨a,rfl,xs,.inl (SqL.of ha),Zbx (λhn=>?_) (λhn=>?_)⟩
   .rw [show decide ((xs.length:Int) = wd) = false by simpa using hn,Jer] at q;exact q H (Same.refl _)
   .rw [show decide ((xs.length:Int) = wd) = true by simpa using hn,Jd9] at q;refine ⟨_,rfl,a,rfl,⟨_,SqL.of ha⟩,λD hD=>Zgw (λi=>Zog p H (xs.getD i .non)) ha hD (by omega) (λi y H' Q' hy s' q'=>?_) λH' s' e'=>⟨D,rfl,_,SqL.of e',?_⟩⟩
    .have wy:=hx a xs rfl ha y (Jad hy);refine ⟨_,rfl,g,dx,_,rfl,s' _ _ hg,Zkw _ (by decide +kernel),_,rfl,g,p,y,rfl,⟨dx,s' _ _ hg⟩,hp,wy.same s',?_⟩;rw [Zlr wy s',<- Zsh hy];exact q' H' (Same.refl _)
    .rw [Zwn];exact q H' s'
def Zqh (G:Addr):Sp:=λvs H Q _=>∃ (g:Addr) (p:Int) (v:V),vs = [.ref g,v]/\GAt G H g p/\GroundP p/\WfT H v/\∀ H',Same H H'->Q (.bl (Zpq p H v)) H'
theorem Ztx {p:Int} {H:Hp} {v:V} (h:Zr3 H v = false):Zpq p H v = false:=by
 cases v <;> try rfl
 simp only [Zr3] at h;simp only [Zpq];split
 .rename_i e; rw [e] at h; cases h
 .rfl
theorem Zty {p:Int} {H:Hp} {a:Addr} {xs:List V} (h:H a = some (.tup xs)) (hl:xs.length ≠ 3):Zpq p H (.ref a) = false:=by
 simp only [Zpq,h];split
 .rename_i e; cases e; exact absurd rfl hl
 .rfl
theorem Zjt {p:Int} {H:Hp} {a:Addr} {x y z:V} (h:H a = some (.tup [x,y,z])) (hw:whB x = false\/whB y = false):Zpq p H (.ref a) = false:=by
 simp only [Zpq,h];split
 .rename_i e
  cases e;rcases hw with hw | hw <;> cases hw
 .rfl
theorem Zip {p:Int} {H:Hp} {a:Addr} {i j:Int} {z:V} (h:H a = some (.tup [.int i,.int j,z])) (hw:(i < 0\/j < 0)\/Zvb H z = false):Zpq p H (.ref a) = false:=by
 simp only [Zpq,h];split
 .rename_i e
  cases e;split
  .rename_i rows e2
   rcases hw with (hw | hw) | hw
   .rw [Ja9 (show ¬ 0<=i by omega)]; simp
   .rw [Ja9 (show ¬ 0<=j by omega)]; simp
   .simp only [Zvb,e2] at hw; cases hw
  .rfl
 .rfl
theorem Zle {p:Int} {H:Hp} {a r:Addr} {i j:Int} {rows:List V} (h:H a = some (.tup [.int i,.int j,.ref r])) (hr:H r = some (.lst rows)) (h0:¬ i < 0) (h1:¬ j < 0):Zpq p H (.ref a) = (decide ((rows.length:Int) = i) && rows.all (Zpr p j H)):=by
 simp only [Zpq,h,hr];rw [Jaj (show 0<=i by omega),Jaj (show 0<=j by omega)];rfl
theorem Zuu {f:Addr} {fd:FuncData} (F:Fun K "is_table" "is_table" Zhb f fd) (T:Txt K mg C G S) (C_is_whole:Cal P w K mg base "is_whole" 1 Zgk) (C_is_row:Cal P w K mg base "is_row" 4 (Zqi G)):FnOk P w K mg base CX0 5 f fd ["ground","thing"] (Zqh G):=by
 have nd:=Ziy.nd;refine F.ok Ziy (λvs H Q E h=>?_) (λcdv A outer s H vs Q E hr h=>?_)
 .refine Zdu h λg p v e915 _=>?_;clear h;obtain rfl:=e915;rfl
 .refine Zbj h λg p v e916 e917 hp e918=>?_;clear h;obtain rfl:=e916;obtain ⟨dx,hg⟩:=e917;obtain ⟨⟨hk,hx⟩,q⟩:=e918;refine ⟨_,((@Za1 _ _ _ _ _ _ _ _ (PW.pt (Zec (Zbz (Zb1 (Za3 Za5 rfl T.n_isinstance Jbt ((pvr 1)<&>((Zgs rfl T.n_tuple boot_tuple)<&>Zaa))))) (Zdb (Zao Zfh (Za3 Zaq rfl T.n_len Ja8 ((pvr 1)<&>Zaa)) Zab (Zam _))))) (~~~Zfg) Zan)<*>((Zb3 (pvr 1) (@Zbv _ _ _ _ _ 3 rfl (@Zai _ _ _ _ _ (@Zae _ _ 2 _ nd rfl (Or.inl rfl) (Or.inl rfl)) (@Zai _ _ _ _ _ (@Zae _ _ 3 _ nd rfl (Or.inr rfl) (Or.inl rfl)) (@Zai _ _ _ _ _ (@Zae _ _ 4 _ nd rfl (Or.inl rfl) (Or.inl rfl)) (@Za0 _) (by rfl)) (by rfl)) (by rfl)) (by rfl) (by rfl)))<*>((@Za1 _ _ _ _ _ _ _ _ (PW.pt (Zec (Zbz (Zb1 (Za6 C_is_whole hr.m rfl ((pvr 2)<&>Zaa)))) (Zec (Zbz (Zb1 (Za6 C_is_whole hr.m rfl ((pvr 3)<&>Zaa)))) (Zec (Zao Zhg (pvr 2) Zab (Zam _)) (Zdb (Zao Zhg (pvr 3) Zab (Zam _))))))) (~~~Zfg) Zan)<*>((@Za1 _ _ _ _ _ _ _ _ (PW.pt (Zec (Zbz (Zb1 (Za3 Za5 rfl T.n_isinstance Jbt ((pvr 4)<&>((Zgs rfl T.n_list Jc1)<&>Zaa))))) (Zdb (Zao Zfh (Za3 Zaq rfl T.n_len Ja8 ((pvr 4)<&>Zaa)) (pvr 2) (Zam _))))) (~~~Zfg) Zan)<*>(~~~(Za3 (Zeo rfl) rfl T.n_all boot_all ((Zbf (own:=["row"]) (fr:=[("ground",0),("wide",3)]) rfl (Zcn (by kernel_rfl)) (Zbt (pv 4)) (λ_ _ _ _=>⟨(@Zae _ _ 0 _ (show (["row","ground","wide"]:List Str).Nodup by decide +kernel) rfl (Or.inl rfl) (Or.inr rfl)),Zbb,(Za6 C_is_row hr.m rfl ((pv 1)<&>((pv 2)<&>((pv 0)<&>Zaa))))⟩))<&>Zaa))))))),?_⟩;walk_at "wp";refine Zad (Zwh (K:=K) hk) λt1 h1 h2=>?_;refine Zau _ _ ⟨⟨rfl,rfl⟩,_,rfl,_,h1,_,h2,Zbx (λhc=>?_) (λhc=>?_)⟩
  .rw [Ztx (by simpa using hc)] at q;exact q H (Same.refl _)
  .refine Zbl (tu_of hk (by simpa using hc)) λa xs e919 ha hl=>?_;obtain rfl:=e919;refine ⟨a,rfl,xs,.inr (SqT.of ha),Zbx (λhn=>?_) (λhn=>?_)⟩
   .have hn:¬ xs.length = 3:=by intro z; rw [z] at hn; exact absurd hn (by decide)
    rw [Zty ha hn] at q;exact q H (Same.refl _)
   .have hn:xs.length = 3:=by
     have:((xs.length:Nat):Int) = 3:=by simpa using hn
     omega
    obtain ⟨x,y,z,rfl⟩:∃ x y z,xs = [x,y,z]:=by
     match xs,hn with
     | [x,y,z],_=>exact ⟨x,y,z,rfl⟩
    have kx:=(hx a _ rfl ha x (by simp)).1;have ky:=(hx a _ rfl ha y (by simp)).1;obtain ⟨kz,hz⟩:=hx a _ rfl ha z (by simp);refine ⟨a,rfl,_,SqT.of ha,rfl,_,_,rfl,_,_,rfl,_,_,rfl,rfl,x,rfl,kx,_,rfl,Zbx (λh1=>?_) (λh1=>?_)⟩
    .rw [Zjt ha (.inl (by simpa using h1))] at q;exact q H (Same.refl _)
    .obtain ⟨i,rfl⟩:=Zp2 (v:=x) (by simpa using h1);refine ⟨y,rfl,ky,_,rfl,Zbx (λh2=>?_) (λh2=>?_)⟩
     .rw [Zjt ha (.inr (by simpa using h2))] at q;exact q H (Same.refl _)
     .obtain ⟨j,rfl⟩:=Zp2 (v:=y) (by simpa using h2);refine ⟨i,rfl,Zbx (λh3=>?_) (λh3=>⟨j,rfl,Zbx (λh4=>?_) (λh4=>?_)⟩)⟩
      .rw [Zip ha (.inl (.inl (Ja0 h3)))] at q;exact q H (Same.refl _)
      .rw [Zip ha (.inl (.inr (Ja0 h4)))] at q;exact q H (Same.refl _)
      .have h3:¬ i < 0:=λz=>h3 (Jaj z);have h4:¬ j < 0:=λz=>h4 (Jaj z);refine Zad (Zrw (K:=K) kz) λt3 h5 h6=>?_;refine Zau _ _ ⟨⟨rfl,rfl⟩,_,rfl,_,h5,_,h6,Zbx (λhc2=>?_) (λhc2=>?_)⟩
       .rw [Zip ha (.inr (by simpa using hc2))] at q;exact q H (Same.refl _)
       .refine Zbl (li_of kz (by simpa using hc2)) λr rows e920 hr1 hrl=>?_;obtain rfl:=e920;rw [Zle ha hr1 h3 h4] at q;have ed:decide (V.int ((rows.length:Nat):Int) = V.int i) = decide ((rows.length:Int) = i):=by simp only [V.int.injEq]
        refine ⟨r,rfl,rows,.inl (SqL.of hr1),rfl,Zbx (λhn2=>?_) (λhn2=>?_)⟩
        .rw [ed] at hn2;rw [show decide ((rows.length:Int) = i) = false by simpa using hn2,Jer] at q;exact q H (Same.refl _)
        .rw [ed] at hn2;rw [show decide ((rows.length:Int) = i) = true by simpa using hn2,Jd9] at q;refine ⟨_,rfl,r,rfl,⟨_,SqL.of hr1⟩,λD hD=>Zgw (λk=>Zpr p j H (rows.getD k .non)) hr1 hD (by omega) (λk y H' Q' hy s' q'=>?_) λH' s' e'=>⟨D,rfl,_,SqL.of e',?_⟩⟩
         .have wy:=hz r rows rfl hr1 y (Jad hy);refine ⟨_,rfl,_,rfl,_,rfl,g,p,j,y,rfl,⟨dx,s' _ _ hg⟩,hp,wy.same s',λH2 s2=>?_⟩;rw [Zq3 wy s',<- Zsh hy];exact q' H2 s2
         .rw [Zwn];exact q H' s'
def NumO (H:Hp) (p:Int) (B:Nat) (v:V):Prop:=∃ x,NumV H p v x/\Isn p x/\Bd B x
theorem NumO.same {H H':Hp} {p:Int} {B:Nat} {v:V} (h:NumO H p B v) (s:Same H H'):NumO H' p B v:=let ⟨x,a,b,c⟩:=h; ⟨x,a.same s,b,c⟩
theorem NumO.weak {H:Hp} {p:Int} {B B':Nat} {v:V} (h:NumO H p B v) (hB:B<=B'):NumO H p B' v:=let ⟨x,a,b,c⟩:=h; ⟨x,a,b,Jav c.1 hB,Jav c.2 hB⟩
theorem NumO.put {H:Hp} {D:Addr} {l:List V} {o:HO} {p:Int} {B:Nat} {v:V} (h:NumO H p B v) (hD:H D = some (.lst l)):NumO (upd H D o) p B v:=by
 refine Zav h λx a b c=>?_;clear h;refine ⟨x,?_,b,c⟩;by_cases hp:p = 0
 .refine Zad (a.ref hp) λt e93 ht=>?_;obtain rfl:=e93;exact NumV.tup hp (by rw [Zah (Zeh ht hD (by intro z; cases z))]; exact ht)
 .obtain rfl:=a.int hp;exact NumV.of hp
theorem NumV.ext {l:Addr} {H H':Hp} {p:Int} {v:V} {x:Int × Int} (h:NumV H p v x) (b:Bag H l) (e:Ext l H H'):NumV H' p v x:=by
 by_cases hp:p = 0
 .refine Zad (h.ref hp) λt e94 ht=>?_;obtain rfl:=e94;refine Zbo b λa c hb _=>?_;clear b;exact NumV.tup hp (e _ _ (Zeh ht hb (by intro z; cases z)) ht)
 .obtain rfl:=h.int hp;exact NumV.of hp
theorem NumO.ext {l:Addr} {H H':Hp} {p:Int} {B:Nat} {v:V} (h:NumO H p B v) (b:Bag H l) (e:Ext l H H'):NumO H' p B v:=let ⟨x,a,c,d⟩:=h; ⟨x,a.ext b e,c,d⟩
def RowO (H:Hp) (p:Int) (B:Nat) (wd:Int) (a:Addr):Prop:=∃ xs,H a = some (.lst xs)/\(xs.length:Int) = wd/\∀ x ∈ xs,NumO H p B x
theorem RowO.same {H H':Hp} {p wd:Int} {B:Nat} {a:Addr} (h:RowO H p B wd a) (s:Same H H'):RowO H' p B wd a:=let ⟨xs,h1,h2,h3⟩:=h; ⟨xs,s _ _ h1,h2,λx hx=>(h3 x hx).same s⟩
theorem RowO.weak {H:Hp} {p wd:Int} {B B':Nat} {a:Addr} (h:RowO H p B wd a) (hB:B<=B'):RowO H p B' wd a:=let ⟨xs,h1,h2,h3⟩:=h; ⟨xs,h1,h2,λx hx=>(h3 x hx).weak hB⟩
theorem RowO.ext {l:Addr} {H H':Hp} {p wd:Int} {B:Nat} {a:Addr} (h:RowO H p B wd a) (b:Bag H l) (e:Ext l H H') (n:a ≠ l):RowO H' p B wd a:=let ⟨xs,h1,h2,h3⟩:=h; ⟨xs,e _ _ n h1,h2,λx hx=>(h3 x hx).ext b e⟩
theorem RowO.put {H:Hp} {D:Addr} {l:List V} {o:HO} {p wd:Int} {B:Nat} {a:Addr} (h:RowO H p B wd a) (hD:H D = some (.lst l)) (n:a ≠ D):RowO (upd H D o) p B wd a:=let ⟨xs,h1,h2,h3⟩:=h; ⟨xs,by rw [Zah n]; exact h1,h2,λx hx=>(h3 x hx).put hD⟩
theorem Zbq (rs:List Addr) (a:Addr):rs.map V.ref ++ [.ref a] = (rs ++ [a]).map V.ref:=by rw [Ja1]; rfl
abbrev BB:Nat:=10000
theorem Zva {n:Nat} (h:0 < n):ixN n (-1) = some (n - 1):=by
 unfold ixN;rw [if_neg (by omega),if_pos (by omega)];congr 1;omega
theorem Zt7 (rs:List Addr) (j:Nat) (a:Addr):(rs.map V.ref).set j (.ref a) = (rs.set j a).map V.ref:=(List.map_set).symm
theorem Zop {rs:List Addr} {j:Nat} (h:j < rs.length):(rs.map V.ref)[j]? = some (.ref rs[j]):=by rw [Jah,Jaa h]; rfl
structure Tab (H:Hp) (p:Int) (hh wd:Int) (t r:Addr) (rs:List Addr):Prop where
 tup:H t = some (.tup [.int hh,.int wd,.ref r])
 lst:H r = some (.lst (rs.map V.ref))
 len:(rs.length:Int) = hh
 row:∀ a ∈ rs,RowO H p BB wd a
 nin:r ∉ rs
theorem Tab.same {H H':Hp} {p hh wd:Int} {t r:Addr} {rs:List Addr} (h:Tab H p hh wd t r rs) (s:Same H H'):Tab H' p hh wd t r rs:=⟨s _ _ h.tup,s _ _ h.lst,h.len,λa ha=>(h.row a ha).same s,h.nin⟩
def Fl (v:V):Prop:=v = .non\/(∃ b,v = .bl b)\/(∃ i,v = .int i)\/∃ s,v = .str s
theorem Fl.kn {H:Hp} {v:V} (h:Fl v):Kn H v:=by
 rcases h with h | h | h | h
 .exact .inl h
 .exact .inr (.inl h)
 .exact .inr (.inr (.inl h))
 .exact .inr (.inr (.inr (.inl h)))
theorem Ztp {H:Hp} {v:V} (h:Kn H v) (hn:∀ a,v ≠ .ref a):WfN H v:=⟨h,λa xs e=>absurd e (hn a)⟩
theorem wfn_tup {H:Hp} {a:Addr} {xs:List V} (h:H a = some (.tup xs)) (hl:xs.length<=1000) (hk:∀ y ∈ xs,Kn H y/\TopV y):WfN H (.ref a):=⟨.tup h hl,λb ys e1 e2 y hy=>by cases e1; rw [h] at e2; cases e2; exact hk y hy⟩
def Zh9 (H:Hp) (v:V):Prop:=Kn H v/\∀ r rows,v = .ref r->H r = some (.lst rows)->∀ z ∈ rows,WfR H z
theorem NumO.wf {H:Hp} {p:Int} {B:Nat} {v:V} (h:NumO H p B v) (hB:B<=100000000000000000000000000000000:=by decide):WfN H v:=by
 refine Zav h λx nv _ bd=>?_;clear h;by_cases hp:p = 0
 .refine Zad (nv.ref hp) λt e96 ht=>?_;obtain rfl:=e96;refine wfn_tup ht (by show 2<=1000; decide) λu hu=>?_;simp only [Jbp,List.not_mem_nil,or_false] at hu;rcases hu with rfl | rfl
  .exact ⟨Kn.int,λj e=>by cases e; exact Top.of (Jav bd.1 (by omega))⟩
  .exact ⟨Kn.int,λj e=>by cases e; exact Top.of (Jav bd.2 (by omega))⟩
 .obtain rfl:=nv.int hp;exact Ztp Kn.int (by intro a z; cases z)
theorem RowO.wf {H:Hp} {p wd:Int} {B:Nat} {a:Addr} (h:RowO H p B wd a) (w24:wd<=24) (hB:B<=100000000000000000000000000000000:=by decide):WfR H (.ref a):=by
 refine Zav h λxs h1 h2 h3=>?_;clear h;exact ⟨.lst h1 (by omega),λb ys e1 e2 y hy=>by cases e1; rw [h1] at e2; cases e2; exact (h3 y hy).wf hB⟩
theorem wfs_lst {H:Hp} {a:Addr} {xs:List V} (h:H a = some (.lst xs)) (hl:xs.length<=1000) (hk:∀ y ∈ xs,WfR H y):Zh9 H (.ref a):=⟨.lst h hl,λb ys e1 e2 y hy=>by cases e1; rw [h] at e2; cases e2; exact hk y hy⟩
theorem wft_tup {H:Hp} {a:Addr} {xs:List V} (h:H a = some (.tup xs)) (hl:xs.length<=1000) (hk:∀ y ∈ xs,Zh9 H y):WfT H (.ref a):=⟨.tup h hl,λb ys e1 e2 y hy=>by cases e1; rw [h] at e2; cases e2; exact hk y hy⟩
theorem Zno {H:Hp} {v:V} (h:Fl v):Zh9 H v:=⟨h.kn,λa xs e=>by subst e; rcases h with h | ⟨_,h⟩ | ⟨_,h⟩ | ⟨_,h⟩ <;> cases h⟩
theorem fi {i:Int}:Fl (.int i):=.inr (.inr (.inl ⟨_,rfl⟩))
theorem fb {i:Bool}:Fl (.bl i):=.inr (.inl ⟨_,rfl⟩)
theorem Tab.wfs {H:Hp} {p hh wd:Int} {t r:Addr} {rs:List Addr} (h:Tab H p hh wd t r rs) (h24:hh<=24) (w24:wd<=24):Zh9 H (.ref r):=by
 have:=h.len;exact wfs_lst h.lst (by rw [Jab]; omega) λy hy=>by obtain ⟨a,ha,rfl⟩:=Ja3.mp hy; exact (h.row a ha).wf w24
theorem three {H:Hp} {x y z:V} (hx:Zh9 H x) (hy:Zh9 H y) (hz:Zh9 H z):∀ u ∈ [x,y,z],Zh9 H u:=λu hu=>by
 simp only [Jbp,List.not_mem_nil,or_false] at hu;rcases hu with rfl | rfl | rfl
 .exact hx
 .exact hy
 .exact hz
theorem Tab.ext {l:Addr} {H H':Hp} {p hh wd:Int} {t r:Addr} {rs:List Addr} (h:Tab H p hh wd t r rs) (b:Bag H l) (e:Ext l H H') (nt:t ≠ l) (nr:r ≠ l) (ns:l ∉ rs):Tab H' p hh wd t r rs:=
 ⟨e _ _ nt h.tup,e _ _ nr h.lst,h.len,λa ha=>(h.row a ha).ext b e (λz=>ns (z ▸ ha)),h.nin⟩
theorem Tab.wft {H:Hp} {p hh wd:Int} {t r:Addr} {rs:List Addr} (h:Tab H p hh wd t r rs) (h24:hh<=24) (w24:wd<=24):WfT H (.ref t):=
 wft_tup h.tup (by show 3<=1000; decide) (three (Zno fi) (Zno fi) (h.wfs h24 w24))
theorem NumO.is {H:Hp} {p:Int} {B:Nat} {v:V} (h:NumO H p B v):Zog p H v = true:=by
 refine Zav h λx nv ix _=>?_;clear h;by_cases hp:p = 0
 .refine Zad (nv.ref hp) λt e97 ht=>?_;obtain rfl:=e97;rw [Zrp hp,Zor ht];rcases ix with ⟨_,lo⟩ | ⟨h,_⟩
  .have:=lo.1;rw [Jaj (show 1<=x.2 by omega),Jaj lo.2];rfl
  .omega
 .obtain rfl:=nv.int hp;rw [Zof hp];rcases ix with ⟨h,_⟩ | ⟨_,h1,h2,_⟩
  .exact absurd h hp
  .rw [Jaj h1,Jaj h2];rfl
theorem RowO.is {H:Hp} {p wd:Int} {B:Nat} {a:Addr} (h:RowO H p B wd a):Zpr p wd H (.ref a) = true:=by
 refine Zav h λxs h1 h2 h3=>?_;clear h;rw [Zq4 h1,Jaj h2,Jd9];exact Jbl.mpr λx hx=>(h3 x hx).is
theorem Tab.is {H:Hp} {p hh wd:Int} {t r:Addr} {rs:List Addr} (h:Tab H p hh wd t r rs) (h0:0<=hh) (w0:0<=wd):Zpq p H (.ref t) = true:=by
 rw [Zle h.tup h.lst (by omega) (by omega),Jab,Jaj h.len,Jd9];exact Jbl.mpr λy hy=>by obtain ⟨a,ha,rfl⟩:=Ja3.mp hy; exact (h.row a ha).is
structure TabC (H:Hp) (p hh wd:Int) (t r:Addr) (rs:List Addr) (M:List (List V)):Prop where
 tab:Tab H p hh wd t r rs
 con:∀ (i:Nat) (a:Addr),rs[i]? = some a->H a = some (.lst (M.getD i []))
theorem TabC.same {H H':Hp} {p hh wd:Int} {t r:Addr} {rs:List Addr} {M:List (List V)} (h:TabC H p hh wd t r rs M) (s:Same H H'):TabC H' p hh wd t r rs M:=⟨h.tab.same s,λi a e=>s _ _ (h.con i a e)⟩
def Sizes (H:Hp) (z:Addr) (ns:List Int):Prop:=H z = some (.lst (ns.map V.int))/\ns.length<=8/\∀ n ∈ ns,0<=n/\n<=24
theorem Sizes.same {H H':Hp} {z:Addr} {ns:List Int} (h:Sizes H z ns) (s:Same H H'):Sizes H' z ns:=⟨s _ _ h.1,h.2⟩
def spSz (C:Addr):Sp:=λvs H Q _=>∃ (d z lp:Addr) (m:Int) (xs:List V) (ns:List Int),vs = [.ref d,.ref z]/\Zfj C H d m lp xs/\Sizes H z ns/\(ns.length:Int) = m/\∀ H',Same H H'->Q (.bl true) H'
theorem ok_sz {f:Addr} {fd:FuncData} (F:Fun K "are_sizes" "are_sizes" Zgc f fd) (T:Txt K mg C G S) (C_is_whole:Cal P w K mg base "is_whole" 1 Zg1):FnOk P w K mg base CX0 2 f fd ["drawing","thing"] (spSz C):=by
 have nd:=Zh1.nd;refine F.ok Zh1 (λvs H Q E h=>?_) (λcdv A outer s H vs Q E hr h=>?_)
 .refine Ztj h λd z lp m xs ns e94 _=>?_;clear h;obtain rfl:=e94;rfl
 .refine Zpy h λd z lp m xs ns e95 e96 e97 e98=>?_;clear h;obtain rfl:=e95;obtain ⟨dx,hd,hlp⟩:=e96;obtain ⟨hz,h8,hn⟩:=e97;obtain ⟨hm,q⟩:=e98;refine ⟨_,((@Za1 _ _ _ _ _ _ _ _ (PW.pt (Zec (Zbz (Zb1 (Za3 Za5 rfl T.n_isinstance Jbt ((pvr 1)<&>((Zgs rfl T.n_list Jc1)<&>Zaa))))) (Zdb (Zao Zfh (Za3 Zaq rfl T.n_len Ja8 ((pvr 1)<&>Zaa)) (Zbc (pvr 0) rfl) (Zam _))))) (~~~Zfg) Zan)<*>(~~~(Za3 (Zeo rfl) rfl T.n_all boot_all ((Zbf (own:=["size"]) (fr:=[]) rfl (Zcn (by kernel_rfl)) (Zbt (pv 1)) (λ_ _ _ _=>⟨(@Zae _ _ 0 _ (show (["size"]:List Str).Nodup by decide +kernel) rfl (Or.inl rfl) (Or.inr rfl)),Zbb,(Zh6 (Za6 C_is_whole hr.m rfl ((pv 0)<&>Zaa)) (Zh5 (Zcy Zuk (pv 0) Zab (Zam _))))⟩))<&>Zaa)))),?_⟩;walk_at "wp";refine Zau _ _ ⟨⟨rfl,rfl⟩,_,rfl,_,.lst hz,true,Zek K,Zj8 (by decide) ⟨_,.inl (SqL.of hz),C,dx,_,hd,T.cl_Drawing,T.nM,_,Zje m lp,rfl,Zj8 ?_ ⟨_,rfl,z,rfl,⟨_,SqL.of hz⟩,λD hD=>Zgw (λ_=>true) hz hD (by rw [Jab]; omega) (λk x H' Q' hx s' q'=>?_) λH' s' e'=>⟨D,rfl,_,SqL.of e',?_⟩⟩⟩⟩
  .rw [Jaj (by rw [Jab,hm])]; decide
  .rw [Jah] at hx;cases e:ns[k]? with
   | none=>rw [e] at hx; cases hx
   | some n=>
    rw [e] at hx;cases hx;have n0:=(hn n (Jad e)).1;refine ⟨_,rfl,n,rfl,true,rfl,iteT ⟨_,rfl,_,_,rfl,rfl,?_⟩⟩;show Q' (V.bl (decide (0<=n))) H';rw [Jaj n0];exact q' H' (Same.refl _)
  .rw [Zgz];exact q H' s'
def spTo (G:Addr):Sp:=λvs H Q _=>∃ (g t r:Addr) (p hh wd:Int) (rs:List Addr),vs = [.ref g,.int hh,.int wd,.ref t]/\GAt G H g p/\GroundP p/\Tab H p hh wd t r rs/\0<=hh/\hh<=24/\0<=wd/\wd<=24/\∀ H',Same H H'->Q (.bl true) H'
theorem ok_to {f:Addr} {fd:FuncData} (F:Fun K "is_table_of" "is_table_of" Zd8 f fd) (T:Txt K mg C G S) (C_is_table:Cal P w K mg base "is_table" 5 (Zqh G)):FnOk P w K mg base CX0 6 f fd ["ground","high","wide","thing"] (spTo G):=by
 have nd:=Zfs.nd;refine F.ok Zfs (λvs H Q E h=>?_) (λcdv A outer s H vs Q E hr h=>?_)
 .refine Zti h λg t r p hh wd rs e99 _=>?_;clear h;obtain rfl:=e99;rfl
 .refine Zmj h λg t r p hh wd rs e910 hg hp e911=>?_;clear h;obtain rfl:=e910;refine Zdd e911 λtb h0 h24 w0 w24 q=>?_;clear e911;refine ⟨_,(~~~(Zh6 (Za6 C_is_table hr.m rfl ((pvr 0)<&>((pvr 3)<&>Zaa))) (Zh6 (Zcy Zcc ((Zjq Zaz)<|>(pvr 3)<||>Zab) (pvr 1) (Zam _)) (Zh5 (Zcy Zcc ((Zjq Zaz)<|>(pvr 3)<||>Zab) (pvr 2) (Zam _)))))),?_⟩;walk_at "wp";exact Zby g p (.ref t) ⟨rfl,hg,hp,tb.wft h24 w24,λH1 s1=>⟨_,rfl,iteP (tb.is h0 w0) ⟨_,SqT.of (s1 _ _ tb.tup),_,rfl,rfl,iteP (Jaj rfl) ⟨_,SqT.of (s1 _ _ tb.tup),_,rfl,rfl,by rw [Jaj rfl]; exact q H1 s1⟩⟩⟩⟩
theorem Zv5 {cap:L2.St} {a b c:Option V}:Sh 3 cap (a :: b :: c :: cap):=⟨[a,b,c],rfl,rfl⟩
theorem Zn0 {cap σ:L2.St} (h:Sh 3 cap σ):∃ a b c,σ = a :: b :: c :: cap:=by
 refine Zad h λo h1 e912=>?_;clear h;obtain rfl:=e912
 match o,h1 with
 | [a,b,c],_=>exact ⟨a,b,c,rfl⟩
theorem Zmf {ns:List Int} {i:Int} (h0:0<=i) (h1:i < ns.length):atI (ns.map V.int) i = some (.int (ns.getD i.toNat 0)):=by
 refine Zb0 h0 ?_;rw [Jah,Jac,Jaa (show i.toNat < ns.length by omega)];rfl
def spTs (C G:Addr):Sp:=λvs H Q _=>∃ (g d z l lp:Addr) (p m:Int) (xs:List V) (ps:List (Int × Int)) (ns:List Int) (ts:List Addr),vs = [.ref g,.ref d,.ref z,.ref l]/\GAt G H g p/\GroundP p/\Zfj C H d m lp xs/\Prs H xs ps/\InP m ps/\ps.length<=9/\Sizes H z ns/\(ns.length:Int) = m /\
 H l = some (.lst (ts.map V.ref))/\ts.length = ps.length/\(∀ (i:Nat) t q,ts[i]? = some t->ps[i]? = some q->∃ r rs,Tab H p (ns.getD q.2.toNat 0) (ns.getD q.1.toNat 0) t r rs)/\∀ H',Same H H'->Q (.bl true) H'
theorem ok_ts {f:Addr} {fd:FuncData} (F:Fun K "are_tables" "are_tables" Zfd f fd) (T:Txt K mg C G S) (C_is_table_of:Cal P w K mg base "is_table_of" 6 (spTo G)):FnOk P w K mg base CX0 7 f fd ["ground","drawing","sizes","thing"] (spTs C G):=by
 have nd:=Zgr.nd;refine F.ok Zgr (λvs H Q E h=>?_) (λcdv A outer s H vs Q E hr h=>?_)
 .refine Zvz h λg d z l lp p m xs ps ns ts e913 _=>?_;clear h;obtain rfl:=e913;rfl
 .refine Znn h λg d z l lp p m xs ps ns ts e914 hg hp e915=>?_;clear h;obtain rfl:=e914;refine Zp1 e915 λe916 pr ip p9 hz hm hl hlen tb q=>?_;clear e915;obtain ⟨dx,hd,hlp⟩:=e916;refine ⟨_,((@Za1 _ _ _ _ _ _ _ _ (PW.pt (Zec (Zbz (Zb1 (Za3 Za5 rfl T.n_isinstance Jbt ((pvr 3)<&>((Zgs rfl T.n_list Jc1)<&>Zaa))))) (Zdb (Zao Zfh (Za3 Zaq rfl T.n_len Ja8 ((pvr 3)<&>Zaa)) (Za3 Zaq rfl T.n_len Ja8 ((Zbc (pvr 1) rfl)<&>Zaa)) (Zam _))))) (~~~Zfg) Zan)<*>(~~~(Za3 (Zeo rfl) rfl T.n_all boot_all ((Zbf (own:=["tail","head","table"]) (fr:=[("ground",0),("sizes",2)]) rfl (Zcn (by kernel_rfl)) (Zlp rfl T.n_zip ((Zcz (pv 1) rfl)<&>((pv 3)<&>Zaa))) (λ_ _ _ _=>⟨(@Zff _ K rfl _ _ _ _ 2 rfl (@Zai _ _ _ _ _ (@Zff _ K rfl _ _ _ _ 2 rfl (@Zai _ _ _ _ _ (@Zae _ _ 0 _ (show (["tail","head","table","ground","sizes"]:List Str).Nodup by decide +kernel) rfl (Or.inl rfl) (Or.inr rfl)) (@Zai _ _ _ _ _ (@Zae _ _ 1 _ (show (["tail","head","table","ground","sizes"]:List Str).Nodup by decide +kernel) rfl (Or.inl rfl) (Or.inr rfl)) (@Za0 _) (by rfl)) (by rfl)) (by rfl) (by rfl)) (@Zai _ _ _ _ _ (@Zae _ _ 2 _ (show (["tail","head","table","ground","sizes"]:List Str).Nodup by decide +kernel) rfl (Or.inl rfl) (Or.inr rfl)) (@Za0 _) (by rfl)) (by rfl)) (by rfl) (by rfl)),Zbb,(Za6 C_is_table_of hr.m rfl ((pv 3)<&>(((Zel K rfl)<|>(pv 4)<||>(pv 1))<&>(((Zel K rfl)<|>(pv 4)<||>(pv 0))<&>((pv 2)<&>Zaa)))))⟩))<&>Zaa)))),?_⟩;walk_at "wp";have hxl:=pr.1;refine Zau _ _ ⟨⟨rfl,rfl⟩,_,rfl,_,.lst hl,true,Zek K,Zj8 (by decide) ⟨_,.inl (SqL.of hl),C,dx,_,hd,T.cl_Drawing,T.nA,_,Zcg m lp,lp,rfl,_,.inl (SqL.of hlp),Zj8 ?_ ?_⟩⟩
  .rw [Jaj (by rw [Jab]; omega)]; decide
  .refine ⟨_,rfl,d,C,dx,_,_,rfl,hd,T.cl_Drawing,T.nA,Zcg m lp,_,rfl,lp,l,rfl,⟨_,SqL.of hlp⟩,⟨_,SqL.of hl⟩,λD hD=>?_⟩;refine Zk4 (k:=3) (xs:=xs) (ys:=ts.map V.ref) (λi vs H'=>Same H H'/\H' D = some (.lst vs)/\vs = ((List.range i).map λ_=>true).map V.bl) (by rw [Jab]; omega) ⟨Same.new hD,Zac,rfl⟩ (λi vs H' _ pv=>⟨SqL.of (pv.1 _ _ hlp),SqL.of (pv.1 _ _ hl)⟩) ?_ ?_
   .intro i x y pz vs σ' H' hi hx hy hpz sh e91;refine Za9 e91 λs' e' e917=>?_;clear e91;obtain rfl:=e917;refine xE3_1 (Zn0 sh) λz1 z2 z3 e918=>?_;obtain rfl:=e918;have hi':i < ps.length:=by omega
    have hq:ps[i]? = some ps[i]:=Jaa hi';refine Zad (pr.2 i x _ hx hq) λta e919 hta=>?_;obtain rfl:=e919;have hti:ts[i]? = some (ts[i]'(by omega)):=Jaa (by omega);rw [Jah,hti] at hy;cases hy;refine Zla (tb i _ _ hti hq) λr rs tb1=>?_;refine Zcj (ip _ (Jad hq)) λi0 i1 j0 j1=>?_;have s0:=s'.trans (Same.new (o:=.tup [V.ref ta,V.ref (ts[i]'(by omega))]) hpz);have hz0:=hz.same s0;have a1:=Zmf (ns:=ns) i0 (by omega);have a2:=Zmf (ns:=ns) j0 (by omega);have b1:=hz.2.2 (ns.getD ps[i].1.toNat 0) (by rw [Jac,Jaa (show ps[i].1.toNat < ns.length by omega)]; exact Ja2 _);have b2:=hz.2.2 (ns.getD ps[i].2.toNat 0) (by rw [Jac,Jaa (show ps[i].2.toNat < ns.length by omega)]; exact Ja2 _);refine Zau pz _ ⟨rfl,SqT.of Zac,rfl,_,_,rfl,ta,_,rfl,SqT.of (s0 _ _ hta),rfl,_,_,rfl,_,_,rfl,rfl,_,_,rfl,rfl,?_⟩;simp only [Zgj,List.set_cons_zero,List.set_cons_succ,Jcy];refine ⟨_,rfl,_,rfl,_,rfl,z,_,_,_,rfl,rfl,SqL.of hz0.1,a2,_,rfl,_,rfl,z,_,_,_,rfl,rfl,SqL.of hz0.1,a1,_,rfl,g,_,r,p,_,_,rs,rfl,hg.same s0,hp,tb1.same s0,b2.1,b2.2,b1.1,b1.2,λH'' s''=>?_⟩;have s1:=(Same.new (o:=.tup [V.ref ta,V.ref (ts[i]'(by omega))]) hpz).trans s'';exact Zok (ws:=((List.range (i + 1)).map λ_=>true).map V.bl) hi Zv5 (s1 _ _ e') (Zap (by rw [Jab,Jab,Ja4]; omega)) ⟨(s'.trans s1).upd hD,by rw [Zac,Jb7,Ja1,Ja1]; rfl,rfl⟩
   .intro vs H' e92;refine Za9 e92 λs' e' e920=>?_;clear e92;obtain rfl:=e920;exact ⟨D,rfl,_,SqL.of e',by rw [Zgz]; exact q H' s'⟩
def TabF (H0 H:Hp) (p hh wd:Int) (t:Addr) (M:List (List V)):Prop:=∃ r rs,TabC H p hh wd t r rs M/\H0 t = none/\H0 r = none/\∀ a ∈ rs,H0 a = none
theorem TabF.same {H0 H H':Hp} {p hh wd:Int} {t:Addr} {M:List (List V)} (h:TabF H0 H p hh wd t M) (s:Same H H'):TabF H0 H' p hh wd t M:=let ⟨r,rs,a,b,c,d⟩:=h; ⟨r,rs,a.same s,b,c,d⟩
def Tbs (H:Hp) (p:Int) (l:Addr) (ts:List Addr) (cs:List (Int × Int × List (List V))):Prop:=H l = some (.lst (ts.map V.ref))/\ts.length = cs.length/\cs.length<=9/\∀ (i:Nat) t c,ts[i]? = some t->cs[i]? = some c->(∃ r rs,TabC H p c.1 c.2.1 t r rs c.2.2)/\0<=c.1/\c.1<=24/\0<=c.2.1/\c.2.1<=24
theorem TabC.put {H:Hp} {p hh wd:Int} {t r D:Addr} {rs:List Addr} {M:List (List V)} {l:List V} {o:HO} (h:TabC H p hh wd t r rs M) (hD:H D = some (.lst l)) (nr:r ≠ D) (ns:D ∉ rs):TabC (upd H D o) p hh wd t r rs M:=by
 have nt:t ≠ D:=Zeh h.tab.tup hD (by intro z; cases z);have na:∀ a ∈ rs,a ≠ D:=λa ha z=>ns (z ▸ ha);exact ⟨⟨by rw [Zah nt]; exact h.tab.tup,by rw [Zah nr]; exact h.tab.lst,h.tab.len,λa ha=>(h.tab.row a ha).put hD (na a ha),h.tab.nin⟩,λi a e=>by rw [Zah (na a (Jad e))]; exact h.con i a e⟩
abbrev teRow (K:PySem.W.Frag):TE:=tCB (λxs H Q=>∃ p,xs = [V.ref p]/\∃ x,(SqL K H p x\/SqT K H p x)/\∀ (l:Addr),H l = none->Q (V.ref l) (upd H l (HO.lst x))) (Ze1 (Zho 0) Zp9)
abbrev teTab (K:PySem.W.Frag):TE:=tTup (Ze1 (Zho 0) (Ze1 (Zho 1) (Ze1 (tComp 1 [] (Zse K (Zho 2)) (Zbi 0) Zgj (teRow K)) Zp9)))
theorem Zsv {r D:Addr} {rs:List Addr} {M:List (List V)} {fr:List (Str × Nat)} {σ:L2.St} {H1:Hp} {Q:VK} (hr:H1 r = some (.lst (rs.map V.ref))) (hc:∀ (i:Nat) (a:Addr),rs[i]? = some a->H1 a = some (.lst (M.getD i []))) (hn:rs.length<=100) (hD:H1 D = none)
  (hQ:∀ (rs':List Addr) H',Same H1 H'->H' D = some (.lst (rs'.map V.ref))->rs'.length = rs.length->(∀ (i:Nat) (a:Addr),rs'[i]? = some a->H' a = some (.lst (M.getD i [])))->(∀ a ∈ rs',H1 a = none/\a ≠ D)->rs'.Nodup->Q (.ref D) H'):
  Zb9 (Zbi 0) Zgj (teRow K) (Itl K r) D (Zh8 1 fr σ) H1 Q:=by
 refine Zfo (xs:=rs.map V.ref) (λi vs H=>∃ rs':List Addr,vs = rs'.map V.ref/\Same H1 H/\H D = some (.lst vs)/\rs'.length = i/\(∀ (j:Nat) (a:Addr),rs'[j]? = some a->H a = some (.lst (M.getD j [])))/\(∀ a ∈ rs',H1 a = none/\a ≠ D)/\rs'.Nodup)
  ⟨[],rfl,Same.new hD,Zac,rfl,λj a e=>by simp at e,(λa ha=>by simp at ha),List.nodup_nil⟩ (λi vs H _ ⟨_,_,s,_⟩=>SqL.of (s _ _ hr)) ?_ (λvs H ⟨rs',hv,s,e,hl,hc',fr',nd'⟩=>hQ rs' H s (hv ▸ e) (by rw [hl,Jab]) hc' fr' nd')
 intro i x vs σ' H hi hx sh e91;refine Ztm e91 λrs' e93 s e hl hc' e94=>?_;clear e91;obtain rfl:=e93;obtain ⟨fr',nd'⟩:=e94;obtain ⟨z,rfl⟩:=sh.one;rw [Jab] at hi;rw [Zop hi] at hx;cases hx;have ha:=s _ _ (hc i _ (Jaa hi));simp only [Zfx,Zbi,Zgj,List.set_cons_zero,Jcy];refine ⟨_,rfl,_,rfl,_,.inl (SqL.of ha),λc hc0=>?_⟩;have nDc:D ≠ c:=Zag e hc0;have hDc:(upd H c (.lst (M.getD i []))) D = some (.lst (rs'.map V.ref)):=by rw [Zah nDc]; exact e
 have sc:=s.trans (Same.new (o:=.lst (M.getD i [])) hc0);refine Zok (ws:=rs'.map V.ref ++ [.ref c]) (by rw [Jab]; exact hi) Sh.mk1 hDc (Zap (by rw [Jab]; omega)) ⟨rs' ++ [c],Zbq _ _,sc.upd hD,by rw [Zac,Zbq],by rw [Jae,hl]; rfl,λj a ej=>?_,λa ha=>?_,?_⟩
 .by_cases hj:j < rs'.length
  .rw [Jar hj] at ej;have:=hc' j a ej;have naD:=(fr' a (Jad ej)).2;rw [Zah naD,Zah (Zag this hc0)];exact this
  .rw [Jao (by omega)] at ej;have hj0:j - rs'.length = 0:=by
    by_cases z:j - rs'.length = 0
    .exact z
    .rw [Jal (by simp; omega)] at ej; cases ej
   rw [hj0] at ej;cases ej;rw [Zah nDc.symm,Zac,show j = i by omega]
 .rcases Jai.mp ha with ha | ha
  .exact fr' a ha
  .rw [Jaq.mp ha];exact ⟨s.free hc0,nDc.symm⟩
 .refine List.nodup_append.mpr ⟨nd',by simp,λa ha b hb z=>?_⟩;rw [Jaq.mp hb] at z;subst z;obtain ⟨j,hj,rfl⟩:=Jap.mp ha;have:=hc' j _ (Jaa hj);rw [hc0] at this;cases this
def Sep (H:Hp) (D:Addr) (ts:List Addr):Prop:=∃ rr:List (Addr × List Addr),rr.length = ts.length/\(∀ (i:Nat) t x,ts[i]? = some t->rr[i]? = some x->(∃ h w:V,H t = some (.tup [h,w,.ref x.1]))/\H x.1 = some (.lst (x.2.map V.ref)))/\(∀ x ∈ rr,x.1 ≠ D/\D ∉ x.2)/\(∀ x ∈ rr,∀ y ∈ rr,x.1 ∉ y.2)/\(rr.map (·.2)).flatten.Nodup
theorem Zl7 {l D:Addr} {p:Int} {ts:List Addr} {cs:List (Int × Int × List (List V))} {fr:List (Str × Nat)} {σ:L2.St} {H1:Hp} {Q:VK} (hT:Tbs H1 p l ts cs) (hD:H1 D = none)
  (hQ:∀ (ts':List Addr) H',Same H1 H'->H' D = some (.lst (ts'.map V.ref))->ts'.length = cs.length->(∀ (i:Nat) t c,ts'[i]? = some t->cs[i]? = some c->TabF H1 H' p c.1 c.2.1 t c.2.2)->Sep H' D ts'->Q (.ref D) H'):
  Zb9 (Zps K 3 (Zge (Zbi 0) (Zge (Zbi 1) (Zge (Zbi 2) Ztf)))) Zgj (teTab K) (Itl K l) D (Zh8 3 fr σ) H1 Q:=by
 refine Zcj hT λhl hlen h9 hc=>?_;clear hT;refine Zfo (k:=3) (xs:=ts.map V.ref) (λi vs H=>∃ (ts':List Addr) (rr:List (Addr × List Addr)),vs = ts'.map V.ref/\Same H1 H/\H D = some (.lst vs)/\ts'.length = i/\rr.length = i/\((∀ x ∈ rr,∀ y ∈ rr,x.1 ∉ y.2)/\(rr.map (·.2)).flatten.Nodup)/\(∀ x ∈ rr,x.1 ≠ D/\D ∉ x.2/\(∃ o,H x.1 = some o)/\∀ a ∈ x.2,∃ o,H a = some o)/\∀ (j:Nat) t c x,ts'[j]? = some t->cs[j]? = some c->rr[j]? = some x->TabC H p c.1 c.2.1 t x.1 x.2 c.2.2/\H1 t = none/\H1 x.1 = none/\∀ a ∈ x.2,H1 a = none)
  ⟨[],[],rfl,Same.new hD,Zac,rfl,rfl,⟨by simp,by simp⟩,by simp,λj t c x e=>by simp at e⟩ (λi vs H _ ⟨_,_,_,s,_⟩=>SqL.of (s _ _ hl)) ?_ (λvs H ⟨ts',rr,hv,s,e,hl',hrr,sp,sD,hc'⟩=>?_)
 rotate_left
 .have hrl:rr.length = ts'.length:=by omega
  have htl:ts'.length = cs.length:=by rw [hl',Jab,hlen]
  refine hQ ts' H s (hv ▸ e) htl (λi t c e1 e2=>?_) ⟨rr,hrl,λi t x e1 e2=>?_,λx hx=>⟨(sD x hx).1,(sD x hx).2.1⟩,sp⟩
  .have hi:i < rr.length:=by have:=(Jag.mp e1).1; omega
   refine Zcj (hc' i t c _ e1 e2 (Jaa hi)) λa1 a2 a3 a4=>?_;exact Zau _ _ ⟨a1,a2,a3,a4⟩
  .have hi:i < cs.length:=by have:=(Jag.mp e1).1; omega
   obtain ⟨a1,_⟩:=hc' i t _ x e1 (Jaa hi) e2;exact ⟨⟨_,_,a1.tab.tup⟩,a1.tab.lst⟩
 intro i x vs σ' H hi hx sh e92;refine Zib e92 λts' rr e95 s e hl' hrr e96=>?_;clear e92;obtain rfl:=e95;refine Za9 e96 λsp sD hc'=>?_;clear e96;refine xE3_1 (Zn0 sh) λz1 z2 z3 e97=>?_;obtain rfl:=e97;rw [Jab] at hi;rw [Zop hi] at hx;cases hx;have hci:cs[i]? = some (cs[i]'(by omega)):=Jaa (by omega);refine Zcv (hc i _ _ (Jaa hi) hci) λe98 c0 c24 w0 w24=>?_;obtain ⟨r,rs,tc⟩:=e98;have tcH:=tc.same s;have hrl:=tc.tab.len;refine Zau _ _ ⟨rfl,SqT.of tcH.tab.tup,rfl,_,_,rfl,_,_,rfl,_,_,rfl,rfl,?_⟩;simp only [Zgj,List.set_cons_zero,List.set_cons_succ,Jcy];refine ⟨_,rfl,_,rfl,_,rfl,r,rfl,⟨_,SqL.of tcH.tab.lst⟩,λD2 hD2=>Zsv (M:=(cs[i]'(by omega)).2.2) tcH.tab.lst tcH.con (by omega) hD2 λrs' H' s' hD2' hl2 hc2 fr2 nd2=>?_⟩;refine ⟨by show 3<=sizeLine; decide,λpt hpt=>?_⟩;have s0:=Same.new (o:=.tup [V.int (cs[i]'(by omega)).1,V.int (cs[i]'(by omega)).2.1,V.ref D2]) hpt;have s1:=s'.trans s0;have sA:=s.trans s1;have hDpt:=s1 _ _ e;have nDp:D ≠ pt:=Zag (s' _ _ e) hpt;have nD2:D2 ≠ D:=λz=>by rw [z,e] at hD2; cases hD2
 have nDr:D ∉ rs':=λz=>by have:=(fr2 D z).1; rw [e] at this; cases this
 have tcN:TabC (upd H' pt (.tup [V.int (cs[i]'(by omega)).1,V.int (cs[i]'(by omega)).2.1,V.ref D2])) p (cs[i]'(by omega)).1 (cs[i]'(by omega)).2.1 pt D2 rs' (cs[i]'(by omega)).2.2:=by
  refine ⟨⟨Zac,s0 _ _ hD2',by omega,λa ha=>?_,λz=>(fr2 D2 z).2 rfl⟩,λj a ej=>s0 _ _ (hc2 j a ej)⟩;obtain ⟨j,hj,rfl⟩:=Jap.mp ha;have hj':j < rs.length:=by omega
  refine Zav (tcH.tab.row rs[j] (Ja2 hj')) λys hy hyl hyn=>?_;rw [tcH.con j _ (Jaa hj')] at hy;cases hy;exact ⟨_,s0 _ _ (hc2 j _ (Jaa hj)),hyl,λy hy=>(hyn y hy).same s1⟩
 have sep':∀ x ∈ rr ++ [(D2,rs')],∀ y ∈ rr ++ [(D2,rs')],x.1 ∉ y.2:=λx hx y hy z=>by
  rcases Jai.mp hx with hx | hx <;> rcases Jai.mp hy with hy | hy
  .exact sp.1 x hx y hy z
  .rw [Jaq.mp hy] at z;obtain ⟨o,ho⟩:=(sD x hx).2.2.1;have:=(fr2 x.1 z).1;rw [ho] at this;cases this
  .rw [Jaq.mp hx] at z;obtain ⟨o,ho⟩:=(sD y hy).2.2.2 _ z;rw [hD2] at ho;cases ho
  .rw [Jaq.mp hx,Jaq.mp hy] at z;exact (fr2 D2 z).2 rfl
 have nodup':((rr ++ [(D2,rs')]).map (·.2)).flatten.Nodup:=by
  rw [Ja1,List.flatten_append];refine List.nodup_append.mpr ⟨sp.2,by simpa using nd2,λa ha b hb z=>?_⟩;subst z;refine Zad (List.mem_flatten.mp ha) λu hu hau=>?_;refine Zad (Ja3.mp hu) λy hy e99=>?_;obtain rfl:=e99;obtain ⟨o,ho⟩:=(sD y hy).2.2.2 a hau;have:=(fr2 a (by simpa using hb)).1;rw [ho] at this;cases this
 refine Zok (ws:=ts'.map V.ref ++ [.ref pt]) (by rw [Jab]; exact hi) Zv5 hDpt (Zap (by rw [Jab]; omega)) ⟨ts' ++ [pt],rr ++ [(D2,rs')],Zbq _ _,sA.upd hD,by rw [Zac,Zbq],by rw [Jae,hl']; rfl,by rw [Jae,hrr]; rfl,⟨sep',nodup'⟩,λx hx=>?_,λj t c x e1 e2 e3=>?_⟩
 .have keep:∀ b o,b ≠ D->(upd H' pt (.tup [V.int (cs[i]'(by omega)).1,V.int (cs[i]'(by omega)).2.1,V.ref D2])) b = some o->∀ o',(upd (upd H' pt (.tup [V.int (cs[i]'(by omega)).1,V.int (cs[i]'(by omega)).2.1,V.ref D2])) D o') b = some o:=λb o nb h o'=>by rw [Zah nb]; exact h
  rcases Jai.mp hx with hx | hx
  .refine Zcj (sD x hx) λx1 x2 e910 x4=>?_;obtain ⟨o,ho⟩:=e910;refine ⟨x1,x2,⟨o,keep _ _ x1 (s1 _ _ ho) _⟩,λa ha=>?_⟩;obtain ⟨o,ho⟩:=x4 a ha;exact ⟨o,keep _ _ (λz=>x2 (z ▸ ha)) (s1 _ _ ho) _⟩
  .rw [Jaq.mp hx];refine ⟨nD2,nDr,⟨_,keep _ _ nD2 tcN.tab.lst _⟩,λa ha=>?_⟩;refine Zad (tcN.tab.row a ha) λys hy _=>?_;exact ⟨_,keep _ _ (λz=>nDr (z ▸ ha)) hy _⟩
 by_cases hj:j < ts'.length
 .rw [Jar hj] at e1;rw [Jar (by omega)] at e3;refine Zcj (hc' j t c x e1 e2 e3) λa1 a2 a3 a4=>?_;refine Za9 (sD x (Jad e3)) λa5 a6 _=>?_;exact ⟨(a1.same s1).put hDpt a5 a6,a2,a3,a4⟩
 .rw [Jao (by omega)] at e1;rw [Jao (by omega)] at e3;have hj0:j - ts'.length = 0:=by
   by_cases z:j - ts'.length = 0
   .exact z
   .rw [Jal (by simp; omega)] at e1; cases e1
  rw [show j - rr.length = 0 by omega] at e3;rw [hj0] at e1;cases e1;cases e3;have hji:j = i:=by omega
  subst hji;rw [hci] at e2;cases e2;exact ⟨tcN.put hDpt nD2 nDr,(s.trans s').free hpt,s.free hD2,λa ha=>s.free (fr2 a ha).1⟩
def Zqm:Sp:=λvs H Q _=>∃ (l:Addr) (p:Int) (ts:List Addr) (cs:List (Int × Int × List (List V))),vs = [.ref l]/\Tbs H p l ts cs/\∀ (l':Addr) (ts':List Addr) (H':Hp),Same H H'->H l' = none->H' l' = some (.lst (ts'.map V.ref))->ts'.length = cs.length->(∀ (i:Nat) t c,ts'[i]? = some t->cs[i]? = some c->TabF H H' p c.1 c.2.1 t c.2.2)->Sep H' l' ts'->Q (.ref l') H'
theorem ok_lent {f:Addr} {fd:FuncData} (F:Fun K "_law_lent" "_law_lent" Zg5 f fd) (T:Txt K mg C G S):FnOk P w K mg base CX0 1 f fd ["_law_tables_here"] Zqm:=by
 have nd:=Zis.nd;refine F.ok Zis (λvs H Q E h=>?_) (λcdv A outer s H vs Q E hr h=>?_)
 .refine Zml h λl p ts cs e911 _=>?_;clear h;obtain rfl:=e911;rfl
 .refine Zk9 h λl p ts cs e912 hT q=>?_;clear h;obtain rfl:=e912;refine ⟨_,(~~~(Zbf (own:=["_law_high","_law_wide","_law_rows"]) (fr:=[]) rfl (Zcn (by kernel_rfl)) (Zbt (pv 0)) (λ_ _ _ _=>⟨(@Zff _ K rfl _ _ _ _ 3 rfl (@Zai _ _ _ _ _ (@Zae _ _ 0 _ (show (["_law_high","_law_wide","_law_rows"]:List Str).Nodup by decide +kernel) rfl (Or.inl rfl) (Or.inr rfl)) (@Zai _ _ _ _ _ (@Zae _ _ 1 _ (show (["_law_high","_law_wide","_law_rows"]:List Str).Nodup by decide +kernel) rfl (Or.inl rfl) (Or.inr rfl)) (@Zai _ _ _ _ _ (@Zae _ _ 2 _ (show (["_law_high","_law_wide","_law_rows"]:List Str).Nodup by decide +kernel) rfl (Or.inl rfl) (Or.inr rfl)) (@Za0 _) (by rfl)) (by rfl)) (by rfl)) (by rfl) (by rfl)),Zbb,(@Zas _ _ _ _ _ ((pv 0)<&>((pv 1)<&>((Zbf (own:=["_law_row"]) (fr:=[]) rfl (Zcn (by kernel_rfl)) (Zn8 K rfl (pv 2)) (λ_ _ _ _=>⟨(@Zae _ _ 0 _ (show (["_law_row"]:List Str).Nodup by decide +kernel) rfl (Or.inl rfl) (Or.inr rfl)),Zbb,(Zie (Zen K rfl) rfl T.n_list Jc1 ((pv 0)<&>Zaa))⟩))<&>Zaa))))⟩))),?_⟩;walk_at "wp";exact ⟨_,rfl,l,rfl,⟨_,SqL.of hT.1⟩,λD hD=>Zl7 hT hD λts' H' s' hD' hl' ht' sp=>q D ts' H' s' hD hD' hl' ht' sp⟩
theorem NumO.extI {x C0 dx:Addr} {fs:List (Str × V)} {H H':Hp} {p:Int} {B:Nat} {v:V} (h:NumO H p B v) (hx:H x = some (.ins C0 dx fs)) (e:Ext x H H'):NumO H' p B v:=by
 refine Zav h λy nv b c=>?_;clear h;refine ⟨y,?_,b,c⟩;by_cases hp:p = 0
 .refine Zad (nv.ref hp) λt e913 ht=>?_;obtain rfl:=e913;exact NumV.tup hp (e _ _ (Zeh ht hx (by intro z; cases z)) ht)
 .obtain rfl:=nv.int hp;exact NumV.of hp
theorem TabC.extI {x C0 dx:Addr} {fs:List (Str × V)} {H H':Hp} {p hh wd:Int} {t r:Addr} {rs:List Addr} {M:List (List V)} (h:TabC H p hh wd t r rs M) (hx:H x = some (.ins C0 dx fs)) (e:Ext x H H'):TabC H' p hh wd t r rs M:=by
 refine ⟨⟨e _ _ (Zeh h.tab.tup hx (by intro z; cases z)) h.tab.tup,e _ _ (Zeh h.tab.lst hx (by intro z; cases z)) h.tab.lst,h.tab.len,λa ha=>?_,h.tab.nin⟩,λi a ei=>e _ _ (Zeh (h.con i a ei) hx (by intro z; cases z)) (h.con i a ei)⟩;refine Zav (h.tab.row a ha) λys h1 h2 h3=>?_;exact ⟨ys,e _ _ (Zeh h1 hx (by intro z; cases z)) h1,h2,λy hy=>(h3 y hy).extI hx e⟩
theorem Tbs.extI {x C0 dx:Addr} {fs:List (Str × V)} {H H':Hp} {p:Int} {l:Addr} {ts:List Addr} {cs:List (Int × Int × List (List V))} (h:Tbs H p l ts cs) (hx:H x = some (.ins C0 dx fs)) (e:Ext x H H'):Tbs H' p l ts cs:=
 ⟨e _ _ (Zeh h.1 hx (by intro z; cases z)) h.1,h.2.1,h.2.2.1,λi t c e1 e2=>let ⟨⟨r,rs,a⟩,b⟩:=h.2.2.2 i t c e1 e2; ⟨⟨r,rs,a.extI hx e⟩,b⟩⟩
theorem Tbs.same {H H':Hp} {p:Int} {l:Addr} {ts:List Addr} {cs:List (Int × Int × List (List V))} (h:Tbs H p l ts cs) (s:Same H H'):Tbs H' p l ts cs:=
 ⟨s _ _ h.1,h.2.1,h.2.2.1,λi t c e1 e2=>let ⟨⟨r,rs,a⟩,b⟩:=h.2.2.2 i t c e1 e2; ⟨⟨r,rs,a.same s⟩,b⟩⟩
def Zg2 (g d z l:Addr):List (Str × V):=Zcs "tables" (.ref l) (Zcs "sizes" (.ref z) (Zcs "drawing" (.ref d) (Zcs "ground" (.ref g) [])))
theorem Zlk (g d z l:Addr):(Zg2 g d z l).lookup ("tables" : Str) = some (.ref l):=by unfold Zg2; rw [Zax,if_pos rfl]
theorem Zdi (g d z l:Addr):(Zg2 g d z l).lookup ("sizes" : Str) = some (.ref z):=by unfold Zg2; rw [Zax,if_neg (by decide +kernel),Zax,if_pos rfl]
theorem Zc2 (g d z l:Addr):(Zg2 g d z l).lookup ("drawing" : Str) = some (.ref d):=by unfold Zg2; rw [Zax,if_neg (by decide +kernel),Zax,if_neg (by decide +kernel),Zax,if_pos rfl]
theorem Zgm (g d z l:Addr):(Zg2 g d z l).lookup ("ground" : Str) = some (.ref g):=by unfold Zg2; rw [Zax,if_neg (by decide +kernel),Zax,if_neg (by decide +kernel),Zax,if_neg (by decide +kernel),Zax,if_pos rfl]
def Fits (ns:List Int) (cs:List (Int × Int × List (List V))) (ps:List (Int × Int)):Prop:=cs.length = ps.length/\∀ (i:Nat) c q,cs[i]? = some c->ps[i]? = some q->c.1 = ns.getD q.2.toNat 0/\c.2.1 = ns.getD q.1.toNat 0
def spSI (S C G:Addr):Sp:=λvs H Q _=>∃ (x dx g d z l lp:Addr) (p m:Int) (xs:List V) (ps:List (Int × Int)) (ns:List Int) (ts:List Addr) (cs:List (Int × Int × List (List V))),vs = [.ref x,.ref g,.ref d,.ref z,.ref l]/\H x = some (.ins S dx [])/\GAt G H g p/\GroundP p /\
 Zfj C H d m lp xs/\Prs H xs ps/\InP m ps/\ps.length<=9/\Sizes H z ns/\(ns.length:Int) = m/\Tbs H p l ts cs/\Fits ns cs ps /\
 ∀ (z' l':Addr) (ts':List Addr) (H':Hp),Ext x H H'->H' x = some (.ins S dx (Zg2 g d z' l'))->H z' = none->H l' = none->Sizes H' z' ns->H' l' = some (.lst (ts'.map V.ref))->ts'.length = cs.length->(∀ (i:Nat) t c,ts'[i]? = some t->cs[i]? = some c->TabF H H' p c.1 c.2.1 t c.2.2)->Q .non H'
theorem Zuo {f:Addr} {fd:FuncData} (F:Fun K "__init__" "Standing.__init__" Zda f fd) (T:Txt K mg C G S) (C_are_sizes:Cal P w K mg base "are_sizes" 2 (spSz C)) (C_are_tables:Cal P w K mg base "are_tables" 7 (spTs C G)):FnOk P w K mg base CX0 8 f fd ["self","ground","drawing","sizes","tables"] (spSI S C G):=by
 have nd:=Zeu.nd;refine F.ok Zeu (λvs H Q E h=>?_) (λcdv A outer s H vs Q E hr h=>?_)
 .refine xE14_2 h λx dx g d z l lp p m xs ps ns ts cs e914 _=>?_;clear h;obtain rfl:=e914;rfl
 .refine xE14_4 h λx dx g d z l lp p m xs ps ns ts cs e915 hx hg e916=>?_;clear h;obtain rfl:=e915;refine Zp1 e916 λhp hd pr ip p9 hz hm hT ft q=>?_;clear e916;refine ⟨_,((@Za1 _ _ _ _ _ _ _ _ (PW.pt (Zec (Zbz (Zb1 (Za6 C_are_sizes hr.m rfl ((pvr 2)<&>((pvr 3)<&>Zaa))))) (Zdb (Zbz (Zb1 (Za6 C_are_tables hr.m rfl ((pvr 1)<&>((pvr 2)<&>((pvr 3)<&>((pvr 4)<&>Zaa)))))))))) (@Zal _ _ _ Zee) Zan)<*>((Zi9 (pvr 0) (pvr 1) rfl)<*>((Zi9 (pvr 0) (pvr 2) rfl)<*>((Zi9 (pvr 0) (Zie Zci rfl T.n_list Jc1 ((pvr 3)<&>Zaa)) rfl)<*>(@Zal _ _ _ (Zi9 (pvr 0) (Zbf (own:=["high","wide","rows"]) (fr:=[]) rfl (Zcn (by kernel_rfl)) (Zbt (pv 4)) (λ_ _ _ _=>⟨(@Zff _ K rfl _ _ _ _ 3 rfl (@Zai _ _ _ _ _ (@Zae _ _ 0 _ (show (["high","wide","rows"]:List Str).Nodup by decide +kernel) rfl (Or.inl rfl) (Or.inr rfl)) (@Zai _ _ _ _ _ (@Zae _ _ 1 _ (show (["high","wide","rows"]:List Str).Nodup by decide +kernel) rfl (Or.inl rfl) (Or.inr rfl)) (@Zai _ _ _ _ _ (@Zae _ _ 2 _ (show (["high","wide","rows"]:List Str).Nodup by decide +kernel) rfl (Or.inl rfl) (Or.inr rfl)) (@Za0 _) (by rfl)) (by rfl)) (by rfl)) (by rfl) (by rfl)),Zbb,(@Zas _ _ _ _ _ ((pv 0)<&>((pv 1)<&>((Zbf (own:=["row"]) (fr:=[]) rfl (Zcn (by kernel_rfl)) (Zn8 K rfl (pv 2)) (λ_ _ _ _=>⟨(@Zae _ _ 0 _ (show (["row"]:List Str).Nodup by decide +kernel) rfl (Or.inl rfl) (Or.inr rfl)),Zbb,(Zie (Zen K rfl) rfl T.n_list Jc1 ((pv 0)<&>Zaa))⟩))<&>Zaa))))⟩)) rfl)))))),?_⟩;walk_at "wp";refine xI6_1 d z lp m xs ns ⟨rfl,hd,hz,hm,λH1 s1=>⟨true,rfl,Zj8 (by decide) ?_⟩⟩;have hT1:=hT;refine Zcj hT λhl hlen h9 hc=>?_;clear hT;refine Zad hd λdxd hd1 hd2=>?_;clear hd;refine Znm g d z l lp p m xs ps ns ts ⟨rfl,hg.same s1,hp,⟨dxd,s1 _ _ hd1,s1 _ _ hd2⟩,pr.same s1,ip,p9,hz.same s1,hm,s1 _ _ hl,by rw [hlen,ft.1],λi t q' e1 e2=>?_,λH2 s2=>⟨true,rfl,Zj8 (by decide) ?_⟩⟩
  .have hi:i < ps.length:=(Jag.mp e2).1;have hci:cs[i]? = some (cs[i]'(by have:=ft.1; omega)):=Jaa _;obtain ⟨⟨r,rs,tc⟩,_⟩:=hc i t _ e1 hci;obtain ⟨f1,f2⟩:=ft.2 i _ _ hci e2;rw [<- f1,<- f2];exact ⟨r,rs,tc.tab.same s1⟩
  .have s12:=s1.trans s2;have hx2:=s12 _ _ hx;have nzx:z ≠ x:=Zeh hz.1 hx (by intro w; cases w);refine Zby S dx [] ⟨hx2,T.cl_Standing,T.nSg,by show 0 < 1000; decide,S,dx,_,Zac,T.cl_Standing,T.nSd,by have l1:=Zcf "ground" (.ref g) []; simp at l1; omega,_,.inl (SqL.of (by rw [Zah nzx,Zah nzx]; exact s12 _ _ hz.1)),λl1 hl1=>?_⟩;have nxl:x ≠ l1:=Zag Zac hl1;have f1:H l1 = none:=by
    rw [Zah nxl.symm,Zah nxl.symm] at hl1;exact s12.free hl1
   have g1:=Zcf "ground" (.ref g) [];have g2:=Zcf "drawing" (.ref d) (Zcs "ground" (.ref g) []);have g3:=Zcf "sizes" (.ref l1) (Zcs "drawing" (.ref d) (Zcs "ground" (.ref g) []));simp only [Jcj] at g1;refine Zby S dx _ ⟨by rw [Zah nxl]; exact Zac,T.cl_Standing,T.nSs,by omega,?_⟩;have e6:Ext x H (upd (upd (upd (upd H2 x (.ins S dx (Zcs "ground" (.ref g) []))) x (.ins S dx (Zcs "drawing" (.ref d) (Zcs "ground" (.ref g) [])))) l1 (.lst (ns.map V.int))) x (.ins S dx (Zcs "sizes" (.ref l1) (Zcs "drawing" (.ref d) (Zcs "ground" (.ref g) []))))):=λb o nb eb=>by
    rw [Zah nb,Zah (Zag eb f1),Zah nb,Zah nb];exact s12 _ _ eb
   have hx6:(upd (upd (upd (upd H2 x (.ins S dx (Zcs "ground" (.ref g) []))) x (.ins S dx (Zcs "drawing" (.ref d) (Zcs "ground" (.ref g) [])))) l1 (.lst (ns.map V.int))) x (.ins S dx (Zcs "sizes" (.ref l1) (Zcs "drawing" (.ref d) (Zcs "ground" (.ref g) []))))) x = some (.ins S dx (Zcs "sizes" (.ref l1) (Zcs "drawing" (.ref d) (Zcs "ground" (.ref g) [])))):=Zac;have hl6:(upd (upd (upd (upd H2 x (.ins S dx (Zcs "ground" (.ref g) []))) x (.ins S dx (Zcs "drawing" (.ref d) (Zcs "ground" (.ref g) [])))) l1 (.lst (ns.map V.int))) x (.ins S dx (Zcs "sizes" (.ref l1) (Zcs "drawing" (.ref d) (Zcs "ground" (.ref g) []))))) l1 = some (.lst (ns.map V.int)):=by rw [Zah nxl.symm]; exact Zac
   generalize upd (upd (upd (upd H2 x (.ins S dx (Zcs "ground" (.ref g) []))) x (.ins S dx (Zcs "drawing" (.ref d) (Zcs "ground" (.ref g) [])))) l1 (.lst (ns.map V.int))) x (.ins S dx (Zcs "sizes" (.ref l1) (Zcs "drawing" (.ref d) (Zcs "ground" (.ref g) [])))) = H6 at *;have fr6:∀ b,H6 b = none->H b = none:=λb hb=>by
    cases eb:H b with
    | none=>rfl
    | some o=>
     by_cases nb:b = x
     .rw [nb,hx6] at hb; cases hb
     .rw [e6 b o nb eb] at hb; cases hb
   have hT6:=hT1.extI hx e6;refine ⟨_,rfl,l,rfl,⟨_,SqL.of hT6.1⟩,λD hD=>Zl7 hT6 hD λts' H7 s7 hD7 hl7 ht7 _=>?_⟩;have hx7:=s7 _ _ hx6;have nDx:D ≠ x:=λw=>by rw [w,hx6] at hD; cases hD
   refine Zby S dx _ ⟨hx7,T.cl_Standing,T.nSt,by omega,?_⟩;refine q l1 D ts' _ (λb o nb eb=>by rw [Zah nb]; exact s7 _ _ (e6 b o nb eb)) Zac f1 (fr6 D hD) ⟨by rw [Zah nxl.symm]; exact s7 _ _ hl6,hz.2⟩ (by rw [Zah nDx]; exact hD7) hl7 λi t c e1 e2=>?_;refine Zdv (ht7 i t c e1 e2) λr rs a1 a2 a3 a4=>?_;exact Zau r rs ⟨a1.extI hx7 (λb o nb eb=>by rw [Zah nb]; exact eb),fr6 t a2,fr6 r a3,λa ha=>fr6 a (a4 a ha)⟩
end
end Pf
set_option maxRecDepth 50000
set_option maxHeartbeats 500000
namespace Pf
open PySem L2 PyProof.Rows
section
variable {P:Program} {w:World} {K:PySem.W.Frag} {mg:Str->Option Value} {base:Heap} {C G S:Addr}
def spNum:Sp:=λvs H Q _=>∃ (l:Addr) (p:Int),vs = [.ref l,.int p]/\Bag H l/\GroundP p/\∀ (v:V) (x:Int × Int) (H':Hp),Ext l H H'->Bag H' l->NumV H' p v x->Isn p x->Bd 5000 x->Q v H'
theorem ok_lnum {f:Addr} {fd:FuncData} (F:Fun K "_law_number" "_law_number" Ze9 f fd) (T:Txt K mg C G S) (C_law_draw:Cal P w K mg base "_law_draw" 1 Zdg) (C_law_low:Cal P w K mg base "_law_low" 1 Znw):FnOk P w K mg base CX0 3 f fd ["_law_bag_here","_law_p"] spNum:=by
 have nd:=Zgo.nd;refine F.ok Zgo (λvs H Q E h=>?_) (λcdv A outer s H vs Q E hr h=>?_)
 .refine Zbo h λl p e95 _=>?_;clear h;obtain rfl:=e95;rfl
 .refine Zdv h λl p e96 hb hp q=>?_;clear h;obtain rfl:=e96;have p0:=hp.lo;have p97:=hp.hi;refine ⟨_,((@Za1 _ _ _ _ _ _ _ _ (Zao (Zj3 Ze0) (pvr 1) Zab (Zam _)) (~~~(Za6 C_law_draw hr.m rfl ((pvr 0)<&>((pvr 1)<&>Zaa)))) Zan)<*>((Zak (i:=2) nd rfl (Or.inl rfl) (Zbp<|>(Za6 C_law_draw hr.m rfl ((pvr 0)<&>(Zab<&>Zaa)))<&&>Zab))<*>(~~~(Za6 C_law_low hr.m rfl ((pvr 2)<&>((Zay<|>Zab<&&>(Za6 C_law_draw hr.m rfl ((pvr 0)<&>(Zab<&>Zaa))))<&>Zaa)))))),?_⟩;walk_at "wp";refine Zbx (λhc=>?_) (λhc=>?_)
  .have hc:=Ja0 hc;refine hb.draw hc (by omega) λz H2 z0 z1 e2 b2=>?_;exact q (.int z) (z,1) H2 e2 b2 (NumV.of (x:=(z,1)) (by omega)) (.inr ⟨hc,z0,z1,rfl⟩) ⟨by show z.natAbs<=5000; omega,by show Int.natAbs 1<=5000; decide⟩
  .have hc:¬ 0 < p:=λz=>hc (Jaj z);have hp0:p = 0:=by omega
   subst hp0;have fin:∀ (H3:Hp) (a b:Int),Ext l H H3->Bag H3 l->0 < b->a.natAbs<=5000->b.natAbs<=5000->Znw [.int a,.int b] H3 Q E0:=λH3 a b e3 b3 hb0 h1 h2=>by
    refine Zau a b ⟨rfl,Top.of (by omega),hb0,by omega,λt ht=>?_⟩;have nt:=b3.ne ht;exact q _ (nrm a b) _ (e3.trans (Ext.new ht)) (b3.new nt) (NumV.tup rfl Zac) (Zkr rfl hb0) (nrm_bd hb0 h1 h2)
   exact hb.draw (by decide) (by decide) λz H2 z0 z1 e2 b2=>⟨z,rfl,b2.draw (by decide) (by decide) λa H3 a0 a1 e3 b3=>⟨a,rfl,fin _ _ _ (e2.trans e3) b3 (by omega) (by omega) (by omega)⟩⟩
theorem bd_int0 {p:Int} {B:Nat} (hp:GroundP p) (hB:1<=B:=by decide):Bd B (Zhl p 0):=by
 by_cases h0:p = 0
 .unfold Zhl;rw [if_pos h0];exact ⟨Jb2 _,hB⟩
 .unfold Zhl;rw [if_neg h0,Int.zero_emod];exact ⟨Jb2 _,hB⟩
def Zqo:Sp:=λvs H Q _=>∃ p k:Int,vs = [.int p,.int k]/\GroundP p/\∀ v H',Same H H'->NumV H' p v (Zhl p k)->Q v H'
theorem ok_lint {f:Addr} {fd:FuncData} (F:Fun K "_law_whole" "_law_whole" Zf4 f fd) (T:Txt K mg C G S):FnOk P w K mg base CX0 1 f fd ["_law_p","_law_k"] Zqo:=by
 have nd:=Zht.nd;refine F.ok Zht (λvs H Q E h=>?_) (λcdv A outer s H vs Q E hr h=>?_)
 .refine Zbo h λp k e97 _=>?_;clear h;obtain rfl:=e97;rfl
 .refine Zbl h λp k e98 hp q=>?_;clear h;obtain rfl:=e98;have p0:=hp.lo;refine ⟨_,((@Za1 _ _ _ _ _ _ _ _ (Zao (Zj3 Ze0) (pvr 0) Zab (Zam _)) (~~~((opJ Zcb)<|>(pvr 1)<&&>(pvr 0))) Zan)<*>(~~~(@Zas _ _ _ _ _ ((pvr 1)<&>(Zab<&>Zaa))))),?_⟩;walk_at "wp";refine Zbx (λhc=>?_) (λhc=>?_)
  .have hc:=Ja0 hc;refine ⟨hc,q _ H (Same.refl _) ?_⟩;have:=NumV.of (H:=H) (x:=Zhl p k) (show ¬ p = 0 by omega);rw [Zhl,if_neg (by omega)] at this ⊢;exact this
  .have hc:¬ 0 < p:=λz=>hc (Jaj z);have hp0:p = 0:=by omega
   refine ⟨by decide,λt ht=>q _ _ (Same.new ht) ?_⟩;rw [Zhl,if_pos hp0];exact NumV.tup hp0 Zac
def spTb:Sp:=λvs H Q _=>∃ (l:Addr) (p hh wd:Int),vs = [.ref l,.int p,.int hh,.int wd]/\Bag H l/\GroundP p/\0<=hh/\hh<=24/\0<=wd/\wd<=24 /\
 ∀ (t r:Addr) (rs:List Addr) (H':Hp),Ext l H H'->Bag H' l->H t = none->H r = none->(∀ a ∈ rs,H a = none)->(∀ a ∈ rs,RowO H' p 5000 wd a)->Tab H' p hh wd t r rs->Q (.ref t) H'
theorem ok_tb {f:Addr} {fd:FuncData} (F:Fun K "_law_table" "_law_table" Zf6 f fd) (T:Txt K mg C G S) (C_law_draw:Cal P w K mg base "_law_draw" 1 Zdg) (C_law_number:Cal P w K mg base "_law_number" 3 spNum) (C_law_whole:Cal P w K mg base "_law_whole" 1 Zqo):FnOk P w K mg base CX0 4 f fd ["_law_bag_here","_law_p","_law_high","_law_wide"] spTb:=by
 have nd:=Zhv.nd;refine F.ok Zhv (λvs H Q E h=>?_) (λcdv A outer s H vs Q E hr h=>?_)
 .refine Zml h λl p hh wd e99 _=>?_;clear h;obtain rfl:=e99;rfl
 .refine Zdc h λl p hh wd e910 hb hp e911=>?_;clear h;obtain rfl:=e910;refine Zcv e911 λh0 h24 w0 w24 q=>?_;clear e911;refine ⟨_,((Zak (i:=4) nd rfl (Or.inl rfl) (Za6 C_law_draw hr.m rfl ((pvr 0)<&>(Zab<&>Zaa))))<*>((Zak (i:=5) nd rfl (Or.inl rfl) (@Zbm _ _ _ _ Zaa))<*>((Zbh Jan rfl (Zdt rfl T.n_range ((pv 2)<&>Zaa)) (@Zae _ _ 6 _ nd rfl (Or.inl rfl) (Or.inl rfl)) ((Zak (i:=7) nd rfl (Or.inl rfl) (@Zbm _ _ _ _ Zaa))<*>((Zbh Jan rfl (Zdt rfl T.n_range ((pv 3)<&>Zaa)) (@Zae _ _ 8 _ nd rfl (Or.inl rfl) (Or.inl rfl)) ((Zak (i:=9) nd rfl (Or.inl rfl) (Za6 C_law_number hr.m rfl ((pvr 0)<&>((pvr 1)<&>Zaa))))<*>((@Za1 _ _ _ _ _ _ _ _ (PW.pt (Zln (Zao (Zif Zcc) (pvr 4) Zab (Zam _)) (Zm5 (Zao Ze0 (Za6 C_law_draw hr.m rfl ((pvr 0)<&>(Zab<&>Zaa))) Zab (Zam _))))) (@Zal _ _ _ (Zak (i:=9) nd rfl (Or.inl rfl) (Za6 C_law_whole hr.m rfl ((pvr 1)<&>(Zab<&>Zaa))))) Zan)<*>(@Zal _ _ _ (Zb2 (Zez Jax Jay Jaz (mtJ Zba) (pvr 7) ((pvr 9)<&>Zaa)))))))<*>(@Zal _ _ _ (Zb2 (Zez Jax Jay Jaz (mtJ Zba) (pvr 5) ((pvr 7)<&>Zaa)))))))<*>(~~~(@Zas _ _ _ _ _ ((pvr 2)<&>((pvr 3)<&>((pvr 5)<&>Zaa)))))))),?_⟩;walk_at "wp";refine hb.draw (by decide) (by decide) λz H2 z0 z1 e2 b2=>⟨by decide,λr hr0=>?_⟩
  have nr:r ≠ l:=b2.ne hr0;have fr:H r = none:=e2.free nr hr0;refine ⟨_,rfl,hh,rfl,by omega,by omega,Za2 (λi σ H3=>∃ (v6 v7 v8 v9:Option V) (rs:List Addr),σ = [some (.ref l),some (.int p),some (.int hh),some (.int wd),some (.int z),some (.ref r),v6,v7,v8,v9]/\Ext l H H3/\Bag H3 l/\(∀ a ∈ rs,H a = none)/\r ∉ rs/\H3 r = some (.lst (rs.map V.ref))/\rs.length = i/\∀ a ∈ rs,RowO H3 p 5000 wd a)
   ⟨none,none,none,none,[],rfl,e2.trans (Ext.new hr0),b2.new nr,by simp,by simp,Zac,rfl,by simp⟩ ?_ ?_⟩
  .intro i σ H3 hi e91;refine Zgh e91 λv6 v7 v8 v9 rs e912 e3 b3 e913=>?_;clear e91;obtain rfl:=e912;refine Zcv e913 λhf nm hr3 hln hro=>?_;clear e913;walk_at "wp";refine ⟨by decide,λa ha=>?_⟩;have na:a ≠ l:=b3.ne ha;have fa:H a = none:=e3.free na ha;have nar:r ≠ a:=Zag hr3 ha;have nas:a ∉ rs:=λz=>by obtain ⟨xs,h1,_⟩:=hro a z; rw [ha] at h1; cases h1
   refine ⟨_,rfl,wd,rfl,by omega,by omega,Za2 (λj σ H4=>∃ (v8 v9:Option V) (xs:List V),σ = [some (.ref l),some (.int p),some (.int hh),some (.int wd),some (.int z),some (.ref r),some (.int (0 + (i:Int))),some (.ref a),v8,v9]/\Ext l H H4/\Bag H4 l/\H4 r = some (.lst (rs.map V.ref))/\(∀ a ∈ rs,RowO H4 p 5000 wd a)/\H4 a = some (.lst xs)/\xs.length = j/\∀ x ∈ xs,NumO H4 p 5000 x)
    ⟨v8,v9,[],rfl,e3.trans (Ext.new ha),b3.new na,by rw [Zah nar]; exact hr3,λb hb=>(hro b hb).same (Same.new ha),Zac,rfl,by simp⟩ ?_ ?_⟩
   .intro j σ H4 hj e92;refine Zbj e92 λu8 u9 xs e914 e4 b4 e915=>?_;clear e92;obtain rfl:=e914;refine Zcv e915 λhr4 hro4 ha4 hlx hnx=>?_;clear e915;walk_at "wp";have step:∀ (v:V) (H5:Hp),Ext l H4 H5->Bag H5 l->NumO H5 p 5000 v->(Ext l H (upd H5 a (.lst (xs ++ [v])))/\Bag (upd H5 a (.lst (xs ++ [v]))) l/\upd H5 a (.lst (xs ++ [v])) r = some (.lst (rs.map V.ref))/\(∀ b ∈ rs,RowO (upd H5 a (.lst (xs ++ [v]))) p 5000 wd b) /\
      ∃ ys,upd H5 a (.lst (xs ++ [v])) a = some (.lst ys)/\ys.length = j + 1/\∀ x ∈ ys,NumO (upd H5 a (.lst (xs ++ [v]))) p 5000 x):=by
     intro v H5 e5 b5 nv;have ha5:=e5 _ _ na ha4;refine ⟨(e4.trans e5).upd fa,b5.new na,by rw [Zah nar]; exact e5 _ _ nr hr4,λb hbm=>?_,_,Zac,by rw [Jae,hlx]; rfl,λx hx=>?_⟩
     .have nb:b ≠ l:=hb.ne (hf b hbm);exact ((hro4 b hbm).ext b4 e5 nb).put ha5 (λz=>nas (z ▸ hbm))
     .rcases Jai.mp hx with hx | hx
      .exact ((hnx x hx).ext b4 e5).put ha5
      .rw [Jaq.mp hx]; exact nv.put ha5
    have hsz:xs.length < sizeLine:=Zap (by omega);refine Zau l p ⟨rfl,b4,hp,λv x H5 e5 b5 nv iv bv=>?_⟩;have ha5:=e5 _ _ na ha4;refine Zbx (λ_=>b5.draw (by decide) (by decide) λy H6 y0 y1 e6 b6=>⟨y,rfl,Zbx (λ_=>?_) (λ_=>?_)⟩) (λ_=>⟨.inl ⟨rfl,_,SqL.of ha5⟩,xs,ha5,hsz,_,_,⟨rfl,rfl⟩,step v H5 e5 b5 ⟨x,nv,iv,bv⟩⟩)
    .have ha6:=(e5.trans e6) _ _ na ha4;refine Zau p 0 ⟨rfl,hp,λv0 H7 s7 n0=>?_⟩;have ha7:=s7 _ _ ha6;exact ⟨.inl ⟨rfl,_,SqL.of ha7⟩,xs,ha7,hsz,_,_,⟨rfl,rfl⟩,step v0 H7 ((e5.trans e6).trans s7.ext) (b6.same s7) ⟨_,n0,Zcm hp.lo,bd_int0 hp⟩⟩
    .have ha6:=(e5.trans e6) _ _ na ha4;exact ⟨.inl ⟨rfl,_,SqL.of ha6⟩,xs,ha6,hsz,_,_,⟨rfl,rfl⟩,step v H6 (e5.trans e6) b6 ⟨x,nv.ext b5 e6,iv,bv⟩⟩
   .intro σ H4 e93;refine Zbj e93 λu8 u9 xs e916 e4 b4 e917=>?_;clear e93;obtain rfl:=e916;refine Zcv e917 λhr4 hro4 ha4 hlx hnx=>?_;clear e917;walk_at "wp";refine ⟨.inl ⟨rfl,_,SqL.of hr4⟩,_,hr4,Zap (by rw [Jab]; omega),_,_,_,_,⟨rfl,rfl,rfl,rfl⟩,e4.upd fr,b4.new nr,rs ++ [a],?_,?_,?_,by rw [Jae,hln]; rfl,?_⟩
    .intro b hbm;rcases Jai.mp hbm with h | h
     .exact hf b h
     .rw [Jaq.mp h]; exact fa
    .intro z;rcases Jai.mp z with h | h
     .exact nm h
     .exact nar (Jaq.mp h)
    .rw [Zac,Zbq]
    .intro b hbm;rcases Jai.mp hbm with h | h
     .exact (hro4 b h).put hr4 (λz=>nm (z ▸ h))
     .rw [Jaq.mp h];exact RowO.put ⟨xs,ha4,by omega,hnx⟩ hr4 nar.symm
  .intro σ H3 e94;refine Zgh e94 λv6 v7 v8 v9 rs e918 e3 b3 e919=>?_;clear e94;obtain rfl:=e918;refine Zcv e919 λhf nm hr3 hln hro=>?_;clear e919;walk_at "wp";refine ⟨by show 3<=sizeLine; decide,λt ht=>?_⟩;have s0:=Same.new (o:=.tup [V.int hh,V.int wd,V.ref r]) ht;exact q t r rs _ (e3.trans (Ext.new ht)) (b3.same s0) (e3.free (b3.ne ht) ht) fr hf (λa ha=>(hro a ha).same s0) ⟨Zac,s0 _ _ hr3,by omega,λa ha=>((hro a ha).same s0).weak (by decide),nm⟩
theorem Tab.ext2 {l:Addr} {H H':Hp} {p hh wd:Int} {t r:Addr} {rs:List Addr} (h:Tab H p hh wd t r rs) (b:Bag H l) (e:Ext l H H') (nr:r ≠ l) (ns:l ∉ rs):Tab H' p hh wd t r rs:=
 ⟨by obtain ⟨ys,hy⟩:=b.lst; exact e _ _ (Zeh h.tup hy (by intro z; cases z)) h.tup,e _ _ nr h.lst,h.len,λa ha=>(h.row a ha).ext b e (λz=>ns (z ▸ ha)),h.nin⟩
theorem TabC.ext {l:Addr} {H H':Hp} {p hh wd:Int} {t r:Addr} {rs:List Addr} {M:List (List V)} (h:TabC H p hh wd t r rs M) (b:Bag H l) (e:Ext l H H') (nr:r ≠ l) (ns:l ∉ rs):TabC H' p hh wd t r rs M:=
 ⟨h.tab.ext2 b e nr ns,λi a ei=>e _ _ (λz=>ns (z ▸ Jad ei)) (h.con i a ei)⟩
def rowOf (H:Hp) (a:Addr):List V:=match H a with
 | some (.lst xs)=>xs
 | _=>[]
theorem Tab.toC {H:Hp} {p hh wd:Int} {t r:Addr} {rs:List Addr} (h:Tab H p hh wd t r rs):∃ M,TabC H p hh wd t r rs M:=by
 refine ⟨rs.map (rowOf H),h,λi a e=>?_⟩;rw [Jac,Jah,e];refine Zad (h.row a (Jad e)) λxs hx _=>?_;show H a = some (.lst (rowOf H a));unfold rowOf;rw [hx]
theorem Prs.bag {l:Addr} {H H':Hp} {xs:List V} {ps:List (Int × Int)} (h:Prs H xs ps) (b:Bag H l) (e:Ext l H H'):Prs H' xs ps:=
 ⟨h.1,λi x q h1 h2=>by
  refine Zad (h.2 i x q h1 h2) λt e1 e2=>?_;obtain ⟨ys,hy⟩:=b.lst;exact ⟨t,e1,e _ _ (Zeh e2 hy (by intro z; cases z)) e2⟩⟩
end
end Pf
set_option maxRecDepth 50000
namespace Pf
open PySem L2 PyProof.Rows
section
variable {P:Program} {w:World} {K:PySem.W.Frag} {mg:Str->Option Value} {base:Heap} {C G S:Addr}
def Zms:Sp:=λvs H Q _=>∃ (l:Addr) (m mo:Int),vs = [.ref l,.int m,.int mo]/\Bag H l/\1<=m/\m<=8/\0<=mo/\mo<=24/\∀ (z:Addr) (ns:List Int) (H':Hp),Ext l H H'->Bag H' l->H z = none->Sizes H' z ns->(ns.length:Int) = m->ns.sum<=mo->Q (.ref z) H'
theorem ok_lsz {f:Addr} {fd:FuncData} (F:Fun K "_law_sizes" "_law_sizes" Zf7 f fd) (T:Txt K mg C G S) (C_law_draw:Cal P w K mg base "_law_draw" 1 Zdg):FnOk P w K mg base CX0 2 f fd ["_law_bag_here","_law_many","_law_most"] Zms:=by
 have nd:=Zhw.nd;refine F.ok Zhw (λvs H Q E h=>?_) (λcdv A outer s H vs Q E hr h=>?_)
 .refine Zdu h λl m mo e93 _=>?_;clear h;obtain rfl:=e93;rfl
 .refine Zbj h λl m mo e94 hb m1 e95=>?_;clear h;obtain rfl:=e94;refine Zcj e95 λm8 o0 o24 q=>?_;clear e95;refine ⟨_,((Zak (i:=3) nd rfl (Or.inl rfl) (@Zbm _ _ _ _ Zaa))<*>((Zak (i:=4) nd rfl (Or.inl rfl) (pvr 2))<*>((Zbh Jan rfl (Zdt rfl T.n_range ((pv 1)<&>Zaa)) (@Zae _ _ 5 _ nd rfl (Or.inl rfl) (Or.inl rfl)) ((Zak (i:=6) nd rfl (Or.inl rfl) (Za3 (Zji rfl) rfl T.n_min boot_min ((pvr 4)<&>((Za6 C_law_draw hr.m rfl ((pvr 0)<&>(Zab<&>Zaa)))<&>Zaa))))<*>((@Za1 _ _ _ _ _ _ _ _ (Zao Zcc (Za6 C_law_draw hr.m rfl ((pvr 0)<&>(Zab<&>Zaa))) Zab (Zam _)) (@Zal _ _ _ (Zak (i:=6) nd rfl (Or.inl rfl) (Za6 C_law_draw hr.m rfl ((pvr 0)<&>(((Zj3 Zay)<|>(pvr 4)<&&>Zab)<&>Zaa))))) Zan)<*>((Zb2 (Zez Jax Jay Jaz (mtJ Zba) (pvr 3) ((pvr 6)<&>Zaa)))<*>(@Zal _ _ _ (Zak (i:=4) nd rfl (Or.inl rfl) ((Zj3 Zbp)<|>(pvr 4)<&&>(pvr 6))))))))<*>(~~~(pvr 3))))),?_⟩;walk_at "wp";refine ⟨by decide,λz hz=>?_⟩;have nz:z ≠ l:=hb.ne hz;refine ⟨_,rfl,m,rfl,by omega,by omega,Za2 (λi σ H3=>∃ (v5 v6:Option V) (le:Int) (ns:List Int),σ = [some (.ref l),some (.int m),some (.int mo),some (.ref z),some (.int le),v5,v6]/\0<=le/\le<=24/\Ext l H H3/\Bag H3 l/\H3 z = some (.lst (ns.map V.int))/\ns.length = i/\(∀ n ∈ ns,0<=n/\n<=24)/\le + ns.sum = mo)
   ⟨none,none,mo,[],rfl,o0,o24,Ext.new hz,hb.new nz,Zac,rfl,by simp,by simp⟩ ?_ ?_⟩
  .intro i σ H3 hi e91;refine Zdc e91 λv5 v6 le ns e96 l0 l24 e97=>?_;clear e91;obtain rfl:=e96;refine Zdd e97 λe3 b3 hz3 hln hn hsum=>?_;clear e97;walk_at "wp";have step:∀ (H5:Hp) (x:Int),Ext l H3 H5->Bag H5 l->0<=x->x<=24->(Ext l H (upd H5 z (.lst (ns.map V.int ++ [.int x])))/\Bag (upd H5 z (.lst (ns.map V.int ++ [.int x]))) l/\∃ ys:List Int,upd H5 z (.lst (ns.map V.int ++ [.int x])) z = some (.lst (ys.map V.int))/\ys.length = i + 1/\(∀ n ∈ ys,0<=n/\n<=24)/\le - x + ys.sum = mo):=by
    intro H5 x e5 b5 x0 x24;refine ⟨(e3.trans e5).upd hz,b5.new nz,ns ++ [x],by rw [Zac,Ja1]; rfl,by rw [Jae,hln]; rfl,λn hnn=>?_,by rw [List.sum_append]; simp; omega⟩;rcases Jai.mp hnn with h | h
    .exact hn n h
    .rw [Jaq.mp h]; exact ⟨x0,x24⟩
   have hsz:(ns.map V.int).length < sizeLine:=Zap (by rw [Jab]; omega);refine b3.draw (by decide) (by decide) λy H4 y0 y1 e4 b4=>⟨le,y,⟨rfl,rfl⟩,b4.draw (by decide) (by decide) λu H5 u0 u1 e5 b5=>⟨rfl,Zbx (λ_=>b5.draw (by omega) (by omega) λx H6 x0 x1 e6 b6=>?_) (λ_=>?_)⟩⟩
   .have e:=(e4.trans e5).trans e6;exact ⟨.inl ⟨rfl,_,SqL.of (e _ _ nz hz3)⟩,_,e _ _ nz hz3,hsz,_,_,_,⟨rfl,rfl,rfl⟩,by omega,by omega,step H6 x e b6 x0 (by omega)⟩
   .have e:=e4.trans e5;have k0:0<=(if y < le then y else le):=by split <;> omega
    have k1:(if y < le then y else le)<=le:=by split <;> omega
    exact ⟨.inl ⟨rfl,_,SqL.of (e _ _ nz hz3)⟩,_,e _ _ nz hz3,hsz,_,_,_,⟨rfl,rfl,rfl⟩,by omega,by omega,step H5 _ e b5 k0 (by omega)⟩
  .intro σ H3 e92;refine Zdc e92 λv5 v6 le ns e98 l0 l24 e99=>?_;clear e92;obtain rfl:=e98;refine Zdd e99 λe3 b3 hz3 hln hn hsum=>?_;clear e99;exact q z ns H3 e3 b3 hz ⟨hz3,by omega,hn⟩ (by omega) (by omega)
end
end Pf
set_option maxRecDepth 50000
namespace Pf
open PySem L2 PyProof.Rows
section
variable {P:Program} {w:World} {K:PySem.W.Frag} {mg:Str->Option Value} {base:Heap} {C G S:Addr}
def spTbs:Sp:=λvs H Q _=>∃ (l a z:Addr) (p m:Int) (xs:List V) (ps:List (Int × Int)) (ns:List Int),vs = [.ref l,.int p,.ref a,.ref z]/\Bag H l/\GroundP p/\H a = some (.lst xs)/\Prs H xs ps/\InP m ps/\ps.length<=9/\Sizes H z ns/\(ns.length:Int) = m/\a ≠ l/\z ≠ l /\
 ∀ (l':Addr) (ts:List Addr) (cs:List (Int × Int × List (List V))) (H':Hp),Ext l H H'->Bag H' l->H l' = none->Tbs H' p l' ts cs->(∀ (i:Nat) t c,ts[i]? = some t->cs[i]? = some c->TabF H H' p c.1 c.2.1 t c.2.2)->Fits ns cs ps->Q (.ref l') H'
theorem ok_tbs {f:Addr} {fd:FuncData} (F:Fun K "_law_tables" "_law_tables" Ze8 f fd) (T:Txt K mg C G S) (C_law_table:Cal P w K mg base "_law_table" 4 spTb):FnOk P w K mg base CX0 5 f fd ["_law_bag_here","_law_p","_law_arrows","_law_sizes_here"] spTbs:=by
 have nd:=Zgn.nd;refine F.ok Zgn (λvs H Q E h=>?_) (λcdv A outer s H vs Q E hr h=>?_)
 .refine xE8_2 h λl a z p m xs ps ns e93 _=>?_;clear h;obtain rfl:=e93;rfl
 .refine xE8_4 h λl a z p m xs ps ns e94 hb hp e95=>?_;clear h;obtain rfl:=e94;refine Ztn e95 λha pr ip p9 hz hm na nz q=>?_;clear e95;refine ⟨_,((Zak (i:=4) nd rfl (Or.inl rfl) (@Zbm _ _ _ _ Zaa))<*>((Zbh Jan rfl (Zbt (pv 2)) (@Zbv _ _ _ _ _ 2 rfl (@Zai _ _ _ _ _ (@Zae _ _ 5 _ nd rfl (Or.inl rfl) (Or.inl rfl)) (@Zai _ _ _ _ _ (@Zae _ _ 6 _ nd rfl (Or.inl rfl) (Or.inl rfl)) (@Za0 _) (by rfl)) (by rfl)) (by rfl) (by rfl)) (@Zal _ _ _ (Zb2 (Zez Jax Jay Jaz (mtJ Zba) (pvr 4) ((Za6 C_law_table hr.m rfl ((pvr 0)<&>((pvr 1)<&>(((ixJ Zaj)<|>(pvr 3)<||>(pvr 6))<&>(((ixJ Zaj)<|>(pvr 3)<||>(pvr 5))<&>Zaa)))))<&>Zaa)))))<*>(~~~(pvr 4)))),?_⟩;walk_at "wp";refine ⟨by decide,λtl htl=>?_⟩;have ntl:tl ≠ l:=hb.ne htl;have nat:a ≠ tl:=Zag ha htl;have nzt:z ≠ tl:=Zag hz.1 htl;have hxl:=pr.1;refine ⟨_,rfl,a,rfl,⟨_,SqL.of (Same.new htl _ _ ha)⟩,Zik (xs:=xs) (λi σ H3=>∃ (v5 v6:Option V) (ts:List Addr) (cs:List (Int × Int × List (List V))),σ = [some (.ref l),some (.int p),some (.ref a),some (.ref z),some (.ref tl),v5,v6]/\Ext l H H3/\Bag H3 l/\H3 tl = some (.lst (ts.map V.ref))/\ts.length = i/\cs.length = i /\
    (∀ (j:Nat) t c,ts[j]? = some t->cs[j]? = some c->∃ r rs,TabC H3 p c.1 c.2.1 t r rs c.2.2/\(H t = none/\H r = none/\∀ a ∈ rs,H a = none)/\r ≠ l/\l ∉ rs/\r ≠ tl/\tl ∉ rs)/\(∀ c ∈ cs,0<=c.1/\c.1<=24/\0<=c.2.1/\c.2.1<=24)/\∀ (j:Nat) c q,cs[j]? = some c->ps[j]? = some q->c.1 = ns.getD q.2.toNat 0/\c.2.1 = ns.getD q.1.toNat 0)
   ⟨none,none,[],[],rfl,Ext.new htl,hb.new ntl,Zac,rfl,rfl,λj t c e=>by simp at e,by simp,λj c q e=>by simp at e⟩ (λi σ H2 _ ⟨_,_,_,_,_,e3,_⟩=>SqL.of (e3 _ _ na ha)) ?_ ?_⟩
  .intro i x σ H3 hi e91;refine Zdc e91 λv5 v6 ts cs e96 e3 b3 e97=>?_;clear e91;obtain rfl:=e96;refine Zdd e97 λht3 hln hlc hc hb24 hf=>?_;clear e97;walk_at "wp";have hi1:i < xs.length:=(Jag.mp hi).1;have hq:ps[i]? = some (ps[i]'(by omega)):=Jaa (by omega);refine Zad ((pr.bag hb e3).2 i x _ hi hq) λta e98 hta=>?_;obtain rfl:=e98;have hz3:=e3 _ _ nz hz.1;refine Zcj (ip _ (Jad hq)) λi0 i1 j0 j1=>?_;have a1:=Zmf (ns:=ns) i0 (by omega);have a2:=Zmf (ns:=ns) j0 (by omega);have b1:=hz.2.2 (ns.getD ps[i].1.toNat 0) (by rw [Jac,Jaa (show ps[i].1.toNat < ns.length by omega)]; exact Ja2 _);have b2:=hz.2.2 (ns.getD ps[i].2.toNat 0) (by rw [Jac,Jaa (show ps[i].2.toNat < ns.length by omega)]; exact Ja2 _);refine ⟨ta,rfl,_,SqT.of hta,rfl,_,_,rfl,_,_,rfl,rfl,.inl ⟨rfl,_,SqL.of ht3⟩,_,SqL.of hz3,_,a2,_,SqL.of hz3,_,a1,l,p,_,_,rfl,b3,hp,b2.1,b2.2,b1.1,b1.2,λt r rs H4 e4 b4 ft fr fs sm tb=>?_⟩;obtain ⟨M,tc⟩:=tb.toC;have ht4:=e4 _ _ ntl ht3;refine ⟨_,ht4,Zap (by rw [Jab]; omega),_,_,⟨rfl,rfl⟩,(e3.trans e4).upd htl,b4.new ntl,ts ++ [t],by rw [Zac,Zbq],by rw [Jae,hln]; rfl,cs ++ [(ns.getD ps[i].2.toNat 0,ns.getD ps[i].1.toNat 0,M)],by rw [Jae,hlc]; rfl,?_,?_,?_⟩
   .intro j t' c e1 e2;by_cases hj:j < ts.length
    .rw [Jar hj] at e1;rw [Jar (by omega)] at e2;refine Zib (hc j t' c e1 e2) λr' rs' tc' sm' n1 n2 n3 n4=>?_;exact Zau r' rs' ⟨(tc'.ext b3 e4 n1 n2).put ht4 n3 n4,sm',n1,n2,n3,n4⟩
    .rw [Jao (by omega)] at e1 e2;have hj0:j - ts.length = 0:=by
      by_cases z:j - ts.length = 0
      .exact z
      .rw [Jal (by simp; omega)] at e1; cases e1
     rw [hj0] at e1;rw [show j - cs.length = 0 by omega] at e2;cases e1;cases e2;have n3:r ≠ tl:=λz=>by rw [z,ht3] at fr; cases fr
     have n4:tl ∉ rs:=λz=>by have:=fs tl z; rw [ht3] at this; cases this
     exact Zau r rs ⟨tc.put ht4 n3 n4,⟨e3.free (b3.ne ft) ft,e3.free (b3.ne fr) fr,λa ha=>e3.free (b3.ne (fs a ha)) (fs a ha)⟩,b3.ne fr,λz=>absurd rfl (b3.ne (fs l z)),n3,n4⟩
   .intro c hcm;rcases Jai.mp hcm with h | h
    .exact hb24 c h
    .rw [Jaq.mp h]; exact ⟨b2.1,b2.2,b1.1,b1.2⟩
   .intro j c q' e1 e2;by_cases hj:j < cs.length
    .rw [Jar hj] at e1;exact hf j c q' e1 e2
    .rw [Jao (by omega)] at e1;have hj0:j - cs.length = 0:=by
      by_cases z:j - cs.length = 0
      .exact z
      .rw [Jal (by simp; omega)] at e1; cases e1
     rw [hj0] at e1;cases e1;rw [show j = i by omega,hq] at e2;cases e2;exact ⟨rfl,rfl⟩
  .intro σ H3 e92;refine Zdc e92 λv5 v6 ts cs e99 e3 b3 e910=>?_;clear e92;obtain rfl:=e99;refine Zdd e910 λht3 hln hlc hc hb24 hf=>?_;clear e910;refine q tl ts cs H3 e3 b3 htl ⟨ht3,by omega,by omega,λi t c e1 e2=>?_⟩ (λi t c e1 e2=>?_) ⟨by omega,hf⟩
   .refine Zbo (hc i t c e1 e2) λr rs tc _=>?_;exact ⟨⟨r,rs,tc⟩,hb24 c (Jad e2)⟩
   .refine Zbl (hc i t c e1 e2) λr rs tc e911 _=>?_;obtain ⟨f1,f2,f3⟩:=e911;exact Zau r rs ⟨tc,f1,f2,f3⟩
theorem Tbs.len {H:Hp} {p:Int} {l l':Addr} {ts ts':List Addr} {cs:List (Int × Int × List (List V))} (h:Tbs H p l ts cs) (h':Tbs H p l' ts' cs):(ts.map V.ref).length = (ts'.map V.ref).length:=by
 rw [Jab,Jab,h.2.1,h'.2.1]
structure Std (S C G:Addr) (H:Hp) (x:Addr) (p m:Int) (ps:List (Int × Int)) (ns:List Int) (cs:List (Int × Int × List (List V))) (dx g d z l lp:Addr) (xs:List V) (ts:List Addr):Prop where
 ins:H x = some (.ins S dx (Zg2 g d z l))
 grd:GAt G H g p
 drw:Zfj C H d m lp xs
 prs:Prs H xs ps
 szs:Sizes H z ns
 tbs:Tbs H p l ts cs
def Keep (U:Addr->Prop) (H H':Hp):Prop:=∀ b o,¬ U b->H b = some o->H' b = some o
end
end Pf
set_option maxHeartbeats 2000000
namespace Pf
open PySem L2 PyProof.Rows
section
variable {P:Program} {w:World} {K:PySem.W.Frag} {mg:Str->Option Value} {base:Heap} {C G S:Addr}
theorem Tbs.of {H0 H H':Hp} {p:Int} {l l':Addr} {ts ts':List Addr} {cs:List (Int × Int × List (List V))} (h:Tbs H p l ts cs) (hl:H' l' = some (.lst (ts'.map V.ref))) (hn:ts'.length = cs.length) (hc:∀ (i:Nat) t c,ts'[i]? = some t->cs[i]? = some c->TabF H0 H' p c.1 c.2.1 t c.2.2):Tbs H' p l' ts' cs:=by
 refine ⟨hl,hn,h.2.2.1,λi t c e1 e2=>?_⟩;refine Zbo (hc i t c e1 e2) λr rs tc _=>?_;have hi:i < ts.length:=by have:=(Jag.mp e2).1; have:=h.2.1; omega
 exact ⟨⟨r,rs,tc⟩,(h.2.2.2 i _ c (Jaa hi) e2).2⟩
theorem TabF.weak {H0 H1 H:Hp} {p hh wd:Int} {t:Addr} {M:List (List V)} (h:TabF H1 H p hh wd t M) (s:Same H0 H1):TabF H0 H p hh wd t M:=let ⟨r,rs,a,b,c,d⟩:=h; ⟨r,rs,a,s.free b,s.free c,λx hx=>s.free (d x hx)⟩
theorem NumO.keep {U:Addr->Prop} {H H':Hp} {p:Int} {B:Nat} {v:V} (h:NumO H p B v) (hU:∀ b,U b->∃ xs,H b = some (.lst xs)) (k:Keep U H H'):NumO H' p B v:=by
 refine Zav h λy nv b c=>?_;clear h;refine ⟨y,?_,b,c⟩;by_cases hp:p = 0
 .refine Zad (nv.ref hp) λt e91 ht=>?_;obtain rfl:=e91;exact NumV.tup hp (k _ _ (λu=>by obtain ⟨xs,e⟩:=hU _ u; rw [ht] at e; cases e) ht)
 .obtain rfl:=nv.int hp;exact NumV.of hp
theorem TabF.keep {U:Addr->Prop} {H0 H H':Hp} {p hh wd:Int} {t:Addr} {M:List (List V)} (h:TabF H0 H p hh wd t M) (hU:∀ b,U b->∃ xs,H b = some (.lst xs)) (n0:∀ b,H0 b = none->¬ U b) (k:Keep U H H'):TabF H0 H' p hh wd t M:=by
 refine Zdv h λr rs tc ft fr fs=>?_;clear h;refine Zau r rs ⟨⟨⟨k _ _ (n0 _ ft) tc.tab.tup,k _ _ (n0 _ fr) tc.tab.lst,tc.tab.len,λa ha=>?_,tc.tab.nin⟩,λi a e=>k _ _ (n0 _ (fs a (Jad e))) (tc.con i a e)⟩,ft,fr,fs⟩;refine Zav (tc.tab.row a ha) λys h1 h2 h3=>?_;exact ⟨ys,k _ _ (n0 _ (fs a ha)) h1,h2,λy hy=>(h3 y hy).keep hU k⟩
structure StdF (H0:Hp) (S C G:Addr) (H:Hp) (x:Addr) (p m:Int) (ps:List (Int × Int)) (ns:List Int) (cs:List (Int × Int × List (List V))) (dx g d z l lp:Addr) (xs:List V) (ts:List Addr):Prop where
 ins:H x = some (.ins S dx (Zg2 g d z l))
 grd:GAt G H g p
 drw:Zfj C H d m lp xs
 prs:Prs H xs ps
 szs:Sizes H z ns
 nz:H0 z = none
 nl:H0 l = none
 nlp:H0 lp = none
 lst:H l = some (.lst (ts.map V.ref))
 len:ts.length = cs.length
 tbs:∀ (i:Nat) t c,ts[i]? = some t->cs[i]? = some c->TabF H0 H p c.1 c.2.1 t c.2.2
theorem StdF.keep {U:Addr->Prop} {H0:Hp} {S G:Addr} {H H':Hp} {x:Addr} {p m:Int} {ps:List (Int × Int)} {ns:List Int} {cs:List (Int × Int × List (List V))} {dx g d z l lp:Addr} {xs:List V} {ts:List Addr} (h:StdF H0 S C G H x p m ps ns cs dx g d z l lp xs ts) (hU:∀ b,U b->∃ xs,H b = some (.lst xs)) (n0:∀ b,H0 b = none->¬ U b) (k:Keep U H H'):StdF H0 S C G H' x p m ps ns cs dx g d z l lp xs ts:=by
 have no:∀ b o,H b = some o->(∀ xs,o ≠ .lst xs)->¬ U b:=λb o e n u=>by
  obtain ⟨xs,e2⟩:=hU b u;rw [e] at e2;cases e2;exact n xs rfl
 refine ⟨k _ _ (no _ _ h.ins (by intro xs z; cases z)) h.ins,?_,?_,⟨h.prs.1,λi x q h1 h2=>?_⟩,⟨k _ _ (n0 _ h.nz) h.szs.1,h.szs.2⟩,h.nz,h.nl,h.nlp,k _ _ (n0 _ h.nl) h.lst,h.len,λi t c e1 e2=>(h.tbs i t c e1 e2).keep hU n0 k⟩
 .obtain ⟨dg,e⟩:=h.grd;exact ⟨dg,k _ _ (no _ _ e (by intro xs z; cases z)) e⟩
 .refine Zad h.drw λdd e e2=>?_;exact ⟨dd,k _ _ (no _ _ e (by intro xs z; cases z)) e,k _ _ (n0 _ h.nlp) e2⟩
 .refine Zad (h.prs.2 i x q h1 h2) λt e92 e=>?_;obtain rfl:=e92;exact ⟨t,rfl,k _ _ (no _ _ e (by intro xs z; cases z)) e⟩
theorem std_of {S G:Addr} {H0 H:Hp} {x dx g d z l lp:Addr} {p m:Int} {xs:List V} {ps:List (Int × Int)} {ns:List Int} {ts:List Addr} {cs:List (Int × Int × List (List V))} {Q:VK} {E:XK} (hx:H x = none) (hdx:H dx = none) (ndx:dx ≠ x) (hg:GAt G H g p) (hp:GroundP p) (hd:Zfj C H d m lp xs) (pr:Prs H xs ps) (ip:InP m ps) (p9:ps.length<=9) (hz:Sizes H z ns) (hm:(ns.length:Int) = m) (hT:Tbs H p l ts cs) (ft:Fits ns cs ps) (s0:Same H0 H) (flp:H0 lp = none)
  (q:∀ (dx z' l':Addr) (ts':List Addr) (H':Hp),Same H H'->StdF H0 S C G H' x p m ps ns cs dx g d z' l' lp xs ts'->Q .non H'):spSI S C G [.ref x,.ref g,.ref d,.ref z,.ref l] (upd (upd H dx (.own x)) x (.ins S dx [])) Q E:=by
 have fx:(upd H dx (.own x)) x = none:=by rw [Zah ndx.symm]; exact hx
 have sx:Same H (upd (upd H dx (.own x)) x (.ins S dx [])):=(Same.new hdx).trans (Same.new fx);refine Zad hd λdd hd1 hd2=>?_;clear hd;refine xI14_1 x dx g d z l lp p m xs ps ns ts cs ⟨rfl,Zac,hg.same sx,hp,⟨dd,sx _ _ hd1,sx _ _ hd2⟩,pr.same sx,ip,p9,hz.same sx,hm,hT.same sx,ft,λz' l' ts' H' ex hx' fz fl' hz' hl' hn' ht'=>?_⟩;have sH:Same H H':=Same.thru sx hx ex;exact q dx z' l' ts' H' sH ⟨hx',hg.same sH,⟨dd,sH _ _ hd1,sH _ _ hd2⟩,pr.same sH,hz',s0.free (sx.free fz),s0.free (sx.free fl'),flp,hl',hn',λi t c e1 e2=>(ht' i t c e1 e2).weak (s0.trans sx)⟩
theorem Zr9 {H:Hp} {n:Nat} (i j:Int):EqD K H n (.int i) (.int j) (decide (i = j)):=by
 have:=EqD.flat (K:=K) (H:=H) (n:=n) (x:=.int i) (y:=.int j) rfl rfl;rwa [show eqV (.int i) (.int j) = decide (i = j) by simp only [eqV]; rw [Jcx]; simp] at this
theorem Zuj {H:Hp} {n:Nat} {t u:Addr} {q r:Int × Int} (ht:H t = some (.tup [.int q.1,.int q.2])) (hu:H u = some (.tup [.int r.1,.int r.2])):EqD K H (n + 1) (.ref t) (.ref u) (decide (q = r)):=by
 by_cases h:t = u
 .subst h;rw [ht] at hu;have:q = r:=by
   injection hu with hu
   injection hu with hu
   injection hu with a b
   injection b with b c
   injection a with a
   injection b with b
   exact Prod.ext a b
  rw [Jaj this];exact .same
 .have:=EqD.tuple (n:=n) (bs:=[decide (q.1 = r.1),decide (q.2 = r.2)]) h (SqT.of (K:=K) ht) (SqT.of hu) rfl rfl λj x y b e1 e2 e3=>by
   match j,e1,e2,e3 with
   | 0,e1,e2,e3=>cases e1; cases e2; cases e3; exact Zr9 _ _
   | 1,e1,e2,e3=>cases e1; cases e2; cases e3; exact Zr9 _ _
   | j + 2,e1,_,_=>cases e1
  have e:[decide (q.1 = r.1),decide (q.2 = r.2)].all id = decide (q = r):=by
   simp only [Jd8,List.all_nil,id,Jey];rw [<- Jeh];exact Jct.mpr ⟨λ⟨a,b⟩=>Prod.ext a b,λh=>h ▸ ⟨rfl,rfl⟩⟩
  rwa [e] at this
theorem Zta {α:Type} [DecidableEq α]:∀ {xs ys:List α},xs.length = ys.length->(List.zipWith (λa b=>decide (a = b)) xs ys).all id = decide (xs = ys)
 | [],[],_=>rfl
 | x :: xs,y :: ys,h=>by
  have ih:=Zta (xs:=xs) (ys:=ys) (by simpa using h);rw [List.zipWith_cons_cons,Jd8,ih];simp only [id];rw [<- Jeh];exact Jct.mpr ⟨λ⟨a,b⟩=>by rw [a,b],λh=>by injection h with a b; exact ⟨a,b⟩⟩
 | [],_ :: _,h=>by simp at h
 | _ :: _,[],h=>by simp at h
theorem prs_eqB {H:Hp} {xs ys:List V} {ps qs:List (Int × Int)} (h:Prs H xs ps) (h':Prs H ys qs) (hl:ps.length = qs.length):Zjm K H 6 xs ys (List.zipWith (λa b=>decide (a = b)) ps qs):=by
 have l1:=h.1;have l2:=h'.1;refine ⟨by omega,by rw [Jc6]; omega,λj x y b e1 e2 e3=>?_⟩;have j1:j < ps.length:=by have:=(Jag.mp e1).1; omega
 refine Zad (h.2 j x _ e1 (Jaa j1)) λt e91 ht=>?_;obtain rfl:=e91;refine Zad (h'.2 j y _ e2 (Jaa (by omega))) λu e92 hu=>?_;obtain rfl:=e92;rw [List.getElem?_zipWith,Jaa j1,Jaa (show j < qs.length by omega)] at e3;cases e3;exact Zuj ht hu
def spOn (S C G:Addr):Sp:=λvs H Q _=>∃ (x dx g d z l g' d' lp lp':Addr) (p p' m m':Int) (xs ys:List V) (ps qs:List (Int × Int)),vs = [.ref x,.ref g',.ref d']/\H x = some (.ins S dx (Zg2 g d z l))/\GAt G H g p/\GAt G H g' p'/\Zfj C H d m lp xs/\Zfj C H d' m' lp' ys/\Prs H xs ps/\Prs H ys qs/\Q (.bl (decide (p = p'/\m = m'/\ps = qs))) H
theorem ok_on {f:Addr} {fd:FuncData} (F:Fun K "stands_on" "stands_on" Zf2 f fd) (T:Txt K mg C G S):FnOk P w K mg base CX0 1 f fd ["standing","ground","drawing"] (spOn S C G):=by
 have nd:=Zhr.nd;refine F.ok Zhr (λvs H Q E h=>?_) (λcdv A outer s H vs Q E hr h=>?_)
 .refine xE18_2 h λx dx g d z l g' d' lp lp' p p' m m' xs ys ps qs e93 _=>?_;clear h;obtain rfl:=e93;rfl
 .refine xE18_4 h λx dx g d z l g' d' lp lp' p p' m m' xs ys ps qs e94 hx e95 e96=>?_;clear h;obtain rfl:=e94;obtain ⟨dg,hg⟩:=e95;refine Zdd e96 λe97 e98 e99 pr pr' q=>?_;clear e96;obtain ⟨dg',hg'⟩:=e97;obtain ⟨dd,hd,hlp⟩:=e98;obtain ⟨dd',hd',hlp'⟩:=e99;refine ⟨_,((@Za1 _ _ _ _ _ _ _ _ (PW.pt (Zec (Zao Zfh (Zcz (Zbc (pvr 0) rfl) rfl) (Zbc (pvr 1) rfl) (Zam _)) (Zdb (Zao Zfh (Zcz (Zbc (pvr 0) rfl) rfl) (Zbc (pvr 2) rfl) (Zam _))))) (~~~Zfg) Zan)<*>(~~~(Zcy (op_eqL (room8 hr)) (Zcz (Zbc (pvr 0) rfl) rfl) (Zbc (pvr 2) rfl) (Zam _)))),?_⟩;walk_at "wp";refine Zby S dx _ ⟨hx,T.cl_Standing,T.nSg,_,Zgm ..,g,rfl,G,dg,_,hg,T.cl_Ground,T.nP,_,Zbn p,G,dg',_,hg',T.cl_Ground,T.nP,_,Zbn p',rfl,Zbx (λhc=>?_) (λhc=>?_)⟩
  .have:¬ p = p':=by simpa using hc
   rw [Ja9 (λh=>this h.1)] at q;exact q
  .have e1:p = p':=by simpa using hc
   refine Zby S dx _ ⟨hx,T.cl_Standing,T.nSd,_,Zc2 ..,d,rfl,C,dd,_,hd,T.cl_Drawing,T.nM,_,Zje m lp,C,dd',_,hd',T.cl_Drawing,T.nM,_,Zje m' lp',rfl,Zbx (λhc=>?_) (λhc=>?_)⟩
   .have:¬ m = m':=by simpa using hc
    rw [Ja9 (λh=>this h.2.1)] at q;exact q
   .have e2:m = m':=by simpa using hc
    refine Zby S dx _ ⟨hx,T.cl_Standing,T.nSd,_,Zc2 ..,d,rfl,C,dd,_,hd,T.cl_Drawing,T.nA,_,Zcg m lp,C,dd',_,hd',T.cl_Drawing,T.nA,_,Zcg m' lp',?_⟩;by_cases hl:ps.length = qs.length
    .refine ⟨lp,rfl,lp',rfl,_,SqL.of hlp,_,SqL.of hlp',.inr ⟨_,prs_eqB pr pr' hl,?_⟩⟩;rw [Zta hl];have:decide (p = p'/\m = m'/\ps = qs) = decide (ps = qs):=Jct.mpr ⟨λh=>h.2.2,λh=>⟨e1,e2,h⟩⟩;rw [this] at q;exact q
    .refine ⟨lp,rfl,lp',rfl,_,SqL.of hlp,_,SqL.of hlp',.inl ⟨by rw [pr.1,pr'.1]; exact hl,?_⟩⟩;rw [Ja9 (λh=>hl (by rw [h.2.2]))] at q;exact q
abbrev Nv:=Int × Int
abbrev Mv:=List (List Nv)
def All2 {α β:Type} (P:α->β->Prop) (xs:List α) (ys:List β):Prop:=xs.length = ys.length/\∀ (i:Nat) x y,xs[i]? = some x->ys[i]? = some y->P x y
theorem All2.nil {α β:Type} {P:α->β->Prop}:All2 P [] []:=⟨rfl,λi x y e=>by simp at e⟩
theorem All2.take {α β:Type} {P:α->β->Prop} {xs:List α} {ys:List β} (h:All2 P xs ys) (n:Nat):All2 P (xs.take n) (ys.take n):=⟨by rw [Jbb,Jbb,h.1],λi x y e1 e2=>by
 by_cases hi:i < n
 .rw [Jck hi] at e1 e2;exact h.2 i x y e1 e2
 .rw [Jal (by rw [Jbb]; omega)] at e1;cases e1⟩
theorem All2.drop {α β:Type} {P:α->β->Prop} {xs:List α} {ys:List β} (h:All2 P xs ys) (n:Nat):All2 P (xs.drop n) (ys.drop n):=⟨by rw [Jb0,Jb0,h.1],λi x y e1 e2=>by
 rw [Jdv] at e1 e2;exact h.2 _ x y e1 e2⟩
theorem All2.app {α β:Type} {P:α->β->Prop} {xs xs':List α} {ys ys':List β} (h:All2 P xs ys) (h':All2 P xs' ys'):All2 P (xs ++ xs') (ys ++ ys'):=⟨by rw [Jae,Jae,h.1,h'.1],λi x y e1 e2=>by
 have hl:=h.1;by_cases hi:i < xs.length
 .rw [Jar hi] at e1;rw [Jar (by omega)] at e2;exact h.2 i x y e1 e2
 .rw [Jao (by omega)] at e1 e2;rw [<- hl] at e2;exact h'.2 _ x y e1 e2⟩
theorem All2.one {α β:Type} {P:α->β->Prop} {x:α} {y:β} (h:P x y):All2 P [x] [y]:=⟨rfl,λi a b e1 e2=>by
 cases i with
 | zero=>cases e1; cases e2; exact h
 | succ i=>simp at e1⟩
theorem All2.mono {α β:Type} {P P':α->β->Prop} {xs:List α} {ys:List β} (h:All2 P xs ys) (k:∀ x y,P x y->P' x y):All2 P' xs ys:=⟨h.1,λi x y e1 e2=>k x y (h.2 i x y e1 e2)⟩
theorem All2.monoM {α β:Type} {P P':α->β->Prop} {xs:List α} {ys:List β} (h:All2 P xs ys) (k:∀ x y,x ∈ xs->P x y->P' x y):All2 P' xs ys:=⟨h.1,λi x y e1 e2=>k x y (Jad e1) (h.2 i x y e1 e2)⟩
theorem All2.set {α β:Type} {P:α->β->Prop} {xs:List α} {ys:List β} (h:All2 P xs ys) (n:Nat) {x:α} {y:β} (hp:P x y):All2 P (xs.set n x) (ys.set n y):=⟨by rw [Jcd,Jcd,h.1],λi a b e1 e2=>by
 rw [List.getElem?_set] at e1 e2;by_cases hi:n = i
 .rw [if_pos hi] at e1 e2;split at e1
  .split at e2
   .cases e1; cases e2; exact hp
   .cases e2
  .cases e1
 .rw [if_neg hi] at e1 e2;exact h.2 i a b e1 e2⟩
theorem All2.rep {α β:Type} {P:α->β->Prop} {x:α} {y:β} (h:P x y) (n:Nat):All2 P (List.replicate n x) (List.replicate n y):=⟨by simp,λi a b e1 e2=>by
 rw [Jc4] at e1 e2;split at e1
 .rename_i hi
  rw [if_pos hi] at e2;cases e1; cases e2; exact h
 .cases e1⟩
theorem All2.at {α β:Type} {P:α->β->Prop} {xs:List α} {ys:List β} (h:All2 P xs ys) {i:Nat} {y:β} (e:ys[i]? = some y):∃ x,xs[i]? = some x/\P x y:=by
 have hi:i < ys.length:=(Jag.mp e).1;have hx:xs[i]? = some (xs[i]'(by have:=h.1; omega)):=Jaa _;exact ⟨_,hx,h.2 i _ y hx e⟩
theorem All2.at' {α β:Type} {P:α->β->Prop} {xs:List α} {ys:List β} (h:All2 P xs ys) {i:Nat} {x:α} (e:xs[i]? = some x):∃ y,ys[i]? = some y/\P x y:=by
 have hi:i < xs.length:=(Jag.mp e).1;have hy:ys[i]? = some (ys[i]'(by have:=h.1; omega)):=Jaa _;exact ⟨_,hy,h.2 i x _ e hy⟩
theorem All2.pick {α β:Type} {P:α->β->Prop}:∀ {xs:List α},(∀ x ∈ xs,∃ y,P x y)->∃ ys,All2 P xs ys
 | [],_=>⟨[],All2.nil⟩
 | x :: xs,h=>by
  obtain ⟨y,hy⟩:=h x (by simp);obtain ⟨ys,hys⟩:=All2.pick (xs:=xs) λz hz=>h z (by simp [hz]);exact ⟨y :: ys,(All2.one hy).app hys⟩
def RowV (H:Hp) (p:Int) (a:Addr) (xs:List Nv):Prop:=∃ vs,H a = some (.lst vs)/\All2 (NumV H p) vs xs
theorem RowV.same {H H':Hp} {p:Int} {a:Addr} {xs:List Nv} (h:RowV H p a xs) (s:Same H H'):RowV H' p a xs:=let ⟨vs,h1,h2⟩:=h; ⟨vs,s _ _ h1,h2.mono λ_ _ k=>k.same s⟩
theorem NumV.put {H:Hp} {D:Addr} {l:List V} {o:HO} {p:Int} {v:V} {x:Nv} (h:NumV H p v x) (hD:H D = some (.lst l)):NumV (upd H D o) p v x:=by
 by_cases hp:p = 0
 .refine Zad (h.ref hp) λt e94 ht=>?_;obtain rfl:=e94;exact NumV.tup hp (by rw [Zah (Zeh ht hD (by intro z; cases z))]; exact ht)
 .obtain rfl:=h.int hp;exact NumV.of hp
theorem RowV.put {H:Hp} {D:Addr} {l:List V} {o:HO} {p:Int} {a:Addr} {xs:List Nv} (h:RowV H p a xs) (hD:H D = some (.lst l)) (n:a ≠ D):RowV (upd H D o) p a xs:=let ⟨vs,h1,h2⟩:=h; ⟨vs,by rw [Zah n]; exact h1,h2.mono λ_ _ k=>k.put hD⟩
theorem RowV.ext {l:Addr} {H H':Hp} {p:Int} {a:Addr} {xs:List Nv} (h:RowV H p a xs) (b:Bag H l) (e:Ext l H H') (n:a ≠ l):RowV H' p a xs:=let ⟨vs,h1,h2⟩:=h; ⟨vs,e _ _ n h1,h2.mono λ_ _ k=>k.ext b e⟩
structure TabV (H:Hp) (p hh wd:Int) (t r:Addr) (rs:List Addr) (M:Mv):Prop where
 tup:H t = some (.tup [.int hh,.int wd,.ref r])
 lst:H r = some (.lst (rs.map V.ref))
 row:All2 (RowV H p) rs M
 nin:r ∉ rs
theorem TabV.same {H H':Hp} {p hh wd:Int} {t r:Addr} {rs:List Addr} {M:Mv} (h:TabV H p hh wd t r rs M) (s:Same H H'):TabV H' p hh wd t r rs M:=⟨s _ _ h.tup,s _ _ h.lst,h.row.mono λ_ _ k=>k.same s,h.nin⟩
theorem TabV.ext {l:Addr} {H H':Hp} {p hh wd:Int} {t r:Addr} {rs:List Addr} {M:Mv} (h:TabV H p hh wd t r rs M) (b:Bag H l) (e:Ext l H H') (nr:r ≠ l) (ns:l ∉ rs):TabV H' p hh wd t r rs M:=
 ⟨e _ _ (λz=>by obtain ⟨x,y,hb,_⟩:=b; rw [<- z,h.tup] at hb; cases hb) h.tup,e _ _ nr h.lst,h.row.monoM λa _ ha k=>k.ext b e (λz=>ns (z ▸ ha)),h.nin⟩
def Shp (hh wd:Int) (M:Mv):Prop:=(M.length:Int) = hh/\∀ row ∈ M,(row.length:Int) = wd
def GoodM (p:Int) (B:Nat) (M:Mv):Prop:=∀ row ∈ M,∀ x ∈ row,Isn p x/\Bd B x
theorem Tab.byV {H:Hp} {p hh wd:Int} {t r:Addr} {rs:List Addr} (h:Tab H p hh wd t r rs):∃ M,TabV H p hh wd t r rs M/\Shp hh wd M/\GoodM p BB M:=by
 obtain ⟨M,hM⟩:=All2.pick (P:=λa xs=>RowV H p a xs/\(xs.length:Int) = wd/\∀ x ∈ xs,Isn p x/\Bd BB x) (xs:=rs) λa ha=>by
  refine Zav (h.row a ha) λvs h1 h2 h3=>?_;obtain ⟨xs,hxs⟩:=All2.pick (P:=λv x=>NumV H p v x/\Isn p x/\Bd BB x) (xs:=vs) λv hv=>h3 v hv;refine ⟨xs,⟨vs,h1,hxs.mono λ_ _ k=>k.1⟩,by rw [<- hxs.1]; exact h2,λx hx=>?_⟩;obtain ⟨j,hj,rfl⟩:=Jap.mp hx;refine Zad (hxs.at (Jaa hj)) λv _ hv=>?_;exact hv.2
 have at':∀ row ∈ M,∃ a,RowV H p a row/\(row.length:Int) = wd/\∀ x ∈ row,Isn p x/\Bd BB x:=λrow hr=>by
  obtain ⟨j,hj,rfl⟩:=Jap.mp hr;refine Zad (hM.at (Jaa hj)) λa _ ha=>?_;exact ⟨a,ha⟩
 exact ⟨M,⟨h.tup,h.lst,hM.mono λ_ _ k=>k.1,h.nin⟩,⟨by rw [<- hM.1]; exact h.len,λrow hr=>let ⟨_,_,b,_⟩:=at' row hr; b⟩,λrow hr=>let ⟨_,_,_,c⟩:=at' row hr; c⟩
theorem Zjl {α:Type} {R:Addr->α->Prop} {rs:List Addr} {xs:List α} (h:All2 R rs xs):All2 (λv x=>∃ a,v = .ref a/\R a x) (rs.map V.ref) xs:=⟨by rw [Jab]; exact h.1,λi v x e1 e2=>by
 rw [Jah] at e1;cases e:rs[i]? with
 | none=>rw [e] at e1; cases e1
 | some a=>rw [e] at e1; cases e1; exact ⟨a,rfl,h.2 i a x e e2⟩⟩
theorem Zil {a D:Addr} {xs:List V} {fr:List (Str × Nat)} {σ:L2.St} {te:TE} {H1:Hp} {Q:VK} (R:Nat->Hp->V->Prop) (hS:∀ {i H H' y},R i H y->Same H H'->R i H' y) (hP:∀ {i H y l o},R i H y->H D = some (.lst l)->R i (upd H D o) y)
  (ha:H1 a = some (.lst xs)) (hD:H1 D = none) (hn:xs.length<=1000)
  (h:∀ (i:Nat) x H (Q:VK),xs[i]? = some x->Same H1 H->(∃ l,H D = some (.lst l))->(∀ y H',Same H H'->R i H' y->Q y H')->te (some x :: Zb8 fr σ) H Q)
  (hQ:∀ ys H',Same H1 H'->H' D = some (.lst ys)->ys.length = xs.length->(∀ (i:Nat) y,ys[i]? = some y->R i H' y)->Q (.ref D) H'):Zb9 (Zbi 0) Zgj te (Itl K a) D (Zh8 1 fr σ) H1 Q:=by
 refine Zfo (xs:=xs) (λi vs H=>Same H1 H/\H D = some (.lst vs)/\vs.length = i/\∀ (j:Nat) y,vs[j]? = some y->R j H y) ⟨Same.new hD,Zac,rfl,λj y e=>by simp at e⟩ (λi vs H _ p=>SqL.of (p.1 _ _ ha)) ?_ (λvs H ⟨s,e,hl,hr⟩=>hQ vs H s e hl hr);intro i x vs σ' H hi hx sh e91;refine Zcj e91 λs e hl hr=>?_;clear e91;obtain ⟨z,rfl⟩:=sh.one;simp only [Zfx,Zbi,Zgj,List.set_cons_zero,Jcy];refine h i x H _ hx s ⟨_,e⟩ λy H' s' ry=>?_;refine Zok (ws:=vs ++ [y]) hi Sh.mk1 (s' _ _ e) (Zap (by omega)) ⟨(s.trans s').upd hD,Zac,by rw [Jae,hl]; rfl,λj u hu=>?_⟩;by_cases hj:j < vs.length
 .rw [Jar hj] at hu;exact hP (hS (hr j u hu) s') (s' _ _ e)
 .rw [Jao (by omega)] at hu;have hj0:j - vs.length = 0:=by
   by_cases z:j - vs.length = 0
   .exact z
   .rw [Jal (by simp; omega)] at hu; cases hu
  rw [hj0] at hu;cases hu;rw [show j = i by omega];exact hP ry (s' _ _ e)
theorem Zsx {lo:Int} {n:Nat} {D:Addr} {fr:List (Str × Nat)} {σ:L2.St} {te:TE} {H1:Hp} {Q:VK} (R:Nat->Hp->V->Prop) (hS:∀ {i H H' y},R i H y->Same H H'->R i H' y) (hP:∀ {i H y l o},R i H y->H D = some (.lst l)->R i (upd H D o) y)
  (hD:H1 D = none) (hn:n<=1000)
  (h:∀ (i:Nat) H (Q:VK),i < n->Same H1 H->(∃ l,H D = some (.lst l))->(∀ y H',Same H H'->R i H' y->Q y H')->te (some (.int (lo + (i:Nat))) :: Zb8 fr σ) H Q)
  (hQ:∀ ys H',Same H1 H'->H' D = some (.lst ys)->ys.length = n->(∀ (i:Nat) y,ys[i]? = some y->R i H' y)->Q (.ref D) H'):Zb9 (Zbi 0) Zgj te (Itr lo n) D (Zh8 1 fr σ) H1 Q:=by
 refine Zk5 (n:=n) (λi vs H=>Same H1 H/\H D = some (.lst vs)/\vs.length = i/\∀ (j:Nat) y,vs[j]? = some y->R j H y) ⟨Same.new hD,Zac,rfl,λj y e=>by simp at e⟩ ?_ (λvs H ⟨s,e,hl,hr⟩=>hQ vs H s e hl hr);intro i x vs σ' H hi e92;obtain rfl:=e92;intro sh e93;refine Zcj e93 λs e hl hr=>?_;clear e93;obtain ⟨z,rfl⟩:=sh.one;simp only [Zfx,Zbi,Zgj,List.set_cons_zero,Jcy];refine h i H _ hi s ⟨_,e⟩ λy H' s' ry=>?_;refine Zok (ws:=vs ++ [y]) hi Sh.mk1 (s' _ _ e) (Zap (by omega)) ⟨(s.trans s').upd hD,Zac,by rw [Jae,hl]; rfl,λj u hu=>?_⟩;by_cases hj:j < vs.length
 .rw [Jar hj] at hu;exact hP (hS (hr j u hu) s') (s' _ _ e)
 .rw [Jao (by omega)] at hu;have hj0:j - vs.length = 0:=by
   by_cases z:j - vs.length = 0
   .exact z
   .rw [Jal (by simp; omega)] at hu; cases hu
  rw [hj0] at hu;cases hu;rw [show j = i by omega];exact hP ry (s' _ _ e)
theorem Zr8 {ys:List V} {g:Nat->Int} {n:Nat} (hl:ys.length = n) (h:∀ (i:Nat) y,ys[i]? = some y->y = .int (g i)):ys = ((List.range n).map g).map V.int:=by
 apply Jet;intro i;by_cases hi:i < n
 .rw [Jaa (by omega),h i _ (Jaa (by omega)),Jah,Jah,Jch hi];rfl
 .rw [Jal (by omega),Jal (by simp; omega)]
theorem Zm4 {P:Nat->Addr->Prop}:∀ {ys:List V},(∀ (i:Nat) y,ys[i]? = some y->∃ b,y = .ref b/\P i b)->∃ bs:List Addr,ys = bs.map V.ref/\∀ (i:Nat) b,bs[i]? = some b->P i b:=by
 intro ys
 induction ys generalizing P with
 | nil=>exact λ_=>⟨[],rfl,λi b e=>by simp at e⟩
 | cons y ys ih=>
  intro h;refine Zad (h 0 y rfl) λb e97 hb=>?_;obtain rfl:=e97;refine Zad (ih (P:=λi b=>P (i + 1) b) λi u e=>h (i + 1) u (by simpa using e)) λbs e98 hbs=>?_;obtain rfl:=e98;exact ⟨b :: bs,rfl,λi u e=>by
   cases i with
   | zero=>cases e; exact hb
   | succ i=>exact hbs i u (by simpa using e)⟩
theorem rows_of {D:Addr} {H1 H':Hp} {p:Int} {M:Mv} {ys:List V} (hl:ys.length = M.length) (h:∀ (i:Nat) y,ys[i]? = some y->∃ a,y = .ref a/\RowV H' p a (M.getD i [])/\a ≠ D/\H1 a = none):∃ rs:List Addr,ys = rs.map V.ref/\All2 (RowV H' p) rs M/\D ∉ rs/\∀ a ∈ rs,H1 a = none:=by
 refine Zad (Zm4 (P:=λi a=>RowV H' p a (M.getD i [])/\a ≠ D/\H1 a = none) h) λrs e99 hr=>?_;obtain rfl:=e99;rw [Jab] at hl;refine ⟨rs,rfl,⟨hl,λi a xs e1 e2=>?_⟩,λz=>?_,λa ha=>?_⟩
 .have:=(hr i a e1).1;rwa [Jac,e2] at this
 .obtain ⟨j,hj,e⟩:=Jap.mp z;exact (hr j D (by rw [Jaa hj,e])).2.1 rfl
 .obtain ⟨j,hj,rfl⟩:=Jap.mp ha;exact (hr j _ (Jaa hj)).2.2
end
end Pf
set_option maxHeartbeats 1000000
namespace Pf
open PySem L2 PyProof.Rows
theorem Zb5 {a b:Int} {A B:Nat} (ha:a.natAbs<=A) (hb:b.natAbs<=B):(a * b).natAbs<=A * B:=by rw [Jcu]; exact Jca ha hb
theorem Zat {α:Type} {xs:List α} {i:Nat} {x d:α} (h:xs[i]? = some x):xs.getD i d = x:=by rw [Jac,h]; rfl
end Pf
namespace Pf
open PySem L2 PyProof.Rows
section
variable {P:Program} {w:World} {K:PySem.W.Frag} {mg:Str->Option Value} {base:Heap} {C G S:Addr}
theorem Zd2 {A X:TS} {D:Ends} {σ:L2.St} {H:Hp} (h:∀ X',X' = X->Zmo A X' D σ H):Zmo A X D σ H:=h X rfl
theorem Zni {z:Int} (h:z.natAbs < 170141183460469231731687303715884105728):Bt 127 z:=Jaw h (by decide +kernel)
def Zqn:Sp:=λvs H Q _=>∃ x0 y0:Int,vs = [.int x0,.int y0]/\18446744073709551616<=x0/\x0 < 85070591730234615865843651857942052864/\0<=y0/\y0<=x0 /\
 ∀ (a b c d x y:Int) (t:Addr) (H':Hp),Same H H'->H' t = some (.tup [.int a,.int b,.int c,.int d])->Steps x0 y0 a b c d x y->Q (.ref t) H'
theorem ok_lead {f:Addr} {fd:FuncData} (F:Fun K "leading_steps" "leading_steps" Zc8 f fd) (T:Txt K mg C G S) (hpt:P.given.tree = none):FnOk P w K mg base CX0 1 f fd ["one","other"] Zqn:=by
 have nd:=Zes.nd;refine F.ok Zes (λvs H Q E h=>?_) (λcdv A outer s H vs Q E hr h=>?_)
 .refine Zbo h λx0 y0 e94 _=>?_;clear h;obtain rfl:=e94;rfl
 .refine Zib h λx0 y0 e95 hx64 hx hy0 hyx q=>?_;clear h;obtain rfl:=e95;refine ⟨_,((Zb3 (@Zas _ _ _ _ _ (Zab<&>(Zab<&>(Zab<&>(Zab<&>Zaa))))) (@Zbv _ _ _ _ _ 4 rfl (@Zai _ _ _ _ _ (@Zae _ _ 2 _ nd rfl (Or.inl rfl) (Or.inl rfl)) (@Zai _ _ _ _ _ (@Zae _ _ 3 _ nd rfl (Or.inl rfl) (Or.inl rfl)) (@Zai _ _ _ _ _ (@Zae _ _ 4 _ nd rfl (Or.inl rfl) (Or.inl rfl)) (@Zai _ _ _ _ _ (@Zae _ _ 5 _ nd rfl (Or.inl rfl) (Or.inl rfl)) (@Za0 _) (by rfl)) (by rfl)) (by rfl)) (by rfl)) (by rfl) (by rfl)))<*>((Zc0 Jan (Zcl Zuk (pv 1) (Zoc<|>Zab<&&>Zab) (Zam _)) ((Zak (i:=6) nd rfl (Or.inl rfl) ((Zct hpt (Zca hr))<|>(pvr 0)<&&>(pvr 1)))<*>((Zh3 (i:=0) (j:=1) rfl nd rfl rfl (by decide) rfl rfl ((pvr 1)<&>((Zbp<|>(pvr 0)<&&>(Za4<|>(pvr 6)<&&>(pvr 1)))<&>Zaa)) rfl)<*>(@Zal _ _ _ (Zb3 (@Zas _ _ _ _ _ ((pvr 4)<&>((pvr 5)<&>((Zbp<|>(pvr 2)<&&>(Za4<|>(pvr 6)<&&>(pvr 4)))<&>((Zbp<|>(pvr 3)<&&>(Za4<|>(pvr 6)<&&>(pvr 5)))<&>Zaa))))) (@Zbv _ _ _ _ _ 4 rfl (@Zai _ _ _ _ _ (@Zae _ _ 2 _ nd rfl (Or.inl rfl) (Or.inl rfl)) (@Zai _ _ _ _ _ (@Zae _ _ 3 _ nd rfl (Or.inl rfl) (Or.inl rfl)) (@Zai _ _ _ _ _ (@Zae _ _ 4 _ nd rfl (Or.inl rfl) (Or.inl rfl)) (@Zai _ _ _ _ _ (@Zae _ _ 5 _ nd rfl (Or.inl rfl) (Or.inl rfl)) (@Za0 _) (by rfl)) (by rfl)) (by rfl)) (by rfl)) (by rfl) (by rfl)))))))<*>(~~~(@Zas _ _ _ _ _ ((pvr 2)<&>((pvr 3)<&>((pvr 4)<&>((pvr 5)<&>Zaa)))))))),?_⟩;walk_at "wp";refine ⟨by decide,λp hp=>⟨_,SqT.of Zac,rfl,_,_,rfl,_,_,rfl,_,_,rfl,_,_,rfl,rfl,?_⟩⟩;refine ⟨λn σ H2=>∃ (a b c d x y:Int) (o:Option V),σ = [some (.int x),some (.int y),some (.int a),some (.int b),some (.int c),some (.int d),o]/\Same H H2/\n = y.natAbs/\Steps x0 y0 a b c d x y,
   ⟨_,1,0,0,1,x0,y0,none,rfl,Same.new hp,rfl,⟨by omega,by omega,⟨1,by decide,by decide,by decide,by decide,by decide,by decide⟩,hx64,hy0,hyx,by decide,.inl ⟨rfl,rfl,rfl,rfl⟩⟩⟩,?_⟩
  intro n σ H2 e91;refine Zmj e91 λa b c d x y o e96 s2 e97 st=>?_;clear e91;obtain rfl:=e96;obtain rfl:=e97;walk_at "wp";have e64:(2:Int) ^ Int.toNat 64 = 18446744073709551616:=by decide +kernel
  rw [e64];refine ⟨⟨by decide,by decide,by decide⟩,Zbx (λhc=>?_) (λhc=>?_)⟩
  .have hc:=Ja0 hc;have nx:=st.next hx hyx hc;obtain ⟨c1,c2⟩:=st.cd hx hyx;have hxs:x<=x0 + y0:=by
    rcases st.pr with ⟨rfl,rfl,rfl,rfl⟩ | ⟨_,h⟩
    .have:=st.hx;omega
    .have:=st.yn;omega
   have hyx':=st.yx;have hx0:=st.x64;have q0:0<=x / y:=Jef (by omega) (by omega);have q1:x / y<=x:=Int.ediv_le_self _ (by omega);have hr0:=nx.yn;have hr1:x - x / y * y < y:=by
    have h1:=Ja7 x (show 0 < y by omega);have h2:=Jd4 x y;rw [Jdg y] at h2;omega
   refine ⟨_,λ_ _ h=>h,by omega,?_⟩;rw [Zfn (by omega)];refine ⟨(Zni (by omega)).ok (Zni (by omega)) (by decide),_,_,⟨rfl,rfl⟩,(Zni (by omega)).ok (Zni (by omega)) (by decide),(Zni (by omega)).ok (Zni (by omega)) (by decide),by decide,λp2 hp2=>⟨_,SqT.of Zac,rfl,_,_,rfl,_,_,rfl,_,_,rfl,_,_,rfl,rfl,?_⟩⟩;exact ⟨_,by omega,_,_,_,_,_,_,_,rfl,s2.trans (Same.new hp2),rfl,nx⟩
  .exact ⟨by decide,λt ht=>q a b c d x y t _ (s2.trans (Same.new ht)) Zac st⟩
theorem Zvk (x:Int) {y:Int} (h:y ≠ 0):(x.fmod y).natAbs < y.natAbs:=by
 rcases Int.lt_or_gt_of_ne h with h | h
 .have e:x.fmod y = -((-x).fmod (-y)):=by rw [Int.neg_fmod_neg,Int.neg_neg]
  have h1:=Jdz (-x) (show 0 < -y by omega);have h2:=Jeq (-x) (show 0 < -y by omega);omega
 .have h1:=Jdz x (show 0 < y by omega);have h2:=Jeq x (show 0 < y by omega);omega
theorem Zl2 (a b:Int):Int.gcd b (a.fmod b) = Int.gcd a b:=by
 rw [Int.fmod_def,Int.sub_eq_add_neg,<- Int.mul_neg,Int.gcd_add_mul_left_right,Jen]
abbrev NB1:Nat:=67000002
abbrev NB:Nat:=67000001
theorem Zt6 {x y S a b c d X Y:Int} (hS:0 < S) (st:Steps (x / S) (y / S) a b c d X Y) (hx:x / S < 85070591730234615865843651857942052864) (hyx:y / S<=x / S) (hb:b ≠ 0) (y0:0<=y) (x0:0<=x):(a * x + b * y).natAbs + (c * x + d * y).natAbs < (x + y).natAbs:=by
 obtain ⟨c1,d1⟩:=st.cd hx hyx;obtain ⟨a1,b1⟩:=st.ab;obtain ⟨_,hs⟩:=st.pr.resolve_left λz=>hb z.2.1;have ex:x = S * (x / S) + x % S:=(Int.mul_ediv_add_emod x S).symm;have ey:y = S * (y / S) + y % S:=(Int.mul_ediv_add_emod y S).symm;have rx0:=Jbi x (show S ≠ 0 by omega);have rx1:=Ja7 x hS;have ry0:=Jbi y (show S ≠ 0 by omega);have ry1:=Ja7 y hS;have hX:=st.x64;have hY:=st.yn;have e1:a * x + b * y = S * X + (a * (x % S) + b * (y % S)):=by
  rw [<- st.hx]
  grind
 have e2:c * x + d * y = S * Y + (c * (x % S) + d * (y % S)):=by
  rw [<- st.hy]
  grind
 rw [e1,e2];generalize x / S = x' at *;generalize y / S = y' at *;generalize x % S = rx at *;generalize y % S = ry at *;have p1:=Zb5 (show a.natAbs<=4611686018427387903 by omega) (show rx.natAbs<=S.natAbs by omega);have p2:=Zb5 (show b.natAbs<=4611686018427387903 by omega) (show ry.natAbs<=S.natAbs by omega);have p3:=Zb5 (show c.natAbs<=4611686018427387903 by omega) (show rx.natAbs<=S.natAbs by omega);have p4:=Zb5 (show d.natAbs<=4611686018427387903 by omega) (show ry.natAbs<=S.natAbs by omega);have m1:S * (X + Y + 18446744073709551616)<=S * (x' + y'):=Int.mul_le_mul_of_nonneg_left hs (by omega);rw [Int.mul_add,Int.mul_add,Int.mul_add] at m1;have m2:0<=S * X:=Jdb (by omega) (by omega);have m3:0<=S * Y:=Jdb (by omega) hY;have tri:∀ u v z:Int,(u + (v + z)).natAbs<=u.natAbs + (v.natAbs + z.natAbs):=λu v z=>Jav (Int.natAbs_add_le _ _) (Nat.add_le_add_left (Int.natAbs_add_le _ _) _);have t1:=tri (S * X) (a * rx) (b * ry);have t2:=tri (S * Y) (c * rx) (d * ry);have q1:=Jdn m2;have q2:=Jdn m3;have q3:=Jdn (show 0<=S by omega);have q4:=Jdn (show 0<=x + y by omega);clear e1 e2 hs st a1 b1 c1 d1 hx hyx hX hY;generalize (S * X + (a * rx + b * ry)).natAbs = N1 at *;generalize (S * Y + (c * rx + d * ry)).natAbs = N2 at *;generalize (a * rx).natAbs = n1 at *;generalize (b * ry).natAbs = n2 at *;generalize (c * rx).natAbs = n3 at *;generalize (d * ry).natAbs = n4 at *;generalize (S * X).natAbs = n5 at *;generalize (S * Y).natAbs = n6 at *;generalize (x + y).natAbs = n7 at *;generalize S.natAbs = n8 at *;generalize S * X = zX at *;generalize S * Y = zY at *;generalize S * x' = zx at *;generalize S * y' = zy at *;omega
theorem Zvu {x:Int} {n:Nat} (h0:0<=x) (h:Builtin.Int.intBits x = n) (hn:126<=n):18446744073709551616<=x / 2 ^ (n - 126)/\x / 2 ^ (n - 126) < 85070591730234615865843651857942052864:=by
 have hp:(0:Int) < 2 ^ (n - 126):=Int.pow_pos (by decide);have hu:x.natAbs < 2 ^ n:=Jdo.mp (by omega);have hl:¬ x.natAbs < 2 ^ (n - 1):=λz=>by have:=Jdo.mpr z; omega
 constructor
 .refine (Int.le_ediv_iff_mul_le hp).mpr ?_;have e:(18446744073709551616:Int) * 2 ^ (n - 126) = 2 ^ (n - 62):=by
   rw [show (18446744073709551616:Int) = 2 ^ 64 by decide +kernel,<- Int.pow_add];congr 1;omega
  have e2:(2:Int) ^ (n - 62) = ((2 ^ (n - 62):Nat):Int):=by rw [Int.natCast_pow]; rfl
  have e3:(2:Nat) ^ (n - 62)<=2 ^ (n - 1):=Jcm (by decide) (by omega);rw [e,e2];omega
 .refine Int.ediv_lt_of_lt_mul hp ?_;have e:(85070591730234615865843651857942052864:Int) * 2 ^ (n - 126) = 2 ^ n:=by
   rw [show (85070591730234615865843651857942052864:Int) = 2 ^ 126 by decide +kernel,<- Int.pow_add];congr 1;omega
  have e2:(2:Int) ^ n = ((2 ^ n:Nat):Int):=by rw [Int.natCast_pow]; rfl
  rw [e,e2];omega
def Zmt:Sp:=λvs H Q _=>∃ x y:Int,vs = [.int x,.int y]/\0<=x/\0<=y/\4000 < Builtin.Int.intBits x/\4000 < Builtin.Int.intBits y/\Bt NB1 x/\Bt NB1 y /\
 ∀ (u v:Int) (t:Addr) (H':Hp),Same H H'->H' t = some (.tup [.int u,.int v])->0<=u->0<=v->u + v < x + y->Int.gcd u v = Int.gcd x y->Q (.ref t) H'
theorem Zup {f:Addr} {fd:FuncData} (F:Fun K "shortened" "shortened" Zf3 f fd) (T:Txt K mg C G S) (C_leading_steps:Cal P w K mg base "leading_steps" 1 Zqn):FnOk P w K mg base CX0 2 f fd ["one","other"] Zmt:=by
 have nd:=Zhs.nd;refine F.ok Zhs (λvs H Q E h=>?_) (λcdv A outer s H vs Q E hr h=>?_)
 .refine Zbo h λx0 y0 e98 _=>?_;clear h;obtain rfl:=e98;rfl
 .refine Zib h λx y e99 x0 y0 xb yb e910=>?_;clear h;obtain rfl:=e99;refine Za9 e910 λbx by' q=>?_
  clear e910;refine ⟨_,((@Za1 _ _ _ _ _ _ _ _ (Zao Zhg (pvr 0) (pvr 1) (Zam _)) (@Zal _ _ _ (Zh3 (i:=0) (j:=1) rfl nd rfl rfl (by decide) rfl rfl ((pvr 1)<&>((pvr 0)<&>Zaa)) rfl)) Zan)<*>((Zak (i:=2) nd rfl (Or.inl rfl) (Zbp<|>(Zoa Jde Jcq Jcr Zkq (pvr 0))<&&>(Zeg rfl T.g_LEADING)))<*>((Zb3 (Za6 C_leading_steps hr.m rfl ((Zwb<|>(pvr 0)<&&>(pvr 2))<&>((Zwb<|>(pvr 1)<&&>(pvr 2))<&>Zaa))) (@Zbv _ _ _ _ _ 4 rfl (@Zai _ _ _ _ _ (@Zae _ _ 3 _ nd rfl (Or.inl rfl) (Or.inl rfl)) (@Zai _ _ _ _ _ (@Zae _ _ 4 _ nd rfl (Or.inl rfl) (Or.inl rfl)) (@Zai _ _ _ _ _ (@Zae _ _ 5 _ nd rfl (Or.inl rfl) (Or.inl rfl)) (@Zai _ _ _ _ _ (@Zae _ _ 6 _ nd rfl (Or.inl rfl) (Or.inl rfl)) (@Za0 _) (by rfl)) (by rfl)) (by rfl)) (by rfl)) (by rfl) (by rfl)))<*>((@Za1 _ _ _ _ _ _ _ _ (Zao Zcc (pvr 4) Zab (Zam _)) (~~~(@Zas _ _ _ _ _ ((pvr 1)<&>((Zrh<|>(pvr 0)<&&>(pvr 1))<&>Zaa)))) Zan)<*>(~~~(@Zas _ _ _ _ _ ((Za3 Zc1 rfl T.n_abs Jep ((Zay<|>(Za4<|>(pvr 3)<&&>(pvr 0))<&&>(Za4<|>(pvr 4)<&&>(pvr 1)))<&>Zaa))<&>((Za3 Zc1 rfl T.n_abs Jep ((Zay<|>(Za4<|>(pvr 5)<&&>(pvr 0))<&&>(Za4<|>(pvr 6)<&&>(pvr 1)))<&>Zaa))<&>Zaa)))))))),?_⟩;refine Zd2 λX hX=>?_;walk_at "wp";have aft:∀ x y:Int,0<=y->y<=x->4000 < Builtin.Int.intBits x->4000 < Builtin.Int.intBits y->Bt NB1 x->Bt NB1 y->(∀ (u v:Int) (t:Addr) (H':Hp),Same H H'->H' t = some (.tup [.int u,.int v])->0<=u->0<=v->u + v < x + y->Int.gcd u v = Int.gcd x y->Q (.ref t) H')->
    X { nx:=λx H'=>Q V.non H',rt:=Q } [some (.int x),some (.int y),none,none,none,none,none] H:=by
   intro x y y0 yx xb yb bx by' q
   subst hX;walk_at "wp";have x0:0<=x:=by omega
   obtain ⟨b1,b2⟩:=Zvu x0 rfl (show 126<=Builtin.Int.intBits x by omega);have en:((Builtin.Int.intBits x:Int) - 126).toNat = Builtin.Int.intBits x - 126:=by omega
   rw [en];have hS:(0:Int) < 2 ^ (Builtin.Int.intBits x - 126):=Int.pow_pos (by decide);generalize (2:Int) ^ (Builtin.Int.intBits x - 126) = S at *;have yn:y ≠ 0:=λz=>by
    subst z;have:Builtin.Int.intBits 0 = 0:=rfl;omega
   have hyx:y / S<=x / S:=Int.ediv_le_ediv hS yx;refine ⟨rfl,by omega,by omega,_,_,rfl,b1,b2,Jef y0 (by omega),hyx,λa b c d X' Y' t H1 s1 ht st=>?_⟩;refine ⟨t,rfl,_,SqT.of ht,rfl,_,_,rfl,_,_,rfl,_,_,rfl,_,_,rfl,rfl,rfl,Zbx (λhb=>?_) (λhb=>?_)⟩
   .refine ⟨yn,by decide,λp hp=>?_⟩;have f0:=Jdz x (show 0 < y by omega);have f1:=Jeq x (show 0 < y by omega);exact q _ _ p _ (s1.trans (Same.new hp)) Zac y0 f0 (by omega) (Zl2 x y)
   .have hb:b ≠ 0:=λz=>hb (Jaj (by rw [z]));obtain ⟨a1,a2⟩:=st.ab;obtain ⟨c1,c2⟩:=st.cd b2 hyx;have sm:∀ z:Int,z.natAbs < 4611686018427387904->Bt 127 z:=λz hz=>Zni (by omega);have lt:=Zt6 hS st b2 hyx hb y0 x0;refine ⟨_,rfl,(sm a a1).ok bx (by decide),_,rfl,(sm b a2).ok by' (by decide),_,rfl,(sm c c1).ok bx (by decide),_,rfl,(sm d c2).ok by' (by decide),by decide,λp hp=>?_⟩;have ab:∀ z:Int,(if z < 0 then -z else z) = (z.natAbs:Int):=λz=>by split <;> omega
    rw [ab,ab];refine q _ _ p _ (s1.trans (Same.new hp)) Zac (by omega) (by omega) (by omega) ?_;refine Zav st.sg λe he det _=>?_;have eg:∀ u v:Int,Int.gcd (u.natAbs:Int) (v.natAbs:Int) = Int.gcd u v:=λu v=>by simp [Int.gcd]
    rw [eg,Zvj (by rcases he with rfl | rfl <;> omega)]
  refine Zbx (λhc=>?_) (λhc=>?_)
  .have hc:=Ja0 hc;exact Zau _ _ ⟨⟨rfl,rfl⟩,aft y x x0 (by omega) yb xb by' bx λu v t H' s' ht u0 v0 huv hg=>q u v t H' s' ht u0 v0 (by omega) (by rw [hg,Jen])⟩
  .have hc:¬ x < y:=λz=>hc (Jaj z);exact aft x y y0 (by omega) xb yb bx by' q
theorem Zma {x y:Int} (h:x.natAbs<=y.natAbs):Builtin.Int.intBits x<=Builtin.Int.intBits y:=Jdo.mpr (Jbk h (Jdo.mp (Jaf _)))
def spNbl:Sp:=λvs H Q _=>∃ x y:Int,vs = [.int x,.int y]/\0<=x/\0<=y/\Bt NB x/\Bt NB y /\
 ∀ (u v:Int) (t:Addr) (H':Hp),Same H H'->H' t = some (.tup [.int u,.int v])->Int.gcd u v = Int.gcd x y->Q (.ref t) H'
theorem ok_nbl {f:Addr} {fd:FuncData} (F:Fun K "not_both_long" "not_both_long" Zc6 f fd) (T:Txt K mg C G S) (C_shortened:Cal P w K mg base "shortened" 2 Zmt):FnOk P w K mg base CX0 3 f fd ["one","other"] spNbl:=by
 have nd:=Zeq.nd;refine F.ok Zeq (λvs H Q E h=>?_) (λcdv A outer s H vs Q E hr h=>?_)
 .refine Zbo h λx0 y0 e911 _=>?_;clear h;obtain rfl:=e911;rfl
 .refine Zib h λx y e912 x0 y0 bx by' q=>?_
  clear h;obtain rfl:=e912;refine ⟨_,((Zc0 Jan (Zcl Ze0 (Zoa Jde Jcq Jcr Zkq (Za3 (Zji rfl) rfl T.n_min boot_min ((pv 0)<&>((pv 1)<&>Zaa)))) (Zeg rfl T.g_LONG) (Zam _)) (@Zal _ _ _ (Zb3 (Za6 C_shortened hr.m rfl ((pvr 0)<&>((pvr 1)<&>Zaa))) (@Zbv _ _ _ _ _ 2 rfl (@Zai _ _ _ _ _ (@Zae _ _ 0 _ nd rfl (Or.inl rfl) (Or.inl rfl)) (@Zai _ _ _ _ _ (@Zae _ _ 1 _ nd rfl (Or.inl rfl) (Or.inl rfl)) (@Za0 _) (by rfl)) (by rfl)) (by rfl) (by rfl)))))<*>(~~~(@Zas _ _ _ _ _ ((pvr 0)<&>((pvr 1)<&>Zaa))))),?_⟩;walk_at "wp";refine ⟨λn σ H2=>∃ u v:Int,σ = [some (.int u),some (.int v)]/\Same H H2/\n = (u + v).toNat/\0<=u/\0<=v/\u + v<=x + y/\Int.gcd u v = Int.gcd x y,⟨_,x,y,rfl,Same.refl _,rfl,x0,y0,Int.le_refl _,rfl⟩,?_⟩;intro n σ H2 e92;refine Zib e92 λu v e913 s2 e914 u0 v0 e915=>?_;clear e92;obtain rfl:=e913;obtain rfl:=e914;obtain ⟨huv,hg⟩:=e915;walk_at "wp";have hb:∀ z:Int,0<=z->z<=x + y->Bt NB1 z:=λz z0 z1=>(Bt.add bx by').abs_le (by omega);refine Zau _ _ ⟨⟨rfl,rfl⟩,rfl,Zbx (λhc=>?_) (λhc=>?_)⟩
  .have hc:=Ja0 hc;have bu:4000 < Builtin.Int.intBits u:=by
    by_cases h:v < u
    .rw [if_pos h] at hc;exact Jaw (by omega) (Zma (show v.natAbs<=u.natAbs by omega))
    .rw [if_neg h] at hc;omega
   have bv:4000 < Builtin.Int.intBits v:=by
    by_cases h:v < u
    .rw [if_pos h] at hc;omega
    .rw [if_neg h] at hc;exact Jaw (by omega) (Zma (show u.natAbs<=v.natAbs by omega))
   refine ⟨_,λ_ _ h=>h,u,v,rfl,u0,v0,bu,bv,hb u u0 (by omega),hb v v0 (by omega),λu' v' t H3 s3 ht u0' v0' lt hg'=>⟨t,rfl,_,SqT.of ht,rfl,_,_,rfl,_,_,rfl,rfl,(u' + v').toNat,by omega,u',v',rfl,s2.trans s3,rfl,u0',v0',by omega,hg'.trans hg⟩⟩
  .exact ⟨by decide,λt ht=>q u v t _ (s2.trans (Same.new ht)) Zac hg⟩
def Zo6:Sp:=λvs H Q _=>∃ a b:Int,vs = [.int a,.int b]/\Bt NB a/\Bt NB b/\∀ H',Same H H'->Q (.int (Int.gcd a b:Int)) H'
theorem ok_cdB {f:Addr} {fd:FuncData} (F:Fun K "common_divisor" "common_divisor" Zce f fd) (T:Txt K mg C G S) (C_not_both_long:Cal P w K mg base "not_both_long" 3 spNbl):FnOk P w K mg base CX0 4 f fd ["one","other"] Zo6:=by
 have nd:=Zb4.nd;refine F.ok Zb4 (λvs H Q E h=>?_) (λcdv A outer s H vs Q E hr h=>?_)
 .refine Zbo h λa b e916 _=>?_;clear h;obtain rfl:=e916;rfl
 .refine Zdv h λa b e917 ha hb q=>?_;clear h;obtain rfl:=e917;refine ⟨_,((@Za1 _ _ _ _ _ _ _ _ (Zao Ze0 (Zoa Jde Jcq Jcr Zkq (pvr 0)) (Zeg rfl T.g_LONG) (Zam _)) (@Zal _ _ _ (Zb3 (Za6 C_not_both_long hr.m rfl ((Za3 Zc1 rfl T.n_abs Jep ((pvr 0)<&>Zaa))<&>((Za3 Zc1 rfl T.n_abs Jep ((pvr 1)<&>Zaa))<&>Zaa))) (@Zbv _ _ _ _ _ 2 rfl (@Zai _ _ _ _ _ (@Zae _ _ 0 _ nd rfl (Or.inl rfl) (Or.inl rfl)) (@Zai _ _ _ _ _ (@Zae _ _ 1 _ nd rfl (Or.inl rfl) (Or.inl rfl)) (@Za0 _) (by rfl)) (by rfl)) (by rfl) (by rfl)))) Zan)<*>((Zc0 Jan (Zcl Zfh (pv 1) Zab (Zam _)) (@Zal _ _ _ (Zh3 (i:=0) (j:=1) rfl nd rfl rfl (by decide) rfl rfl ((pvr 1)<&>((Zrh<|>(pvr 0)<&&>(pvr 1))<&>Zaa)) rfl)))<*>(~~~(Za3 Zc1 rfl T.n_abs Jep ((pvr 0)<&>Zaa))))),?_⟩;refine Zd2 λX hX=>?_;walk_at "wp";have aft:∀ (x y:Int) (H1:Hp),Same H H1->Int.gcd x y = Int.gcd a b->X { nx:=λx H'=>Q V.non H',rt:=Q } [some (.int x),some (.int y)] H1:=by
   intro x y H1 s1 hg;subst hX;walk_at "wp";refine ⟨λn σ H2=>∃ x y:Int,σ = [some (.int x),some (.int y)]/\H2 = H1/\n = y.natAbs/\Int.gcd x y = Int.gcd a b,⟨_,x,y,rfl,rfl,rfl,hg⟩,?_⟩;intro n σ H2 e93;refine Zdv e93 λx y e918 e919 e920 hg=>?_;clear e93;obtain rfl:=e918;obtain rfl:=e919;obtain rfl:=e920;walk_at "wp";refine Zbx (λhc=>?_) (λhc=>?_)
   .have hy0:¬ y = 0:=by simpa using hc
    exact ⟨_,λ_ _ h=>h,hy0,_,_,⟨rfl,rfl⟩,(x.fmod y).natAbs,Zvk x hy0,y,x.fmod y,rfl,rfl,rfl,by rw [Zl2]; exact hg⟩
   .have hy0:y = 0:=by simpa using hc
    subst hy0;have e:(if x < 0 then -x else x) = (Int.gcd a b:Int):=by
     rw [<- hg,Int.gcd_zero];split <;> omega
    rw [e];exact q _ s1
  have ab:∀ z:Int,(if z < 0 then -z else z) = (z.natAbs:Int):=λz=>by split <;> omega
  refine ⟨rfl,Zbx (λhc=>?_) (λhc=>aft a b H (Same.refl _) rfl)⟩;rw [ab,ab];exact Zau _ _ ⟨rfl,by omega,by omega,ha.abs_le (by simp),hb.abs_le (by simp),λu v t H1 s1 ht hg=>⟨t,rfl,_,SqT.of ht,rfl,_,_,rfl,_,_,rfl,rfl,aft u v H1 s1 (by rw [hg]; simp [Int.gcd])⟩⟩
end
end Pf
namespace Pf
open PySem L2 L3 PyProof.Rows
section
variable {P:Program} {w:World} {K:PySem.W.Frag} {mg:Str->Option Value} {base:Heap} {C G S:Addr}
def nrS (a b:Int):Int × Int:=if b < 0 then nrm (-a) (-b) else nrm a b
theorem Zwd {a b:Int} (h:b ≠ 0):((a.fdiv (if b < 0 then -(Int.gcd a b:Int) else (Int.gcd a b:Int)),b.fdiv (if b < 0 then -(Int.gcd a b:Int) else (Int.gcd a b:Int))):Int × Int) = nrS a b:=by
 unfold nrS nrm;by_cases hb:b < 0
 .simp only [if_pos hb];have e1:∀ z g:Int,z.fdiv (-g) = (-z).fdiv g:=λz g=>by rw [<- Int.neg_fdiv_neg (-z) g,Int.neg_neg]
  have e2:Int.gcd (-a) (-b) = Int.gcd a b:=by rw [Int.gcd_neg,Int.neg_gcd]
  rw [e1,e1,e2,Jbu _ (by omega),Jbu _ (by omega)]
 .simp only [if_neg hb];rw [Jbu _ (by omega),Jbu _ (by omega)]
def Zkj:Sp:=λvs H Q _=>∃ a b:Int,vs = [.int a,.int b]/\Bt NB a/\Bt NB b/\b ≠ 0/\∀ t H',Same H H'->H' t = some (.tup [.int (nrS a b).1,.int (nrS a b).2])->Q (.ref t) H'
theorem Zux {f:Addr} {fd:FuncData} (F:Fun K "fraction" "fraction" Zhe f fd) (T:Txt K mg C G S) (hpt:P.given.tree = none) (C_common_divisor:Cal P w K mg base "common_divisor" 4 Zo6):FnOk P w K mg base CX0 5 f fd ["top","bottom"] Zkj:=by
 have nd:=Zi1.nd;refine F.ok Zi1 (λvs H Q E h=>?_) (λcdv A outer s H vs Q E hr h=>?_)
 .refine Zbo h λa b e92 _=>?_;clear h;obtain rfl:=e92;rfl
 .refine Zic h λa b e93 ha hb b0 q=>?_;clear h;obtain rfl:=e93;refine ⟨_,((@Za1 _ _ _ _ _ _ _ _ (Zao (Zif Zcc) (pvr 1) Zab (Zam _)) (@Zal _ _ _ Zee) Zan)<*>((Zak (i:=2) nd rfl (Or.inl rfl) (Za6 C_common_divisor hr.m rfl ((pvr 0)<&>((pvr 1)<&>Zaa))))<*>((@Za1 _ _ _ _ _ _ _ _ (Zao (Zj3 Zhg) (pvr 1) Zab (Zam _)) (@Zal _ _ _ (Zak (i:=2) nd rfl (Or.inl rfl) (Zjp Zfp (pvr 2)))) Zan)<*>(~~~(@Zas _ _ _ _ _ (((Zct hpt (Zca hr))<|>(pvr 0)<&&>(pvr 2))<&>(((Zct hpt (Zca hr))<|>(pvr 1)<&&>(pvr 2))<&>Zaa))))))),?_⟩;walk_at "wp";have Zj8:∀ {c A B:Prop} [Decidable c],¬ c->B->if c then A else B:=λhc h=>by rw [if_neg hc]; exact h
  refine Zj8 (by rw [Ja9 b0]; decide) ⟨a,b,rfl,ha,hb,λH1 s1=>?_⟩;have g0:0 < Int.gcd a b:=Jcn _ b0;have e:=Zwd (a:=a) b0;refine Zbx (λhc=>?_) (λhc=>?_)
  .have hc:=Ja0 hc;rw [if_pos hc] at e;refine ⟨_,rfl,by omega,by omega,by decide,λt ht=>q t _ (s1.trans (Same.new ht)) ?_⟩;rw [Zac,<- e]
  .have hc:¬ b < 0:=λz=>hc (Jaj z);rw [if_neg hc] at e;refine ⟨_,rfl,by omega,_,rfl,by omega,by decide,λt ht=>q t _ (s1.trans (Same.new ht)) ?_⟩;rw [Zac,<- e]
theorem Zq9 {b p:Int} (hp:Zex p) (h0:0 < b) (h1:b < p):Int.gcd b p = 1:=by
 have hd1:((Int.gcd b p:Nat):Int) ∣ b:=Jbn b p;have hd2:((Int.gcd b p:Nat):Int) ∣ p:=Jbs b p;have hle:=Int.le_of_dvd h0 hd1;have hpos:0 < Int.gcd b p:=Int.gcd_pos_of_ne_zero_left _ (by omega);by_cases h:Int.gcd b p = 1
 .exact h
 .exact absurd (Int.emod_eq_zero_of_dvd hd2) (hp.2.2 _ (by omega) (by omega))
theorem inv_end {p z b c:Int} (h:p ∣ z * b - c):(z % p * b) % p = c % p:=by
 obtain ⟨k,hk⟩:=h;have e:z % p * b = c + p * (k - z / p * b):=by rw [Int.emod_def]; grind
 rw [e,Int.add_mul_emod_self_left]
theorem Zol {a b:Int} (ha:1<=a) (hb:0<=b):b<=a * b:=by
 have:=Jc2 ha hb;omega
theorem Zs7 {x:Int} (h:x.natAbs<=97):Bt 7 x:=Jbk h (by decide)
def spInv:Sp:=λvs H Q _=>∃ b p:Int,vs = [.int b,.int p]/\Zex p/\0 < b/\b < p/\∀ r H',Same H H'->0<=r->r < p->(r * b) % p = 1->Q (.int r) H'
theorem ok_inv {f:Addr} {fd:FuncData} (F:Fun K "inverse" "inverse" Zi5 f fd) (T:Txt K mg C G S):FnOk P w K mg base CX0 1 f fd ["rest","prime"] spInv:=by
 have nd:=Zj0.nd;refine F.ok Zj0 (λvs H Q E h=>?_) (λcdv A outer s H vs Q E hr h=>?_)
 .refine Zbo h λb p e94 _=>?_;clear h;obtain rfl:=e94;rfl
 .refine Zic h λb p e95 hp b0 b1 q=>?_;clear h;obtain rfl:=e95;have p1:=hp.1;have p97:=hp.2.1;refine ⟨_,((Zh3 (i:=2) (j:=3) rfl nd rfl rfl (by decide) rfl rfl ((pvr 0)<&>((pvr 1)<&>Zaa)) rfl)<*>((Zb3 (@Zas _ _ _ _ _ (Zab<&>(Zab<&>Zaa))) (@Zbv _ _ _ _ _ 2 rfl (@Zai _ _ _ _ _ (@Zae _ _ 4 _ nd rfl (Or.inl rfl) (Or.inl rfl)) (@Zai _ _ _ _ _ (@Zae _ _ 5 _ nd rfl (Or.inl rfl) (Or.inl rfl)) (@Za0 _) (by rfl)) (by rfl)) (by rfl) (by rfl)))<*>((Zc0 Jan (Zcl Ze0 (pv 2) Zab (Zam _)) ((Zak (i:=6) nd rfl (Or.inl rfl) ((opJ Zkp)<|>(pvr 3)<&&>(pvr 2)))<*>((Zh3 (i:=2) (j:=3) rfl nd rfl rfl (by decide) rfl rfl (((Zj3 Zbp)<|>(pvr 3)<&&>((opJ Za4)<|>(pvr 6)<&&>(pvr 2)))<&>((pvr 2)<&>Zaa)) rfl)<*>(@Zal _ _ _ (Zh3 (i:=4) (j:=5) rfl nd rfl rfl (by decide) rfl rfl (((Zj3 Zbp)<|>(pvr 5)<&&>((opJ Za4)<|>(pvr 6)<&&>(pvr 4)))<&>((pvr 4)<&>Zaa)) rfl)))))<*>(~~~((opJ Zcb)<|>(pvr 4)<&&>(pvr 1)))))),?_⟩;walk_at "wp";refine Zau _ _ ⟨⟨rfl,rfl⟩,by decide,λt ht=>⟨_,SqT.of Zac,rfl,_,_,rfl,_,_,rfl,rfl,?_⟩⟩;refine ⟨λn σ H2=>∃ (lo hi lt ht':Int) (o:Option V),σ = [some (V.int b),some (V.int p),some (V.int lo),some (V.int hi),some (V.int lt),some (V.int ht'),o]/\H2 = upd H t (.tup [V.int 1,V.int 0])/\n = lo.toNat/\1<=lo/\lo < hi/\hi<=p/\Int.gcd lo hi = 1/\p ∣ lt * b - lo/\p ∣ ht' * b - hi /\
    ∃ u v:Int,0<=u/\0<=v/\lo * v + hi * u = p/\((lt = u/\ht' = -v)\/(lt = -u/\ht' = v)),
   ⟨_,b,p,1,0,none,rfl,rfl,rfl,by omega,b1,Int.le_refl _,Zq9 hp b0 b1,⟨0,by omega⟩,⟨-1,by omega⟩,1,0,by decide,by decide,by omega,.inl ⟨rfl,rfl⟩⟩,?_⟩
  intro n σ H2 e91;refine Zgh e91 λlo hi lt ht' o e96 e97 e98 e99=>?_;clear e91;obtain rfl:=e96;obtain rfl:=e97;obtain rfl:=e98;refine Zto e99 λl1 l2 l3 hg d1 d2 e910=>?_;clear e99;obtain ⟨u,v,u0,v0,huv,hs⟩:=e910;walk_at "wp";refine Zbx (λhc=>?_) (λhc=>?_)
  .have hc:=Ja0 hc;have hm:hi - hi / lo * lo = hi % lo:=by rw [Int.emod_def,Jdg lo]
   have m0:0<=hi / lo:=Jef (by omega) (by omega);have m1:hi / lo<=hi:=Int.ediv_le_self _ (by omega);have r0:=Jbi hi (show lo ≠ 0 by omega);have r1:=Ja7 hi (show 0 < lo by omega);have hg':Int.gcd (hi % lo) lo = 1:=by rw [Jen,Zkx,Jen]; exact hg
   have r2:1<=hi % lo:=by
    by_cases z:hi % lo = 0
    .rw [z,Int.zero_gcd] at hg';omega
    .omega
   have u1:=Zol (a:=hi) (by omega) u0;have v1:=Zol (a:=lo) (by omega) v0;have um:u<=97:=by omega
   have vm:v<=97:=by omega
   have e3:(hi - hi / lo * lo) * u + lo * (v + hi / lo * u) = p:=by rw [<- huv]; grind
   have mu:0<=hi / lo * u:=Jdb m0 u0;refine ⟨_,λ_ _ h=>h,⟨by omega,by omega⟩,(Zs7 (by omega)).ok (Zs7 (by omega)) (by decide),_,_,⟨rfl,rfl⟩,(Zs7 (by omega)).ok (Zs7 (by rcases hs with ⟨h,_⟩ | ⟨h,_⟩ <;> omega)) (by decide),_,_,⟨rfl,rfl⟩,(hi % lo).toNat,by omega,
    hi - hi / lo * lo,lo,ht' - hi / lo * lt,lt,_,rfl,rfl,by rw [hm],by rw [hm]; exact r2,by rw [hm]; exact r1,by omega,by rw [hm]; exact hg',?_,d1,v + hi / lo * u,by omega,u,u0,e3,?_⟩
   .have e:(ht' - hi / lo * lt) * b - (hi - hi / lo * lo) = (ht' * b - hi) - hi / lo * (lt * b - lo):=by grind
    rw [e];exact Int.dvd_sub d2 (Int.dvd_mul_of_dvd_right d1)
   .rcases hs with ⟨h1,h2⟩ | ⟨h1,h2⟩
    .subst h1 h2;exact .inr ⟨by grind,rfl⟩
    .subst h1 h2;exact .inl ⟨by grind,rfl⟩
  .have hc:¬ 1 < lo:=λz=>hc (Jaj z);have hl:lo = 1:=by omega
   subst hl;refine ⟨by omega,q _ _ (Same.new ht) (Jbi _ (by omega)) (Ja7 _ (by omega)) ?_⟩;rw [inv_end d1,Jc0 (by decide) p1]
def Zmu:Sp:=λvs H Q E=>∃ a b p:Int,vs = [.int a,.int b,.int p]/\Zex p/\Bt NB a/\b % p ≠ 0/\∀ r H',Same H H'->0<=r->r < p->(r * b - a) % p = 0->Q (.int r) H'
theorem Zuq {f:Addr} {fd:FuncData} (F:Fun K "rest_of" "rest_of" Zi2 f fd) (T:Txt K mg C G S) (C_inverse:Cal P w K mg base "inverse" 1 spInv):FnOk P w K mg base CX0 2 f fd ["top","bottom","prime"] Zmu:=by
 have nd:=Zjw.nd;refine F.ok Zjw (λvs H Q E h=>?_) (λcdv A outer s H vs Q E hr h=>?_)
 .refine Zdu h λa b p e911 _=>?_;clear h;obtain rfl:=e911;rfl
 .refine Zbj h λa b p e912 hp ha e913=>?_;clear h;obtain rfl:=e912;obtain ⟨hb,q⟩:=e913;have p1:=hp.1;have p97:=hp.2.1;have b0:=Jbi b (show p ≠ 0 by omega);have b1:=Ja7 b (show 0 < p by omega);refine ⟨_,((Zak (i:=3) nd rfl (Or.inl rfl) ((opJ Zcb)<|>(pvr 1)<&&>(pvr 2)))<*>((@Za1 _ _ _ _ _ _ _ _ (Zao (Zif Zcc) (pvr 3) Zab (Zam _)) (@Zal _ _ _ Zee) Zan)<*>(~~~(Zcb<|>(Za4<|>(pvr 0)<&&>(Za6 C_inverse hr.m rfl ((pvr 3)<&>((pvr 2)<&>Zaa))))<&&>(pvr 2))))),?_⟩;walk_at "wp";have Zj8:∀ {c A B:Prop} [Decidable c],¬ c->B->if c then A else B:=λhc h=>by rw [if_neg hc]; exact h
  refine ⟨by omega,Zj8 (by rw [Ja9 hb]; decide) ?_⟩;refine Zau _ p ⟨rfl,hp,by omega,b1,λr H' s' r0 r1 hr1=>⟨r,rfl,ha.ok (Zs7 (by omega)) (by decide),by omega,q _ H' s' (Jbi _ (by omega)) (Ja7 _ (by omega)) ?_⟩⟩;have k1:p ∣ r * (b % p) - 1:=Int.dvd_of_emod_eq_zero (by rw [Int.sub_emod,hr1,Jc0 (by decide) p1]; rfl);obtain ⟨k,hk⟩:=k1;have e:(a * r % p) * b - a = p * (a * k + a * r * (b / p) - a * r / p * b):=by
   rw [Int.emod_def] at hk ⊢
   grind
  rw [e,Int.mul_emod_right]
structure IsQ (p a b:Int) (x:Int × Int):Prop where
 is:Isn p x
 fd:∀ (F:Type) [Lean.Grind.Field F],FdOk p F->(nm x:F) = ic a / ic b
 bt:∀ n:Nat,7<=n->Bt n a->Bt n b->Bt n x.1/\Bt n x.2
theorem Zom {a b:Int} (b0:b ≠ 0):IsQ 0 a b (nrS a b):=by
 have key:∀ a b:Int,0 < b->IsQ 0 a b (nrm a b):=λa b h=>by
  refine ⟨.inl ⟨rfl,?_⟩,λF _ hF=>hF.nrmF rfl h,λn _ ha hb=>?_⟩
  .exact Zrq h
  .have g0:=Zem (a:=a) h;exact ⟨ha.quo (Jbn ..),hb.quo (Jbs ..)⟩
 unfold nrS;by_cases h:b < 0
 .rw [if_pos h];obtain ⟨h1,h2,h3⟩:=key (-a) (-b) (by omega);refine ⟨h1,λF _ hF=>?_,λn h7 ha hb=>h3 n h7 ha.neg hb.neg⟩;rw [h2 F hF,Zon,Zon];have:(ic b:F) ≠ 0:=hF.ne0 (.inl rfl) b0
  grind
 .rw [if_neg h];exact key a b (by omega)
theorem Zr4 {p a b r:Int} (hp:Zex p) (hb:b % p ≠ 0) (r0:0<=r) (r1:r < p) (h:(r * b - a) % p = 0):IsQ p a b (r,1):=by
 have p1:=hp.1;have p97:=hp.2.1;refine ⟨.inr ⟨by omega,r0,r1,rfl⟩,λF _ hF=>?_,λn h7 _ _=>⟨Za8 h7 (by show r.natAbs < 128; omega),Za8 h7 (by show (1:Int).natAbs < 128; decide)⟩⟩;have e1:(ic b:F) ≠ 0:=by
  rw [<- hF.modF (by omega)];exact hF.ne0 (.inr ⟨Jbi _ (by omega),Ja7 _ (by omega)⟩) hb
 have e2:(ic (r * b - a):F) = 0:=by rw [<- hF.modF (by omega),h,Zkv]
 rw [Zl0,Zb6] at e2;rw [hF.one]
 grind
def Zqk (G:Addr):Sp:=λvs H Q _=>∃ (g:Addr) (p a b:Int),vs = [.ref g,.int a,.int b]/\GAt G H g p/\GroundP p/\Bt NB a/\Bt NB b/\(p = 0->b ≠ 0)/\(p ≠ 0->b % p ≠ 0)/\∀ v x H',Same H H'->NumV H' p v x->IsQ p a b x->Q v H'
theorem ok_numQ {f D:Addr} {fd:FuncData} (F:FunD K "number" "Ground.number" Zaw f fd D) (T:Txt K mg C G S) (C_fraction:Cal P w K mg base "fraction" 5 Zkj) (C_rest_of:Cal P w K mg base "rest_of" 2 Zmu):FnOk P w K mg base CX0 6 f fd ["self","top","bottom"] (Zqk G):=by
 have nd:=Zev.nd;refine F.ok Zev (λvs H Q E h=>?_) (λcdv A outer s H vs Q E hr h=>?_)
 .refine Zml h λg p a b e914 _=>?_;clear h;obtain rfl:=e914;rfl
 .refine Zdc h λg p a b e915 e916 hp e917=>?_;clear h;obtain rfl:=e915;obtain ⟨dx,hg⟩:=e916;refine Zcv e917 λha hb h0 h1 q=>?_;clear e917;refine ⟨_,((@Za1 _ _ _ _ _ _ _ _ (Zao Zcc (Zbc (pvr 0) rfl) Zab (Zam _)) (~~~(Za6 C_fraction hr.m rfl ((pvr 1)<&>((pvr 2)<&>Zaa)))) Zan)<*>(~~~(Za6 C_rest_of hr.m rfl ((pvr 1)<&>((pvr 2)<&>((Zbc (pvr 0) rfl)<&>Zaa)))))),?_⟩;walk_at "wp";refine Zby G dx _ ⟨hg,T.cl_Ground,T.nP,_,Zbn p,rfl,Zbx (λhc=>?_) (λhc=>?_)⟩
  .have hp0:p = 0:=by simpa using hc
   subst hp0;exact Zau a b ⟨rfl,ha,hb,h0 rfl,λt H' s' ht=>q _ _ _ s' (NumV.tup rfl ht) (Zom (h0 rfl))⟩
  .have hp0:¬ p = 0:=by simpa using hc
   have hp1:Zex p:=hp.resolve_left hp0;exact Zby G dx _ ⟨hg,T.cl_Ground,T.nP,_,Zbn p,a,b,p,rfl,hp1,ha,h1 hp0,λr H' s' r0 r1 hr=>q _ (r,1) H' s' (NumV.of (x:=(r,1)) hp0) (Zr4 hp1 (h1 hp0) r0 r1 hr)⟩
def spCmB:Sp:=λvs H Q _=>∃ a b:Int,vs = [.int a,.int b]/\0 < a/\0 < b/\Bt NB a/\Bt NB b/\∀ m H',Same H H'->0 < m->a ∣ m->b ∣ m->m<=a * b->Q (.int m) H'
theorem ok_cmB {f:Addr} {fd:FuncData} (F:Fun K "common_multiple" "common_multiple" Zcp f fd) (T:Txt K mg C G S) (hpt:P.given.tree = none) (C_common_divisor:Cal P w K mg base "common_divisor" 4 Zo6):FnOk P w K mg base CX0 5 f fd ["one","other"] spCmB:=by
 have nd:=Zdk.nd;refine F.ok Zdk (λvs H Q E h=>?_) (λcdv A outer s H vs Q E hr h=>?_)
 .refine Zbo h λa b e918 _=>?_;clear h;obtain rfl:=e918;rfl
 .refine Zib h λa b e919 ha hb ta tb q=>?_;clear h;obtain rfl:=e919;refine ⟨_,(~~~(Za4<|>((Zct hpt (Zca hr))<|>(pvr 0)<&&>(Za6 C_common_divisor hr.m rfl ((pvr 0)<&>((pvr 1)<&>Zaa))))<&&>(pvr 1))),?_⟩;walk_at "wp";have g0:=Zem (a:=a) hb;have e1:a / (Int.gcd a b:Int) * (Int.gcd a b:Int) = a:=Jb9 (Jbn ..);obtain ⟨k,hk⟩:(Int.gcd a b:Int) ∣ b:=Jbs ..;have dpos:0 < a / (Int.gcd a b:Int):=by
   rcases Jes 0 (a / (Int.gcd a b:Int)) with h | h | h
   .exact h
   .rw [<- h,Int.zero_mul] at e1; omega
   .have:=Int.mul_neg_of_neg_of_pos h g0; omega
  have bd:Bt NB (a / (Int.gcd a b:Int)):=ta.quo (Jbn ..);have dle:(a / (Int.gcd a b:Int)).natAbs<=a.natAbs:=Zcu a g0 (Jbn ..);refine Zau a b ⟨rfl,ta,tb,λH' s'=>⟨_,rfl,by omega,?_⟩⟩;rw [Zfn g0];refine ⟨bd.ok tb (by decide),q _ _ s' (Jc5 dpos hb) ⟨k,?_⟩ ⟨_,Jdg ..⟩ (Jc2 (by omega) (by omega))⟩;generalize (Int.gcd a b:Int) = g at *;generalize a / g = d at *;rw [hk,<- e1,Int.mul_assoc]
abbrev HB:Nat:=33500000
def RowZ (H:Hp) (a:Addr) (zs:List Int):Prop:=H a = some (.lst (zs.map V.int))
theorem RowZ.same {H H':Hp} {a:Addr} {zs:List Int} (h:RowZ H a zs) (s:Same H H'):RowZ H' a zs:=s _ _ h
theorem RowZ.put {H:Hp} {D:Addr} {o:HO} {a:Addr} {zs:List Int} (h:RowZ H a zs) (n:a ≠ D):RowZ (upd H D o) a zs:=by unfold RowZ; rw [Zah n]; exact h
theorem Zjh {a D:Addr} {xs:List V} {fr:List (Str × Nat)} {σ:L2.St} {te:TE} {H1:Hp} {Q:VK} (g:Nat->Int) (ha:H1 a = some (.lst xs)) (hD:H1 D = none) (hn:xs.length<=1000)
  (h:∀ (i:Nat) x H (Q:VK),xs[i]? = some x->Same H1 H->(∀ H',Same H H'->Q (.int (g i)) H')->te (some x :: Zb8 fr σ) H Q)
  (hQ:∀ H',Same H1 H'->H' D = some (.lst (((List.range xs.length).map g).map V.int))->Q (.ref D) H'):Zb9 (Zbi 0) Zgj te (Itl K a) D (Zh8 1 fr σ) H1 Q:=
 Zil (λi _ y=>y = .int (g i)) (λr _=>r) (λr _=>r) ha hD hn (λi x H Q hx s _ k=>h i x H Q hx s λH' s'=>k _ H' s' rfl) (λys H' s e hl hr=>hQ H' s (by rw [e,Zr8 hl hr]))
theorem Zsw {a b D:Addr} {xs ys:List V} {fr:List (Str × Nat)} {σ:L2.St} {te:TE} {H1:Hp} {Q:VK} (R:Nat->Hp->V->Prop) (hS:∀ {i H H' y},R i H y->Same H H'->R i H' y) (hP:∀ {i H y l o},R i H y->H D = some (.lst l)->R i (upd H D o) y)
  (ha:H1 a = some (.lst xs)) (hb:H1 b = some (.lst ys)) (hlen:ys.length = xs.length) (hD:H1 D = none) (hn:xs.length<=1000)
  (h:∀ (i:Nat) x y H (Q:VK),xs[i]? = some x->ys[i]? = some y->Same H1 H->(∃ l,H D = some (.lst l))->(∀ u H',Same H H'->R i H' u->Q u H')->te (some x :: some y :: Zb8 fr σ) H Q)
  (hQ:∀ zs H',Same H1 H'->H' D = some (.lst zs)->zs.length = xs.length->(∀ (i:Nat) y,zs[i]? = some y->R i H' y)->Q (.ref D) H'):Zb9 (Zps K 2 (Zge (Zbi 0) (Zge (Zbi 1) Ztf))) Zgj te (Itz K a b) D (Zh8 2 fr σ) H1 Q:=by
 refine Zk4 (xs:=xs) (ys:=ys) (λi vs H=>Same H1 H/\H D = some (.lst vs)/\vs.length = i/\∀ (j:Nat) y,vs[j]? = some y->R j H y) hlen ⟨Same.new hD,Zac,rfl,λj y e=>by simp at e⟩ (λi vs H _ p=>⟨SqL.of (p.1 _ _ ha),SqL.of (p.1 _ _ hb)⟩) ?_ (λvs H ⟨s,e,hl,hr⟩=>hQ vs H s e hl hr);intro i x y p vs σ' H hi hx hy hp sh e91;refine Zcj e91 λs e hl hr=>?_;clear e91;refine Zla sh.two λz1 z2 e96=>?_;obtain rfl:=e96;have s0:=Same.new (o:=.tup [x,y]) hp;refine Zau p _ ⟨rfl,SqT.of Zac,rfl,_,_,rfl,_,_,rfl,rfl,?_⟩;simp only [Zgj,List.set_cons_zero,List.set_cons_succ,Jcy];refine h i x y _ _ hx hy (s.trans s0) ⟨_,s0 _ _ e⟩ λu H' s' ru=>?_;have s1:=s0.trans s';refine Zok (ws:=vs ++ [u]) hi Sh.mk2 (s1 _ _ e) (Zap (by omega)) ⟨(s.trans s1).upd hD,Zac,by rw [Jae,hl]; rfl,λj v hv=>?_⟩;by_cases hj:j < vs.length
 .rw [Jar hj] at hv;exact hP (hS (hr j v hv) s1) (s1 _ _ e)
 .rw [Jao (by omega)] at hv;have hj0:j - vs.length = 0:=by
   by_cases z:j - vs.length = 0
   .exact z
   .rw [Jal (by simp; omega)] at hv; cases hv
  rw [hj0] at hv;cases hv;rw [show j = i by omega];exact hP ru (s1 _ _ e)
theorem Zt9 {H:Hp} {p:Int} {vs:List V} {xs:List Nv} (hp:p ≠ 0) (h:All2 (NumV H p) vs xs):vs = (xs.map λx=>x.1).map V.int:=by
 apply Jet;intro i;have hl:=h.1;by_cases hi:i < vs.length
 .have e2:xs[i]? = some (xs[i]'(by omega)):=Jaa _;have:=(h.2 i _ _ (Jaa hi) e2).int hp;rw [Jaa hi,this,Jah,Jah,e2];rfl
 .rw [Jal (by omega),Jal (by simp; omega)]
structure WRz (p:Int) (xs:List Nv) (zs:List Int) (b:Int):Prop where
 len:zs.length = xs.length
 pos:0 < b
 one:p ≠ 0->b = 1
 eq:∀ i,zs.getD i 0 * (xs.getD i (0,1)).2 = (xs.getD i (0,1)).1 * b
def Zco (p:Int) (k:Nat) (xs:List Nv):Prop:=∀ x ∈ xs,Isn p x/\Bt k x.1/\Bt k x.2
def spWrZ (G:Addr):Sp:=λvs H Q _=>∃ (g a:Addr) (p:Int) (xs:List Nv) (k:Nat),vs = [.ref g,.ref a]/\GAt G H g p/\GroundP p/\RowV H p a xs/\xs.length<=900/\Zco p k xs/\1<=k/\(xs.length + 1) * k<=NB /\
 ∀ (t l:Addr) (zs:List Int) (b:Int) H',Same H H'->H l = none->H' t = some (.tup [.ref l,.int b])->RowZ H' l zs->WRz p xs zs b->SmallR ((xs.length + 1) * k) zs->Bt ((xs.length + 1) * k) b->Q (.ref t) H'
theorem ok_wrZ {f:Addr} {fd:FuncData} (F:Fun K "whole_row" "whole_row" Zf0 f fd) (T:Txt K mg C G S) (hpt:P.given.tree = none) (C_common_multiple:Cal P w K mg base "common_multiple" 5 spCmB):FnOk P w K mg base CX0 6 f fd ["ground","row"] (spWrZ G):=by
 have nd:=Zhp.nd;refine F.ok Zhp (λvs H Q E h=>?_) (λcdv A outer s H vs Q E hr h=>?_)
 .refine Ztk h λg a p xs k e97 _=>?_;clear h;obtain rfl:=e97;rfl
 .refine Zgh h λg a p xs k e98 e99 hp e910=>?_;clear h;obtain rfl:=e98;obtain ⟨dx,hg⟩:=e99;refine Zdd e910 λe911 xl gd k1 kb q=>?_;clear e910;obtain ⟨vs,hv,al⟩:=e911;have vl:=al.1;refine ⟨_,((@Za1 _ _ _ _ _ _ _ _ (Zao Zfh (Zbc (pvr 0) rfl) Zab (Zam _)) (~~~(@Zas _ _ _ _ _ ((Zie Zci rfl T.n_list Jc1 ((pvr 1)<&>Zaa))<&>(Zab<&>Zaa)))) Zan)<*>((Zak (i:=2) nd rfl (Or.inr rfl) Zab)<*>((Zbh Jan rfl (Zbt (pv 1)) (@Zae _ _ 3 _ nd rfl (Or.inl rfl) (Or.inl rfl)) (@Zal _ _ _ (Zak (i:=2) nd rfl (Or.inr rfl) (Za6 C_common_multiple hr.m rfl ((pvr 2)<&>(((Zjq Zaz)<|>(pvr 3)<||>Zab)<&>Zaa))))))<*>(~~~(@Zas _ _ _ _ _ ((Zbf (own:=["number"]) (fr:=[("bottom",2)]) rfl (Zcn (by kernel_rfl)) (Zbt (pv 1)) (λ_ _ _ _=>⟨(@Zae _ _ 0 _ (show (["number","bottom"]:List Str).Nodup by decide +kernel) rfl (Or.inl rfl) (Or.inr rfl)),Zbb,(Za4<|>((Zjb K rfl)<|>(pv 0)<||>Zab)<&&>((Zct hpt (Zca hr))<|>(pv 1)<&&>((Zjb K rfl)<|>(pv 0)<||>Zab)))⟩))<&>((pvr 2)<&>Zaa))))))),?_⟩;walk_at "wp";refine Zby G dx _ ⟨hg,T.cl_Ground,T.nP,_,Zbn p,rfl,Zbx (λhc=>?_) (λhc=>?_)⟩
  .have hp0:¬ p = 0:=by simpa using hc
   refine ⟨_,.inl (SqL.of hv),λl hl=>⟨by decide,λt ht=>?_⟩⟩;have s1:=Same.new (o:=.lst vs) hl;have s2:=Same.new (o:=.tup [V.ref l,V.int 1]) ht;have ev:=Zt9 hp0 al;refine q t l (xs.map λx=>x.1) 1 _ (s1.trans s2) hl Zac (by show upd (upd H l (.lst vs)) t _ l = _; rw [s2 _ _ Zac,ev]) ⟨by rw [Jab],by decide,λ_=>rfl,λi=>?_⟩ (λz hz=>?_) (by
    show (1:Int).natAbs < 2 ^ _;exact Nat.one_lt_two_pow (by rw [Jc7]; omega))
   .rw [Jac,Jac,Jah];cases e:xs[i]? with
    | none=>rfl
    | some x=>
     rcases (gd _ (Jad e)).1 with ⟨h,_⟩ | ⟨_,_,_,h⟩
     .exact absurd h hp0
     .show x.1 * x.2 = x.1 * 1;rw [h]
   .refine Zad (Ja3.mp hz) λx hx e912=>?_;obtain rfl:=e912;refine (gd x hx).2.1.le ?_;rw [Jc7];omega
  .have hp0:p = 0:=by simpa using hc
   refine ⟨_,rfl,a,rfl,⟨_,SqL.of hv⟩,Zik (xs:=vs) (λi σ H2=>∃ (v3:Option V) (b:Int),σ = [some (.ref g),some (.ref a),some (.int b),v3]/\Same H H2/\0 < b/\b.natAbs<=2 ^ (i * k)/\∀ j,j < i->(xs.getD j (0,1)).2 ∣ b)
    ⟨none,1,rfl,Same.refl _,by decide,by simp,λj hj=>by omega⟩ (λi σ H2 _ ⟨_,_,_,e,_⟩=>SqL.of (e _ _ hv)) ?_ ?_⟩
   .intro i x σ H2 hi e92;refine Zic e92 λv3 b e913 s2 b0 bB dv=>?_;clear e92;obtain rfl:=e913;refine Zad (al.at' hi) λy ey hy=>?_;refine Zad (hy.ref hp0) λty e914 hty=>?_;obtain rfl:=e914;refine Za9 (gd y (Jad ey)) λiy by1 by2=>?_;have hil:i < vs.length:=(Jag.mp hi).1;have kik:i * k + k<=(xs.length + 1) * k:=by
     rw [show i * k + k = (i + 1) * k by rw [Jc7,Nat.one_mul]];exact Jca (by omega) (Jaf _)
    have bT:Bt NB b:=Jbk bB (Jd7 (by decide) (by omega));have yT:Bt NB y.2:=by2.le (by omega);walk_at "wp";refine ⟨_,SqT.of (s2 _ _ hty),_,rfl,b,y.2,rfl,b0,iy.pos,bT,yT,λm H3 s3 m0 d1 d2 ml=>⟨_,m,⟨rfl,rfl⟩,s2.trans s3,m0,?_,λj hj=>?_⟩⟩
    .have h1:(b * y.2).natAbs<=2 ^ (i * k) * 2 ^ k:=Zb5 bB (Jb3 by2);rw [Jc7,Nat.one_mul,Nat.pow_add];omega
    .by_cases h:j = i
     .subst h; rw [Zat ey]; exact d2
     .exact Int.dvd_trans (dv j (by omega)) d1
   .intro σ H2 e93;refine Zic e93 λv3 b e915 s2 b0 bB dv=>?_;clear e93;obtain rfl:=e915;rw [vl] at bB dv;walk_at "wp";refine ⟨_,rfl,a,rfl,⟨_,SqL.of (s2 _ _ hv)⟩,λD hD=>Zjh (λi=>(xs.getD i (0,1)).1 * (b / (xs.getD i (0,1)).2)) (s2 _ _ hv) hD (by omega) (λi x H' Q' hx s' q'=>?_) λH1 s1 e1=>?_⟩
    .refine Zad (al.at' hx) λy ey hy=>?_;refine Zad (hy.ref hp0) λty e916 hty=>?_;obtain rfl:=e916;refine Za9 (gd y (Jad ey)) λiy by1 by2=>?_;have hil:i < vs.length:=(Jag.mp hx).1;have d2:=dv i (by omega);have q2:=q' H' (Same.refl _);rw [Zat ey] at d2 q2;have hty':=(s2.trans s') _ _ hty;have bT:Bt NB b:=Jbk bB (Jd7 (by decide) (by rw [Jc7] at kb; omega));have fe:=Zfn (i:=b) iy.pos;refine ⟨_,rfl,ty,_,_,_,rfl,rfl,SqT.of hty',rfl,_,rfl,_,rfl,ty,_,_,_,rfl,rfl,SqT.of hty',rfl,_,_,rfl,rfl,(by have:=iy.pos; omega),_,_,rfl,rfl,?_,?_⟩
     .rw [fe];exact (by1.le (m:=NB) (by rw [Jc7] at kb; omega)).ok (bT.quo d2) (by decide)
     .rw [fe];exact q2
    .rw [vl] at e1;refine ⟨by decide,λt ht=>?_⟩;have s3:=Same.new (o:=.tup [V.ref D,V.int b]) ht;refine q t D ((List.range xs.length).map λi=>(xs.getD i (0,1)).1 * (b / (xs.getD i (0,1)).2)) b _ ((s2.trans s1).trans s3) (s2.free hD) Zac (s3 _ _ e1) ⟨by rw [Jab,Ja4],b0,λh=>absurd hp0 h,λi=>?_⟩ (λz hz=>?_) (Jbk bB (Jd7 (by decide) (by rw [Jc7]; omega)))
     .rw [Jac,Jah];by_cases hi:i < xs.length
      .have e:xs[i]? = some xs[i]:=Jaa hi;have d2:=dv i hi;rw [Jch hi];show (xs.getD i (0,1)).1 * (b / (xs.getD i (0,1)).2) * (xs.getD i (0,1)).2 = _;rw [Int.mul_assoc,Jb9 d2]
      .rw [Jal (by simp; omega),Jac,Jal (by omega)];simp
     .refine Zad (Ja3.mp hz) λi hi e917=>?_;obtain rfl:=e917;have hi:=Jbc.mp hi;have e:xs[i]? = some xs[i]:=Jaa hi;have d2:=dv i hi;rw [Zat e] at d2 ⊢;refine Za9 (gd _ (Ja2 hi)) λiy by1 by2=>?_;have h1:(b / xs[i].2).natAbs<=b.natAbs:=Zcu b iy.pos d2;have h2:=Zb5 (Jaf xs[i].1.natAbs) (Jav h1 bB);show (xs[i].1 * (b / xs[i].2)).natAbs < 2 ^ ((xs.length + 1) * k);rw [Jc7,Nat.one_mul,Nat.pow_add,Nat.mul_comm];exact Jbk h2 (Nat.mul_lt_mul_of_pos_right by1 (Jdu _))
theorem Zej {zs:List Int} {i:Nat} {x:V} (h:(zs.map V.int)[i]? = some x):∃ z,zs[i]? = some z/\x = .int z:=by
 rw [Jah] at h;cases e:zs[i]? with
 | none=>rw [e] at h; cases h
 | some z=>rw [e] at h; cases h; exact ⟨z,rfl,rfl⟩
theorem Zi7 {zs:List Int} (f:Int->Int):(List.range zs.length).map (λi=>f (zs.getD i 0)) = zs.map f:=by
 apply Jet;intro i;rw [Jah,Jah];by_cases hi:i < zs.length
 .rw [Jch hi,Jaa hi];show some (f (zs.getD i 0)) = some (f zs[i]);rw [Zat (Jaa hi)]
 .rw [Jal (by simp; omega),Jal (by omega)];rfl
def Znu (G:Addr):Sp:=λvs H Q _=>∃ (g a:Addr) (p:Int) (zs:List Int),vs = [.ref g,.ref a]/\GAt G H g p/\GroundP p/\RowZ H a zs/\zs.length<=900/\(p = 0->SmallR NB zs) /\
 ∀ (a':Addr) H',Same H H'->RowZ H' a' (Zde p zs)->(a' = a\/H a' = none)->Q (.ref a') H'
theorem ok_tidy {f:Addr} {fd:FuncData} (F:Fun K "tidied" "tidied" Zkl f fd) (T:Txt K mg C G S) (hpt:P.given.tree = none) (C_common_divisor:Cal P w K mg base "common_divisor" 4 Zo6):FnOk P w K mg base CX0 5 f fd ["ground","row"] (Znu G):=by
 have nd:=Zll.nd;refine F.ok Zll (λvs H Q E h=>?_) (λcdv A outer s H vs Q E hr h=>?_)
 .refine Zml h λg a p zs e918 _=>?_;clear h;obtain rfl:=e918;rfl
 .refine Zdc h λg a p zs e919 e920 hp e921=>?_;clear h;obtain rfl:=e919;obtain ⟨dx,hg⟩:=e920;refine Zcj e921 λrz zl sm q=>?_;clear e921;refine ⟨_,((@Za1 _ _ _ _ _ _ _ _ (Zao Zfh (Zbc (pvr 0) rfl) Zab (Zam _)) (~~~(Zbf (own:=["number"]) (fr:=[("ground",0)]) rfl (Zcn (by kernel_rfl)) (Zbt (pv 1)) (λ_ _ _ _=>⟨(@Zae _ _ 0 _ (show (["number","ground"]:List Str).Nodup by decide +kernel) rfl (Or.inl rfl) (Or.inr rfl)),Zbb,(Zcb<|>(pv 0)<&&>(pe_fldK K rfl (pv 1) rfl))⟩))) Zan)<*>((Zak (i:=2) nd rfl (Or.inr rfl) Zab)<*>((Zbh Jan rfl (Zbt (pv 1)) (@Zae _ _ 3 _ nd rfl (Or.inl rfl) (Or.inl rfl)) ((Zak (i:=2) nd rfl (Or.inr rfl) (Za6 C_common_divisor hr.m rfl ((pvr 3)<&>((pvr 2)<&>Zaa))))<*>(@Zal _ _ _ (@Za1 _ _ _ _ _ _ _ _ (Zao Zcc (pvr 2) Zab (Zam _)) (~~~(pvr 1)) Zan))))<*>((@Za1 _ _ _ _ _ _ _ _ (Zao Zcc (pvr 2) Zab (Zam _)) (~~~(pvr 1)) Zan)<*>(~~~(Zbf (own:=["number"]) (fr:=[("divisor",2)]) rfl (Zcn (by kernel_rfl)) (Zbt (pv 1)) (λ_ _ _ _=>⟨(@Zae _ _ 0 _ (show (["number","divisor"]:List Str).Nodup by decide +kernel) rfl (Or.inl rfl) (Or.inr rfl)),Zbb,((Zct hpt (Zca hr))<|>(pv 0)<&&>(pv 1))⟩))))))),?_⟩;walk_at "wp";refine Zby G dx _ ⟨hg,T.cl_Ground,T.nP,_,Zbn p,rfl,Zbx (λhc=>?_) (λhc=>?_)⟩
  .have hp0:¬ p = 0:=by simpa using hc
   have p0:=hp.lo;refine ⟨_,rfl,a,rfl,⟨_,SqL.of rz⟩,λD hD=>Zjh (λi=>zs.getD i 0 % p) rz hD (by rw [Jab]; omega) (λi x H' Q' hx s' q'=>?_) λH1 s1 e1=>?_⟩
   .refine Zad (Zej hx) λz ez e922=>?_;obtain rfl:=e922;have q2:=q' H' (Same.refl _);rw [Zat ez] at q2;simp only [Zb8];walk_at "wp";exact ⟨_,rfl,_,rfl,G,dx,_,s' _ _ hg,T.cl_Ground,T.nP,_,Zbn p,_,rfl,by omega,q2⟩
   .rw [Jab,Zi7 (· % p)] at e1;refine q D H1 s1 ?_ (.inr hD);unfold Zde;rw [if_neg hp0];exact e1
  .have hp0:p = 0:=by simpa using hc
   have sm:=sm hp0;refine ⟨_,rfl,a,rfl,⟨_,SqL.of rz⟩,Zik (xs:=zs.map V.int) (λi σ H2=>∃ (v3:Option V),σ = [some (.ref g),some (.ref a),some (.int (gcdL (zs.take i):Nat)),v3]/\Same H H2/\Bt NB (gcdL (zs.take i):Nat))
    ⟨none,rfl,Same.refl _,Zs4 _⟩ (λi σ H2 _ ⟨_,_,e,_⟩=>SqL.of (e _ _ rz)) ?_ ?_⟩
   .intro i x σ H2 hi e94;refine Zav e94 λv3 e923 s2 bg=>?_;clear e94;obtain rfl:=e923;refine Zad (Zej hi) λz ez e924=>?_;obtain rfl:=e924;walk_at "wp";have eg:=Zsk ez;have bz:=sm z (Jad ez);refine Zau z _ ⟨rfl,bz,bg,λH3 s3=>?_⟩;rw [<- eg];refine ⟨rfl,Zbx (λhc=>?_) (λhc=>?_)⟩
    .have hc:(gcdL (zs.take (i + 1)):Int) = 1:=by simpa using hc
     have h1:gcdL zs = 1:=Nat.dvd_one.mp (by have:=Zsj zs (i + 1); rwa [show gcdL (zs.take (i + 1)) = 1 by omega] at this);refine q a H3 (s2.trans s3) ?_ (.inl rfl);subst hp0;rw [Ztv h1];exact rz.same (s2.trans s3)
    .refine ⟨_,⟨rfl,rfl⟩,s2.trans s3,?_⟩;rw [eg];by_cases z0:z = 0
     .subst z0;refine bg.abs_le ?_;simp [Int.gcd]
     .refine bz.abs_le ?_;have:=Int.gcd_le_natAbs_left (gcdL (zs.take i):Int) z0;omega
   .intro σ H2 e95;refine Zav e95 λv3 e925 s2 bg=>?_;clear e95;obtain rfl:=e925;rw [Jab,Jcl] at *;walk_at "wp";refine Zbx (λhc=>?_) (λhc=>?_)
    .have hc:(gcdL zs:Int) = 0:=by simpa using hc
     refine q a H2 s2 ?_ (.inl rfl);subst hp0;rw [Zio (by omega)];exact rz.same s2
    .have hc:¬ (gcdL zs:Int) = 0:=by simpa using hc
     refine ⟨_,rfl,a,rfl,⟨_,SqL.of (s2 _ _ rz)⟩,λD hD=>Zjh (λi=>zs.getD i 0 / (gcdL zs:Int)) (s2 _ _ rz) hD (by rw [Jab]; omega) (λi x H' Q' hx s' q'=>?_) λH1 s1 e1=>?_⟩
     .refine Zad (Zej hx) λz ez e926=>?_;obtain rfl:=e926;have q2:=q' H' (Same.refl _);rw [Zat ez,<- Zfn (by omega)] at q2;exact ⟨_,rfl,_,rfl,z,_,rfl,rfl,hc,q2⟩
     .rw [Jab,Zi7 (· / (gcdL zs:Int))] at e1;refine q D H1 (s2.trans s1) ?_ (.inr (s2.free hD));unfold Zde;rw [if_pos hp0];exact e1
def Zmz (G:Addr):Sp:=λvs H Q _=>∃ (g a l:Addr) (p:Int) (row lead:List Int) (k:Nat),vs = [.ref g,.ref a,.ref l,.int k]/\GAt G H g p/\GroundP p/\RowZ H a row/\RowZ H l lead/\row.length = lead.length/\row.length<=900/\k < row.length/\lead.getD k 0 ≠ 0/\SmallR HB row/\SmallR HB lead /\
 ∀ (a':Addr) H',Same H H'->RowZ H' a' (Zbr p row lead k)->(a' = a\/H a' = none)->Q (.ref a') H'
theorem Zu0 {f:Addr} {fd:FuncData} (F:Fun K "cleared" "cleared" Zi6 f fd) (T:Txt K mg C G S) (hpt:P.given.tree = none) (C_common_divisor:Cal P w K mg base "common_divisor" 4 Zo6) (C_tidied:Cal P w K mg base "tidied" 5 (Znu G)):FnOk P w K mg base CX0 6 f fd ["ground","row","lead","place"] (Zmz G):=by
 have nd:=Zj1.nd;refine F.ok Zj1 (λvs H Q E h=>?_) (λcdv A outer s H vs Q E hr h=>?_)
 .refine Zti h λg a l p row lead k e927 _=>?_;clear h;obtain rfl:=e927;rfl
 .refine Zmj h λg a l p row lead k e928 hg hp e929=>?_;clear h;obtain rfl:=e928;refine Ztn e929 λra rl hl wl kl k0 s1 s2 q=>?_;clear e929;refine ⟨_,((@Za1 _ _ _ _ _ _ _ _ (Zao Zcc ((ixJ Zaj)<|>(pvr 1)<||>(pvr 3)) Zab (Zam _)) (~~~(pvr 1)) Zan)<*>((Zak (i:=4) nd rfl (Or.inl rfl) (Za6 C_common_divisor hr.m rfl (((ixJ Zaj)<|>(pvr 1)<||>(pvr 3))<&>(((ixJ Zaj)<|>(pvr 2)<||>(pvr 3))<&>Zaa))))<*>((Zak (i:=5) nd rfl (Or.inr rfl) ((Zct hpt (Zca hr))<|>((ixJ Zaj)<|>(pvr 2)<||>(pvr 3))<&&>(pvr 4)))<*>((Zak (i:=6) nd rfl (Or.inr rfl) ((Zct hpt (Zca hr))<|>((ixJ Zaj)<|>(pvr 1)<||>(pvr 3))<&&>(pvr 4)))<*>(~~~(Za6 C_tidied hr.m rfl ((pvr 0)<&>((Zbf (own:=["number","other"]) (fr:=[("keep",5),("take",6)]) rfl (Zcn (by kernel_rfl)) (Zlp rfl T.n_zip ((pv 1)<&>((pv 2)<&>Zaa))) (λ_ _ _ _=>⟨(@Zff _ K rfl _ _ _ _ 2 rfl (@Zai _ _ _ _ _ (@Zae _ _ 0 _ (show (["number","other","keep","take"]:List Str).Nodup by decide +kernel) rfl (Or.inl rfl) (Or.inr rfl)) (@Zai _ _ _ _ _ (@Zae _ _ 1 _ (show (["number","other","keep","take"]:List Str).Nodup by decide +kernel) rfl (Or.inl rfl) (Or.inr rfl)) (@Za0 _) (by rfl)) (by rfl)) (by rfl) (by rfl)),Zbb,(Zbp<|>(Za4<|>(pv 2)<&&>(pv 0))<&&>(Za4<|>(pv 3)<&&>(pv 1)))⟩))<&>Zaa)))))))),?_⟩;walk_at "wp";have at_:∀ {zs:List Int},k < zs.length->atI (zs.map V.int) (k:Int) = some (.int (zs.getD k 0)):=λ{zs} h=>by
   refine Zb0 (by omega) ?_;rw [Jba,Jah,Jaa h,Zbe h];rfl
  refine ⟨_,SqL.of ra,_,at_ kl,rfl,Zbx (λhc=>?_) (λhc=>?_)⟩
  .have hc:row.getD k 0 = 0:=by simpa using hc
   refine q a H (Same.refl _) ?_ (.inl rfl);unfold Zbr;rw [if_pos hc];exact ra
  .have hc:¬ row.getD k 0 = 0:=by simpa using hc
   have cz:Zbr p row lead k = Zde p (Zj2 row lead k):=by unfold Zbr; rw [if_neg hc]
   refine ⟨_,SqL.of ra,_,at_ kl,_,SqL.of rl,_,at_ (by omega),_,_,rfl,(s1.at k).le (by decide),(s2.at k).le (by decide),λH1 t1=>?_⟩;have g0:(0:Int) < (Int.gcd (row.getD k 0) (lead.getD k 0):Int):=by have:=Jcn (row.getD k 0) k0; omega
   refine ⟨_,SqL.of (t1 _ _ rl),_,at_ (by omega),_,rfl,_,rfl,by omega,_,SqL.of (t1 _ _ ra),_,at_ kl,_,rfl,_,rfl,by omega,?_⟩;rw [Zfn g0,Zfn g0];have bl:=(s2.at k).quo (Jbs (row.getD k 0) (lead.getD k 0));have br:=(s1.at k).quo (Jbn (row.getD k 0) (lead.getD k 0));have rlen:(Zj2 row lead k).length = row.length:=by unfold Zj2; rw [Jc6]; omega
   refine ⟨_,rfl,_,rfl,a,l,rfl,⟨_,SqL.of (t1 _ _ ra)⟩,⟨_,SqL.of (t1 _ _ rl)⟩,λD hD=>Zsw (λi _ y=>y = .int ((Zj2 row lead k).getD i 0)) (λr _=>r) (λr _=>r) (t1 _ _ ra) (t1 _ _ rl) (by rw [Jab,Jab]; omega) hD (by rw [Jab]; omega) (λi x y H' Q' hx hy s' _ q'=>?_) λys H2 t2 e2 hyl hys=>?_⟩
   .refine Zad (Zej hx) λz ez e930=>?_;obtain rfl:=e930;refine Zad (Zej hy) λu eu e931=>?_;obtain rfl:=e931;simp only [Zb8];walk_at "wp";refine ⟨_,rfl,_,rfl,bl.ok (s1 z (Jad ez)) (by decide),_,rfl,_,rfl,br.ok (s2 u (Jad eu)) (by decide),q' _ H' (Same.refl _) ?_⟩;rw [Zn3 hl,Zat ez,Zat eu]
   .rw [Jab] at hyl;have e3:ys = (Zj2 row lead k).map V.int:=by
     have e4:=Zi7 (zs:=Zj2 row lead k) id;rw [List.map_id] at e4;rw [Zr8 hyl hys,<- rlen];exact Jdt (List.map V.int) e4
    rw [e3] at e2;have sr:SmallR NB (Zj2 row lead k):=(Zlh s1 s2).le (by decide);have t12:=t1.trans t2;refine Zke g D p (Zj2 row lead k) ⟨rfl,hg.same t12,hp,e2,by omega,λ_=>sr,λa' H3 t3 r3 fr=>q a' H3 (t12.trans t3) (by rw [cz]; exact r3) ?_⟩;rcases fr with rfl | fr
    .exact .inr (t1.free hD)
    .exact .inr (t12.free fr)
end
end Pf
namespace Pf
open PySem L2 L3 PyProof.Rows
section
variable {P:Program} {w:World} {K:PySem.W.Frag} {mg:Str->Option Value} {base:Heap} {G PL cL:Addr}
abbrev Zwg:HO:=(HO.tab 127 26 ("leading_row.<locals>." ++ "<lambda>"))
def nzs (Z:List (List Int)) (k n:Nat):List Nat:=(List.range n).filter λj=>decide ((Z.getD j []).getD k 0 ≠ 0)
theorem Zm8 {Z:List (List Int)} {k n j:Nat}:j ∈ nzs Z k n ↔ j < n/\(Z.getD j []).getD k 0 ≠ 0:=by
 unfold nzs;rw [List.mem_filter,Jbc,decide_eq_true_iff]
theorem Zu2 {Z:List (List Int)} {k n:Nat}:nzs Z k (n + 1) = nzs Z k n ++ (if (Z.getD n []).getD k 0 ≠ 0 then [n] else []):=by
 unfold nzs;rw [Jb7,List.filter_append];congr 1;by_cases h:(Z.getD n []).getD k 0 ≠ 0
 .rw [if_pos h,List.filter_cons,if_pos (by simpa using h)];rfl
 .rw [if_neg h,List.filter_cons,if_neg (by simpa using h)];rfl
def spLr (PL:Addr):L2.Sp:=λvs H Q _=>∃ (L:Addr) (as:List Addr) (Z:List (List Int)) (k:Nat),vs = [.ref L,.int k]/\H L = some (.lst (as.map V.ref))/\All2 (RowZ H) as Z/\(∀ row ∈ Z,k < row.length)/\Z.length<=900/\H PL = some Zwg /\
 (∀ H',Same H H'->(∀ row ∈ Z,row.getD k 0 = 0)->Q .non H')/\(∀ (i:Nat) row H',Same H H'->Z[i]? = some row->row.getD k 0 ≠ 0->Q (.int i) H')
theorem ok_lr {f:Addr} {fd:FuncData} (F:FunC K "leading_row" "leading_row" Zbs f fd cL) (T:Txt K mg C G S) (hcb:PySem.W.CodeHd base cL PL):FnOk P w K mg base CX0 1 f fd ["rows","place"] (spLr PL):=by
 have nd:=Zfq.nd;refine F.ok Zfq (λvs H Q E h=>?_) (λA outer s H vs Q E hr h=>?_)
 .refine Zml h λL as Z k e92 _=>?_;clear h;obtain rfl:=e92;rfl
 .refine Zdc h λL as Z k e93 hL al e94=>?_;clear h;obtain rfl:=e93;refine Zcv e94 λwd zl hP q0 q1=>?_;clear e94;have hdep:(A.deeper (envOfC "leading_row" (Zaf Zbs) s.heap.objs.size f (.ref cL))).depth < recursionLimit:=by have:=hr.dp; omega
  refine ⟨_,((Zhf (i:=2) (own:=["at","row"]) (fr:=[("place",1)]) rfl (Zcn (by kernel_rfl)) (Zlq rfl T.n_enumerate ((pv 0)<&>Zaa)) (λ_ _ _ _=>⟨(@Zff _ K rfl _ _ _ _ 2 rfl (@Zai _ _ _ _ _ (@Zae _ _ 0 _ (show (["at","row","place"]:List Str).Nodup by decide +kernel) rfl (Or.inl rfl) (Or.inr rfl)) (@Zai _ _ _ _ _ (@Zae _ _ 1 _ (show (["at","row","place"]:List Str).Nodup by decide +kernel) rfl (Or.inl rfl) (Or.inr rfl)) (@Za0 _) (by rfl)) (by rfl)) (by rfl) (by rfl)),(Zq7 (Zcl Zfh ((Zel K rfl)<|>(pv 1)<||>(pv 2)) Zab (Zam _))),(pv 0)⟩) nd rfl rfl rfl)<*>(~~~(pe_minL (x:="at") (fr:=[("rows",0),("place",1)]) rfl hdep rfl T.n_min (lam_of (by kernel_rfl)) rfl hcb rfl (λ_ _ _ _ _=>rfl) (pvr 2) (λ_ _ _ _ _=>(Za3 Zc1 rfl T.n_abs Jep (((Zel K rfl)<|>((Zel K rfl)<|>(pv 1)<||>(pv 0))<||>(pv 2))<&>Zaa)))))),?_⟩;refine Zd2 λX hX=>?_;walk_at "wp";have zal:=al.1;have aft:∀ (D:Addr) (H1:Hp),Same H H1->H1 D = some (.lst ((nzs Z k as.length).map λ(j:Nat)=>V.int j))->X { nx:=λx H'=>Q V.non H',rt:=Q } [some (.ref L),some (.int k),some (.ref D)] H1:=by
   intro D H1 t1 hD;subst hX;walk_at "wp";refine ⟨_,SqL.of hD,t1 _ _ hP,λi=>((((Z.getD ((nzs Z k as.length).getD i 0) []).getD k 0).natAbs:Nat):Int),λi v H2 hi t2=>?_,λe H2 t2=>?_,λi v H2 _ hi t2=>?_⟩
   .rw [Jah] at hi;cases e:(nzs Z k as.length)[i]? with
    | none=>rw [e] at hi; cases hi
    | some j=>
     rw [e] at hi;cases hi;obtain ⟨h1,h2⟩:=Zm8.mp (Jad e);have ea:as[j]? = some as[j]:=Jaa h1;refine Zad (al.at' ea) λrow er ha=>?_;have kr:=wd row (Jad er);have t12:=t1.trans t2;have ew:(nzs Z k as.length).getD i 0 = j:=by rw [Jac,e]; rfl
     have ez:Z.getD j [] = row:=by rw [Jac,er]; rfl
     refine ⟨_,rfl,L,rfl,_,_,rfl,SqL.of (t12 _ _ hL),_,Zb0 (by omega) (by rw [Jba,Jah,ea]; rfl),_,rfl,as[j],rfl,_,_,rfl,SqL.of (t12 _ _ ha),_,Zb0 (by omega) (by rw [Jba,Jah,Jaa kr]; rfl),row[k],rfl,?_,Same.refl _⟩;show _ = ((((Z.getD ((nzs Z k as.length).getD i 0) []).getD k 0).natAbs:Nat):Int);rw [ew,ez,Zbe kr];split <;> omega
   .have e0:nzs Z k as.length = []:=List.map_eq_nil_iff.mp e;refine q0 H2 (t1.trans t2) λrow hr=>?_;refine Zad (Zei hr []) λj hj e95=>?_;obtain rfl:=e95;apply Jb6;intro z;have:j ∈ nzs Z k as.length:=Zm8.mpr ⟨by omega,z⟩;rw [e0] at this;simp at this
   .rw [Jah] at hi;cases e:(nzs Z k as.length)[i]? with
    | none=>rw [e] at hi; cases hi
    | some j=>
     rw [e] at hi;cases hi;obtain ⟨h1,h2⟩:=Zm8.mp (Jad e);exact q1 j (Z.getD j []) H2 (t1.trans t2) (by rw [Zbe (by omega)]; exact Jaa _) h2
  refine ⟨_,rfl,L,rfl,⟨_,SqL.of hL⟩,λD hD=>Zvs (xs:=as.map V.ref) (λi vs H2=>Same H H2/\H2 D = some (.lst vs)/\vs = (nzs Z k i).map λ(j:Nat)=>V.int j) ⟨Same.new hD,Zac,rfl⟩ (λi vs H2 _ p=>SqL.of (p.1 _ _ hL)) ?_ λvs H2 ⟨t2,e2,e3⟩=>?_⟩
  .intro i x q' vs σ' H2 hi hx hq sh e91;refine Za9 e91 λt2 e2 e3=>?_;clear e91;refine Zla sh.two λz1 z2 e96=>?_;obtain rfl:=e96;have s0:=Same.new (o:=.tup [.int i,x]) hq;rw [Jah] at hx;cases ea:as[i]? with
   | none=>rw [ea] at hx; cases hx
   | some a=>
    rw [ea] at hx;cases hx;refine Zad (al.at' ea) λrow er ha=>?_;have kr:=wd row (Jad er);have ez:Z.getD i [] = row:=by rw [Jac,er]; rfl
    have hln:vs.length<=900:=by
     rw [e3,Jab];refine Jav (List.length_filter_le _ _) ?_;rw [Ja4];rw [Jab] at hi;omega
    simp only [Zfx];refine Zau q' _ ⟨rfl,SqT.of Zac,rfl,_,_,rfl,_,_,rfl,rfl,?_⟩;simp only [List.set_cons_zero,List.set_cons_succ,Zb8];walk_at "wp";refine ⟨_,rfl,_,_,rfl,SqL.of ((t2.trans s0) _ _ ha),_,Zb0 (by omega) (by rw [Jba,Jah,Jaa kr]; rfl),rfl,?_⟩;have nx:=Zu2 (Z:=Z) (k:=k) (n:=i);rw [ez,Zbe kr] at nx;refine Zbx (λhc=>?_) (λhc=>?_)
    .have hc:row[k] ≠ 0:=by simpa using hc
     rw [if_pos hc] at nx;refine Zok (ws:=vs ++ [V.int i]) hi Sh.mk2 (s0 _ _ e2) (Zap (by omega)) ⟨(t2.trans s0).upd hD,Zac,?_⟩;rw [e3,nx,Ja1];rfl
    .have hc:¬ row[k] ≠ 0:=by simpa using hc
     rw [if_neg hc,Jcp] at nx;exact leaf0 (ws:=vs) hi Sh.mk2 ⟨t2.trans s0,s0 _ _ e2,by rw [e3,nx]⟩
  .rw [Jab] at e3;rw [e3] at e2;exact aft D H2 t2 e2
def Zmh (p:Int) (k:Nat) (zs:List Int) (xs:List Nv):Prop:=∃ ws b,WRz p xs ws b/\SmallR ((xs.length + 1) * k) ws/\zs = Zde p ws
def Zgf (p:Int) (k:Nat) (Z:List (List Int)) (M:Mv):Prop:=All2 (Zmh p k) Z M
def Znk (p:Int) (k wide:Nat) (M:Mv):Prop:=∀ Z,Zgf p k Z M->∀ j done left pl,j<=wide->Sw p Z j done left pl->∀ row ∈ done ++ left,SmallR HB row
structure RowsB (H:Hp) (p:Int) (k W:Nat) (L:Addr) (as:List Addr) (M:Mv):Prop where
 lst:H L = some (.lst (as.map V.ref))
 row:All2 (RowV H p) as M
 wd:∀ xs ∈ M,xs.length = W
 gd:∀ xs ∈ M,Zco p k xs
 h900:M.length<=900
 w900:W<=900
 k1:1<=k
 kb:(W + 1) * k<=NB
structure SwH (H H2:Hp) (dA lA pA:Addr) (ds ls:List Addr) (done left:List (List Int)) (pl:List Nat):Prop where
 sm:Same H H2
 fd:H dA = none
 fl:H lA = none
 fp:H pA = none
 ne1:dA ≠ lA
 ne2:dA ≠ pA
 ne3:lA ≠ pA
 hd:H2 dA = some (.lst (ds.map V.ref))
 hl:H2 lA = some (.lst (ls.map V.ref))
 hp:H2 pA = some (.lst (pl.map λ(j:Nat)=>V.int j))
 rd:All2 (RowZ H2) ds done
 rl:All2 (RowZ H2) ls left
 nd:∀ a ∈ ds,H a = none/\a ≠ dA/\a ≠ lA/\a ≠ pA
 nl:∀ a ∈ ls,H a = none/\a ≠ dA/\a ≠ lA/\a ≠ pA
theorem SwH.same {H H2 H3:Hp} {dA lA pA:Addr} {ds ls:List Addr} {done left:List (List Int)} {pl:List Nat} (h:SwH H H2 dA lA pA ds ls done left pl) (s:Same H2 H3):SwH H H3 dA lA pA ds ls done left pl:=
 ⟨h.sm.trans s,h.fd,h.fl,h.fp,h.ne1,h.ne2,h.ne3,s _ _ h.hd,s _ _ h.hl,s _ _ h.hp,h.rd.mono λ_ _ k=>k.same s,h.rl.mono λ_ _ k=>k.same s,h.nd,h.nl⟩
theorem All2.eraseIdx {α β:Type} {P:α->β->Prop} {xs:List α} {ys:List β} (h:All2 P xs ys) (n:Nat):All2 P (xs.eraseIdx n) (ys.eraseIdx n):=by
 rw [Jci,Jci];exact (h.take n).app (h.drop (n + 1))
theorem All2.of_get {α β:Type} {P:α->β->Prop} {xs:List α} {ys:List β} {d:β} (hl:xs.length = ys.length) (h:∀ (i:Nat) x,xs[i]? = some x->P x (ys.getD i d)):All2 P xs ys:=⟨hl,λi x y e1 e2=>by
 have:=h i x e1;rwa [Jac,e2] at this⟩
theorem Zhk {p:Int} {k W:Nat} {Z:List (List Int)} {M:Mv} (h0:0<=p) (h:Zgf p k Z M) (wd:∀ xs ∈ M,xs.length = W):∀ row ∈ Z,Rw p W row:=λrow hr=>by
 obtain ⟨i,hi,e⟩:=Jap.mp hr;refine Zad (h.at' (i:=i) (x:=row) (by rw [Jaa hi,e])) λxs ex e93=>?_;obtain ⟨ws,b,w1,_,rfl⟩:=e93;exact Zq2 h0 (w1.len.trans (wd xs (Jad ex)))
theorem tyL {H:Hp} {p:Addr} {xs:List V} (h:H p = some (.lst xs)):tyV K "list" (.ref p) H:=.inl ⟨rfl,_,SqL.of h⟩
theorem seqIx {j n:Nat} (h:j < n):PySem.seqIndex? (j:Int) n = some j:=by
 unfold PySem.seqIndex?;simp only [show ¬ ((j:Int) < 0) by omega,Jex];rw [if_pos (by simp; omega)];rfl
theorem Zl4 {α β:Type} (f:α->β) (xs:List α) (n:Nat):(xs.map f).eraseIdx n = (xs.eraseIdx n).map f:=by
 rw [Jci,Jci,Ja1,List.map_take,List.map_drop]
def Zmr (G PL:Addr):L2.Sp:=λvs H Q _=>∃ (g L:Addr) (p:Int) (as:List Addr) (M:Mv) (k W wide:Nat),vs = [.ref g,.ref L,.int wide]/\GAt G H g p/\GroundP p/\RowsB H p k W L as M/\wide<=W/\H PL = some Zwg/\Znk p k wide M /\
 ∀ (t F pA:Addr) (rs:List Addr) (Z done left:List (List Int)) (pl:List Nat) H',Same H H'->H' t = some (.tup [.ref F,.ref pA])->H F = none->H pA = none->F ≠ pA->H' pA = some (.lst (pl.map λ(j:Nat)=>V.int j))->H' F = some (.lst (rs.map V.ref))->All2 (RowZ H') rs (done ++ left)->(∀ a ∈ rs,H a = none/\a ≠ F/\a ≠ pA)->
  Zgf p k Z M->Sw p Z wide done left pl->Q (.ref t) H'
theorem Zun {f:Addr} {fd:FuncData} (F:Fun K "swept" "swept" Zm3 f fd) (T:Txt K mg C G S) (C_whole_row:Cal P w K mg base "whole_row" 6 (spWrZ G)) (C_tidied:Cal P w K mg base "tidied" 5 (Znu G)) (C_cleared:Cal P w K mg base "cleared" 6 (Zmz G)) (C_leading_row:Cal P w K mg base "leading_row" 1 (spLr PL)):FnOk P w K mg base CX0 7 f fd ["ground","rows","wide"] (Zmr G PL):=by
 have nd:=Zn1.nd;refine F.ok Zn1 (λvs H Q E h=>?_) (λcdv A outer s H vs Q E hr h=>?_)
 .refine xE8_2 h λg L p as M k W wide e94 _=>?_;clear h;obtain rfl:=e94;rfl
 .refine xE8_4 h λg L p as M k W wide e95 hg hp e96=>?_;clear h;obtain rfl:=e95;refine Zcv e96 λR hw hPL sw q=>?_;clear e96;refine ⟨_,((Zak (i:=3) nd rfl (Or.inl rfl) (@Zbm _ _ _ _ Zaa))<*>((Zhf (i:=4) (own:=["row"]) (fr:=[("ground",0)]) rfl (Zcn (by kernel_rfl)) (Zbt (pv 1)) (λ_ _ _ _=>⟨(@Zae _ _ 0 _ (show (["row","ground"]:List Str).Nodup by decide +kernel) rfl (Or.inl rfl) (Or.inr rfl)),Zbb,(Za6 C_tidied hr.m rfl ((pv 1)<&>(((Zjb K rfl)<|>(Za6 C_whole_row hr.m rfl ((pv 1)<&>((pv 0)<&>Zaa)))<||>Zab)<&>Zaa)))⟩) nd rfl rfl rfl)<*>((Zak (i:=5) nd rfl (Or.inl rfl) (@Zbm _ _ _ _ Zaa))<*>((Zbh Jan rfl (Zdt rfl T.n_range ((pv 2)<&>Zaa)) (@Zae _ _ 6 _ nd rfl (Or.inr rfl) (Or.inl rfl)) ((Zak (i:=7) nd rfl (Or.inl rfl) (Za6 C_leading_row hr.m rfl ((pvr 4)<&>((pvr 6)<&>Zaa))))<*>(@Zal _ _ _ (@Za1 _ _ _ _ _ _ _ _ (Zao op_notN (pvr 7) pe_non (Zam _)) ((Zak (i:=8) nd rfl (Or.inr rfl) (Zez Jax PySem.F.slot_list_pop PySem.F.type_list_pop Zu4 (pvr 4) ((pvr 7)<&>Zaa)))<*>((Zhf (i:=4) (own:=["row"]) (fr:=[("ground",0),("lead",8),("place",6)]) rfl (Zcn (by kernel_rfl)) (Zbt (pv 4)) (λ_ _ _ _=>⟨(@Zae _ _ 0 _ (show (["row","ground","lead","place"]:List Str).Nodup by decide +kernel) rfl (Or.inl rfl) (Or.inr rfl)),Zbb,(Za6 C_cleared hr.m rfl ((pv 1)<&>((pv 0)<&>((pv 2)<&>((pv 3)<&>Zaa)))))⟩) nd rfl rfl rfl)<*>((Zb2 (Zez Jax Jay Jaz (mtJ Zba) (pvr 3) ((pvr 8)<&>Zaa)))<*>(@Zal _ _ _ (Zb2 (Zez Jax Jay Jaz (mtJ Zba) (pvr 5) ((pvr 6)<&>Zaa))))))) Zan))))<*>(~~~(@Zas _ _ _ _ _ ((Zgu<|>(pvr 3)<&&>(pvr 4))<&>((pvr 5)<&>Zaa)))))))),?_⟩;walk_at "wp";have p0:=hp.lo;have ml:=R.row.1;have h9:=R.h900;have w9:=R.w900;have k1:=R.k1;have kb:=R.kb;refine ⟨by decide,λdA hdA=>?_⟩;have s1:=Same.new (o:=.lst []) hdA;refine ⟨_,rfl,L,rfl,⟨_,SqL.of (s1 _ _ R.lst)⟩,λlA hlA=>Zil (λi Hc y=>∃ (a:Addr) (zs:List Int),y = .ref a/\RowZ Hc a zs/\Zmh p k zs (M.getD i [])/\H a = none/\a ≠ dA/\a ≠ lA) (λ⟨a,zs,e,b,c⟩ s=>⟨a,zs,e,b.same s,c⟩) (λ⟨a,zs,e,b,c,d,e',f⟩ hD=>⟨a,zs,e,b.put f,c,d,e',f⟩) (s1 _ _ R.lst) hlA (by rw [Jab]; omega) (λi x H' Q' hx s' ⟨lD,hlD⟩ q'=>?_) (λys H1 s2 e2 hyl hys=>?_)⟩
  .refine Zad ((Zjl R.row).at' hx) λrow er e97=>?_;obtain ⟨a,rfl,rv⟩:=e97;have hrow:=Jad er;have wr:=R.wd row hrow;have t1:=s1.trans s';refine ⟨_,rfl,_,rfl,_,rfl,g,a,p,row,k,rfl,hg.same t1,hp,rv.same t1,by omega,R.gd row hrow,k1,by rw [wr]; exact kb,λt l zs b H2 s3 fl ht rz wz sz _=>?_⟩;refine Zke t _ 0 _ ⟨rfl,rfl,SqT.of ht,rfl,g,l,p,zs,rfl,hg.same (t1.trans s3),hp,rz,by rw [wz.len]; omega,λ_=>sz.le (by rw [wr]; exact kb),λa' H3 s4 rz' fr=>?_⟩;have hn:H' a' = none:=by
    rcases fr with rfl | fr
    .exact fl
    .exact s3.free fr
   refine q' _ H3 (s3.trans s4) ⟨a',_,rfl,rz',⟨zs,b,?_,?_,rfl⟩,t1.free hn,λz=>?_,λz=>?_⟩
   .rw [Zat er]; exact wz
   .rw [Zat er]; exact sz
   .rw [z,s' _ _ Zac] at hn; cases hn
   .rw [z,hlD] at hn; cases hn
  rw [Jab] at hyl;obtain ⟨ls,rfl,hls⟩:=Zm4 (P:=λi a=>∃ zs,RowZ H1 a zs/\Zmh p k zs (M.getD i [])/\H a = none/\a ≠ dA/\a ≠ lA) λi y e=>let ⟨a,zs,h1,h2⟩:=hys i y e; ⟨a,h1,zs,h2⟩;rw [Jab] at hyl;obtain ⟨Z,hZ⟩:=All2.pick (P:=λ(ai:Addr × Nat) zs=>RowZ H1 ai.1 zs/\Zmh p k zs (M.getD ai.2 [])/\H ai.1 = none/\ai.1 ≠ dA/\ai.1 ≠ lA) (xs:=ls.zipIdx) λai hai=>by
   obtain ⟨a,i⟩:=ai;have hi:=List.mk_mem_zipIdx_iff_getElem?.mp hai;exact hls i a hi
  have zlen:Z.length = ls.length:=by have:=hZ.1; rw [List.length_zipIdx] at this; omega
  have zat:∀ (i:Nat) (a:Addr) (zs:List Int),ls[i]? = some a->Z[i]? = some zs->RowZ H1 a zs/\Zmh p k zs (M.getD i [])/\H a = none/\a ≠ dA/\a ≠ lA:=λi a zs e1 e2=>by
   have:=hZ.2 i (a,i) zs (by rw [List.getElem?_zipIdx,e1]; simp) e2;exact this
  have IR:Zgf p k Z M:=⟨by omega,λi zs xs e1 e2=>by
   have hi:i < ls.length:=by have:=(Jag.mp e1).1; omega
   have:=(zat i _ zs (Jaa hi) e1).2.1;rwa [Zat e2] at this⟩
  have rlZ:All2 (RowZ H1) ls Z:=⟨by omega,λi a zs e1 e2=>(zat i a zs e1 e2).1⟩
  have nlZ:∀ a ∈ ls,H a = none/\a ≠ dA/\a ≠ lA:=λa ha=>by
   obtain ⟨i,hi,rfl⟩:=Jap.mp ha;exact (zat i _ _ (Jaa hi) (Jaa (show i < Z.length by omega))).2.2
  have rwZ:=Zhk p0 IR R.wd;refine ⟨by decide,λpA hpA=>?_⟩;have s3:=Same.new (o:=.lst []) hpA;have t1:=s1.trans s2;have t13:=t1.trans s3;have nel:dA ≠ lA:=λz=>by rw [<- z,Zac] at hlA; cases hlA
  have H1d:H1 dA = some (.lst []):=s2 _ _ Zac;have nep:∀ {b:Addr} {o:HO},H1 b = some o->b ≠ pA:=λ{b o} e z=>by rw [z,hpA] at e; cases e
  have S0:SwH H (upd H1 pA (.lst [])) dA lA pA [] ls [] Z []:=⟨t13,hdA,s1.free hlA,t1.free hpA,nel,nep H1d,nep e2,by rw [Zah (nep H1d)]; exact H1d,by rw [Zah (nep e2)]; exact e2,Zac,All2.nil,rlZ.mono λ_ _ r=>r.same s3,λa ha=>by simp at ha,λa ha=>⟨(nlZ a ha).1,(nlZ a ha).2.1,(nlZ a ha).2.2,by
   obtain ⟨i,hi,rfl⟩:=Jap.mp ha;refine Zad (rlZ.at' (Jaa hi)) λzs _ hz=>?_;exact nep hz⟩⟩
  refine ⟨_,rfl,_,rfl,by omega,by omega,Za2 (n:=wide) (λi σ H2=>∃ (lA:Addr) (ds ls:List Addr) (done left:List (List Int)) (pl:List Nat) (v6 v7 v8:Option V),σ = [some (.ref g),some (.ref L),some (.int wide),some (.ref dA),some (.ref lA),some (.ref pA),v6,v7,v8]/\SwH H H2 dA lA pA ds ls done left pl/\Sw p Z i done left pl)
   ⟨lA,[],ls,[],Z,[],none,none,none,rfl,S0,Sw.start⟩ ?_ ?_⟩
  .intro i σ H2 hi e91;refine Zpx e91 λlA ds ls done left pl v6 v7 v8 e98 S sw1=>?_;clear e91;obtain rfl:=e98;have I:=sw1.inv p0 rwZ;have rwl:∀ row ∈ left,Rw p W row:=λrow hr=>I.rw row (Jai.mpr (.inr hr));have zl:=zlen;have ill:=I.all;have idl:=I.len;have smA:=sw Z IR i done left pl (by omega) sw1;refine Zpt λD1 hD1=>?_;simp only [Zbi,List.set_cons_zero,List.set_cons_succ];refine Zd2 λX hX=>?_;walk_at "wp";have ei:(0:Int) + (i:Int) = (i:Int):=by omega
   rw [ei];refine Zke lA ls left i ⟨rfl,S.hl,S.rl,λrow hr=>by rw [(rwl row hr).1]; omega,by omega,S.sm _ _ hPL,λH3 s3 hz=>?_,λj lead H3 s3 hj hk=>?_⟩
   .subst hX;refine cutI λY hY=>?_;walk_at "wp";rw [if_neg (by decide)];subst hD1;exact Zmi _ _ _ _ _ _ _ _ _ ⟨rfl,S.same s3,Sw.skip sw1 hz⟩
   .have S3:=S.same s3;subst hX;dsimp only;refine cutI λY hY=>?_;walk_at "wp";rw [if_pos (by decide)];subst hY;refine Zd2 λX hX=>?_;walk_at "wp";have hjl:j < left.length:=(Jag.mp hj).1;have hjs:j < ls.length:=by have:=S3.rl.1; omega
    have ej:ls[j]? = some ls[j]:=Jaa hjs;have rlead:=S3.rl.2 j _ _ ej hj;have nlead:=S3.nl _ (Jad ej);generalize ls[j] = aL at *;have hlm:lead ∈ left:=Jad hj;refine ⟨tyL S3.hl,_,S3.hl,by omega,by omega,j,by rw [Jab]; exact seqIx hjs,.ref aL,by rw [Jah,ej]; rfl,?_⟩;rw [Zl4];have hlp:upd H3 lA (.lst ((ls.eraseIdx j).map V.ref)) lA = some (.lst ((ls.eraseIdx j).map V.ref)):=Zac;have keep:∀ {b:Addr} {o:HO},b ≠ lA->H3 b = some o->upd H3 lA (.lst ((ls.eraseIdx j).map V.ref)) b = some o:=λn e=>by rw [Zah n]; exact e
    have sm4:Same H (upd H3 lA (.lst ((ls.eraseIdx j).map V.ref))):=S3.sm.upd S3.fl;have re:All2 (RowZ (upd H3 lA (.lst ((ls.eraseIdx j).map V.ref)))) (ls.eraseIdx j) (left.eraseIdx j):=(S3.rl.eraseIdx j).monoM λa _ ha r=>keep (S3.nl a (Jby ha)).2.2.1 r;have hd4:=keep S3.ne1 S3.hd;have hp4:=keep (Jdr S3.ne3) S3.hp;have rl4:RowZ (upd H3 lA (.lst ((ls.eraseIdx j).map V.ref))) aL lead:=keep nlead.2.2.1 rlead;have rd4:All2 (RowZ (upd H3 lA (.lst ((ls.eraseIdx j).map V.ref)))) ds done:=S3.rd.monoM λa _ ha r=>keep (S3.nd a ha).2.2.1 r;generalize upd H3 lA (.lst ((ls.eraseIdx j).map V.ref)) = H4 at *;have elen:(ls.eraseIdx j).length = (left.eraseIdx j).length:=re.1;subst hX;refine Zd2 λX hX=>?_;refine ⟨_,rfl,lA,rfl,⟨_,SqL.of hlp⟩,λD hD=>Zil (λi' Hc y=>∃ a:Addr,y = .ref a/\RowZ Hc a (Zbr p ((left.eraseIdx j).getD i' []) lead i)/\H a = none/\a ≠ dA/\a ≠ D/\a ≠ pA) (λ⟨a,e,b,c⟩ s=>⟨a,e,b.same s,c⟩) (λ⟨a,e,b,c,d,e',f⟩ hD=>⟨a,e,b.put e',c,d,e',f⟩) hlp hD (by rw [Jab]; have:=List.length_eraseIdx_le ls j; have:=S3.rl.1; omega) (λi' x H' Q' hx s' ⟨lD,hlD⟩ q'=>?_) (λys H5 s5 e5 hyl hys=>?_)⟩
    .refine Zad ((Zjl re).at' hx) λrow er e99=>?_;obtain ⟨a,rfl,rz⟩:=e99;have hm:row ∈ left:=Jby (Jad er);have ha:a ∈ ls.eraseIdx j:=by
      have:=Jad hx;refine Zad (Ja3.mp this) λb hb e=>?_;cases e;exact hb
     have nla:=S3.nl a (Jby ha);have rw1:=rwl row hm;have rw2:=rwl lead hlm;refine ⟨_,rfl,_,rfl,_,rfl,_,rfl,g,a,aL,p,row,lead,i,rfl,hg.same (sm4.trans s'),hp,rz.same s',rl4.same s',rw1.1.trans rw2.1.symm,by rw [rw1.1]; omega,by rw [rw1.1]; omega,hk,smA row (Jai.mpr (.inr hm)),smA lead (Jai.mpr (.inr hlm)),λa' H6 s6 rz' fr=>q' _ H6 s6 ⟨a',rfl,?_,?_⟩⟩
     .rw [Zat er]; exact rz'
     .rcases fr with rfl | fr
      .exact ⟨nla.1,nla.2.1,λz=>(by have e1:H4 a' = some _:=rz; rw [z,hD] at e1; cases e1),nla.2.2.2⟩
      .exact ⟨(sm4.trans s').free fr,λz=>(by rw [z,s' _ _ hd4] at fr; cases fr),λz=>(by rw [z,hlD] at fr; cases fr),λz=>(by rw [z,s' _ _ hp4] at fr; cases fr)⟩
    .rw [Jab] at hyl;refine Zad (Zm4 (P:=λi' a=>RowZ H5 a (Zbr p ((left.eraseIdx j).getD i' []) lead i)/\H a = none/\a ≠ dA/\a ≠ D/\a ≠ pA) hys) λbs e910 hbs=>?_;obtain rfl:=e910;rw [Jab] at hyl;have neD:∀ {b:Addr} {o:HO},H4 b = some o->b ≠ D:=λ{b o} e z=>by rw [z,hD] at e; cases e
     have hd5:=s5 _ _ hd4;have hp5:=s5 _ _ hp4;have dlen:=S3.rd.1;have hp6:upd H5 dA (.lst (ds.map V.ref ++ [V.ref aL])) pA = some (.lst (pl.map λ(j:Nat)=>V.int j)):=by rw [Zah (Jdr S3.ne2)]; exact hp5
     subst hX;walk_at "wp";refine ⟨tyL hd5,_,hd5,by rw [Jab]; exact Zap (by omega),tyL hp6,_,hp6,by rw [Jab]; exact Zap (by omega),?_⟩;subst hD1;refine Zmi D (ds ++ [aL]) bs (done ++ [lead]) ((left.eraseIdx j).map (λrow=>Zbr p row lead i)) (pl ++ [i]) _ _ _ ⟨rfl,⟨?_,hdA,sm4.free hD,S3.fp,neD hd4,S3.ne2,Jdr (neD hp4),?_,?_,?_,?_,?_,?_,?_⟩,Sw.take j lead sw1 hj hk⟩
     .exact ((sm4.trans s5).upd hdA).upd S3.fp
     .rw [Zah S3.ne2,Zac,Ja1]; rfl
     .rw [Zah (Jdr (neD hp4)),Zah (Jdr (neD hd4))]; exact e5
     .rw [Zac,Ja1]; rfl
     .refine All2.app (rd4.monoM λa _ ha r=>?_) (All2.one ?_)
      .exact ((r.same s5).put (S3.nd a ha).2.1).put (S3.nd a ha).2.2.2
      .exact ((rl4.same s5).put nlead.2.1).put nlead.2.2.2
     .refine All2.of_get (d:=[]) (by rw [Jab]; omega) λi' b e=>?_;have hi':i' < (left.eraseIdx j).length:=by have:=(Jag.mp e).1; omega
      refine Zcv (hbs i' b e) λh1 h2 h3 h4 h5=>?_;rw [Zat (show _ = some _ by rw [Jah,Jaa hi']; rfl)];rw [Zbe hi'] at h1;exact (h1.put h3).put h5
     .intro a ha;rcases Jai.mp ha with ha | ha
      .have hn:=S3.nd a ha;refine ⟨hn.1,hn.2.1,?_,hn.2.2.2⟩;obtain ⟨i',hi',rfl⟩:=Jap.mp ha;refine Zad (rd4.at' (Jaa hi')) λzs _ hz=>?_;exact neD hz
      .rw [Jaq.mp ha];exact ⟨nlead.1,nlead.2.1,neD rl4,nlead.2.2.2⟩
     .intro a ha;obtain ⟨i',hi',rfl⟩:=Jap.mp ha;refine Zcv (hbs i' _ (Jaa hi')) λh1 h2 h3 h4 h5=>?_;exact ⟨h2,h3,h4,h5⟩
  .intro σ H2 e92;refine Zpx e92 λlA ds ls done left pl v6 v7 v8 e911 S sw1=>?_;clear e92;obtain rfl:=e911;have I:=sw1.inv p0 rwZ;have d1:=S.rd.1;have d2:=S.rl.1;have ill:=I.all;have zl:=zlen;walk_at "wp";refine ⟨_,S.hd,_,S.hl,by rw [Jab,Jab]; exact Jb3 (Zap (by omega)),λF hF=>⟨by decide,λt ht=>?_⟩⟩;have s4:=Same.new (o:=.lst (ds.map V.ref ++ ls.map V.ref)) hF;have s5:=Same.new (o:=.tup [V.ref F,V.ref pA]) ht;have s45:=s4.trans s5;have neF:∀ {b:Addr} {o:HO},H2 b = some o->b ≠ F:=λ{b o} e z=>by rw [z,hF] at e; cases e
   refine q t F pA (ds ++ ls) Z done left pl _ (S.sm.trans s45) Zac (S.sm.free hF) S.fp (Jdr (neF S.hp)) (s45 _ _ S.hp) (s5 _ _ (by rw [Zac,Ja1])) ((S.rd.app S.rl).mono λ_ _ r=>r.same s45) (λa ha=>?_) IR sw1;have hn:H a = none/\a ≠ dA/\a ≠ lA/\a ≠ pA:=by
    rcases Jai.mp ha with ha | ha
    .exact S.nd a ha
    .exact S.nl a ha
   obtain ⟨i',hi',e'⟩:=Jap.mp ha;refine Zad ((S.rd.app S.rl).at' (Jaa hi')) λzs _ hz=>?_;rw [e'] at hz;exact ⟨hn.1,neF hz,hn.2.2.2⟩
theorem inv_tab:((List.range 98).all λp=>decide (p < 2) || (List.range p).any (λd=>decide (2<=d) && p % d == 0) || (List.range p).all λr=>r == 0 || (List.range p).any λk=>k * r % p == 1) = true:=by decide +kernel
theorem inv_ex {p b:Int} (hp:Zex p) (hb:b % p ≠ 0):∃ k:Nat,1<=k/\(k:Int) < p/\(k:Int) * b % p = 1:=by
 refine Za9 hp λp1 p97 hd=>?_;clear hp;have h:=Jbl.mp inv_tab p.toNat (Jbc.mpr (by omega));have ep:((p.toNat:Nat):Int) = p:=Jbv (by omega);rw [Jcz,Jcz] at h;rcases h with (h | h) | h
 .have:=Ja0 h;omega
 .refine Zad (List.any_eq_true.mp h) λd d1 d2=>?_;have d1:=Jbc.mp d1;rw [Jce] at d2;have d3:=Ja0 d2.1;have d4:p.toNat % d = 0:=by simpa using d2.2
  refine absurd ?_ (hd d (by omega) (by omega));rw [<- ep,<- Jc9,d4];rfl
 .have b0:0<=b % p:=Jbi _ (by omega);have b1:b % p < p:=Ja7 _ (by omega);have h:=Jbl.mp h (b % p).toNat (Jbc.mpr (by omega));rw [Jcz] at h;rcases h with h | h
  .have:(b % p).toNat = 0:=by simpa using h
   omega
  .refine Zad (List.any_eq_true.mp h) λk k1 k2=>?_;have k1:=Jbc.mp k1;have k2:k * (b % p).toNat % p.toNat = 1:=by simpa using k2
   have k3:(k:Int) * (b % p) % p = 1:=by
    have e:(((b % p).toNat:Nat):Int) = b % p:=Jbv b0;have:((k * (b % p).toNat % p.toNat:Nat):Int) = 1:=by rw [k2]; rfl
    rw [Jc9,Jb8,e,ep] at this;exact this
   refine ⟨k,?_,by omega,by rw [emulR] at k3; exact k3⟩;rcases Nat.eq_zero_or_pos k with rfl | h
   .simp at k2
   .exact h
theorem Zra {p:Int} (hp:Zex p):PrimeN p.toNat:=by
 have p1:=hp.1;have ep:((p.toNat:Nat):Int) = p:=Jbv (by omega);refine ⟨by omega,λr r0 r1=>?_⟩;obtain ⟨k,k1,kp,kr⟩:=inv_ex (b:=(r:Int)) hp (by rw [Jc0 (by omega) (by omega)]; omega);refine ⟨k,by omega,?_⟩;rw [<- ep,<- Jb8,<- Jc9] at kr;omega
theorem Zsn {p:Int} (hp:GroundP p):∃ (F:Type) (_:Lean.Grind.Field F),FdOk p F:=by
 rcases hp with rfl | hp
 .exact ⟨Rat,inferInstance,fd_zero⟩
 .have:PrimeN p.toNat:=Zra hp;have h:=Zvm (n:=p.toNat);rw [Jbv (by have:=hp.1; omega)] at h;exact ⟨Zp p.toNat,inferInstance,h⟩
theorem one_mod {p:Int} (hp:GroundP p) (h:p ≠ 0):(1:Int) % p ≠ 0:=by
 rcases hp with h' | h'
 .exact absurd h' h
 .rw [Jc0 (by decide) h'.1];decide
theorem rep1 (n:Nat) (v:V):(List.replicate n [v]).flatten = List.replicate n v:=by
 induction n with
 | zero=>rfl
 | succ n ih=>rw [Jcf,Jdk,ih,Jcf]; rfl
end
end Pf
namespace Pf
open PySem L2 L3 PyProof.Rows
section
variable {p:Int} {F:Type} [Lean.Grind.Field F]
def vN (xs:List Nv):Nat->F:=λj=>nm (xs.getD j (0,1))
theorem Zhi:(nm ((0,1):Nv):F) = 0:=by
 unfold nm;rw [Zkv,Zdn];have:=Zwj (F:=F)
 grind
theorem Zp3 {xs:List Nv} {j:Nat} (h:xs.length<=j):(vN xs j:F) = 0:=by
 unfold vN;rw [Jac,Jal h];exact Zhi
theorem Zo0 {α:Type} {f:α->Nat->F} {Z:List α} {i:Nat} {d:α} (h:i < Z.length):at' (Z.map f) i = f (Z.getD i d):=by
 show (Z.map f).getD i zv = _;rw [Jac,Jah,Jaa h,Jac,Jaa h];rfl
theorem Zo5 {L L':List (Nat->F)} (hl:L.length = L'.length) (h:∀ i,i < L.length->∃ c:F,c ≠ 0/\∀ j,at' L i j = c * at' L' i j):SpEq L L':=by
 refine ⟨λv hv=>?_,λv hv=>?_⟩
 .refine Zad (Zei hv zv) λi hi e=>?_;refine Zad (h i hi) λc _ hc=>?_;have e1:v = λj=>c * at' L' i j:=by rw [<- e]; exact funext hc
  rw [e1];exact Sp.smul c (.mem (Zd3 (by omega)))
 .refine Zad (Zei hv zv) λi hi e=>?_;refine Zad (h i (by omega)) λc c0 hc=>?_;have e1:v = λj=>(1 / c) * at' L i j:=by
   rw [<- e];refine funext λj=>?_;rw [hc j];show at' L' i j = _
   grind
  rw [e1];exact Sp.smul _ (.mem (Zd3 (by omega)))
theorem wr_eq (hF:FdOk p F) {xs:List Nv} {zs:List Int} {b:Int} (h:WRz p xs zs b) (hx:∀ x ∈ xs,Isn p x) (j:Nat):(vz zs j:F) = ic b * vN xs j:=by
 have e:=h.eq j;have e2:(ic (zs.getD j 0):F) * ic (xs.getD j (0,1)).2 = ic (xs.getD j (0,1)).1 * ic b:=by rw [<- Zb6,<- Zb6,e]
 have b2:(ic (xs.getD j (0,1)).2:F) ≠ 0:=by
  by_cases hj:j < xs.length
  .rw [Zbe hj];exact hF.bot (hx _ (Ja2 hj))
  .rw [Jac,Jal (by omega)];show (ic 1:F) ≠ 0;rw [Zdn];exact Zwj
 unfold vz vN nm;generalize (ic (zs.getD j 0):F) = u at *;generalize (ic (xs.getD j (0,1)).1:F) = v at *;generalize (ic (xs.getD j (0,1)).2:F) = t at *
 grind
theorem wr_b (hF:FdOk p F) {xs:List Nv} {zs:List Int} {b:Int} (h:WRz p xs zs b):(ic b:F) ≠ 0:=by
 by_cases hp:p = 0
 .exact hF.ne0 (.inl hp) (by have:=h.pos; omega)
 .rw [h.one hp,Zdn];exact Zwj
theorem int_sp (hF:FdOk p F) {k:Nat} {Z:List (List Int)} {M:Mv} (h:Zgf p k Z M) (hM:∀ xs ∈ M,∀ x ∈ xs,Isn p x):SpEq (F:=F) (Z.map vz) (M.map vN):=by
 have hl:=h.1;refine Zo5 (by rw [Jab,Jab]; exact hl) λi hi=>?_;rw [Jab] at hi;refine Zbl (h.2 i _ _ (Jaa hi) (Jaa (show i < M.length by omega))) λws b w1 _ e=>?_;rw [Zo0 (d:=[]) hi,Zo0 (d:=[]) (show i < M.length by omega),Zbe hi,Zbe (show i < M.length by omega),e];refine Zad (Zp7 hF ws) λc c0 hc=>?_;refine ⟨ic b / c,?_,λj=>?_⟩
 .have:=wr_b hF w1
  grind
 .have e1:=hc j;rw [wr_eq hF w1 (hM _ (Ja2 _)) j] at e1;generalize (vz (Zde p ws) j:F) = y at *
  grind
end
theorem Zt5 {p:Int} {W:Nat} {row:List Int} (h0:p ≠ 0) (p97:p<=97) (h:Rw p W row):SmallR 7 row:=λz hz=>by
 rcases h.2 z hz with e | ⟨e1,e2⟩
 .exact absurd e h0
 .exact Za8 (Jaf _) (by omega)
theorem Zkt {p:Int} {k W:Nat} {Z:List (List Int)} {M:Mv} (hp:GroundP p) (h7:7<=k) (h:Zgf p k Z M) (wd:∀ xs ∈ M,xs.length = W):∀ row ∈ Z,SmallR ((W + 1) * k) row:=λrow hr=>by
 obtain ⟨i,hi,e⟩:=Jap.mp hr;refine Zad (h.at' (i:=i) (x:=row) (by rw [Jaa hi,e])) λxs ex e91=>?_;obtain ⟨ws,b,w1,sm,rfl⟩:=e91;rw [wd xs (Jad ex)] at sm;exact Zjv hp.lo hp.hi (by rw [Jc7]; omega) λ_=>sm
end Pf
namespace Pf
open PySem L2 L3 PyProof.Rows
section
variable {p:Int} {F:Type} [Lean.Grind.Field F]
theorem Zqv {α:Type} {L:List α} {k i:Nat} {v d:α} (hk:k < L.length):(L.set k v).getD i d = if i = k then v else L.getD i d:=by
 rw [Jac,List.getElem?_set,Jac];by_cases h:i = k
 .subst h;rw [if_pos rfl,if_pos rfl,if_pos hk];rfl
 .rw [if_neg (λz=>h z.symm),if_neg h]
theorem speq_of {L L':List (Nat->F)} (h1:∀ i,i < L.length->SpL L' (at' L i)) (h2:∀ i,i < L'.length->SpL L (at' L' i)):SpEq L L':=by
 refine ⟨λv hv=>?_,λv hv=>?_⟩
 .refine Zad (Zei hv zv) λi hi e=>?_;have:=h1 i hi;rwa [show at' L i = v from e] at this
 .refine Zad (Zei hv zv) λi hi e=>?_;have:=h2 i hi;rwa [show at' L' i = v from e] at this
theorem Zqg {L L':List (Nat->F)} {k d:Nat} (hl:L'.length = L.length) (hk:k < L.length) (hd:d < L.length) (hne:d ≠ k) (b:F) (h:∀ i,i < L.length->i ≠ k->at' L' i = at' L i) (e:∀ j,at' L' k j = at' L k j + b * at' L d j):SpEq L' L:=by
 refine speq_of (λi hi=>?_) (λi hi=>?_)
 .by_cases hik:i = k
  .subst hik;rw [show at' L' i = λj=>1 * at' L i j + b * at' L d j from funext λj=>by rw [e j]; show at' L i j + _ = _; grind];exact .comb 1 b (.mem (Zd3 hk)) (.mem (Zd3 hd))
  .rw [h i (by omega) hik];exact .mem (Zd3 (by omega))
 .by_cases hik:i = k
  .subst hik;rw [show at' L i = λj=>1 * at' L' i j + (-b) * at' L' d j from funext λj=>by rw [h d hd hne,e j]; show at' L i j = _; grind];exact .comb 1 (-b) (.mem (Zd3 (by omega))) (.mem (Zd3 (by omega)))
  .rw [<- h i hi hik];exact .mem (Zd3 (by omega))
theorem Zjr {M:Mv} {i:Nat} (h:i < M.length):at' (M.map (vN (F:=F))) i = vN (M.getD i []):=Zo0 h
end
end Pf
namespace Pf
open PySem L2 L3 PyProof.Rows
def IsRk (p:Int) (n wd:Nat) (M:Mv) (r:Nat):Prop:=∀ (F:Type) [Lean.Grind.Field F],FdOk p F->Rk (λi j=>(vN (M.getD i []) j:F)) n wd r
theorem sw_rk {p:Int} {k n wd:Nat} {Z done left:List (List Int)} {M:Mv} {pl:List Nat} (hp:GroundP p) (IR:Zgf p k Z M) (sw:Sw p Z wd done left pl) (hl:M.length = n) (hw:∀ xs ∈ M,xs.length = wd) (hM:∀ xs ∈ M,∀ x ∈ xs,Isn p x):IsRk p n wd M pl.length:=λF _ hF=>by
 have p0:=hp.lo;have I:=sw.inv p0 (Zhk p0 IR hw);have B:=Sw.back p0 I hF pl.length (Jaf _);have bl:=B.len;have zM:=IR.1;have h1:=I.all;have h2:=I.len;obtain ⟨r1,r2⟩:=B.rr I.asc I.lt (by omega) (L:=(List.range Z.length).map λi=>λj=>vz ((Zdf p pl (done ++ left) pl.length).getD i []) j / ic (Zdm pl (Zdf p pl (done ++ left) pl.length) i)) (by rw [Jab,Ja4]) λi hi=>by
  have e:(List.range Z.length).getD i 0 = i:=by rw [Jac,Jch hi]; rfl
  rw [Zo0 (d:=0) (by rw [Ja4]; exact hi),e]
 have rk:=r1.rk ((int_sp hF IR hM).symm.trans r2.symm);rw [Jab,hl] at rk;exact rk.congr λi j hi hj=>by rw [Zjr (by omega)]
theorem sw_smA {p:Int} {k W wide:Nat} {M:Mv} (hp:GroundP p) (h7:7<=k) (wd:∀ xs ∈ M,xs.length = W) (hb:p = 0->((W + 1) * k + 1) * 2 ^ wide<=HB):Znk p k wide M:=by
 have p0:=hp.lo;have p97:=hp.hi;intro Z IR j done left pl hj sw row hr;by_cases h0:p = 0
 .have hb:=hb h0;have n7:7<=(W + 1) * k:=by rw [Jc7]; omega
  refine (sw.dbl p0 p97 n7 (Zkt hp h7 IR wd) row hr).le ?_;have:((W + 1) * k + 1) * 2 ^ j<=((W + 1) * k + 1) * 2 ^ wide:=Jca (Jaf _) (Jcm (by decide) hj);omega
 .exact (Zt5 h0 p97 ((sw.inv p0 (Zhk p0 IR wd)).rw row hr)).le (by decide)
theorem IsRk.uniq {p:Int} {n wd r s:Nat} {M:Mv} (hp:GroundP p) (h:IsRk p n wd M r) (h':IsRk p n wd M s):r = s:=by
 obtain ⟨F,_,hF⟩:=Zsn hp;exact (h F hF).uniq (h' F hF)
section
variable {P:Program} {w:World} {K:PySem.W.Frag} {mg:Str->Option Value} {base:Heap} {G PL cL:Addr}
def Zqj (G PL:Addr):L2.Sp:=λvs H Q _=>∃ (g t r:Addr) (rs:List Addr) (p hh:Int) (k wd:Nat) (M:Mv),vs = [.ref g,.ref t]/\GAt G H g p/\GroundP p/\H t = some (.tup [.int hh,.int wd,.ref r])/\RowsB H p k wd r rs M/\Znk p k wd M/\H PL = some Zwg /\
 ∀ (rk:Nat) H',Same H H'->IsRk p M.length wd M rk->Q (.int (rk:Nat)) H'
theorem ok_rank {f:Addr} {fd:FuncData} (F:Fun K "rank" "rank" Zq1 f fd) (T:Txt K mg C G S) (C_swept:Cal P w K mg base "swept" 7 (Zmr G PL)):FnOk P w K mg base CX0 8 f fd ["ground","table"] (Zqj G PL):=by
 have nd:=Zq0.nd;refine F.ok Zq0 (λvs H Q E h=>?_) (λcdv A outer s H vs Q E hr h=>?_)
 .refine Zo1 h λg t r rs p hh k wd M e91 _=>?_;clear h;obtain rfl:=e91;rfl
 .refine Zpw h λg t r rs p hh k wd M e92 hg hp e93=>?_;clear h;obtain rfl:=e92;refine Zcv e93 λht rb sm hPL q=>?_;clear e93;refine ⟨_,(~~~(Za3 Zaq rfl T.n_len Ja8 ((Zaz<|>(Za6 C_swept hr.m rfl ((pvr 0)<&>(((Zjq Zaz)<|>(pvr 1)<||>Zab)<&>(((Zjq Zaz)<|>(pvr 1)<||>Zab)<&>Zaa))))<||>Zab)<&>Zaa))),?_⟩;walk_at "wp";refine ⟨_,SqT.of ht,_,rfl,_,SqT.of ht,_,rfl,g,r,p,rs,M,k,wd,wd,rfl,hg,hp,rb,Jaf _,hPL,sm,λt' F' pA rs' Z done left pl H1 s1 ht hF hpA nFp ep eF rz nrs IR sw=>?_⟩;refine ⟨t',rfl,_,SqT.of ht,_,rfl,pA,rfl,_,.inl (SqL.of ep),?_⟩;rw [Jab];exact q pl.length H1 s1 (sw_rk hp IR sw rfl rb.wd λxs hx x hxx=>(rb.gd xs hx x hxx).1)
def Znv:L2.Sp:=λvs H Q _=>∃ a b:Int,vs = [.int a,.int b]/\0 < b/\∀ t,H t = none->Q (.ref t) (upd H t (.tup [.int (nrm a b).1,.int (nrm a b).2]))
def Zql:L2.Sp:=λvs H Q _=>∃ a b:Int,vs = [.int a,.int b]/\b ≠ 0/\∀ t,H t = none->Q (.ref t) (upd H t (.tup [.int (nrS a b).1,.int (nrS a b).2]))
structure TwoB (H:Hp) (p:Int) (va vb:V) (x y:Nv):Prop where
 a:NumV H p va x
 b:NumV H p vb y
 hx:Isn p x
 hy:Isn p y
 bt:∃ n m:Nat,Bt n x.1/\Bt n x.2/\Bt m y.1/\Bt m y.2/\n + m<=134000000
def Zki (op:Int->Nv->Nv->Nv):L2.Sp:=λvs H Q _=>∃ (p:Int) (va vb:V) (x y:Nv),vs = [.int p,va,vb]/\GroundP p/\TwoB H p va vb x y/\∀ v H',Same H H'->NumV H' p v (op p x y)->Q v H'
theorem ok_addB {f:Addr} {fd:FuncData} (F:Fun K "_law_plus" "_law_plus" Zg4 f fd) (T:Txt K mg C G S) (C_law_low:Cal P w K mg base "_law_low" 1 Znv):FnOk P w K mg base CX0 3 f fd ["_law_p","_law_a","_law_b"] (Zki Zey):=by
 have nd:=Zir.nd;refine F.ok Zir (λvs H Q E h=>?_) (λcdv A outer s H vs Q E hr h=>?_)
 .refine Ztk h λp va vb x y e91 _=>?_;clear h;obtain rfl:=e91;rfl
 .refine Zgh h λp va vb x y e92 hp h2 q=>?_;clear h;obtain rfl:=e92;have p0:=hp.lo;refine Zic h2.bt λn m b1 b2 b3 b4 nm'=>?_;refine ⟨_,((@Za1 _ _ _ _ _ _ _ _ (Zcl Ze0 (pvr 0) Zab (Zam _)) (~~~(Zcb<|>(Zay<|>(pvr 1)<&&>(pvr 2))<&&>(pvr 0))) Zan)<*>(~~~(Za6 C_law_low hr.m rfl ((Zay<|>(Za4<|>(Zaz<|>(pvr 1)<||>Zab)<&&>(Zaz<|>(pvr 2)<||>Zab))<&&>(Za4<|>(Zaz<|>(pvr 2)<||>Zab)<&&>(Zaz<|>(pvr 1)<||>Zab)))<&>((Za4<|>(Zaz<|>(pvr 1)<||>Zab)<&&>(Zaz<|>(pvr 2)<||>Zab))<&>Zaa))))),?_⟩;walk_at "wp";refine Zbx (λhc=>?_) (λhc=>?_)
  .have hc:=Ja0 hc;obtain rfl:=h2.a.int (by omega);obtain rfl:=h2.b.int (by omega);refine ⟨_,rfl,_,rfl,hc,q _ H (Same.refl _) ?_⟩;have:=NumV.of (H:=H) (x:=Zey p x y) (show ¬ p = 0 by omega);rw [Zey,if_neg (by omega)] at this ⊢;exact this
  .have hc:¬ 0 < p:=λz=>hc (Jaj z);have hp0:p = 0:=by omega
   refine Zad (h2.a.ref hp0) λta e93 hta=>?_;obtain rfl:=e93;refine Zad (h2.b.ref hp0) λtb e94 htb=>?_;obtain rfl:=e94;walk_at "wp";refine ⟨_,SqT.of hta,_,rfl,_,SqT.of htb,_,rfl,_,rfl,_,rfl,b1.ok b4 (by omega),_,SqT.of htb,_,rfl,_,SqT.of hta,_,rfl,_,rfl,_,rfl,b3.ok b2 (by omega),_,SqT.of hta,_,rfl,_,SqT.of htb,_,rfl,_,rfl,_,rfl,b2.ok b4 (by omega),?_⟩;refine Zau _ _ ⟨rfl,Jc5 h2.hx.pos h2.hy.pos,λt ht=>q _ _ (Same.new ht) ?_⟩;rw [Zey,if_pos hp0];exact NumV.tup hp0 Zac
theorem ok_mulB {f:Addr} {fd:FuncData} (F:Fun K "_law_times" "_law_times" Zf5 f fd) (T:Txt K mg C G S) (C_law_low:Cal P w K mg base "_law_low" 1 Znv):FnOk P w K mg base CX0 3 f fd ["_law_p","_law_a","_law_b"] (Zki Zbk):=by
 have nd:=Zhu.nd;refine F.ok Zhu (λvs H Q E h=>?_) (λcdv A outer s H vs Q E hr h=>?_)
 .refine Ztk h λp va vb x y e95 _=>?_;clear h;obtain rfl:=e95;rfl
 .refine Zgh h λp va vb x y e96 hp h2 q=>?_;clear h;obtain rfl:=e96;have p0:=hp.lo;refine Zic h2.bt λn m b1 b2 b3 b4 nm'=>?_;refine ⟨_,((@Za1 _ _ _ _ _ _ _ _ (Zcl Ze0 (pvr 0) Zab (Zam _)) (~~~(Zcb<|>(Zgt<|>(pvr 1)<&&>(pvr 2))<&&>(pvr 0))) Zan)<*>(~~~(Za6 C_law_low hr.m rfl ((Za4<|>(Zaz<|>(pvr 1)<||>Zab)<&&>(Zaz<|>(pvr 2)<||>Zab))<&>((Za4<|>(Zaz<|>(pvr 1)<||>Zab)<&&>(Zaz<|>(pvr 2)<||>Zab))<&>Zaa))))),?_⟩;walk_at "wp";refine Zbx (λhc=>?_) (λhc=>?_)
  .have hc:=Ja0 hc;obtain rfl:=h2.a.int (by omega);obtain rfl:=h2.b.int (by omega);have p97:=hp.hi;have hx:0<=x.1/\x.1 < p:=by rcases h2.hx with ⟨h,_⟩ | ⟨_,h,h',_⟩ <;> omega
   refine ⟨_,rfl,_,rfl,.inl ⟨by omega,by omega⟩,hc,q _ H (Same.refl _) ?_⟩;have:=NumV.of (H:=H) (x:=Zbk p x y) (show ¬ p = 0 by omega);rw [Zbk,if_neg (by omega)] at this ⊢;exact this
  .have hc:¬ 0 < p:=λz=>hc (Jaj z);have hp0:p = 0:=by omega
   refine Zad (h2.a.ref hp0) λta e97 hta=>?_;obtain rfl:=e97;refine Zad (h2.b.ref hp0) λtb e98 htb=>?_;obtain rfl:=e98;walk_at "wp";refine ⟨_,SqT.of hta,_,rfl,_,SqT.of htb,_,rfl,_,rfl,_,rfl,b1.ok b3 (by omega),_,SqT.of hta,_,rfl,_,SqT.of htb,_,rfl,_,rfl,_,rfl,b2.ok b4 (by omega),?_⟩;refine Zau _ _ ⟨rfl,Jc5 h2.hx.pos h2.hy.pos,λt ht=>q _ _ (Same.new ht) ?_⟩;rw [Zbk,if_pos hp0];exact NumV.tup hp0 Zac
abbrev BtN (n:Nat) (x:Nv):Prop:=Bt n x.1/\Bt n x.2
theorem BtN.le {n m:Nat} {x:Nv} (h:BtN n x) (hm:n<=m):BtN m x:=⟨h.1.le hm,h.2.le hm⟩
theorem Zjk {p:Int} {x:Nv} (h0:p ≠ 0) (p97:p<=97) (h:Isn p x):BtN 7 x:=by
 rcases h with ⟨e,_⟩ | ⟨_,e1,e2,e3⟩
 .exact absurd e h0
 .exact ⟨Za8 (Jaf _) (by omega),by rw [e3]; exact Za8 (Jaf _) (by decide)⟩
theorem Zk8 {a b:Int} {n:Nat} (ha:Bt n a) (hb:Bt n b):BtN n (nrm a b):=⟨ha.quo (Jbn ..),hb.quo (Jbs ..)⟩
theorem Zoy {p:Int} {x y:Nv} {n m:Nat} (hp:GroundP p) (hx:Isn p x) (hy:Isn p y) (h1:BtN n x) (h2:BtN m y) (h7:7<=n):BtN (n + m + 1) (Zey p x y):=by
 by_cases h0:p = 0
 .unfold Zey;rw [if_pos h0];refine Zk8 ?_ ((h1.2.mul h2.2).le (by omega));have a:=h1.1.mul h2.2;have b:=h2.1.mul h1.2;rw [Nat.add_comm m n] at b;exact Bt.add a b
 .exact (Zjk h0 hp.hi (Zij hp.lo hx hy)).le (by omega)
theorem Zjj {p:Int} {x y:Nv} {n m:Nat} (hp:GroundP p) (hx:Isn p x) (hy:Isn p y) (h1:BtN n x) (h2:BtN m y) (h7:7<=n + m):BtN (n + m) (Zbk p x y):=by
 by_cases h0:p = 0
 .unfold Zbk;rw [if_pos h0];exact Zk8 (h1.1.mul h2.1) (h1.2.mul h2.2)
 .exact (Zjk h0 hp.hi (Zbw hp.lo hx hy)).le h7
theorem Zoz {p:Int} {x:Nv} {n:Nat} (hp:GroundP p) (hx:Isn p x) (h:BtN n x) (h7:7<=n):BtN (n + 1) (Zbk p (Zhl p (-1)) x):=by
 by_cases h0:p = 0
 .unfold Zbk Zhl;rw [if_pos h0,if_pos h0];refine Zk8 ?_ ?_
  .exact (show Bt n (-1 * x.1) by rw [show -1 * x.1 = -x.1 by omega]; exact h.1.neg).le (by omega)
  .exact (show Bt n (1 * x.2) by rw [Int.one_mul]; exact h.2).le (by omega)
 .exact (Zjk h0 hp.hi (Zbw hp.lo (Zcm hp.lo) hx)).le (by omega)
theorem Zrm {f:Addr} {fd:FuncData} (F:Fun K "_law_low" "_law_low" Zfa f fd) (T:Txt K mg C G S) (hpt:P.given.tree = none):FnOk P w K mg base CX0 1 f fd ["_law_top","_law_bottom"] Zql:=by
 have nd:=Zjy.nd;refine F.ok Zjy (λvs H Q E h=>?_) (λcdv A outer s H vs Q E hr h=>?_)
 .refine Zbo h λa b e94 _=>?_;clear h;obtain rfl:=e94;rfl
 .refine Zbl h λa b e95 hb q=>?_;clear h;obtain rfl:=e95;refine ⟨_,((Zak (i:=2) nd rfl (Or.inl rfl) (Za3 Zc1 rfl T.n_abs Jep ((pvr 0)<&>Zaa)))<*>((Zak (i:=3) nd rfl (Or.inl rfl) (Za3 Zc1 rfl T.n_abs Jep ((pvr 1)<&>Zaa)))<*>((Zc0 Jan (Zcl Ze0 (pv 3) Zab (Zam _)) ((Zak (i:=4) nd rfl (Or.inl rfl) ((opJ Zcb)<|>(pvr 2)<&&>(pvr 3)))<*>((Zak (i:=2) nd rfl (Or.inl rfl) (pvr 3))<*>(@Zal _ _ _ (Zak (i:=3) nd rfl (Or.inl rfl) (pvr 4))))))<*>((@Za1 _ _ _ _ _ _ _ _ (Zao (Zj3 Zhg) (pvr 1) Zab (Zam _)) (@Zal _ _ _ (Zak (i:=2) nd rfl (Or.inl rfl) (Zjp Zfp (pvr 2)))) Zan)<*>(~~~(@Zas _ _ _ _ _ (((Zct hpt (Zca hr))<|>(pvr 0)<&&>(pvr 2))<&>(((Zct hpt (Zca hr))<|>(pvr 1)<&&>(pvr 2))<&>Zaa)))))))),?_⟩;walk_at "wp";have ea:(if a < 0 then -a else a) = (a.natAbs:Int):=by split <;> omega
  have eb:(if b < 0 then -b else b) = (b.natAbs:Int):=by split <;> omega
  rw [ea,eb];refine ⟨λn σ H2=>∃ (x y:Int) (v:Option V),σ = [some (.int a),some (.int b),some (.int x),some (.int y),v]/\H2 = H/\0<=x/\0<=y/\n = y.toNat/\Int.gcd x y = Int.gcd a b,⟨_,_,_,none,rfl,rfl,by omega,by omega,rfl,by unfold Int.gcd; rfl⟩,?_⟩;intro n σ H2 e91;refine Zbj e91 λx y v e96 e97 hx e98=>?_;clear e91;obtain rfl:=e96;obtain rfl:=e97;refine Za9 e98 λhy e99 hg=>?_;clear e98;obtain rfl:=e99;walk_at "wp";refine Zbx (λhc=>?_) (λhc=>?_)
  .have y1:0 < y:=Ja0 hc;have l1:=Jbi x (show y ≠ 0 by omega);have l2:=Ja7 x y1;refine ⟨_,λ_ _ h=>h,?_⟩;walk_at "wp";exact ⟨y1,_,by omega,y,x % y,_,⟨rfl,rfl,rfl⟩,by omega,l1,rfl,by rw [Zkx]; exact hg⟩
  .have hy0:¬ 0 < y:=λz=>hc (Jaj z);have hy0:y = 0:=by omega
   subst hy0;have e:x = (Int.gcd a b:Int):=by
    rw [<- hg,Int.gcd_zero];omega
   subst e;have g0:0 < Int.gcd a b:=Jcn _ hb;have e:=Zwd (a:=a) hb;refine Zbx (λhc=>?_) (λhc=>?_)
   .have hc:=Ja0 hc;rw [if_pos hc] at e;refine ⟨by omega,by omega,by decide,λt ht=>?_⟩;have:=q t ht;rw [<- e] at this;exact this
   .have hc:¬ b < 0:=λz=>hc (Jaj z);rw [if_neg hc] at e;refine ⟨by omega,by omega,by decide,λt ht=>?_⟩;have:=q t ht;rw [<- e] at this;exact this
theorem Zrs {a b:Int} (h:0 < b):nrS a b = nrm a b:=by unfold nrS; rw [if_neg (by omega)]
theorem Zrn {f:Addr} {fd:FuncData} (F:Fun K "_law_low" "_law_low" Zfa f fd) (T:Txt K mg C G S) (hpt:P.given.tree = none):FnOk P w K mg base CX0 1 f fd ["_law_top","_law_bottom"] Znv:=
 (Zrm F T hpt).imp λvs H Q E ⟨a,b,e,h1,q⟩=>⟨a,b,e,by omega,λt ht=>by rw [Zrs h1]; exact q t ht⟩
theorem ok_low {f:Addr} {fd:FuncData} (F:Fun K "_law_low" "_law_low" Zfa f fd) (T:Txt K mg C G S) (hpt:P.given.tree = none):FnOk P w K mg base CX0 1 f fd ["_law_top","_law_bottom"] Znw:=
 (Zrn F T hpt).imp λvs H Q E ⟨a,b,e,_,h1,_,q⟩=>⟨a,b,e,h1,q⟩
def pwR (p a:Nat):Nat->Nat
 | 0=>1
 | k + 1=>pwR p a k * a % p
theorem pw_all:(List.range 98).all (λp=>(List.range 98).all λa=>decide (p < 2) || (List.range p).any (λd=>decide (2<=d) && decide (p % d = 0)) || decide (a = 0) || decide (p<=a) || decide (pwR p a (p - 2) * a % p = 1)) = true:=by decide +kernel
theorem pw_one {p a:Int} (hp:Zex p) (h0:0 < a) (h1:a < p):((pwR p.toNat a.toNat (p.toNat - 2):Nat):Int) * a % p = 1:=by
 refine Za9 hp λp1 p97 pr=>?_;clear hp;have h:=Jbl.mp (Jbl.mp pw_all p.toNat (Jbc.mpr (by omega))) a.toNat (Jbc.mpr (by omega));simp only [Jcz,decide_eq_true_eq,List.any_eq_true,Jce,Jbc] at h;rcases h with (((h | ⟨d,d1,d2,d3⟩) | h) | h) | h
 .omega
 .refine absurd ?_ (pr (d:Int) (by omega) (by omega));have e:((p.toNat % d:Nat):Int) = 0:=by rw [d3]; rfl
  rwa [Jc9,show ((p.toNat:Nat):Int) = p by omega] at e
 .omega
 .omega
 .have e:((pwR p.toNat a.toNat (p.toNat - 2) * a.toNat % p.toNat:Nat):Int) = 1:=by rw [h]; rfl
  rw [Jc9,Jb8,show ((a.toNat:Nat):Int) = a by omega,show ((p.toNat:Nat):Int) = p by omega] at e;exact e
structure IsB (p:Int) (x y:Nv):Prop where
 is:Isn p y
 fd:∀ (F:Type) [Lean.Grind.Field F],FdOk p F->(nm x:F) * nm y = 1
 bt:∀ n:Nat,7<=n->BtN n x->BtN n y
theorem Zvc {x:Nv} (hx:Isn 0 x) (h:x.1 ≠ 0):IsB 0 x (nrS x.2 x.1):=by
 have iq:=Zom (a:=x.2) h;refine ⟨iq.is,λF _ hF=>?_,λn h7 b=>iq.bt n h7 b.2 b.1⟩;rw [iq.fd F hF];have b1:=hF.bot hx;have b2:(ic x.1:F) ≠ 0:=hF.ne0 (.inl rfl) h;unfold nm
 grind
theorem Zr5 {p:Int} {x:Nv} {k:Int} (hp:Zex p) (hx:Isn p x) (k0:0<=k) (k1:k < p) (h:k * x.1 % p = 1):IsB p x (k,1):=by
 have p1:=hp.1;have p97:=hp.2.1;refine ⟨.inr ⟨by omega,k0,k1,rfl⟩,λF _ hF=>?_,λn h7 _=>⟨Za8 h7 (by show k.natAbs < 128; omega),Za8 h7 (by show (1:Int).natAbs < 128; decide)⟩⟩;have hx2:x.2 = 1:=by
  rcases hx with ⟨z,_⟩ | ⟨_,_,_,h⟩
  .omega
  .exact h
 have e:(ic (k * x.1):F) = 1:=by rw [<- hF.modF (by omega),h,Zdn]
 rw [hF.one];unfold nm;rw [hx2,Zdn];rw [Zb6] at e;have:=Zwj (F:=F)
 grind
def Zm0:L2.Sp:=λvs H Q _=>∃ (p:Int) (va:V) (x:Nv),vs = [.int p,va]/\GroundP p/\NumV H p va x/\Isn p x/\x.1 ≠ 0/\∀ v y H',Same H H'->NumV H' p v y->IsB p x y->Q v H'
theorem ok_back {f:Addr} {fd:FuncData} (F:Fun K "_law_back" "_law_back" Zha f fd) (T:Txt K mg C G S) (C_law_low:Cal P w K mg base "_law_low" 1 Zql):FnOk P w K mg base CX0 4 f fd ["_law_p","_law_a"] Zm0:=by
 have nd:=Zix.nd;refine F.ok Zix (λvs H Q E h=>?_) (λcdv A outer s H vs Q E hr h=>?_)
 .refine Zdu h λp va x e910 _=>?_;clear h;obtain rfl:=e910;rfl
 .refine Zbj h λp va x e911 hp nx e912=>?_;clear h;obtain rfl:=e911;refine Za9 e912 λix x0 q=>?_;clear e912;refine ⟨_,((@Za1 _ _ _ _ _ _ _ _ (Zao (Zif Zcc) (pvr 0) Zab (Zam _)) (~~~(Za6 C_law_low hr.m rfl (((Zjq Zaz)<|>(pvr 1)<||>Zab)<&>(((Zjq Zaz)<|>(pvr 1)<||>Zab)<&>Zaa)))) Zan)<*>((Zak (i:=2) nd rfl (Or.inl rfl) Zab)<*>((Zbh Jan rfl (Zdt rfl T.n_range ((Zbp<|>(pv 0)<&&>Zab)<&>Zaa)) (@Zae _ _ 3 _ nd rfl (Or.inl rfl) (Or.inl rfl)) (@Zal _ _ _ (Zak (i:=2) nd rfl (Or.inl rfl) ((opJ Zcb)<|>((opJ Zgt)<|>(pvr 2)<&&>(pvr 1))<&&>(pvr 0)))))<*>(~~~(pvr 2))))),?_⟩;walk_at "wp";refine Zbx (λhc=>?_) (λhc=>?_)
  .have hp0:p = 0:=by simpa using hc
   subst hp0;refine Zad (nx.ref rfl) λta e913 hta=>?_;obtain rfl:=e913;walk_at "wp";exact ⟨_,SqT.of hta,_,rfl,_,SqT.of hta,_,rfl,_,_,rfl,x0,λt ht=>q _ _ _ (Same.new ht) (NumV.tup rfl Zac) (Zvc ix x0)⟩
  .have hp0:¬ p = 0:=by simpa using hc
   obtain rfl:=nx.int hp0;have hp1:Zex p:=hp.resolve_left hp0;have p1:=hp1.1;have p97:=hp1.2.1;have xr:0<=x.1/\x.1 < p:=by rcases ix with ⟨h,_⟩ | ⟨_,h,h',_⟩ <;> omega
   have pw:∀ i,pwR p.toNat x.1.toNat i < p.toNat:=λi=>by
    cases i with
    | zero=>show 1 < p.toNat; omega
    | succ i=>exact Nat.mod_lt _ (by omega)
   refine ⟨_,rfl,p,2,rfl,rfl,p - 2,rfl,by omega,by omega,Za2 (λi σ H2=>∃ v:Option V,σ = [some (.int p),some (.int x.1),some (.int (pwR p.toNat x.1.toNat i:Nat)),v]/\H2 = H) ⟨none,rfl,rfl⟩ ?_ ?_⟩
   .intro i σ H2 hi e92;refine Zad e92 λv e914 e915=>?_;clear e92;obtain rfl:=e914;obtain rfl:=e915;walk_at "wp";have:=pw i;refine ⟨.inl ⟨by omega,by omega⟩,by omega,?_,_,rfl⟩;show _ = ((pwR p.toNat x.1.toNat i * x.1.toNat % p.toNat:Nat):Int);rw [Jc9,Jb8,show ((x.1.toNat:Nat):Int) = x.1 by omega,show ((p.toNat:Nat):Int) = p by omega]
   .intro σ H2 e93;refine Zad e93 λv e916 e917=>?_;clear e93;obtain rfl:=e916;obtain rfl:=e917;walk_at "wp";have e:(p - 2).toNat = p.toNat - 2:=by omega
    have h1:=pw_one hp1 (show 0 < x.1 by omega) xr.2;have h2:=pw (p.toNat - 2);rw [e];exact q _ (((pwR p.toNat x.1.toNat (p.toNat - 2):Nat):Int),1) _ (Same.refl _) (NumV.of (x:=(((pwR p.toNat x.1.toNat (p.toNat - 2):Nat):Int),1)) hp0) (Zr5 hp1 ix (by omega) (by omega) h1)
theorem Zob {H:Hp} {t u:Addr} {a b c d:Int} {Q:VK} (neg:Bool) (ht:H t = some (.tup [.int a,.int b])) (hu:H u = some (.tup [.int c,.int d])) (q:Q (.bl (if neg then !(decide (a = c) && decide (b = d)) else (decide (a = c) && decide (b = d)))) H):Zv8 K neg (.ref t) (.ref u) H Q:=by
 have e:∀ i j:Int,eqV (.int i) (.int j) = decide (i = j):=λi j=>by simp [eqV,Bool.beq_eq_decide_eq]
 refine Zg0 t u _ _ [decide (a = c),decide (b = d)] ⟨rfl,rfl,SqT.of ht,SqT.of hu,⟨rfl,rfl,λj x y z e1 e2 e3=>?_⟩,?_⟩
 .match j,e1,e2,e3 with
  | 0,e1,e2,e3=>
   cases e1; cases e2; cases e3;have:=EqD.flat (K:=K) (H:=H) (n:=6) (x:=.int a) (y:=.int c) rfl rfl;rw [e] at this;exact this
  | 1,e1,e2,e3=>
   cases e1; cases e2; cases e3;have:=EqD.flat (K:=K) (H:=H) (n:=6) (x:=.int b) (y:=.int d) rfl rfl;rw [e] at this;exact this
  | j + 2,e1,e2,e3=>cases e1
 .simpa using q
theorem num_neD {H:Hp} {p:Int} {v u:V} {x y:Nv} {Q:VK} (h:NumV H p v x) (h':NumV H p u y) (hx:Isn p x) (hy:Isn p y) (q:Q (.bl (decide (x ≠ y))) H):rNeN K v u H Q:=by
 by_cases hp:p = 0
 .refine Zad (h.ref hp) λt e91 ht=>?_;obtain rfl:=e91;refine Zad (h'.ref hp) λt' e92 ht'=>?_;obtain rfl:=e92;refine .inr (Zob true ht ht' ?_);have:(if true = true then !(decide (x.1 = y.1) && decide (x.2 = y.2)) else (decide (x.1 = y.1) && decide (x.2 = y.2))) = decide (x ≠ y):=by
   rw [if_pos rfl,<- Jeh,<- decide_not];exact Jct.mpr (not_congr Prod.ext_iff.symm)
  rw [this];exact q
 .obtain rfl:=h.int hp;obtain rfl:=h'.int hp;refine .inl ⟨rfl,?_⟩;have:(!decide (V.int x.1 = V.int y.1)) = decide (x ≠ y):=by
   rw [<- decide_not];have h2:x.2 = y.2:=by
    rcases hx with ⟨z,_⟩ | ⟨_,_,_,h1⟩
    .exact absurd z hp
    .rcases hy with ⟨z,_⟩ | ⟨_,_,_,h2⟩
     .exact absurd z hp
     .rw [h1,h2]
   refine Jct.mpr (not_congr ?_);rw [Prod.ext_iff,V.int.injEq];exact ⟨λh=>⟨h,h2⟩,λh=>h.1⟩
  rw [this];exact q
def lb (p:Int) (k c:Nat):Nat:=if p = 0 then (k + 1) * 4 ^ c - 1 else 7
structure RowsV (H:Hp) (p:Int) (b n wd:Nat) (r:Addr) (rs:List Addr) (M:Mv):Prop where
 lst:H r = some (.lst (rs.map V.ref))
 row:All2 (RowV H p) rs M
 nin:r ∉ rs
 hl:M.length = n
 hw:∀ xs ∈ M,xs.length = wd
 gd:∀ xs ∈ M,Zco p b xs
theorem RowsV.same {H H':Hp} {p:Int} {b n wd:Nat} {r:Addr} {rs:List Addr} {M:Mv} (h:RowsV H p b n wd r rs M) (s:Same H H'):RowsV H' p b n wd r rs M:=⟨s _ _ h.lst,h.row.mono λ_ _ k=>k.same s,h.nin,h.hl,h.hw,h.gd⟩
theorem RowsV.at {H:Hp} {p:Int} {b n wd:Nat} {r:Addr} {rs:List Addr} {M:Mv} (h:RowsV H p b n wd r rs M) {i c:Nat} (hi:i < n) (hc:c < wd):∃ (a:Addr) (vs:List V) (v:V),rs[i]? = some a/\a ≠ r/\H a = some (.lst vs)/\vs.length = wd/\All2 (NumV H p) vs (M.getD i [])/\vs[c]? = some v/\NumV H p v ((M.getD i []).getD c (0,1))/\Isn p ((M.getD i []).getD c (0,1))/\BtN b ((M.getD i []).getD c (0,1)):=by
 have hl:=h.hl;have e:M[i]? = some (M.getD i []):=by rw [Zbe (by omega)]; exact Jaa _
 refine Zad (h.row.at e) λa ea e93=>?_;obtain ⟨vs,hv,al⟩:=e93;have hm:M.getD i [] ∈ M:=Jad e;have wl:=h.hw _ hm;have vl:=al.1;have ec:(M.getD i [])[c]? = some ((M.getD i []).getD c (0,1)):=by rw [Zbe (show c < (M.getD i []).length by omega)]; exact Jaa _
 refine Zad (al.at ec) λv ev nv=>?_;have g:=h.gd _ hm _ (Jad ec);exact Zby a vs v ⟨ea,λz=>h.nin (z ▸ Jad ea),hv,by omega,al,ev,nv,g.1,g.2⟩
theorem RowsV.set {H:Hp} {p:Int} {b n wd:Nat} {r:Addr} {rs:List Addr} {M:Mv} (h:RowsV H p b n wd r rs M) {k:Nat} {a:Addr} {xs:List Nv} (hk:k < n) (ha:RowV H p a xs) (hr:a ≠ r) (hx:xs.length = wd) {b':Nat} (hb:∀ ys ∈ M.set k xs,Zco p b' ys):RowsV (upd H r (.lst ((rs.set k a).map V.ref))) p b' n wd r (rs.set k a) (M.set k xs):=by
 refine ⟨Zac,(h.row.set k ha).monoM λc ys hc q=>q.put h.lst (λz=>?_),λz=>?_,by rw [Jcd]; exact h.hl,λys hy=>?_,hb⟩
 .rcases Jbx hc with h1 | h1
  .exact h.nin (z ▸ h1)
  .exact hr (h1 ▸ z)
 .rcases Jbx z with h1 | h1
  .exact h.nin h1
  .exact hr h1.symm
 .rcases Jbx hy with h1 | h1
  .exact h.hw ys h1
  .rw [h1]; exact hx
theorem cut2 {A B X:TS} {D:Ends} {σ:L2.St} {H:Hp} (h:∀ X',X' = X->Zmo A (Zmo B X') D σ H):Zmo A (Zmo B X) D σ H:=h X rfl
theorem Zhj {p:Int} {k c:Nat} (h7:7<=k):(p = 0->4 * lb p k c + 2<=lb p k (c + 1))/\7<=lb p k c/\lb p k c<=lb p k (c + 1):=by
 unfold lb;by_cases h:p = 0
 .rw [if_pos h,if_pos h,Jeo,<- Nat.mul_assoc];have:(k + 1) * 1<=(k + 1) * 4 ^ c:=Jca (Jaf _) (Nat.pos_of_ne_zero (by simp));exact ⟨λ_=>by omega,by omega,by omega⟩
 .rw [if_neg h,if_neg h];exact ⟨λz=>absurd z h,Jaf _,Jaf _⟩
theorem lb_mono {p:Int} {k c d:Nat} (h7:7<=k) (h:c<=d):lb p k c<=lb p k d:=by
 induction d with
 | zero=>rw [show c = 0 by omega]; exact Jaf _
 | succ d ih=>
  by_cases e:c = d + 1
  .rw [e]; exact Jaf _
  .exact Jav (ih (by omega)) (Zhj h7).2.2
theorem Zoo {p:Int} {b:Nat} {xs:List Nv} (h0:p ≠ 0) (p97:p<=97) (h7:7<=b) (h:∀ x ∈ xs,Isn p x):Zco p b xs:=λx hx=>⟨h x hx,(Zjk h0 p97 (h x hx)).le h7⟩
theorem isn_ne {p:Int} {x:Nv} (hx:Isn p x) (h:x ≠ (0,1)):x.1 ≠ 0:=λz=>by
 refine h (Prod.ext z ?_);rcases hx with ⟨_,h1,h2⟩ | ⟨_,_,_,h1⟩
 .rw [z] at h2;simp [Int.gcd] at h2;show x.2 = 1;omega
 .exact h1
abbrev Zug (p:Int) (l:Nv) (row lead:List Nv):List Nv:=(List.range row.length).map λj=>Zey p (row.getD j (0,1)) (Zbk p l (lead.getD j (0,1)))
theorem plus_fd {p:Int} {F:Type} [Lean.Grind.Field F] (hp:GroundP p) (hF:FdOk p F) {l:Nv} {row lead:List Nv} (hl:Isn p l) (he:row.length = lead.length) (hr:∀ x ∈ row,Isn p x) (hd:∀ x ∈ lead,Isn p x) (j:Nat):(vN (Zug p l row lead) j:F) = vN row j + nm l * vN lead j:=by
 by_cases h:j < row.length
 .unfold vN;rw [Jac,Jah,Jch h];have h1:=hr _ (Za7 (d:=(0,1)) h);have h2:=hd _ (Za7 (d:=(0,1)) (show j < lead.length by omega));show (nm (Zey p (row.getD j (0,1)) (Zbk p l (lead.getD j (0,1)))):F) = _;rw [hF.plus h1 (Zbw hp.lo hl h2),hF.times hl h2]
 .rw [Zp3 (by rw [Jab,Ja4]; omega),Zp3 (by omega),Zp3 (by omega)]
  grind
theorem Zsb {p:Int} (hp:GroundP p):Bt 7 (Zhl p (-1)).1:=by
 unfold Zhl;split
 .exact Za8 (Jaf _) (by decide)
 .have h1:=Jbi (-1) (show p ≠ 0 by assumption);have h2:=Ja7 (-1) (show 0 < p by have:=hp.lo; omega);have h3:=hp.hi;exact Za8 (Jaf _) (by show (-1 % p).natAbs < 128; omega)
theorem Zsa {p:Int} (hp:GroundP p):Bt 7 (Zhl p (-1)).2:=by
 unfold Zhl;split
 .exact Za8 (Jaf _) (by decide)
 .exact Za8 (Jaf _) (show (1:Int).natAbs < 128 by decide)
theorem lb_lim {p:Int} {k c wd:Nat} (h7:7<=k) (hc:c + 1<=wd) (kb:p = 0->(k + 1) * 4 ^ wd<=134000000):4 * lb p k c + 2<=134000000:=by
 have h1:=(Zhj (p:=p) (c:=c) h7).1;have h2:=lb_mono (p:=p) h7 hc;by_cases h0:p = 0
 .have h3:lb p k wd<=134000000:=by
   unfold lb;rw [if_pos h0];have:=kb h0;omega
  have:=h1 h0;omega
 .unfold lb;rw [if_neg h0];decide
end
end Pf
namespace Pf
open PySem L2 L3 PyProof.Rows
section
variable {p:Int} {F:Type} [Lean.Grind.Field F]
structure EcF (F:Type) [Lean.Grind.Field F] (n c:Nat) (M0 M:Mv) (pl:List Nat):Prop where
 ml:M.length = n
 dl:pl.length<=n
 asc:∀ i j,i < j->j < pl.length->pl.getD i 0 < pl.getD j 0
 lt:∀ i,i < pl.length->pl.getD i 0 < c
 pv:∀ i,i < pl.length->(vN (M.getD i []) (pl.getD i 0):F) ≠ 0
 low:∀ i j,i < pl.length->j < pl.getD i 0->(vN (M.getD i []) j:F) = 0
 zer:∀ i j,pl.length<=i->i < n->j < c->(vN (M.getD i []) j:F) = 0
 sp:SpEq (F:=F) (M.map vN) (M0.map vN)
theorem EcF.start {n:Nat} {M:Mv} (h:M.length = n):EcF F n 0 M M []:=
 ⟨h,Jb2 _,λi j _ h=>by simp at h,λi h=>by simp at h,λi h=>by simp at h,λi j h=>by simp at h,λi j _ _ h=>by omega,SpEq.refl _⟩
theorem EcF.skip {n c:Nat} {M0 M:Mv} {pl:List Nat} (h:EcF F n c M0 M pl) (hz:∀ i,pl.length<=i->i < n->(vN (M.getD i []) c:F) = 0):EcF F n (c + 1) M0 M pl:=
 ⟨h.ml,h.dl,h.asc,λi hi=>Jcg (h.lt i hi),h.pv,h.low,λi j h1 h2 h3=>by
  by_cases e:j = c
  .subst e; exact hz i h1 h2
  .exact h.zer i j h1 h2 (by omega),h.sp⟩
structure EcG (F:Type) [Lean.Grind.Field F] (n c k:Nat) (M0 M:Mv) (pl:List Nat):Prop where
 old:EcF F n c M0 M pl
 dn:pl.length < n
 pc:(vN (M.getD pl.length []) c:F) ≠ 0
 cl:∀ i,pl.length < i->i < k->i < n->(vN (M.getD i []) c:F) = 0
theorem EcF.lead {n c s:Nat} {M0 M M':Mv} {pl:List Nat} (h:EcF F n c M0 M pl) (hs:pl.length<=s) (hsn:s < n) (ha:(vN (M.getD s []) c:F) ≠ 0) (hl:M'.length = n)
  (h1:∀ i,i < pl.length->M'.getD i [] = M.getD i []) (h2:M'.getD pl.length [] = M.getD s []) (h3:∀ i,pl.length<=i->i < n->∃ j,pl.length<=j/\j < n/\M'.getD i [] = M.getD j []) (h4:∀ x,x ∈ M' ↔ x ∈ M):EcG F n c (pl.length + 1) M0 M' pl:=by
 refine ⟨⟨hl,h.dl,h.asc,h.lt,λi hi=>by rw [h1 i hi]; exact h.pv i hi,λi j hi hj=>by rw [h1 i hi]; exact h.low i j hi hj,λi j a b d=>?_,?_⟩,by omega,by rw [h2]; exact ha,λi a b=>by omega⟩
 .refine Zav (h3 i a b) λk k1 k2 e=>?_;rw [e];exact h.zer k j k1 k2 d
 .refine (SpEq.mems λv=>?_).trans h.sp;rw [Ja3,Ja3];exact ⟨λ⟨x,a,b⟩=>⟨x,(h4 x).mp a,b⟩,λ⟨x,a,b⟩=>⟨x,(h4 x).mpr a,b⟩⟩
theorem EcG.skip {n c k:Nat} {M0 M:Mv} {pl:List Nat} (h:EcG F n c k M0 M pl) (hz:pl.length < k->k < n->(vN (M.getD k []) c:F) = 0):EcG F n c (k + 1) M0 M pl:=
 ⟨h.old,h.dn,h.pc,λi a b d=>by
  by_cases e:i = k
  .subst e; exact hz a d
  .exact h.cl i a (by omega) d⟩
theorem EcG.take {n c k:Nat} {M0 M:Mv} {pl:List Nat} {row:List Nv} {b:F} (h:EcG F n c k M0 M pl) (hk:k < n) (hd:pl.length < k) (e1:∀ j,(vN row j:F) = vN (M.getD k []) j + b * vN (M.getD pl.length []) j) (e2:(vN row c:F) = 0):EcG F n c (k + 1) M0 (M.set k row) pl:=by
 have ml:=h.old.ml;have at_:∀ i,(M.set k row).getD i [] = if i = k then row else M.getD i []:=λi=>Zqv (by omega)
 have ne:∀ i,i ≠ k->(M.set k row).getD i [] = M.getD i []:=λi hi=>by rw [at_,if_neg hi]
 refine ⟨⟨by rw [Jcd]; exact ml,h.old.dl,h.old.asc,h.old.lt,λi hi=>by rw [ne i (by omega)]; exact h.old.pv i hi,λi j hi hj=>by rw [ne i (by omega)]; exact h.old.low i j hi hj,λi j a bn d=>?_,?_⟩,h.dn,by rw [ne _ (by omega)]; exact h.pc,λi a d en=>?_⟩
 .by_cases e:i = k
  .rw [at_,if_pos e,e1 j,<- e,h.old.zer i j a bn d,h.old.zer _ j (Jaf _) h.dn d]
   grind
  .rw [ne i e]; exact h.old.zer i j a bn d
 .refine (Zqg (L:=M.map vN) (k:=k) (d:=pl.length) (b:=b) (by rw [Jab,Jab,Jcd]) (by rw [Jab]; omega) (by rw [Jab]; omega) (by omega) (λi hi hne=>?_) (λj=>?_)).trans h.old.sp
  .rw [Jab] at hi;rw [Zjr (by rw [Jcd]; omega),Zjr hi,ne i hne]
  .rw [Zjr (by rw [Jcd]; omega),Zjr (by omega),Zjr (by have:=h.dn; omega),at_,if_pos rfl,e1 j]
 .by_cases e:i = k
  .rw [at_,if_pos e]; exact e2
  .rw [ne i e]; exact h.cl i a (by omega) en
theorem EcG.next {n c:Nat} {M0 M:Mv} {pl:List Nat} (h:EcG F n c n M0 M pl):EcF F n (c + 1) M0 M (pl ++ [c]):=by
 have ll:(pl ++ [c]).length = pl.length + 1:=by rw [Jae]; rfl
 have gl:∀ {i},i < pl.length->(pl ++ [c]).getD i 0 = pl.getD i 0:=λ{i} hi=>by rw [Jac,Jar hi,Jac]
 have gd:(pl ++ [c]).getD pl.length 0 = c:=by rw [Jac,Jao (Jaf _),Nat.sub_self]; rfl
 have dn:=h.dn;refine ⟨h.old.ml,by rw [ll]; omega,λi j hij hj=>?_,λi hi=>?_,λi hi=>?_,λi j hi hj=>?_,λi j a b d=>?_,h.old.sp⟩
 .rw [ll] at hj;by_cases e:j < pl.length
  .rw [gl e,gl (by omega)]; exact h.old.asc i j hij e
  .rw [show j = pl.length by omega,gd,gl (by omega)]; exact h.old.lt i (by omega)
 .rw [ll] at hi;by_cases e:i < pl.length
  .rw [gl e]; exact Jcg (h.old.lt i e)
  .rw [show i = pl.length by omega,gd]; omega
 .rw [ll] at hi;by_cases e:i < pl.length
  .rw [gl e]; exact h.old.pv i e
  .rw [show i = pl.length by omega,gd]; exact h.pc
 .rw [ll] at hi;by_cases e:i < pl.length
  .rw [gl e] at hj; exact h.old.low i j e hj
  .rw [show i = pl.length by omega,gd] at hj;rw [show i = pl.length by omega];exact h.old.zer _ j (Jaf _) dn hj
 .rw [ll] at a;by_cases e:j = c
  .subst e; exact h.cl i (by omega) b b
  .exact h.old.zer i j (by omega) b (by omega)
theorem EcF.rk {n wd:Nat} {M0 M:Mv} {pl:List Nat} (h:EcF F n wd M0 M pl) (h0:M0.length = n):Rk (λi j=>(vN (M0.getD i []) j:F)) n wd pl.length:=by
 have ml:=h.ml;have dl:=h.dl;have ec:Ec (M.map (vN (F:=F))) wd pl.length (λi=>pl.getD i 0):=by
  refine ⟨by rw [Jab]; omega,h.lt,λi k a b=>h.asc i k a b,λi hi=>?_,λi j hi hj=>?_,λi j a b d=>?_⟩
  .rw [Zjr (by omega)]; exact h.pv i hi
  .rw [Zjr (by omega)]; exact h.low i j hi hj
  .rw [Jab] at b;rw [Zjr b]; exact h.zer i j a (by omega) d
 have r:=ec.rk h.sp.symm;rw [Jab,h0] at r;exact r.congr λi j hi hj=>by rw [Zjr (by omega)]
end
theorem up_at {α:Type} {d:α} {M:List α} {k s:Nat} (h1:k<=s) (h2:s < M.length) (i:Nat):(M.take k ++ [M.getD s d] ++ (M.take s).drop k ++ M.drop (s + 1)).getD i d = if i < k then M.getD i d else if i = k then M.getD s d else if i<=s then M.getD (i - 1) d else M.getD i d:=by
 have l1:(M.take k).length = k:=by rw [Jbb]; omega
 have l2:((M.take s).drop k).length = s - k:=by rw [Jb0,Jbb]; omega
 rw [Jac];by_cases a:i < k
 .rw [if_pos a,Jbw,Jbw,Jar (by omega),Jck a,Jac]
 .rw [if_neg a];by_cases b:i = k
  .rw [if_pos b,Jbw,Jbw,Jao (by omega),l1,b,Nat.sub_self];rfl
  .rw [if_neg b];by_cases c:i<=s
   .rw [if_pos c,Jbw,Jao (by rw [Jae,l1]; simp; omega),Jar (by rw [l2,Jae,l1]; simp; omega),Jdv,Jae,l1,Jck (by simp; omega)];simp only [Jbq,Jcj];rw [show k + (i - (k + (0 + 1))) = i - 1 by omega,Jac]
   .rw [if_neg c,Jao (by rw [Jae,Jae,l1,l2]; simp; omega),Jdv,Jae,Jae,l1,l2];simp only [Jbq,Jcj];rw [show s + 1 + (i - (k + (0 + 1) + (s - k))) = i by omega,Jac]
theorem Zv1 {α:Type} {x:α} {M:List α} {k s:Nat} (h1:k<=s) (h2:s < M.length):(M.take k ++ [x] ++ (M.take s).drop k ++ M.drop (s + 1)).length = M.length:=by
 simp only [Jae,Jbb,Jb0,Jbq,Jcj];omega
theorem Zlc {α:Type} {d:α} {M:List α} {k s:Nat} (h1:k<=s) (h2:s < M.length) (x:α):x ∈ M.take k ++ [M.getD s d] ++ (M.take s).drop k ++ M.drop (s + 1) ↔ x ∈ M:=by
 have e:M = M.take k ++ (M.take s).drop k ++ [M.getD s d] ++ M.drop (s + 1):=by
  have a:M.take k = (M.take s).take k:=by rw [List.take_take,Nat.min_eq_left h1]
  rw [a,Jdi];have b:M.drop s = M.getD s d :: M.drop (s + 1):=by rw [List.drop_eq_getElem_cons h2,Zbe h2]
  rw [Jbw,List.singleton_append,<- b,Jdi]
 conv=>rhs; rw [e]
 simp only [Jai];exact ⟨λh=>h.elim (λh=>h.elim (λh=>h.elim (λh=>.inl (.inl (.inl h))) λh=>.inl (.inr h)) λh=>.inl (.inl (.inr h))) .inr,λh=>h.elim (λh=>h.elim (λh=>h.elim (λh=>.inl (.inl (.inl h))) λh=>.inl (.inr h)) λh=>.inl (.inl (.inr h))) .inr⟩
end Pf
namespace Pf
open PySem L2 L3 PyProof.Rows
section
variable {P:Program} {w:World} {K:PySem.W.Frag} {mg:Str->Option Value} {base:Heap} {G PL cL:Addr}
theorem Zo7 {a D:Addr} {p:Int} {fr:List (Str × Nat)} {σ:L2.St} {te:TE} {H1:Hp} {Q:VK} {as:List Addr} {M:Mv} (f:List Nv->List Nv) (ha:H1 a = some (.lst (as.map V.ref))) (rv:All2 (RowV H1 p) as M) (hD:H1 D = none) (hn:as.length<=1000)
  (h:∀ (b:Addr) xs H (Q:VK),xs ∈ M->RowV H p b xs->Same H1 H->(∀ c H',H c = none->Same H H'->RowV H' p c (f xs)->Q (.ref c) H')->te (some (.ref b) :: Zb8 fr σ) H Q)
  (hQ:∀ (rs:List Addr) H',Same H1 H'->H' D = some (.lst (rs.map V.ref))->All2 (RowV H' p) rs (M.map f)->D ∉ rs->(∀ b ∈ rs,H1 b = none)->Q (.ref D) H'):Zb9 (Zbi 0) Zgj te (Itl K a) D (Zh8 1 fr σ) H1 Q:=by
 refine Zil (λi Hc y=>∃ b,y = .ref b/\RowV Hc p b ((M.map f).getD i [])/\b ≠ D/\H1 b = none) (λ⟨a,e,b,c⟩ s=>⟨a,e,b.same s,c⟩) (λ⟨a,e,b,c,d⟩ hD=>⟨a,e,b.put hD c,c,d⟩) ha hD (by rw [Jab]; exact hn) (λi x H' Q' hx s' ⟨lD,hlD⟩ q'=>?_) (λys H' s' h' hyl hys=>?_)
 .refine Zad ((Zjl rv).at' hx) λxs er e91=>?_;obtain ⟨b,rfl,rb⟩:=e91;refine h b xs H' Q' (Jad er) (rb.same s') s' λc H2 hc s2 rc=>q' _ H2 s2 ⟨c,rfl,?_,(Zag hlD hc).symm,s'.free hc⟩;rw [Zat (show _ = some _ by rw [Jah,er]; rfl)];exact rc
 .rw [Jab] at hyl;obtain ⟨rs',rfl,a2,nD,fr⟩:=rows_of (D:=D) (H1:=H1) (p:=p) (M:=M.map f) (by rw [Jab,<- rv.1]; exact hyl) hys;exact hQ rs' H' s' h' a2 nD fr
theorem Zt4 {α:Type} {R:Nat->α->Prop} {ws:List α} {v:α} (h:∀ (j:Nat) u,ws[j]? = some u->R j u) (hv:R ws.length v):∀ (j:Nat) u,(ws ++ [v])[j]? = some u->R j u:=λj u e=>by
 by_cases hj:j < ws.length
 .rw [Jar hj] at e;exact h j u e
 .rw [Jao (by omega)] at e;by_cases z:j - ws.length = 0
  .rw [z] at e;cases e;rw [show j = ws.length by omega];exact hv
  .rw [Jal (by simp; omega)] at e; cases e
def spSum:L2.Sp:=λvs H Q _=>∃ (p:Int) (a b:Addr) (vl:V) (l:Nv) (xs ys:List Nv) (n m o:Nat),vs = [.int p,.ref a,vl,.ref b]/\GroundP p/\RowV H p a xs/\RowV H p b ys/\NumV H p vl l/\Isn p l/\BtN m l/\Zco p n xs/\Zco p o ys/\xs.length = ys.length/\xs.length<=900/\7<=o/\n + (m + o)<=134000000 /\
 ∀ (D:Addr) H',Same H H'->H D = none->RowV H' p D (Zug p l xs ys)->Q (.ref D) H'
theorem ok_rsum {f:Addr} {fd:FuncData} (F:Fun K "_law_row_sum" "_law_row_sum" Zd7 f fd) (T:Txt K mg C G S) (C_law_plus:Cal P w K mg base "_law_plus" 3 (Zki Zey)) (C_law_times:Cal P w K mg base "_law_times" 3 (Zki Zbk)):FnOk P w K mg base CX0 4 f fd ["_law_p","_law_one","_law_often","_law_other"] spSum:=by
 have nd:=Zfr.nd;refine F.ok Zfr (λvs H Q E h=>?_) (λcdv A outer s H vs Q E hr h=>?_)
 .refine xE10_2 h λp a b vl l xs ys n m o e98 _=>?_;clear h;obtain rfl:=e98;rfl
 .refine Zp0 h λp a b vl l xs ys n m o e99 hp e910 e911=>?_;clear h;obtain rfl:=e99;obtain ⟨vs,ha,av⟩:=e910;refine xE0_11 e911 λe912 nl il bl gx gy hl h9 o7 lim q=>?_;clear e911;obtain ⟨us,hb,bv⟩:=e912;refine ⟨_,((Zak (i:=4) nd rfl (Or.inl rfl) (@Zbm _ _ _ _ Zaa))<*>((Zbh Jan rfl (Zdt rfl T.n_range ((Za3 Zaq rfl T.n_len Ja8 ((pv 1)<&>Zaa))<&>Zaa)) (@Zae _ _ 5 _ nd rfl (Or.inl rfl) (Or.inl rfl)) (@Zal _ _ _ (Zb2 (Zez Jax Jay Jaz (mtJ Zba) (pvr 4) ((Za6 C_law_plus hr.m rfl ((pvr 0)<&>(((ixJ Zaj)<|>(pvr 1)<||>(pvr 5))<&>((Za6 C_law_times hr.m rfl ((pvr 0)<&>((pvr 2)<&>(((ixJ Zaj)<|>(pvr 3)<||>(pvr 5))<&>Zaa))))<&>Zaa))))<&>Zaa)))))<*>(~~~(pvr 4)))),?_⟩;walk_at "wp";refine ⟨by decide,λD hD=>?_⟩;have s0:=Same.new (o:=.lst []) hD;have vl':vs.length = xs.length:=av.1;have ul:us.length = xs.length:=bv.1.trans hl.symm;have v9:vs.length<=900:=by omega
  refine ⟨_,rfl,a,rfl,_,.inl (SqL.of (s0 _ _ ha)),(vs.length:Int),rfl,Zu9 _,Zvf (Jav v9 (by decide)),Za2 (n:=vs.length) (λi σ H2=>∃ (v5:Option V) (ws:List V),σ = [some (.int p),some (.ref a),some vl,some (.ref b),some (.ref D),v5]/\Same H H2/\H2 D = some (.lst ws)/\ws.length = i/\∀ (j:Nat) v,ws[j]? = some v->NumV H2 p v (Zey p (xs.getD j (0,1)) (Zbk p l (ys.getD j (0,1)))))
   ⟨none,[],rfl,s0,Zac,rfl,λj v e=>by simp at e⟩ ?_ ?_⟩
  .intro i σ H2 hi e91;refine Zic e91 λv5 ws e913 s2 e2 wl hws=>?_;clear e91;obtain rfl:=e913;obtain ⟨va,ea⟩:∃ va,vs[i]? = some va:=⟨_,Jaa hi⟩
   refine Zad (av.at' ea) λx ex nx=>?_;obtain ⟨y,ey⟩:∃ y,ys[i]? = some y:=⟨_,Jaa (by omega)⟩
   refine Zad (bv.at ey) λvb eb ny=>?_;obtain ⟨ix,bx⟩:=gx x (Jad ex);obtain ⟨iy,by'⟩:=gy y (Jad ey);have hD9:ws.length<=900:=by omega
   walk_at "wp";have ei:(0:Int) + (i:Int) = (i:Int):=Jc3 _;rw [ei];refine ⟨.inl ⟨rfl,_,SqL.of e2⟩,_,SqL.of (s2 _ _ ha),va,Zd4 ea,_,SqL.of (s2 _ _ hb),vb,Zd4 eb,p,vl,vb,l,y,rfl,hp,⟨nl.same s2,ny.same s2,il,iy,m,o,bl.1,bl.2,by'.1,by'.2,by omega⟩,λv3 H3 s3 n3=>?_⟩;have bt:=Zjj hp il iy bl by' (by omega)
   refine Zg0 p va v3 x _ ⟨rfl,hp,⟨nx.same (s2.trans s3),n3,ix,Zbw hp.lo il iy,n,m + o,bx.1,bx.2,bt.1,bt.2,lim⟩,λv4 H4 s4 n4=>?_⟩;have s34:=s3.trans s4;have e4:=s34 _ _ e2;refine ⟨_,e4,Zap (by omega),?_⟩;refine ⟨(s2.trans s34).upd hD,_,Zac,by rw [Jae,wl]; rfl,Zt4 (λj u e=>((hws j u e).same s34).put e4) ?_⟩;rw [wl,Zat ex,Zat ey];exact n4.put e4
  .intro σ H2 e92;refine Zic e92 λv5 ws e914 s2 e2 wl hws=>?_;clear e92;obtain rfl:=e914;refine q D H2 s2 hD ⟨ws,e2,by rw [Jab,Ja4]; omega,λj v x e1 e3=>?_⟩;have hj:j < xs.length:=by have:=(Jag.mp e1).1; omega
   have h1:=hws j v e1;rw [Jah,Jch hj] at e3;cases e3;exact h1
theorem Zuf {p:Int} {b:Nat} (hp:GroundP p) (h7:7<=b) {l:Nv} {row lead:List Nv} (hl:Isn p l) (bl:BtN (2 * b + 1) l) (he:row.length = lead.length) (hr:Zco p b row) (hd:Zco p b lead):Zco p (4 * b + 2) (Zug p l row lead):=λx hx=>by
 refine Zad (Ja3.mp hx) λj hj e915=>?_;obtain rfl:=e915;have hj:=Jbc.mp hj;obtain ⟨i1,b1⟩:=hr _ (Za7 (d:=(0,1)) hj);obtain ⟨i2,b2⟩:=hd _ (Za7 (d:=(0,1)) (show j < lead.length by omega));have t1:=Zjj hp hl i2 bl b2 (by omega);have t2:=Zoy hp i1 (Zbw hp.lo hl i2) b1 t1 h7;exact ⟨Zij hp.lo i1 (Zbw hp.lo hl i2),BtN.le t2 (by omega)⟩
theorem num_eqB {H:Hp} {p:Int} {v u:V} {x y:Nv} {Q:VK} (h:NumV H p v x) (h':NumV H p u y) (hx:Isn p x) (hy:Isn p y) (q:Q (.bl (decide (x = y))) H):rEqN K v u H Q:=by
 by_cases hp:p = 0
 .refine Zad (h.ref hp) λt e916 ht=>?_;obtain rfl:=e916;refine Zad (h'.ref hp) λt' e917 ht'=>?_;obtain rfl:=e917;refine .inr (Zob false ht ht' ?_);have:(if false = true then !(decide (x.1 = y.1) && decide (x.2 = y.2)) else (decide (x.1 = y.1) && decide (x.2 = y.2))) = decide (x = y):=by
   rw [if_neg (by decide),<- Jeh];exact Jct.mpr Prod.ext_iff.symm
  rw [this];exact q
 .obtain rfl:=h.int hp;obtain rfl:=h'.int hp;refine .inl ⟨rfl,?_⟩;have:decide (V.int x.1 = V.int y.1) = decide (x = y):=by
   have h2:x.2 = y.2:=by
    rcases hx with ⟨z,_⟩ | ⟨_,_,_,h1⟩
    .exact absurd z hp
    .rcases hy with ⟨z,_⟩ | ⟨_,_,_,h2⟩
     .exact absurd z hp
     .rw [h1,h2]
   refine Jct.mpr ?_;rw [Prod.ext_iff,V.int.injEq];exact ⟨λh=>⟨h,h2⟩,λh=>h.1⟩
  rw [this];exact q
theorem Zd0 {p:Int}:Zhl p 0 = (0,1):=by
 unfold Zhl;split
 .rfl
 .rw [Int.zero_emod]
theorem cut_mid (xs:List V) (a b:Int) (h0:0<=a) (h1:a<=b) (h2:b<=xs.length):Zew xs (some a) (some b) = (xs.take b.toNat).drop a.toNat:=by
 unfold Zew HT.sIx;have e1:¬ a < 0:=by omega
 have e2:¬ b < 0:=by omega
 have e3:min a.toNat xs.length = a.toNat:=by omega
 have e4:min b.toNat xs.length = b.toNat:=by omega
 simp only [e1,e2,Jex,e3,e4];rw [List.drop_take]
theorem cut_up {rs:List Addr} {k s:Nat} {a:Addr} (h1:k<=s) (h2:s < rs.length):Zew (rs.map V.ref) none (some (k:Int)) ++ [V.ref a] ++ Zew (rs.map V.ref) (some (k:Int)) (some (s:Int)) ++ Zew (rs.map V.ref) (some ((s:Int) + 1)) none = (rs.take k ++ [a] ++ (rs.take s).drop k ++ rs.drop (s + 1)).map V.ref:=by
 rw [Zst _ _ (by omega) (by rw [Jab]; omega),cut_mid _ _ _ (by omega) (by omega) (by rw [Jab]; omega),Zsu _ _ (by omega) (by rw [Jab]; omega)];simp only [Ja1,List.map_take,List.map_drop,Jew,List.map_nil,Jba,show ((s:Int) + 1).toNat = s + 1 by omega]
theorem Zch {p:Int} (hp:GroundP p):Isn p (0,1):=by
 rw [<- Zd0 (p:=p)];exact Zcm hp.lo
theorem btN_neg {p:Int} {y:Nv} {n:Nat} (hp:GroundP p) (hy:Isn p y) (h:BtN n y) (h7:7<=n):BtN n (Zbk p y (Zhl p (-1))):=by
 by_cases h0:p = 0
 .unfold Zbk Zhl;rw [if_pos h0,if_pos h0];refine Zk8 ?_ ?_
  .show Bt n (y.1 * -1);rw [Int.mul_neg,Jev];exact h.1.neg
  .show Bt n (y.2 * 1);rw [Jev];exact h.2
 .exact (Zjk h0 hp.hi (Zbw hp.lo hy (Zcm hp.lo))).le h7
def RkI (H:Hp) (p:Int) (r:Addr) (k n wd:Nat) (M:Mv) (c:Nat) (σ:L2.St) (H3:Hp):Prop:=∃ (v5 v6 v7 v8 v9 v10:Option V) (r1:Addr) (rs1:List Addr) (M1:Mv) (pl:List Nat),σ = [some (.int p),some (.ref r),some (.int wd),some (.ref r1),some (.int (pl.length:Nat)),v5,v6,v7,v8,v9,v10]/\Same H H3/\RowsV H3 p (lb p k c) n wd r1 rs1 M1/\H r1 = none/\(∀ a ∈ rs1,H a = none)/\∀ (F:Type) [Lean.Grind.Field F],FdOk p F->EcF F n c M M1 pl
def spLrk:L2.Sp:=λvs H Q _=>∃ (p:Int) (r:Addr) (rs:List Addr) (k n wd:Nat) (M:Mv),vs = [.int p,.ref r,.int wd]/\GroundP p/\RowsV H p k n wd r rs M/\7<=k/\n<=400/\wd<=200/\(p = 0->(k + 1) * 4 ^ wd<=134000000) /\
 ∀ (rk:Nat) H',Same H H'->IsRk p n wd M rk->Q (.int (rk:Nat)) H'
theorem ok_lrk {f:Addr} {fd:FuncData} (F:Fun K "_law_rank" "_law_rank" Zg3 f fd) (T:Txt K mg C G S) (C_law_whole:Cal P w K mg base "_law_whole" 1 Zqo) (C_law_times:Cal P w K mg base "_law_times" 3 (Zki Zbk)) (C_law_back:Cal P w K mg base "_law_back" 4 Zm0) (C_law_row_sum:Cal P w K mg base "_law_row_sum" 4 spSum):FnOk P w K mg base CX0 5 f fd ["_law_p","_law_rows","_law_wide"] spLrk:=by
 have nd:=Ziq.nd;refine F.ok Ziq (λvs H Q E h=>?_) (λcdv A outer s H vs Q E hr h=>?_)
 .refine Zti h λp r rs k n wd M e918 _=>?_;clear h;obtain rfl:=e918;rfl
 .refine Zmj h λp r rs k n wd M e919 hp R0 e920=>?_;clear h;obtain rfl:=e919;refine Zcv e920 λk7 n2 w2 kb q=>?_;clear e920;refine ⟨_,((Zhf (i:=3) (own:=["_law_row"]) (fr:=[]) rfl (Zcn (by kernel_rfl)) (Zbt (pv 1)) (λ_ _ _ _=>⟨(@Zae _ _ 0 _ (show (["_law_row"]:List Str).Nodup by decide +kernel) rfl (Or.inl rfl) (Or.inr rfl)),Zbb,(Zie (Zen K rfl) rfl T.n_list Jc1 ((pv 0)<&>Zaa))⟩) nd rfl rfl rfl)<*>((Zak (i:=4) nd rfl (Or.inl rfl) Zab)<*>((Zbh Jan rfl (Zdt rfl T.n_range ((pv 2)<&>Zaa)) (@Zae _ _ 5 _ nd rfl (Or.inl rfl) (Or.inl rfl)) ((Zak (i:=6) nd rfl (Or.inl rfl) (pvr 4))<*>((Zc0 Jan (PW.pt (Zln (Zcl Zhg (pv 6) (Za3 Zaq rfl T.n_len Ja8 ((pv 3)<&>Zaa)) (Zam _)) (Zm5 (Zcl (op_eqN (room8 hr)) (Zaj<|>(Zaj<|>(pv 3)<||>(pv 6))<||>(pv 5)) (Za6 C_law_whole hr.m rfl ((pv 0)<&>(Zab<&>Zaa))) (Zam _))))) (@Zal _ _ _ (Zak (i:=6) nd rfl (Or.inl rfl) ((Zj3 Zay)<|>(pvr 6)<&&>Zab))))<*>(@Zal _ _ _ (@Za1 _ _ _ _ _ _ _ _ (Zao Zhg (pvr 6) (Za3 Zaq rfl T.n_len Ja8 ((pvr 3)<&>Zaa)) (Zam _)) ((Zak (i:=7) nd rfl (Or.inl rfl) ((ixJ Zaj)<|>(pvr 3)<||>(pvr 6)))<*>((Zak (i:=3) nd rfl (Or.inl rfl) (Zgu<|>(Zgu<|>(Zgu<|>(@Zdl _ _ _ _ _ _ _ _ _ _ Ze2 (pvr 3) Zgd (@Zef _ _ _ (pvr 4)))<&&>(@Zbm _ _ _ _ ((pvr 7)<&>Zaa)))<&&>(@Zdl _ _ _ _ _ _ _ _ _ _ Ze2 (pvr 3) (@Zef _ _ _ (pvr 4)) (@Zef _ _ _ (pvr 6))))<&&>(@Zdl _ _ _ _ _ _ _ _ _ _ Ze2 (pvr 3) (@Zef _ _ _ ((Zj3 Zay)<|>(pvr 6)<&&>Zab)) Zgd)))<*>((Zak (i:=8) nd rfl (Or.inl rfl) (Za6 C_law_times hr.m rfl ((pvr 0)<&>((Za6 C_law_back hr.m rfl ((pvr 0)<&>(((ixJ Zaj)<|>(pvr 7)<||>(pvr 5))<&>Zaa)))<&>((Za6 C_law_whole hr.m rfl ((pvr 0)<&>((Zjp Zfp Zab)<&>Zaa)))<&>Zaa)))))<*>((Zbh Jan rfl (Zm7 rfl T.n_range ((Zay<|>(pv 4)<&&>Zab)<&>((Za3 Zaq rfl T.n_len Ja8 ((pv 3)<&>Zaa))<&>Zaa))) (@Zae _ _ 9 _ nd rfl (Or.inl rfl) (Or.inl rfl)) ((Zak (i:=10) nd rfl (Or.inl rfl) (Za6 C_law_times hr.m rfl ((pvr 0)<&>((Zaj<|>((ixJ Zaj)<|>(pvr 3)<||>(pvr 9))<||>(pvr 5))<&>((pvr 8)<&>Zaa)))))<*>(@Zal _ _ _ (@Za1 _ _ _ _ _ _ _ _ (Zao (op_neN (room8 hr)) (pvr 10) (Za6 C_law_whole hr.m rfl ((pvr 0)<&>(Zab<&>Zaa))) (Zam _)) (@Zal _ _ _ (Zb3 (Za6 C_law_row_sum hr.m rfl ((pvr 0)<&>(((ixJ Zaj)<|>(pvr 3)<||>(pvr 9))<&>((pvr 10)<&>((pvr 7)<&>Zaa))))) (Zh4 (pvr 3) (pvr 9) Zdj))) Zan))))<*>(@Zal _ _ _ (Zak (i:=4) nd rfl (Or.inl rfl) ((Zj3 Zay)<|>(pvr 4)<&&>Zab))))))) Zan)))))<*>(~~~(pvr 4))))),?_⟩;refine Zd2 λX hX=>?_;walk_at "wp";have rl0:=R0.row.1;have m0:=R0.hl;refine ⟨_,rfl,r,rfl,⟨_,SqL.of R0.lst⟩,λD hD=>Zo7 (λx=>x) R0.lst R0.row hD (by omega) (λb xs H1 Q1 hx ⟨vs,hv,av⟩ s1 q1=>?_) λrs1 H1 s1 e1 rv1 nD f1=>?_⟩
  .exact ⟨_,rfl,b,rfl,vs,.inl (SqL.of hv),λl hl=>q1 l _ hl (Same.new hl) ⟨vs,Zac,av.mono λ_ _ k=>k.same (Same.new hl)⟩⟩
  rw [show M.map (λx=>x) = M from List.map_id' M] at rv1;subst hX;refine Zd2 λX hX=>?_;walk_at "wp";have hwB:∀ xs ∈ M,Zco p (lb p k 0) xs:=λxs hx=>by
   by_cases h0:p = 0
   .have:lb p k 0 = k:=by unfold lb; rw [if_pos h0]; simp
    rw [this];exact R0.gd xs hx
   .exact Zoo h0 hp.hi (Zhj k7).2.1 λx hxx=>(R0.gd xs hx x hxx).1
  subst hX;walk_at "wp";refine ⟨_,rfl,(wd:Int),rfl,Zu9 _,Zvf (Jav w2 (by decide)),Za2 (n:=wd) (λc σ H3=>RkI H p r k n wd M c σ H3)
   ⟨none,none,none,none,none,none,D,rs1,M,[],rfl,s1,⟨e1,rv1,nD,m0,R0.hw,hwB⟩,hD,f1,λF _ hF=>EcF.start m0⟩ ?_ ?_⟩
  .intro c σ H3 hc e93;refine Zp0 e93 λv5 v6 v7 v8 v9 v10 r1 rs3 M3 pl e921 s3 R3 e922=>?_;clear e93;obtain rfl:=e921;refine Za9 e922 λfr3 f3 ec=>?_;clear e922;refine Zpt λD1 hD1=>?_;simp only [Zbi,List.set_cons_zero,List.set_cons_succ];obtain ⟨F0,_,hF0⟩:=Zsn hp;have dl:=(ec F0 hF0).dl;have m3:=R3.hl;have rl3:rs3.length = n:=R3.row.1.trans m3;refine cut2 λX hX=>?_;walk_at "wp";have ec0:(0:Int) + (c:Int) = (c:Int):=Jc3 _;rw [ec0];have aft:∀ (s:Nat) (H4:Hp),Same H3 H4->pl.length<=s->s<=n->(s < n->(M3.getD s []).getD c (0,1) ≠ (0,1))->(∀ i,pl.length<=i->i < s->(M3.getD i []).getD c (0,1) = (0,1))->
     X D1 [some (.int p),some (.ref r),some (.int wd),some (.ref r1),some (.int (pl.length:Nat)),some (.int (c:Nat)),some (.int (s:Nat)),v7,v8,v9,v10] H4:=by
    intro s H4 s4 ps sn hne hz;subst hX;have R4:=R3.same s4;refine cutI λY hY=>?_;walk_at "wp";refine ⟨_,.inl (SqL.of R4.lst),Zbx (λhs=>?_) (λhs=>?_)⟩
    .have hs:s < n:=by have:=Ja0 hs; rw [Jab] at this; omega
     refine Zbj (R4.at (i:=s) (c:=c) hs hc) λa vs v ea na hv e923=>?_;refine Zdd e923 λvl al ev nv is bt=>?_;clear e923;subst hY;refine cut2 λX hX=>?_;walk_at "wp";have lc:∀ lo hi,(Zew (rs3.map V.ref) lo hi).length<=400:=λlo hi=>Jav (Zcr _ lo hi) (by rw [Jab]; omega);refine ⟨_,SqL.of R4.lst,.ref a,Zvv ea,_,SqL.of R4.lst,λq1 hq1=>?_⟩;have t1:=Same.new (o:=.lst (Zew (rs3.map V.ref) none (some (pl.length:Int)))) hq1;have e1:upd H4 q1 (.lst (Zew (rs3.map V.ref) none (some (pl.length:Int)))) q1 = some _:=Zac;generalize upd H4 q1 (.lst (Zew (rs3.map V.ref) none (some (pl.length:Int)))) = K1 at *;refine ⟨by decide,λq2 hq2=>?_⟩;have t2:=t1.trans (Same.new (o:=.lst [V.ref a]) hq2);have e2:upd K1 q2 (.lst [V.ref a]) q2 = some _:=Zac;have e1':=Same.new (o:=.lst [V.ref a]) hq2 _ _ e1;generalize upd K1 q2 (.lst [V.ref a]) = K2 at *;refine ⟨_,e1',_,e2,Jav (Jd1 (lc _ _) (Jaf 1)) (by decide),λq3 hq3=>?_⟩;generalize hA:Zew (rs3.map V.ref) none (some (pl.length:Int)) ++ [V.ref a] = A3 at *;have lA:A3.length<=401:=by rw [<- hA,Jae]; exact Jd1 (lc _ _) (Jaf 1)
     have t3:=t2.trans (Same.new (o:=.lst A3) hq3);have e3:upd K2 q3 (.lst A3) q3 = some _:=Zac;generalize upd K2 q3 (.lst A3) = K3 at *;refine ⟨_,SqL.of (t3 _ _ R4.lst),λq4 hq4=>?_⟩;generalize hB:Zew (rs3.map V.ref) (some (pl.length:Int)) (some (s:Int)) = B4 at *;have lB:B4.length<=400:=by rw [<- hB]; exact lc _ _
     have t4:=t3.trans (Same.new (o:=.lst B4) hq4);have e4:upd K3 q4 (.lst B4) q4 = some _:=Zac;have e3':=Same.new (o:=.lst B4) hq4 _ _ e3;generalize upd K3 q4 (.lst B4) = K4 at *;refine ⟨_,e3',_,e4,Jav (Jd1 lA lB) (by decide),λq5 hq5=>?_⟩;have t5:=t4.trans (Same.new (o:=.lst (A3 ++ B4)) hq5);have e5:upd K4 q5 (.lst (A3 ++ B4)) q5 = some _:=Zac;generalize upd K4 q5 (.lst (A3 ++ B4)) = K5 at *;refine ⟨_,SqL.of (t5 _ _ R4.lst),λq6 hq6=>?_⟩;generalize hC:Zew (rs3.map V.ref) (some ((s:Int) + 1)) none = C6 at *;have lC:C6.length<=400:=by rw [<- hC]; exact lc _ _
     have t6:=t5.trans (Same.new (o:=.lst C6) hq6);have e6:upd K5 q6 (.lst C6) q6 = some _:=Zac;have e5':=Same.new (o:=.lst C6) hq6 _ _ e5;generalize upd K5 q6 (.lst C6) = K6 at *;refine ⟨_,e5',_,e6,Jav (Jd1 (show (A3 ++ B4).length<=801 by rw [Jae]; omega) lC) (by decide),λq7 hq7=>?_⟩;have eU:A3 ++ B4 ++ C6 = (rs3.take pl.length ++ [a] ++ (rs3.take s).drop pl.length ++ rs3.drop (s + 1)).map V.ref:=by rw [<- hA,<- hB,<- hC]; exact cut_up ps (by omega)
     rw [eU];have t7:=t6.trans (Same.new (o:=.lst ((rs3.take pl.length ++ [a] ++ (rs3.take s).drop pl.length ++ rs3.drop (s + 1)).map V.ref)) hq7);have e7:upd K6 q7 (.lst ((rs3.take pl.length ++ [a] ++ (rs3.take s).drop pl.length ++ rs3.drop (s + 1)).map V.ref)) q7 = some _:=Zac;generalize upd K6 q7 (.lst ((rs3.take pl.length ++ [a] ++ (rs3.take s).drop pl.length ++ rs3.drop (s + 1)).map V.ref)) = K7 at *;have f7:H4 q7 = none:=t6.free hq7;clear e1 e1' e2 e3 e3' e4 e5 e5' e6 hq1 hq2 hq3 hq4 hq5 hq6 hq7 t1 t2 t3 t4 t5 t6 hA hB hC eU lA lB lC;have hsM:s < M3.length:=Zj6 hs m3;have es:M3[s]? = some (M3.getD s []):=by rw [Zbe hsM]; exact Jaa _
     have ra7:RowV K7 p a (M3.getD s []):=(R4.row.2 s a _ ea es).same t7;have R7:RowsV K7 p (lb p k c) n wd q7 (rs3.take pl.length ++ [a] ++ (rs3.take s).drop pl.length ++ rs3.drop (s + 1)) (M3.take pl.length ++ [M3.getD s []] ++ (M3.take s).drop pl.length ++ M3.drop (s + 1)):=by
      have R7':=R4.row.mono λ_ _ q=>q.same t7;refine ⟨e7,(((R7'.take _).app (All2.one ra7)).app ((R7'.take _).drop _)).app (R7'.drop _),λz=>?_,by rw [Zv1 ps hsM]; exact m3,λxs hx=>R4.hw xs ((Zlc ps hsM xs).mp hx),λxs hx=>R4.gd xs ((Zlc ps hsM xs).mp hx)⟩;have z':q7 ∈ rs3:=by
       have ea':a = rs3.getD s 0:=(Zat ea).symm;rw [ea'] at z;exact (Zlc ps (by omega) q7).mp z
      obtain ⟨i,hi,e⟩:=Jap.mp z';refine Zad (R4.row.at' (Jaa hi)) λxs ex e924=>?_;obtain ⟨vs',hv',_⟩:=e924;rw [e,f7] at hv';cases hv'
     have fa7:∀ b ∈ rs3.take pl.length ++ [a] ++ (rs3.take s).drop pl.length ++ rs3.drop (s + 1),H b = none:=λb hb=>by
      have ea':a = rs3.getD s 0:=(Zat ea).symm;rw [ea'] at hb;exact f3 b ((Zlc ps (by omega) b).mp hb)
     have na7:a ≠ q7:=λz=>by rw [z,f7] at hv; cases hv
     have at7:=up_at (d:=([]:List Nv)) ps hsM;have ed7:(M3.take pl.length ++ [M3.getD s []] ++ (M3.take s).drop pl.length ++ M3.drop (s + 1)).getD pl.length [] = M3.getD s []:=by rw [at7,if_neg (Jb1 _),if_pos rfl]
     have ec7:∀ (F:Type) [Lean.Grind.Field F],FdOk p F->EcG F n c (pl.length + 1) M (M3.take pl.length ++ [M3.getD s []] ++ (M3.take s).drop pl.length ++ M3.drop (s + 1)) pl:=λF _ hF=>by
      refine (ec F hF).lead ps hs ?_ (by rw [Zv1 ps hsM]; exact m3) (λi hi=>by rw [at7,if_pos hi]) ed7 (λi a b=>?_) (Zlc ps hsM)
      .intro z;have:(M3.getD s []).getD c (0,1) = (0,1):=hF.inj is (Zch hp) (by rw [Zhi]; exact z);exact hne hs this
      .rw [at7,if_neg (by omega)];by_cases e1:i = pl.length
       .rw [if_pos e1]; exact ⟨s,ps,hs,rfl⟩
       .rw [if_neg e1];by_cases e2:i<=s
        .rw [if_pos e2]; exact ⟨i - 1,by omega,by omega,rfl⟩
        .rw [if_neg e2]; exact ⟨i,by omega,b,rfl⟩
     clear at7;generalize M3.take pl.length ++ [M3.getD s []] ++ (M3.take s).drop pl.length ++ M3.drop (s + 1) = M7 at *;generalize rs3.take pl.length ++ [a] ++ (rs3.take s).drop pl.length ++ rs3.drop (s + 1) = rs7 at *;refine Za9 (Zhj (p:=p) (c:=c) k7) λlb1 lb7 lb2=>?_;have sm4:=lb_lim k7 hc kb;have x1:=isn_ne is (hne hs);have gS:Zco p (lb p k c) (M3.getD s []):=R3.gd _ (Za7 hsM);have wS:(M3.getD s []).length = wd:=R3.hw _ (Za7 hsM);have hv7:=t7 _ _ hv;have nv7:=nv.same t7;have s07:=s3.trans (s4.trans t7);have fq:H q7 = none:=(s3.trans s4).free f7;have dn:pl.length < n:=Jbk ps hs;subst hX;refine Zd2 λX hX=>?_;walk_at "wp";refine ⟨_,SqL.of hv7,v,Zd4 ev,p,v,_,rfl,hp,nv7,is,x1,λbv y H8 s8 ny iB=>⟨p,-1,rfl,hp,λmv H9 s9 nm1=>?_⟩⟩;have by':=iB.bt _ lb7 bt
     refine Zg0 p bv mv y (Zhl p (-1)) ⟨rfl,hp,⟨ny.same s9,nm1,iB.is,Zcm hp.lo,lb p k c,7,by'.1,by'.2,Zsb hp,Zsa hp,by omega⟩,λhv' H10 s10 nh=>?_⟩;have ih:=Zbw hp.lo iB.is (Zcm (k:=-1) hp.lo);have bh:=btN_neg hp iB.is by' lb7
     have fh:∀ (F:Type) [Lean.Grind.Field F],FdOk p F->(nm ((M3.getD s []).getD c (0,1)):F) * nm (Zbk p y (Zhl p (-1))) = -1:=λF _ hF=>by
      have:=iB.fd F hF;rw [hF.times iB.is (Zcm hp.lo),hF.intF,Zon,Zdn]
      grind
     generalize Zbk p y (Zhl p (-1)) = bk at *;have s710:=s8.trans (s9.trans s10);have s010:=s07.trans s710;have R10:=R7.same s710;have ra10:=ra7.same s710;clear s8 s9 s10 nm1 ny iB by' hv7 nv7 nv al hv R7 ra7 t7 s4 R4
     have up:∀ {b:Nat} {xs:List Nv},(p = 0->b<=lb p k (c + 1))->Zco p b xs->Zco p (lb p k (c + 1)) xs:=λ{b xs} h g=>by
      by_cases h0:p = 0
      .exact λx hx=>⟨(g x hx).1,BtN.le (g x hx).2 (h h0)⟩
      .exact Zoo h0 hp.hi (Zhj k7).2.1 λx hx=>(g x hx).1
     subst hX;refine Zd2 λX hX=>?_;walk_at "wp";have rl7:rs7.length = n:=R10.row.1.trans R10.hl;have eN:((n:Int) - ((pl.length:Int) + 1)).toNat = n - (pl.length + 1):=by omega
     refine ⟨_,rfl,(pl.length:Int),1,rfl,rfl,_,rfl,q7,rfl,_,.inl (SqL.of R10.lst),(pl.length:Int) + 1,(n:Int),by rw [Jab,rl7],⟨by omega,by omega,by omega,by omega⟩,?_⟩;rw [eN];refine Za2 (lo:=(pl.length:Int) + 1) (n:=n - (pl.length + 1)) (λi σ H3=>∃ (v9 v10:Option V) (rs2:List Addr) (M8:Mv),σ = [some (.int p),some (.ref r),some (.int wd),some (.ref q7),some (.int (pl.length:Nat)),some (.int (c:Nat)),some (.int (s:Nat)),some (.ref a),some hv',v9,v10]/\Same H H3/\NumV H3 p hv' bk/\RowsV H3 p (lb p k (c + 1)) n wd q7 rs2 M8/\(∀ b ∈ rs2,H b = none)/\(∀ (F:Type) [Lean.Grind.Field F],FdOk p F->EcG F n c (pl.length + 1 + i) M M8 pl)/\M8.getD pl.length [] = M3.getD s []/\(∀ j,pl.length + 1 + i<=j->j < n->Zco p (lb p k c) (M8.getD j []))/\RowV H3 p a (M3.getD s []))
      ⟨v9,v10,rs7,M7,rfl,s010,nh,⟨R10.lst,R10.row,R10.nin,R10.hl,R10.hw,λxs hx=>up (λ_=>lb2) (R10.gd xs hx)⟩,fa7,ec7,ed7,λj _ hj=>R10.gd _ (Za7 (Zj6 hj R10.hl)),ra10⟩ ?_ ?_
     .intro i σ H11 hi e94;refine Zdc e94 λu9 u10 rs11 M11 e925 s11 nh11 e926=>?_;clear e94;obtain rfl:=e925;refine Zdd e926 λR11 f11 ec11 ed11 go11 ra11=>?_;clear e926;refine Zpt λD2 hD2=>?_;simp only [Zbi,List.set_cons_zero,List.set_cons_succ];have ek:(pl.length:Int) + 1 + (i:Int) = ((pl.length + 1 + i:Nat):Int):=by omega
      rw [ek];have hk:pl.length + 1 + i < n:=by omega
      have hdk:pl.length < pl.length + 1 + i:=by omega
      generalize hkk:pl.length + 1 + i = kk at *;have hl11:=R11.hl;have rl11:rs11.length = n:=R11.row.1.trans hl11;refine Zbj (R11.at (i:=kk) (c:=c) hk hc) λak vsk vk eak nak hvk e927=>?_;refine Zdd e927 λvlk alk evk nvk isk btk0=>?_;clear e927;have rowk:Zco p (lb p k c) (M11.getD kk []):=go11 kk (Jaf _) hk;have wk:(M11.getD kk []).length = wd:=R11.hw _ (Za7 (Zj6 hk hl11));have btk:BtN (lb p k c) ((M11.getD kk []).getD c (0,1)):=(rowk _ (Za7 (Zj6 hc wk))).2;refine Zd2 λX2 hX2=>?_;walk_at "wp";refine ⟨_,SqL.of R11.lst,.ref ak,Zvv eak,_,rfl,_,SqL.of hvk,vk,Zd4 evk,p,vk,hv',_,bk,rfl,hp,⟨nvk,nh11,isk,ih,lb p k c,lb p k c,btk.1,btk.2,bh.1,bh.2,by omega⟩,λlv H12 s12 nl=>?_⟩;have il:=Zbw hp.lo isk ih;have bl:BtN (2 * lb p k c + 1) (Zbk p ((M11.getD kk []).getD c (0,1)) bk):=(Zjj hp isk ih btk bh (by omega)).le (by omega);have fl:∀ (F:Type) [Lean.Grind.Field F],FdOk p F->(nm (Zbk p ((M11.getD kk []).getD c (0,1)) bk):F) = nm ((M11.getD kk []).getD c (0,1)) * nm bk:=λF _ hF=>hF.times isk ih;generalize Zbk p ((M11.getD kk []).getD c (0,1)) bk = l at *;subst hX2;refine cutI λY hY=>?_;walk_at "wp";refine Zau p 0 ⟨rfl,hp,λu H13 s13 nu=>num_neD (nl.same s13) nu il (Zcm hp.lo) (Zbx (λhe=>?_) (λhe=>?_))⟩
      .subst hY;walk_at "wp";have s1213:=s12.trans s13;have R13:=R11.same s1213;have ra13:=ra11.same s1213;have rk13:RowV H13 p ak (M11.getD kk []):=⟨vsk,s1213 _ _ hvk,alk.mono λ_ _ q=>q.same s1213⟩
       have hw:(M11.getD kk []).length = (M3.getD s []).length:=wk.trans wS.symm;refine ⟨_,SqL.of R13.lst,.ref ak,Zvv eak,p,ak,a,lv,l,M11.getD kk [],M3.getD s [],lb p k c,2 * lb p k c + 1,lb p k c,rfl,hp,rk13,ra13,nl.same s13,il,bl,rowk,gS,hw,by omega,lb7,by omega,λD3 H14 s14 hD3 rv14=>?_⟩;have R14:=R13.same s14;have nD3:D3 ≠ q7:=(Zag R13.lst hD3).symm;refine ⟨_,R14.lst,kk,ixN_r hk rl11,?_⟩;rw [Zt7];have pgd:=Zuf hp lb7 il bl hw rowk gS;have R15:=R14.set (k:=kk) hk rv14 nD3 (by rw [Jab,Ja4]; exact wk) (b':=lb p k (c + 1)) λys hy=>by
        rcases Jbx hy with h1 | h1
        .exact R14.gd ys h1
        .rw [h1]; exact up lb1 pgd
       subst hD2;have s1114:=s1213.trans s14;refine Zke _ _ (rs11.set kk D3) (M11.set kk (Zug p l (M11.getD kk []) (M3.getD s []))) ⟨rfl,(s11.trans s1114).upd fq,(nh11.same s1114).put R14.lst,R15,λb hb=>?_,λF _ hF=>?_,?_,λj h1 h2=>?_,(ra13.same s14).put R14.lst na7⟩
       .rcases Jbx hb with h1 | h1
        .exact f11 b h1
        .rw [h1]; exact (s11.trans s1213).free hD3
       .have e1:=plus_fd hp hF il hw (λx hx=>(rowk x hx).1) (λx hx=>(gS x hx).1);rw [show pl.length + 1 + (i + 1) = kk + 1 by omega];refine (ec11 F hF).take hk hdk (b:=nm l) (λj=>by rw [ed11]; exact e1 j) ?_;rw [e1 c];have h1:=fl F hF;have h2:=fh F hF;show (nm ((M11.getD kk []).getD c (0,1)):F) + nm l * nm ((M3.getD s []).getD c (0,1)) = 0
        grind
       .rw [Zqv (Zj6 hk hl11),if_neg (by omega)];exact ed11
       .rw [Zqv (Zj6 hk hl11),if_neg (by omega)];exact go11 j (by omega) h2
      .have he:l = (0,1):=by
        apply Jb6;intro z;exact he (Jaj (by rw [Zd0]; exact z))
       subst hD2;have s1213:=s12.trans s13;refine Zke _ _ rs11 M11 ⟨rfl,s11.trans s1213,nh11.same s1213,R11.same s1213,f11,λF _ hF=>?_,ed11,λj a b=>go11 j (by omega) b,ra11.same s1213⟩;have:=(ec11 F hF).skip λ_ _=>by
        have h1:=fl F hF;have h2:=fh F hF;rw [he,Zhi] at h1;show (nm ((M11.getD kk []).getD c (0,1)):F) = 0
        grind
       rwa [show pl.length + 1 + (i + 1) = kk + 1 by omega]
     .intro σ H11 e95;refine Zdc e95 λu9 u10 rs11 M11 e928 s11 nh11 e929=>?_;clear e95;obtain rfl:=e928;refine Zdd e929 λR11 f11 ec11 ed11 go11 ra11=>?_;clear e929;subst hX;walk_at "wp";subst hD1;have en:pl.length + 1 + (n - (pl.length + 1)) = n:=by omega
      rw [en] at ec11;exact Zvy _ _ _ _ _ _ q7 rs11 M11 (pl ++ [c]) ⟨by rw [Jae]; rfl,s11,R11,fq,f11,λF _ hF=>(ec11 F hF).next⟩
    .subst hD1;have hs:s = n:=by
      have:¬ s < n:=λz=>hs (Jaj (by rw [Jab]; omega));omega
     exact Zvy _ _ _ _ _ _ r1 rs3 M3 pl ⟨rfl,s3.trans s4,⟨R4.lst,R4.row,R4.nin,m3,R4.hw,λxs hx=>λx hxx=>⟨(R4.gd xs hx x hxx).1,BtN.le (R4.gd xs hx x hxx).2 (Zhj k7).2.2⟩⟩,fr3,f3,λF _ hF=>(ec F hF).skip λi a b=>by unfold vN; rw [hz i a (by omega)]; exact Zhi⟩
   refine ⟨λm σ H4=>∃ s:Nat,σ = [some (.int p),some (.ref r),some (.int wd),some (.ref r1),some (.int (pl.length:Nat)),some (.int (c:Nat)),some (.int (s:Nat)),v7,v8,v9,v10]/\Same H3 H4/\pl.length<=s/\s<=n/\m = n - s/\∀ i,pl.length<=i->i < s->(M3.getD i []).getD c (0,1) = (0,1),⟨_,pl.length,rfl,Same.refl _,Jaf _,dl,rfl,λi a b=>by omega⟩,?_⟩;intro m σ H4 e96;refine Ztm e96 λs e930 s4 ps sn e931 hz=>?_;clear e96;obtain rfl:=e930;obtain rfl:=e931;have R4:=R3.same s4;walk_at "wp";refine ⟨_,.inl (SqL.of R4.lst),Zbx (λhs=>?_) (λhs=>?_)⟩
   .have hs:s < n:=by have:=Ja0 hs; rw [Jab] at this; omega
    refine Zbj (R4.at (i:=s) (c:=c) hs hc) λa vs v ea na hv e932=>?_;refine Zdd e932 λvl al ev nv is bt=>?_;clear e932;refine ⟨_,SqL.of R4.lst,.ref a,Zvv ea,a,rfl,_,SqL.of hv,v,Zd4 ev,p,0,rfl,hp,λu H5 s5 nu=>num_eqB (nv.same s5) nu is (Zcm hp.lo) ⟨_,rfl,Zbx (λhe=>?_) (λhe=>?_)⟩⟩
    .have he:=Ja0 he;rw [Zd0] at he;refine ⟨_,λ_ _ h=>h,n - (s + 1),by omega,s + 1,by rw [Jbz]; rfl,s4.trans s5,by omega,hs,rfl,λi a b=>?_⟩;by_cases e:i = s
     .rw [e]; exact he
     .exact hz i a (by omega)
    .have he:¬ _:=λz=>he (Jaj z);rw [Zd0] at he;exact aft s H5 (s4.trans s5) ps sn (λ_=>he) hz
   .exact aft s H4 s4 ps sn (λz=>absurd (Jaj (by rw [Jab]; omega)) hs) hz
  .intro σ H3 e97;refine Zp0 e97 λv5 v6 v7 v8 v9 v10 r1 rs3 M3 pl e933 s3 R3 e934=>?_;clear e97;obtain rfl:=e933;refine Za9 e934 λfr3 f3 ec=>?_;clear e934;walk_at "wp";exact q pl.length H3 s3 λF _ hF=>(ec F hF).rk m0
end
end Pf
namespace Pf
open PySem L2 PyProof.Rows
section
variable {P:Program} {w:World} {K:PySem.W.Frag} {mg:Str->Option Value} {base:Heap} {C G S:Addr}
theorem Zsm {a b:Addr} {xs ys:List V} {g:TG} {tb:TS} {Dn:Ends} {σ:L2.St} {H:Hp} (Pv:Nat->L2.St->Hp->Prop) (hlen:ys.length = xs.length) (h0:Pv 0 σ H) (hl:∀ i σ H,i<=xs.length->Pv i σ H->SqL K H a xs/\SqL K H b ys)
  (hs:∀ (i:Nat) x y p σ H,xs[i]? = some x->ys[i]? = some y->H p = none->Pv i σ H->g (.ref p) σ (upd H p (.tup [x,y])) λσ2 H2=>tb { Dn with nx:=Pv (i + 1),ct:=Pv (i + 1),bk:=Dn.nx } σ2 H2) (hd:∀ σ H,Pv xs.length σ H->Dn.nx σ H):
  ∃ W:Nat->Nat->L2.St->Hp->Prop,(∃ m,W 0 m σ H)/\∀ i m σ H,W i m σ H->
   ((Itz K a b).stop i H/\Dn.nx σ H)\/((Itz K a b).go i H/\∃ N:L2.St->Hp->Prop,(∀ σ' H',N σ' H'->∃ m',m' < m/\W (i + 1) m' σ' H')/\∀ x H',(Itz K a b).yld i H x H'->g x σ H' λσ2 H2=>tb { Dn with nx:=N,ct:=N,bk:=Dn.nx } σ2 H2):=by
 refine ⟨λi m σ H=>m = xs.length - i/\i<=xs.length/\Pv i σ H,⟨xs.length,by simp,Jb2 _,h0⟩,?_⟩;intro i m σ H e91;refine Za9 e91 λe92 hi p=>?_;clear e91;obtain rfl:=e92;obtain ⟨q1,q2⟩:=hl i σ H hi p;by_cases hlt:i < xs.length
 .refine .inr ⟨⟨xs,ys,xs[i],ys[i]'(by omega),q1,q2,by simp [hlt],by simp [hlen,hlt]⟩,Pv (i + 1),λσ' H' p'=>⟨xs.length - (i + 1),by omega,rfl,hlt,p'⟩,λx H' y=>?_⟩;refine Zbj y λu v pp e93 hp e94 e95=>?_;clear y;obtain rfl:=e93;obtain rfl:=e94;obtain ⟨e1,e2⟩:=e95;exact hs i u v pp σ _ (e1 xs q1) (e2 ys q2) hp p
 .have e:i = xs.length:=by omega
  subst e;exact .inl ⟨⟨xs,ys,q1,q2,.inl (Jaf _)⟩,hd σ H p⟩
end
end Pf
namespace Pf
open PySem L2 L3 PyProof.Rows
theorem Zoj {p:Int} {x y:Nv} (hp:GroundP p) (hx:Isn p x) (hy:Isn p y):Zey p x (Zbk p (Zhl p (-1)) y) = Zdy p x y:=by
 obtain ⟨F,_,hF⟩:=Zsn hp;have i1:=Zbw hp.lo (Zcm (k:=-1) hp.lo) hy;refine hF.inj (Zij hp.lo hx i1) (Zlz hp.lo hx hy) ?_;rw [hF.plus hx i1,hF.times (Zcm hp.lo) hy,hF.intF,Zon,Zdn,hF.minus hx hy]
 grind
theorem Zm6 {p:Int} {x:Nv} (hp:GroundP p) (hx:Isn p x):Zey p (0,1) x = x:=by
 obtain ⟨F,_,hF⟩:=Zsn hp;refine hF.inj (Zij hp.lo (Zch hp) hx) hx ?_;rw [hF.plus (Zch hp) hx,Zhi]
 grind
theorem Zs5 {p:Int} {x y:Nv} {n:Nat} (hp:GroundP p) (hx:Isn p x) (hy:Isn p y) (h1:BtN n x) (h2:BtN n y) (h7:7<=n):BtN (2 * n + 2) (Zdy p x y):=by
 rw [<- Zoj hp hx hy];exact BtN.le (Zoy hp hx (Zbw hp.lo (Zcm hp.lo) hy) h1 (Zoz hp hy h2 h7) h7) (by omega)
def nt (ns:List Int) (i:Int):Nat:=(ns.getD i.toNat 0).toNat
def stN (ns1 ns2:List Int):Nat->Nat
 | 0=>0
 | i + 1=>stN ns1 ns2 i + (ns2.getD i 0).toNat * (ns1.getD i 0).toNat
theorem Zt1 (ns1 ns2:List Int) {i j:Nat} (h:i<=j):stN ns1 ns2 i<=stN ns1 ns2 j:=by
 induction j with
 | zero=>rw [show i = 0 by omega]; exact Jaf _
 | succ j ih=>
  by_cases e:i = j + 1
  .rw [e]; exact Jaf _
  .exact Jav (ih (by omega)) (Jc8 _ _)
def Zo9 (xs:List Nv) (s w c:Nat):Nat->List Nv->List Nv
 | 0,r=>r
 | k + 1,r=>(Zo9 xs s w c k r).set (s + k * w + c) (xs.getD k (0,1))
def Ztb (p:Int) (f:Nat->Nv) (s:Nat):Nat->List Nv->List Nv
 | 0,r=>r
 | k + 1,r=>(Ztb p f s k r).set (s + k) (Zdy p ((Ztb p f s k r).getD (s + k) (0,1)) (f k))
theorem Zed (xs:List Nv) (s w c:Nat) (r:List Nv):∀ k,(Zo9 xs s w c k r).length = r.length
 | 0=>rfl
 | k + 1=>by show (List.set _ _ _).length = _; rw [Jcd,Zed xs s w c r k]
theorem Zih (p:Int) (f:Nat->Nv) (s:Nat) (r:List Nv):∀ k,(Ztb p f s k r).length = r.length
 | 0=>rfl
 | k + 1=>by show (List.set _ _ _).length = _; rw [Jcd,Zih p f s r k]
theorem Zn5 {xs:List Nv} {s w c:Nat} {r:List Nv} {q:Nat}:∀ {k:Nat},(∀ i,i < k->q ≠ s + i * w + c)->(Zo9 xs s w c k r).getD q (0,1) = r.getD q (0,1)
 | 0,_=>rfl
 | k + 1,h=>by
  show (List.set _ _ _).getD q (0,1) = _;rw [Jac,Jdm (λz=>h k (by omega) z.symm),<- Jac,Zn5 λi hi=>h i (by omega)]
theorem Znp {p:Int} {f:Nat->Nv} {s:Nat} {r:List Nv} {q:Nat}:∀ {k:Nat},(∀ i,i < k->q ≠ s + i)->(Ztb p f s k r).getD q (0,1) = r.getD q (0,1)
 | 0,_=>rfl
 | k + 1,h=>by
  show (List.set _ _ _).getD q (0,1) = _;rw [Jac,Jdm (λz=>h k (by omega) z.symm),<- Jac,Znp λi hi=>h i (by omega)]
theorem Zuc {xs:List Nv} {s w c k:Nat} {n:Nat} (hw:0 < w):(Zo9 xs s w c k (List.replicate n (0,1))).getD (s + k * w + c) (0,1) = (0,1):=by
 rw [Zn5 λi hi z=>?_]
 .rw [Jac,Jc4];split <;> rfl
 .have:i * w < k * w:=(Nat.mul_lt_mul_right hw).mpr hi;omega
theorem Zkh {p:Int} {f:Nat->Nv} {s k:Nat} {r:List Nv}:(Ztb p f s k r).getD (s + k) (0,1) = r.getD (s + k) (0,1):=Znp λi hi z=>by omega
theorem Zko {p:Int} {n:Nat} {xs:List Nv} {s w c:Nat} {r:List Nv} (h0:Zco p n [(0,1)]) (hx:Zco p n xs) (hr:Zco p n r):∀ k,Zco p n (Zo9 xs s w c k r)
 | 0=>hr
 | k + 1=>λx h=>by
  rcases Jbx h with h | h
  .exact Zko h0 hx hr k x h
  .rw [h,Jac];cases e:xs[k]? with
   | none=>exact h0 _ (by simp)
   | some y=>exact hx y (Jad e)
theorem Zp8 {p:Int} {n:Nat} {f:Nat->Nv} {s:Nat} {r:List Nv} (hp:GroundP p) (h7:7<=n) (h0:Zco p n [(0,1)]) (hf:∀ k,Isn p (f k)/\BtN n (f k)) (hr:Zco p n r):∀ k,Zco p (2 * n + 2) (Ztb p f s k r)
 | 0=>λx hx=>⟨(hr x hx).1,BtN.le (hr x hx).2 (by omega)⟩
 | k + 1=>λx h=>by
  rcases Jbx h with h | h
  .exact Zp8 hp h7 h0 hf hr k x h
  .rw [h,Zkh];have:Isn p (r.getD (s + k) (0,1))/\BtN n (r.getD (s + k) (0,1)):=by
    rw [Jac];cases e:r[s + k]? with
    | none=>exact h0 _ (by simp)
    | some y=>exact hr y (Jad e)
   exact ⟨Zlz hp.lo this.1 (hf k).1,Zs5 hp this.1 (hf k).1 this.2 (hf k).2 h7⟩
def Zpm (p:Int) (ns1 ns2:List Int) (q:Int × Int) (A1 A2:Mv) (i j:Nat):List Nv:=
 Ztb p (λk=>(A1.getD k []).getD j (0,1)) (stN ns1 ns2 q.2.toNat + i * nt ns1 q.2) (nt ns1 q.2) (Zo9 (A2.getD i []) (stN ns1 ns2 q.1.toNat) (nt ns1 q.1) j (nt ns2 q.1) (List.replicate (stN ns1 ns2 ns1.length) (0,1)))
theorem Zot (p:Int) (ns1 ns2:List Int) (q:Int × Int) (A1 A2:Mv) (i j:Nat):(Zpm p ns1 ns2 q A1 A2 i j).length = stN ns1 ns2 ns1.length:=by
 unfold Zpm;rw [Zih,Zed,Jbg]
def Zkb (p:Int) (ns1 ns2:List Int) (q:Int × Int) (A1 A2:Mv) (n:Nat):Mv:=(List.range n).flatMap λi=>(List.range (nt ns1 q.1)).map λj=>Zpm p ns1 ns2 q A1 A2 i j
def dM (p:Int) (ns1 ns2:List Int) (ps:List (Int × Int)) (Ms1 Ms2:List Mv) (n:Nat):Mv:=(List.range n).flatMap λt=>Zkb p ns1 ns2 (ps.getD t (0,0)) (Ms1.getD t []) (Ms2.getD t []) (nt ns2 (ps.getD t (0,0)).2)
theorem Zjf (p:Int) (ns1 ns2:List Int) (q:Int × Int) (A1 A2:Mv) (n:Nat):Zkb p ns1 ns2 q A1 A2 (n + 1) = Zkb p ns1 ns2 q A1 A2 n ++ (List.range (nt ns1 q.1)).map λj=>Zpm p ns1 ns2 q A1 A2 n j:=by
 unfold Zkb;rw [Jb7,List.flatMap_append];simp
theorem Zk2 (p:Int) (ns1 ns2:List Int) (ps:List (Int × Int)) (Ms1 Ms2:List Mv) (n:Nat):dM p ns1 ns2 ps Ms1 Ms2 (n + 1) = dM p ns1 ns2 ps Ms1 Ms2 n ++ Zkb p ns1 ns2 (ps.getD n (0,0)) (Ms1.getD n []) (Ms2.getD n []) (nt ns2 (ps.getD n (0,0)).2):=by
 unfold dM;rw [Jb7,List.flatMap_append];simp
theorem Zvp {p:Int} {ns1 ns2:List Int} {q:Int × Int} {A1 A2:Mv} {n:Nat} {xs:List Nv} (h:xs ∈ Zkb p ns1 ns2 q A1 A2 n):∃ i j,i < n/\j < nt ns1 q.1/\xs = Zpm p ns1 ns2 q A1 A2 i j:=by
 unfold Zkb at h;rw [List.mem_flatMap] at h;obtain ⟨i,hi,h⟩:=h;obtain ⟨j,hj,rfl⟩:=Ja3.mp h;exact Zau i j ⟨Jbc.mp hi,Jbc.mp hj,rfl⟩
theorem Zsr {p:Int} {ns1 ns2:List Int} {ps:List (Int × Int)} {Ms1 Ms2:List Mv} {n:Nat} {xs:List Nv} (h:xs ∈ dM p ns1 ns2 ps Ms1 Ms2 n):∃ t i j,t < n/\i < nt ns2 (ps.getD t (0,0)).2/\j < nt ns1 (ps.getD t (0,0)).1/\xs = Zpm p ns1 ns2 (ps.getD t (0,0)) (Ms1.getD t []) (Ms2.getD t []) i j:=by
 unfold dM at h;rw [List.mem_flatMap] at h;obtain ⟨t,ht,h⟩:=h;obtain ⟨i,j,a,b,e⟩:=Zvp h;exact Zby t i j ⟨Jbc.mp ht,a,b,e⟩
theorem Zjg {p:Int} {ns1 ns2:List Int} {q:Int × Int} {A1 A2:Mv}:∀ n,(Zkb p ns1 ns2 q A1 A2 n).length = n * nt ns1 q.1
 | 0=>by rw [Nat.zero_mul]; rfl
 | n + 1=>by rw [Zjf,Jae,Zjg n,Jab,Ja4,Jel]
theorem Zls:∀ {ns:List Int} {i:Nat},(∀ n ∈ ns,0<=n)->0<=ns.getD i 0/\ns.getD i 0<=ns.sum/\0<=ns.sum
 | [],i,_=>by simp
 | n :: ns,i,h=>by
  have h0:=h n (by simp);refine Za9 (Zls (ns:=ns) (i:=i - 1) λx hx=>h x (by simp [hx])) λa b c=>?_;rw [List.sum_cons];cases i with
  | zero=>show 0<=n/\n<=n + ns.sum/\_; exact ⟨h0,by omega,by omega⟩
  | succ i=>
   rw [Nat.add_sub_cancel] at a b;show 0<=ns.getD i 0/\ns.getD i 0<=n + ns.sum/\_;exact ⟨a,by omega,by omega⟩
theorem Zwe {a b c d:Nat} (h1:a<=c) (h2:b<=d):a * b<=c * d:=Jca h1 h2
theorem Zns:∀ (k:Nat) {ns1 ns2:List Int} {B:Nat},(∀ n ∈ ns1,0<=n)->(∀ n ∈ ns2,0<=n/\n<=B)->k<=ns1.length->stN ns1 ns2 k<=B * (ns1.take k).sum.toNat
 | 0,ns1,ns2,B,_,_,_=>by simp [stN]
 | k + 1,ns1,ns2,B,h1,h2,hk=>by
  have ih:=Zns k h1 h2 (by omega);have e:(ns1.take (k + 1)).sum = (ns1.take k).sum + ns1.getD k 0:=by
   rw [List.take_succ,List.sum_append,Jaa (by omega),Zbe (by omega)];simp
  have s0:0<=(ns1.take k).sum:=(Zls (i:=0) λn hn=>h1 n (Jcv hn)).2.2;have a:=(Zls (i:=k) h1).1;have b:(ns2.getD k 0).toNat<=B:=by
   by_cases z:k < ns2.length
   .have:=(h2 _ (Za7 (d:=0) z)).2;omega
   .rw [Jac,Jal (by omega)]; exact Jb2 _
  show stN ns1 ns2 k + _<=_;rw [e,show ((ns1.take k).sum + ns1.getD k 0).toNat = (ns1.take k).sum.toNat + (ns1.getD k 0).toNat by omega,Nat.mul_add];exact Jd1 ih (Zwe b (Jaf _))
end Pf
namespace Pf
open PySem L2 L3 PyProof.Rows
section
variable {P:Program} {w:World} {K:PySem.W.Frag} {mg:Str->Option Value} {base:Heap} {C G S:Addr}
def TabsV (H:Hp) (p:Int) (l:Addr) (ps:List (Int × Int)) (ns:List Int) (Ms:List Mv):Prop:=∃ ts:List Addr,H l = some (.lst (ts.map V.ref))/\ts.length = ps.length/\∀ (i:Nat) t q,ts[i]? = some t->ps[i]? = some q->∃ r rs,TabV H p (nt ns q.2:Nat) (nt ns q.1:Nat) t r rs (Ms.getD i [])
theorem TabsV.same {H H':Hp} {p:Int} {l:Addr} {ps:List (Int × Int)} {ns:List Int} {Ms:List Mv} (h:TabsV H p l ps ns Ms) (s:Same H H'):TabsV H' p l ps ns Ms:=
 let ⟨ts,a,b,c⟩:=h; ⟨ts,s _ _ a,b,λi t q e1 e2=>let ⟨r,rs,tv⟩:=c i t q e1 e2; ⟨r,rs,tv.same s⟩⟩
structure StP (S C G:Addr) (H:Hp) (x:Addr) (p m:Int) (ps:List (Int × Int)) (ns:List Int) (Ms:List Mv) (dx g d z l lp:Addr) (xs:List V):Prop where
 ins:H x = some (.ins S dx (Zg2 g d z l))
 grd:GAt G H g p
 drw:Zfj C H d m lp xs
 prs:Prs H xs ps
 szs:Sizes H z ns
 tbs:TabsV H p l ps ns Ms
theorem StP.same {S G:Addr} {H H':Hp} {x:Addr} {p m:Int} {ps:List (Int × Int)} {ns:List Int} {Ms:List Mv} {dx g d z l lp:Addr} {xs:List V} (h:StP S C G H x p m ps ns Ms dx g d z l lp xs) (s:Same H H'):StP S C G H' x p m ps ns Ms dx g d z l lp xs:=
 ⟨s _ _ h.ins,h.grd.same s,(let ⟨a,b,c⟩:=h.drw; ⟨a,s _ _ b,s _ _ c⟩),h.prs.same s,h.szs.same s,h.tbs.same s⟩
def StV (S C G:Addr) (H:Hp) (x:Addr) (p m:Int) (ps:List (Int × Int)) (ns:List Int) (Ms:List Mv):Prop:=∃ dx g d z l lp xs,StP S C G H x p m ps ns Ms dx g d z l lp xs
theorem StV.same {S G:Addr} {H H':Hp} {x:Addr} {p m:Int} {ps:List (Int × Int)} {ns:List Int} {Ms:List Mv} (h:StV S C G H x p m ps ns Ms) (s:Same H H'):StV S C G H' x p m ps ns Ms:=let ⟨dx,g,d,z,l,lp,xs,k⟩:=h; ⟨dx,g,d,z,l,lp,xs,k.same s⟩
structure Vals (p m:Int) (ps:List (Int × Int)) (ns:List Int) (Ms:List Mv):Prop where
 ip:InP m ps
 p9:ps.length<=9
 hm:(ns.length:Int) = m
 sz:∀ n ∈ ns,0<=n/\n<=6
 sum:ns.sum<=6
 sum0:p = 0->ns.sum<=3
 sh:∀ (i:Nat) q,ps[i]? = some q->(Ms.getD i []).length = nt ns q.2/\∀ xs ∈ Ms.getD i [],xs.length = nt ns q.1/\Zco p 14 xs
theorem Zhh {ns:List Int} {i:Int} {B:Nat} (h:∀ n ∈ ns,0<=n/\n<=B):nt ns i<=B/\0<=ns.getD i.toNat 0:=by
 unfold nt;by_cases z:i.toNat < ns.length
 .have:=h _ (Za7 (d:=0) z);exact ⟨by omega,this.1⟩
 .rw [Jac,Jal (by omega)]; exact ⟨Jb2 _,by decide⟩
def spMin (G:Addr):L2.Sp:=λvs H Q _=>∃ (g:Addr) (p:Int) (va vb:V) (x y:Nv),vs = [.ref g,va,vb]/\GAt G H g p/\GroundP p/\NumV H p va x/\NumV H p vb y/\Isn p x/\Isn p y/\BtN 40 x/\BtN 40 y/\∀ v H',Same H H'->NumV H' p v (Zdy p x y)->Q v H'
theorem ok_min {f:Addr} {fd:FuncData} (F:Fun K "minus" "Ground.minus" Zdr f fd) (T:Txt K mg C G S) (C_fraction:Cal P w K mg base "fraction" 5 Zkj):FnOk P w K mg base CX0 6 f fd ["self","a","b"] (spMin G):=by
 have nd:=Ze6.nd;refine F.ok Ze6 (λvs H Q E h=>?_) (λcdv A outer s H vs Q E hr h=>?_)
 .refine Ztj h λg p va vb x y e97 _=>?_;clear h;obtain rfl:=e97;rfl
 .refine Zpy h λg p va vb x y e98 e99 hp e910=>?_;clear h;obtain rfl:=e98;obtain ⟨dx,hg⟩:=e99;refine Zto e910 λna nb ix iy bx by' q=>?_
  clear e910;have p0:=hp.lo;refine ⟨_,((@Za1 _ _ _ _ _ _ _ _ (Zao Zcc (Zbc (pvr 0) rfl) Zab (Zam _)) (~~~(Za6 C_fraction hr.m rfl ((Zbp<|>(Za4<|>((Zjq Zaz)<|>(pvr 1)<||>Zab)<&&>((Zjq Zaz)<|>(pvr 2)<||>Zab))<&&>(Za4<|>((Zjq Zaz)<|>(pvr 2)<||>Zab)<&&>((Zjq Zaz)<|>(pvr 1)<||>Zab)))<&>((Za4<|>((Zjq Zaz)<|>(pvr 1)<||>Zab)<&&>((Zjq Zaz)<|>(pvr 2)<||>Zab))<&>Zaa)))) Zan)<*>(~~~(Zcb<|>((Zj3 Zbp)<|>(pvr 1)<&&>(pvr 2))<&&>(Zbc (pvr 0) rfl)))),?_⟩;walk_at "wp";refine Zby G dx _ ⟨hg,T.cl_Ground,T.nP,_,Zbn p,rfl,Zbx (λhc=>?_) (λhc=>?_)⟩
  .have hp0:p = 0:=by simpa using hc
   refine Zad (na.ref hp0) λta e911 hta=>?_;obtain rfl:=e911;refine Zad (nb.ref hp0) λtb e912 htb=>?_;obtain rfl:=e912;have px:=ix.pos;have py:=iy.pos;have pb:0 < x.2 * y.2:=Jc5 px py;walk_at "wp";refine ⟨_,SqT.of hta,_,rfl,_,SqT.of htb,_,rfl,_,rfl,_,rfl,bx.1.ok by'.2 (by decide),_,SqT.of htb,_,rfl,_,SqT.of hta,_,rfl,_,rfl,_,rfl,by'.1.ok bx.2 (by decide),_,SqT.of hta,_,rfl,_,SqT.of htb,_,rfl,_,rfl,_,rfl,bx.2.ok by'.2 (by decide),?_⟩;refine Zau _ _ ⟨rfl,((bx.1.mul by'.2).sub ((by'.1.mul bx.2).le (by decide))).le (by decide),(bx.2.mul by'.2).le (by decide),by omega,λt H' s' ht=>q _ _ s' ?_⟩;rw [Zdy,if_pos hp0];rw [Zrs pb] at ht;exact NumV.tup hp0 ht
  .have hp0:¬ p = 0:=by simpa using hc
   obtain rfl:=na.int hp0;obtain rfl:=nb.int hp0;walk_at "wp";refine Zby G dx _ ⟨hg,T.cl_Ground,T.nP,_,Zbn p,p,rfl,by omega,q _ H (Same.refl _) ?_⟩;have:=NumV.of (H:=H) (x:=Zdy p x y) hp0;rw [Zdy,if_neg hp0] at this ⊢;exact this
theorem Zpg {p:Int} {x:Nv} (hp:GroundP p) (h:IsQ p 0 1 x):x = (0,1):=by
 obtain ⟨F,_,hF⟩:=Zsn hp;refine hF.inj h.is (Zch hp) ?_;rw [h.fd F hF,Zhi,Zkv,Zdn]
 grind
abbrev stL (ns1 ns2:List Int) (n:Nat):List V:=(List.range n).map λi=>V.int (stN ns1 ns2 i:Nat)
theorem Zlg {ns1 ns2:List Int} {n i:Nat} (h:i < n):(stL ns1 ns2 n)[i]? = some (V.int (stN ns1 ns2 i:Nat)):=by rw [Jah,Jch h]; rfl
theorem Zfl {ns1 ns2:List Int} {n:Nat}:atI (stL ns1 ns2 (n + 1)) (-1) = some (V.int (stN ns1 ns2 n:Nat)):=by
 have e:=Zlg (ns1:=ns1) (ns2:=ns2) (Jdp n);unfold atI;rw [Zva (by rw [Jab,Ja4]; omega)];simpa using e
theorem Znt {ns1 ns2:List Int} {n:Nat} {v:Int} (h:v = (stN ns1 ns2 n:Nat)):stL ns1 ns2 n ++ [V.int v] = stL ns1 ns2 (n + 1):=by rw [stL,stL,Jb7,Ja1,h]; rfl
theorem Zqe {ns1 ns2:List Int} {i:Nat} {a b:Int} (ha:ns1[i]? = some a) (hb:ns2[i]? = some b) (a0:0<=a) (b0:0<=b):(stN ns1 ns2 i:Int) + b * a = (stN ns1 ns2 (i + 1):Nat):=by
 show _ = ((stN ns1 ns2 i + (ns2.getD i 0).toNat * (ns1.getD i 0).toNat:Nat):Int);rw [Zat ha,Zat hb,Jbz,Jb8,Jbv a0,Jbv b0]
theorem Zgl {n:Int} (h0:0<=n) (h1:n<=24):Big n:=by unfold Big; omega
def Zt2 (S C G:Addr):L2.Sp:=λvs H Q _=>∃ (x x':Addr) (p m:Int) (ps:List (Int × Int)) (ns ns':List Int) (Ms Ms':List Mv),vs = [.ref x,.ref x']/\StV S C G H x p m ps ns Ms/\StV S C G H x' p m ps ns' Ms'/\ns'.length = ns.length/\∀ (D:Addr) H',Same H H'->H D = none->H' D = some (.lst (stL ns ns' (ns.length + 1)))->Q (.ref D) H'
theorem ok_sta {f:Addr} {fd:FuncData} (F:Fun K "place_starts" "place_starts" Zdp f fd) (T:Txt K mg C G S):FnOk P w K mg base CX0 1 f fd ["one","other"] (Zt2 S C G):=by
 have nd:=Ze4.nd;refine F.ok Ze4 (λvs H Q E h=>?_) (λcdv A outer s H vs Q E hr h=>?_)
 .refine Zo1 h λx x' p m ps ns ns' Ms Ms' e913 _=>?_;clear h;obtain rfl:=e913;rfl
 .refine Zpw h λx x' p m ps ns ns' Ms Ms' e914 e915 e916 e917=>?_;clear h;obtain rfl:=e914;obtain ⟨dx,g,d,z,l,lp,xs,st⟩:=e915;obtain ⟨dx',g',d',z',l',lp',xs',st'⟩:=e916;obtain ⟨hl,q⟩:=e917;refine ⟨_,((Zak (i:=2) nd rfl (Or.inl rfl) (@Zbm _ _ _ _ (Zab<&>Zaa)))<*>((Zbh Jan rfl (Zlp rfl T.n_zip ((Zcz (pv 0) rfl)<&>((Zcz (pv 1) rfl)<&>Zaa))) (@Zbv _ _ _ _ _ 2 rfl (@Zai _ _ _ _ _ (@Zae _ _ 3 _ nd rfl (Or.inl rfl) (Or.inl rfl)) (@Zai _ _ _ _ _ (@Zae _ _ 4 _ nd rfl (Or.inl rfl) (Or.inl rfl)) (@Za0 _) (by rfl)) (by rfl)) (by rfl) (by rfl)) (@Zal _ _ _ (Zb2 (Zez Jax Jay Jaz (mtJ Zba) (pvr 2) ((Zay<|>(Zaj<|>(pvr 2)<||>(Zjp Zfp Zab))<&&>((opJ Za4)<|>(pvr 4)<&&>(pvr 3)))<&>Zaa)))))<*>(~~~(pvr 2)))),?_⟩;walk_at "wp";refine ⟨by decide,λD0 hD0=>?_⟩;have s1:=Same.new (o:=.lst [V.int 0]) hD0;have q1:(upd H D0 (.lst [V.int 0])) D0 = some (.lst (stL ns ns' 1)):=Zac;generalize upd H D0 (.lst [V.int 0]) = H1 at *;have n8:=st.szs.2.1;refine ⟨_,rfl,x,S,dx,_,_,rfl,s1 _ _ st.ins,T.cl_Standing,T.nSs,Zdi ..,_,rfl,x',S,dx',_,_,rfl,s1 _ _ st'.ins,T.cl_Standing,T.nSs,Zdi ..,z,z',rfl,⟨_,SqL.of (s1 _ _ st.szs.1)⟩,⟨_,SqL.of (s1 _ _ st'.szs.1)⟩,
   Zsm (xs:=ns.map V.int) (ys:=ns'.map V.int) (λi σ H2=>∃ v3 v4:Option V,σ = [some (.ref x),some (.ref x'),some (.ref D0),v3,v4]/\Same H H2/\H2 D0 = some (.lst (stL ns ns' (i + 1)))) (by rw [Jab,Jab,hl]) ⟨none,none,rfl,s1,q1⟩ (λi σ H2 _ ⟨_,_,_,e,_⟩=>⟨SqL.of (e _ _ st.szs.1),SqL.of (e _ _ st'.szs.1)⟩) ?_ ?_⟩
  .intro i a b pz σ H2 ha hb hpz e91;refine Zbl e91 λv3 v4 e918 s2 h2=>?_;clear e91;obtain rfl:=e918;refine Zad (Zej ha) λn fa e919=>?_;obtain rfl:=e919;refine Zad (Zej hb) λn' fb e920=>?_;obtain rfl:=e920;have hi:i < ns.length:=(Jag.mp fa).1;obtain ⟨a0,a1⟩:=st.szs.2.2 n (Jad fa);obtain ⟨b0,b1⟩:=st'.szs.2.2 n' (Jad fb);have s3:=Same.new (o:=.tup [V.int n,V.int n']) hpz;have h3:=s3 _ _ h2;walk_at "wp";refine ⟨_,SqT.of Zac,rfl,_,_,rfl,_,_,rfl,rfl,?_⟩;generalize upd H2 pz (.tup [V.int n,V.int n']) = H3 at *;refine ⟨.inl ⟨rfl,_,SqL.of h3⟩,_,SqL.of h3,_,Zfl,(Zgl b0 b1).mul (Zgl a0 a1),_,rfl,_,h3,Zap (by rw [Jab,Ja4]; omega),_,_,⟨rfl,rfl⟩,(s2.trans s3).upd hD0,?_⟩;rw [Zac,Znt (Zqe fa fb a0 b0)]
  .intro σ H2 e92;refine Zbl e92 λv3 v4 e921 s2 h2=>?_;clear e92;obtain rfl:=e921;rw [Jab] at h2;exact q D0 H2 s2 hD0 h2
theorem Zne (p:Int):(Zl1 p).lookup ("number" : Str) = none:=Zkw _ (by decide +kernel)
theorem Zpj (p:Int):(Zl1 p).lookup ("minus" : Str) = none:=Zkw _ (by decide +kernel)
theorem Zn7 {ns ns':List Int} {tl:Int} {k j:Nat} (h:tl.toNat < ns.length) (hk:k < nt ns' tl) (hj:j < nt ns tl):stN ns ns' tl.toNat + k * nt ns tl + j < stN ns ns' ns.length:=by
 have h1:=Zt1 ns ns' (show tl.toNat + 1<=ns.length by omega);have h2:stN ns ns' (tl.toNat + 1) = stN ns ns' tl.toNat + nt ns' tl * nt ns tl:=rfl;have h3:(k + 1) * nt ns tl<=nt ns' tl * nt ns tl:=Jca hk (Jaf _);rw [Jel] at h3;omega
theorem TabsV.at {H:Hp} {p:Int} {l:Addr} {ps:List (Int × Int)} {ns:List Int} {Ms:List Mv} (h:TabsV H p l ps ns Ms) {t:Nat} {q:Int × Int} (hq:ps[t]? = some q):∃ ts tt r rs,H l = some (.lst ts)/\ts[t]? = some (.ref tt)/\TabV H p (nt ns q.2:Nat) (nt ns q.1:Nat) tt r rs (Ms.getD t []):=by
 refine Zav h λts a b c=>?_;clear h;have ht:t < ts.length:=by have:=(Jag.mp hq).1; omega
 refine Zla (c t _ q (Jaa ht) hq) λr rs tv=>?_;exact Zke _ _ r rs ⟨a,by rw [Jah,Jaa ht]; rfl,tv⟩
theorem TabV.rowAt {H:Hp} {p hh wd:Int} {t r:Addr} {rs:List Addr} {M:Mv} (h:TabV H p hh wd t r rs M) {i:Nat} (hi:i < M.length):∃ a vs,(rs.map V.ref)[i]? = some (.ref a)/\H a = some (.lst vs)/\All2 (NumV H p) vs (M.getD i []):=by
 have e:M[i]? = some (M.getD i []):=by rw [Zbe hi]; exact Jaa _
 refine Zad (h.row.at e) λa ea e922=>?_;obtain ⟨vs,hv,al⟩:=e922;exact Zau a vs ⟨by rw [Jah,ea]; rfl,hv,al⟩
theorem Zjo {H:Hp} {z:Addr} {ns:List Int} {i:Int} (h:Sizes H z ns) (h0:0<=i) (h1:i < ns.length):atI (ns.map V.int) i = some (.int (nt ns i:Nat)):=by
 have:=Zmf (ns:=ns) h0 h1;rw [this];have h2:=h.2.2 (ns.getD i.toNat 0) (Za7 (by omega));unfold nt;rw [Jbv h2.1]
def spDr (S C G:Addr):L2.Sp:=λvs H Q _=>∃ (x x':Addr) (p m:Int) (ps:List (Int × Int)) (ns ns':List Int) (Ms Ms':List Mv) (t i j:Nat) (q:Int × Int),vs = [.ref x,.ref x',.int t,.int i,.int j]/\StV S C G H x p m ps ns Ms/\StV S C G H x' p m ps ns' Ms'/\GroundP p/\Vals p m ps ns Ms/\Vals p m ps ns' Ms'/\ps[t]? = some q/\i < nt ns' q.2/\j < nt ns q.1 /\
 ∀ (D:Addr) H',Same H H'->H D = none->RowV H' p D (Zpm p ns ns' q (Ms.getD t []) (Ms'.getD t []) i j)->Q (.ref D) H'
theorem ok_dr {f:Addr} {fd:FuncData} (F:Fun K "difference_row" "difference_row" Zcx f fd) (T:Txt K mg C G S) (C_place_starts:Cal P w K mg base "place_starts" 1 (Zt2 S C G)) (C_Ground_number:CalD P w K mg base G "number" 6 (Zqk G) [.int 1]) (C_Ground_minus:CalM P w K mg base G "minus" 6 (spMin G)):FnOk P w K mg base CX0 7 f fd ["one","other","at","row_place","column_place"] (spDr S C G):=by
 have nd:=Zdx.nd;refine F.ok Zdx (λvs H Q E h=>?_) (λcdv A outer s H vs Q E hr h=>?_)
 .refine xE13_2 h λx x' p m ps ns ns' Ms Ms' t i j q e923 _=>?_;clear h;obtain rfl:=e923;rfl
 .refine xE13_4 h λx x' p m ps ns ns' Ms Ms' t i j e924 e925 i1 i2 e926=>?_;clear h;obtain ⟨tl,hd⟩:=e924;obtain rfl:=e925;refine Zto e926 λhp V1 V2 hq hi hj q=>?_;clear e926;refine Zmk (id i1) λdx g d z l lp xs st=>?_;refine Zmk (id i2) λdx' g' d' z' l' lp' xs' st'=>?_;have hi:i < nt ns' hd:=hi;have hj:j < nt ns tl:=hj;refine ⟨_,((Zak (i:=5) nd rfl (Or.inl rfl) (Zbc (pvr 0) rfl))<*>((Zak (i:=6) nd rfl (Or.inl rfl) (Za6 C_place_starts hr.m rfl ((pvr 0)<&>((pvr 1)<&>Zaa))))<*>((Zb3 (Zaj<|>(Zcz (Zbc (pvr 0) rfl) rfl)<||>(pvr 2)) (@Zbv _ _ _ _ _ 2 rfl (@Zai _ _ _ _ _ (@Zae _ _ 7 _ nd rfl (Or.inl rfl) (Or.inl rfl)) (@Zai _ _ _ _ _ (@Zae _ _ 8 _ nd rfl (Or.inl rfl) (Or.inl rfl)) (@Za0 _) (by rfl)) (by rfl)) (by rfl) (by rfl)))<*>((Zak (i:=9) nd rfl (Or.inl rfl) (op_rep<|>(@Zbm _ _ _ _ ((pe_mthD T.cl_Ground C_Ground_number hr.m (pvr 5) (Zab<&>Zaa))<&>Zaa))<&&>(Zaj<|>(pvr 6)<||>(Zjp Zfp Zab))))<*>((Zbh Jan rfl (Zlq rfl T.n_enumerate ((Zaj<|>(Zaz<|>(Zaj<|>(Zcz (pv 1) rfl)<||>(pv 2))<||>Zab)<||>(pv 3))<&>Zaa)) (@Zbv _ _ _ _ _ 2 rfl (@Zai _ _ _ _ _ (@Zae _ _ 10 _ nd rfl (Or.inl rfl) (Or.inl rfl)) (@Zai _ _ _ _ _ (@Zae _ _ 11 _ nd rfl (Or.inl rfl) (Or.inl rfl)) (@Za0 _) (by rfl)) (by rfl)) (by rfl) (by rfl)) (@Zal _ _ _ (Zb3 (pvr 11) (Zh4 (pvr 9) (Zay<|>(Zay<|>((ixJ Zaj)<|>(pvr 6)<||>(pvr 7))<&&>(Zgt<|>(pvr 10)<&&>(Zaj<|>(Zbc (pvr 0) rfl)<||>(pvr 7))))<&&>(pvr 4)) Zdj))))<*>((Zbh Jan rfl (Zlq rfl T.n_enumerate ((Zaz<|>(Zaj<|>(Zcz (pv 0) rfl)<||>(pv 2))<||>Zab)<&>Zaa)) (@Zbv _ _ _ _ _ 2 rfl (@Zai _ _ _ _ _ (@Zae _ _ 10 _ nd rfl (Or.inl rfl) (Or.inl rfl)) (@Zai _ _ _ _ _ (@Zae _ _ 12 _ nd rfl (Or.inl rfl) (Or.inl rfl)) (@Za0 _) (by rfl)) (by rfl)) (by rfl) (by rfl)) ((Zak (i:=13) nd rfl (Or.inl rfl) (Zay<|>(Zay<|>((ixJ Zaj)<|>(pvr 6)<||>(pvr 8))<&&>(Zgt<|>(pvr 3)<&&>(Zaj<|>(Zbc (pvr 0) rfl)<||>(pvr 8))))<&&>(pvr 10)))<*>(@Zal _ _ _ (Zb3 (Zwa T.cl_Ground C_Ground_minus hr.m (pvr 5) (((ixJ Zaj)<|>(pvr 9)<||>(pvr 13))<&>(((ixJ Zaj)<|>(pvr 12)<||>(pvr 4))<&>Zaa))) (Zh4 (pvr 9) (pvr 13) Zdj)))))<*>(~~~(pvr 9)))))))),?_⟩;refine cut2 λX hX=>?_;walk_at "wp";have hll:ns'.length = ns.length:=by have:=V1.hm; have:=V2.hm; omega
  refine Zby S dx _ ⟨st.ins,T.cl_Standing,T.nSg,_,Zgm ..,x,x',p,m,ps,ns,ns',Ms,Ms',rfl,i1,i2,hll,λD H1 s1 hD eD=>?_⟩;have st1:=st.same s1;have st1':=st'.same s1;clear st st' i1 i2;refine Zad st1.drw λdd hd1 hd2=>?_;obtain ⟨xq,exq,hxq⟩:∃ xq,xs[t]? = some (V.ref xq)/\H1 xq = some (.tup [.int tl,.int hd]):=by
   have ht:t < xs.length:=by have:=(Jag.mp hq).1; have:=st1.prs.1; omega
   refine Zad (st1.prs.2 t _ _ (Jaa ht) hq) λxq e h=>?_;exact ⟨xq,by rw [Jaa ht,e],h⟩
  refine Zcj (V1.ip _ (Jad hq)) λi0 i1 j0 j1=>?_;subst hX;refine Zd2 λX hX=>?_;walk_at "wp";refine Zby S dx _ ⟨st1.ins,T.cl_Standing,T.nSd,_,Zc2 ..,d,rfl,C,dd,_,hd1,T.cl_Drawing,T.nA,_,Zcg m lp,lp,rfl,_,SqL.of hd2,_,Zd4 exq,_,rfl,_,SqT.of hxq,rfl,_,_,rfl,_,_,rfl,rfl,?_⟩;subst hX;refine Zd2 λX hX=>?_;walk_at "wp";obtain ⟨dg,hg0⟩:=st1.grd;have tot:stN ns ns' ns.length<=36:=by
   have h1:=Zns ns.length (B:=6) (λn h=>(V1.sz n h).1) V2.sz (Jaf _);rw [Jcl] at h1;have:=V1.sum;omega
  refine Zau dg _ ⟨hg0,Zne p,g,p,0,1,rfl,⟨dg,hg0⟩,hp,Za8 (by decide) (by decide),Za8 (by decide) (by decide),λ_=>by decide,one_mod hp,λnv nx H2 s2 hnv iq=>⟨by decide,λo1 ho1=>?_⟩⟩;rw [Zpg hp iq] at hnv;have s3:=s2.trans (Same.new (o:=.lst [nv]) ho1);have e3:upd H2 o1 (.lst [nv]) o1 = some (.lst [nv]):=Zac;have hnv3:=hnv.same (Same.new (o:=.lst [nv]) ho1);generalize upd H2 o1 (.lst [nv]) = H3 at *;refine ⟨_,SqL.of (s3 _ _ eD),_,Zfl,o1,_,_,rfl,rfl,e3,by omega,by omega,by show 1 * _<=_; rw [Jba]; exact Jav (show 1 * _<=36 by omega) (by decide),λFd hFd=>?_⟩;rw [rep1,Jba];have s4:=s3.trans (Same.new (o:=.lst (List.replicate (stN ns ns' ns.length) nv)) hFd);have rF:RowV (upd H3 Fd (.lst (List.replicate (stN ns ns' ns.length) nv))) p Fd (List.replicate (stN ns ns' ns.length) (0,1)):=⟨_,Zac,All2.rep (hnv3.same (Same.new hFd)) _⟩
  generalize upd H3 Fd (.lst (List.replicate (stN ns ns' ns.length) nv)) = H4 at *;have fF:H1 Fd = none:=s3.free hFd;have n8:=st1.szs.2.1;have hl1:=V1.hm;have ht0:tl.toNat < ns.length:=by omega
  have hd0:hd.toNat < ns.length:=by omega
  have et:atI (stL ns ns' (ns.length + 1)) tl = some (V.int (stN ns ns' tl.toNat:Nat)):=Zb0 i0 (Zlg (by omega));have eh:atI (stL ns ns' (ns.length + 1)) hd = some (V.int (stN ns ns' hd.toNat:Nat)):=Zb0 j0 (Zlg (by omega));refine Zk9 (st1.tbs.at hq) λts1 tt1 r1 rs1 hl1' et1 tv1=>?_;refine Zk9 (st1'.tbs.at hq) λts2 tt2 r2 rs2 hl2' et2 tv2=>?_;obtain ⟨sh1,sr1⟩:=V1.sh t _ hq;obtain ⟨sh2,sr2⟩:=V2.sh t _ hq;obtain ⟨a2,vs2,ea2,ha2,al2⟩:=tv2.rowAt (i:=i) (by rw [sh2]; exact hi);have hr2:=sr2 _ (Za7 (d:=[]) (show i < (Ms'.getD t []).length by rw [sh2]; exact hi));have lv2:vs2.length = nt ns' tl:=al2.1.trans hr2.1;have b6:=(Zhh (i:=tl) (B:=6) V1.sz).1;have b6':=(Zhh (i:=tl) (B:=6) V2.sz).1;have b6h:=(Zhh (i:=hd) (B:=6) V1.sz).1;have b6h':=(Zhh (i:=hd) (B:=6) V2.sz).1;clear s2 s3 hnv hnv3 iq e3 ho1 hFd;subst hX;refine Zd2 λX hX=>?_;walk_at "wp";refine ⟨_,rfl,x',S,dx',_,_,rfl,s4 _ _ st1'.ins,T.cl_Standing,T.nSt,Zlk ..,_,rfl,l',_,_,_,rfl,rfl,SqL.of (s4 _ _ hl2'),Zd4 et2,tt2,_,_,_,rfl,rfl,SqT.of (s4 _ _ tv2.tup),rfl,_,rfl,r2,_,_,_,rfl,rfl,SqL.of (s4 _ _ tv2.lst),Zd4 ea2,a2,rfl,⟨_,SqL.of (s4 _ _ ha2)⟩,
   Zk0 (xs:=vs2) (λk σ H5=>∃ (v10 v11:Option V),σ = [some (.ref x),some (.ref x'),some (.int t),some (.int i),some (.int j),some (.ref g),some (.ref D),some (.int tl),some (.int hd),some (.ref Fd),v10,v11,none,none]/\Same H1 H5/\RowV H5 p Fd (Zo9 ((Ms'.getD t []).getD i []) (stN ns ns' tl.toNat) (nt ns tl) j k (List.replicate (stN ns ns' ns.length) (0,1))))
   ⟨none,none,rfl,s4,rF⟩ (λk σ H5 _ ⟨_,_,_,s5,_⟩=>SqL.of (s5 _ _ ha2)) ?_ ?_⟩
  .intro k u pz σ H5 hu hpz e93;refine Zbl e93 λv10 v11 e927 s5 r5=>?_;clear e93;obtain rfl:=e927;have hk:k < nt ns' tl:=by have:=(Jag.mp hu).1; omega
   refine Zad (al2.at' hu) λy ey ny=>?_;have s6:=s5.trans (Same.new (o:=.tup [V.int k,u]) hpz);have r6:=r5.same (Same.new (o:=.tup [V.int k,u]) hpz);have e6:upd H5 pz (.tup [V.int k,u]) pz = some (.tup [V.int k,u]):=Zac;generalize upd H5 pz (.tup [V.int k,u]) = H6 at *;walk_at "wp";refine ⟨_,SqT.of e6,rfl,_,_,rfl,_,_,rfl,rfl,?_⟩;refine Zad r6 λws hws alw=>?_;clear r6;have wl:ws.length = stN ns ns' ns.length:=by rw [alw.1,Zed,Jbg]
   have pl:=Zn7 (j:=j) ht0 hk hj;refine ⟨_,SqL.of (s6 _ _ eD),_,et,S,dx,_,s6 _ _ st1.ins,T.cl_Standing,T.nSs,_,Zdi ..,z,rfl,_,SqL.of (s6 _ _ st1.szs.1),_,Zjo st1.szs i0 (by omega),_,rfl,_,rfl,.inl ⟨by omega,by omega⟩,_,rfl,ws,hws,stN ns ns' tl.toNat + k * nt ns tl + j,?_,_,_,⟨rfl,rfl⟩,s6.upd fF,⟨_,Zac,?_⟩⟩
   .rw [show ((stN ns ns' tl.toNat:Nat):Int) + (k:Int) * ((nt ns tl:Nat):Int) + (j:Int) = ((stN ns ns' tl.toNat + k * nt ns tl + j:Nat):Int) by rw [Jbz,Jbz,Jb8]];exact Zr1 (wl ▸ pl)
   .have:=(alw.mono λ_ _ q=>q.put (o:=.lst (ws.set (stN ns ns' tl.toNat + k * nt ns tl + j) u)) hws).set (stN ns ns' tl.toNat + k * nt ns tl + j) ((ny.same s6).put hws);show All2 _ _ (List.set _ _ _);rw [Zat ey];exact this
  .intro σ H5 e94;refine Zbl e94 λv10 v11 e928 s5 r5=>?_;clear e94;obtain rfl:=e928;rw [lv2] at r5;have key:X { nx:=λx H'=>Q V.non H',rt:=Q } [some (.ref x),some (.ref x'),some (.int t),some (.int i),some (.int j),some (.ref g),some (.ref D),some (.int tl),some (.int hd),some (.ref Fd),v10,v11,none,none] H5:=by
    subst hX;refine Zd2 λX hX=>?_;walk_at "wp";have rl1:rs1.length = nt ns hd:=tv1.row.1.trans sh1;refine ⟨_,rfl,x,S,dx,_,_,rfl,s5 _ _ st1.ins,T.cl_Standing,T.nSt,Zlk ..,_,rfl,l,_,_,_,rfl,rfl,SqL.of (s5 _ _ hl1'),Zd4 et1,tt1,_,_,_,rfl,rfl,SqT.of (s5 _ _ tv1.tup),rfl,r1,rfl,⟨_,SqL.of (s5 _ _ tv1.lst)⟩,
     Zk0 (xs:=rs1.map V.ref) (λk σ H6=>∃ (v10 v11 v12 v13:Option V),σ = [some (.ref x),some (.ref x'),some (.int t),some (.int i),some (.int j),some (.ref g),some (.ref D),some (.int tl),some (.int hd),some (.ref Fd),v10,v11,v12,v13]/\Same H1 H6/\RowV H6 p Fd (Ztb p (λk=>((Ms.getD t []).getD k []).getD j (0,1)) (stN ns ns' hd.toNat + i * nt ns hd) k (Zo9 ((Ms'.getD t []).getD i []) (stN ns ns' tl.toNat) (nt ns tl) j (nt ns' tl) (List.replicate (stN ns ns' ns.length) (0,1)))))
     ⟨v10,v11,none,none,rfl,s5,r5⟩ (λk σ H6 _ ⟨_,_,_,_,_,s6,_⟩=>SqL.of (s6 _ _ tv1.lst)) ?_ ?_⟩
    .intro k u pz σ H6 hu hpz e95;refine Zk9 e95 λv10 v11 v12 v13 e929 s6 r6=>?_;clear e95;obtain rfl:=e929;have hk:k < nt ns hd:=by have:=(Jag.mp hu).1; rw [Jab,rl1] at this; exact this
     obtain ⟨a1,vs1,ea1,ha1,al1⟩:=tv1.rowAt (i:=k) (by rw [sh1]; exact hk);rw [hu] at ea1;cases ea1;have hr1:=sr1 _ (Za7 (d:=[]) (show k < (Ms.getD t []).length by rw [sh1]; exact hk));have lv1:vs1.length = nt ns tl:=al1.1.trans hr1.1;obtain ⟨vb,evb⟩:∃ vb,vs1[j]? = some vb:=⟨_,Jaa (by omega)⟩
     refine Zad (al1.at' evb) λy ey ny=>?_;have s7:=s6.trans (Same.new (o:=.tup [V.int k,V.ref a1]) hpz);have r7:=r6.same (Same.new (o:=.tup [V.int k,V.ref a1]) hpz);have e7:upd H6 pz (.tup [V.int k,V.ref a1]) pz = some (.tup [V.int k,V.ref a1]):=Zac;generalize upd H6 pz (.tup [V.int k,V.ref a1]) = H7 at *;simp only [Zps,Zge,Ztf,Zbi,List.set_cons_zero,List.set_cons_succ];refine Zau pz _ ⟨rfl,SqT.of e7,rfl,_,_,rfl,_,_,rfl,rfl,?_⟩;refine Zad r7 λws hws alw=>?_;clear r7;have wl:ws.length = stN ns ns' ns.length:=by rw [alw.1,Zih,Zed,Jbg]
     have pl:=Zn7 (j:=k) hd0 hi hk;refine Zd2 λY hY=>?_;walk_at "wp";refine ⟨_,SqL.of (s7 _ _ eD),_,eh,S,dx,_,s7 _ _ st1.ins,T.cl_Standing,T.nSs,_,Zdi ..,z,rfl,_,SqL.of (s7 _ _ st1.szs.1),_,Zjo st1.szs j0 (by omega),_,rfl,.inl ⟨by omega,by omega⟩,_,rfl,?_⟩;rw [show ((stN ns ns' hd.toNat:Nat):Int) + (i:Int) * ((nt ns hd:Nat):Int) + (k:Int) = ((stN ns ns' hd.toNat + i * nt ns hd + k:Nat):Int) by rw [Jbz,Jbz,Jb8]];subst hY;walk_at "wp";have hr1g:=hr1.2 y (Jad ey);have hpos:stN ns ns' hd.toNat + i * nt ns hd + k < ws.length:=wl ▸ pl;obtain ⟨va,eva⟩:∃ va,ws[stN ns ns' hd.toNat + i * nt ns hd + k]? = some va:=⟨_,Jaa hpos⟩
     refine Zad (alw.at' eva) λu eu nu=>?_;have gu:Isn p u/\BtN 14 u:=by
      have h0:Zco p 14 [(0,1)]:=λx hx=>by rw [Jaq.mp hx]; exact ⟨Zch hp,Za8 (by decide) (by decide),Za8 (by decide) (by decide)⟩
      have hg:=Zko (s:=stN ns ns' tl.toNat) (w:=nt ns tl) (c:=j) h0 hr2.2 (r:=List.replicate (stN ns ns' ns.length) (0,1)) (λx hx=>by rw [(Jdw.mp hx).2]; exact h0 _ (by simp)) (nt ns' tl);have e1:=Zkh (p:=p) (f:=λk=>((Ms.getD t []).getD k []).getD j (0,1)) (s:=stN ns ns' hd.toNat + i * nt ns hd) (k:=k) (r:=Zo9 ((Ms'.getD t []).getD i []) (stN ns ns' tl.toNat) (nt ns tl) j (nt ns' tl) (List.replicate (stN ns ns' ns.length) (0,1)));rw [Zat eu] at e1;rw [e1];exact hg _ (Za7 (by rw [Zed,Jbg]; exact pl))
     refine Zau dg _ ⟨s7 _ _ hg0,Zpj p,_,SqL.of hws,va,Zd4 eva,_,SqL.of (s7 _ _ ha1),vb,Zd4 evb,g,p,va,vb,u,y,rfl,⟨dg,s7 _ _ hg0⟩,hp,nu,ny.same s7,gu.1,hr1g.1,BtN.le gu.2 (by decide),BtN.le hr1g.2 (by decide),λv8 H8 s8 n8=>?_⟩;have hws8:=s8 _ _ hws;refine ⟨ws,hws8,stN ns ns' hd.toNat + i * nt ns hd + k,Zr1 hpos,_,_,_,_,⟨rfl,rfl,rfl,rfl⟩,(s7.trans s8).upd fF,⟨_,Zac,?_⟩⟩;have:=(alw.mono λ_ _ q=>(q.same s8).put (o:=.lst (ws.set (stN ns ns' hd.toNat + i * nt ns hd + k) v8)) hws8).set (stN ns ns' hd.toNat + i * nt ns hd + k) (n8.put hws8);show All2 _ _ (List.set _ _ _);rw [Zat eu];show All2 _ _ (List.set _ _ (Zdy p u (((Ms.getD t []).getD k []).getD j (0,1))));rw [Zat ey];exact this
    .intro σ H6 e96;refine Zk9 e96 λv10 v11 v12 v13 e930 s6 r6=>?_;clear e96;obtain rfl:=e930;subst hX;walk_at "wp";rw [Jab,rl1] at r6;exact q Fd H6 (s1.trans s6) (s1.free fF) r6
   exact key
end
end Pf
namespace Pf
open PySem L2 L3 PyProof.Rows
section
variable {P:Program} {w:World} {K:PySem.W.Frag} {mg:Str->Option Value} {base:Heap} {C PL:Addr}
def MadeR (H H':Hp) (p:Int) (R:Addr) (rs:List Addr) (M:Mv):Prop:=H' R = some (.lst (rs.map V.ref))/\All2 (RowV H' p) rs M/\R ∉ rs/\∀ a ∈ rs,H a = none
theorem MadeR.same {H H' H2:Hp} {p:Int} {R:Addr} {rs:List Addr} {M:Mv} (h:MadeR H H' p R rs M) (s:Same H' H2):MadeR H H2 p R rs M:=⟨s _ _ h.1,h.2.1.mono λ_ _ q=>q.same s,h.2.2⟩
theorem MadeR.add {H H':Hp} {p:Int} {R a:Addr} {rs:List Addr} {M:Mv} {xs:List Nv} (h:MadeR H H' p R rs M) (ha:RowV H' p a xs) (na:a ≠ R) (fa:H a = none):MadeR H (upd H' R (.lst (rs.map V.ref ++ [.ref a]))) p R (rs ++ [a]) (M ++ [xs]):=by
 refine ⟨by rw [Zac,Zbq],(h.2.1.app (All2.one ha)).monoM λb ys hb q=>q.put h.1 (λz=>?_),λz=>?_,λb hb=>?_⟩
 .rcases Jai.mp hb with h1 | h1
  .exact h.2.2.1 (z ▸ h1)
  .exact na (by rw [<- Jaq.mp h1]; exact z)
 .rcases Jai.mp z with h1 | h1
  .exact h.2.2.1 h1
  .exact na (Jaq.mp h1).symm
 .rcases Jai.mp hb with h1 | h1
  .exact h.2.2.2 b h1
  .rw [Jaq.mp h1]; exact fa
theorem nt_nt {ns ns':List Int} {i j:Int} (h:∀ n ∈ ns,0<=n/\n<=6) (h':∀ n ∈ ns',0<=n/\n<=6):nt ns' j * nt ns i<=36:=Zwe (c:=6) (d:=6) (Zhh h').1 (Zhh h).1
theorem Zss {p:Int} {ns1 ns2:List Int} {ps:List (Int × Int)} {Ms1 Ms2:List Mv} (h1:∀ n ∈ ns1,0<=n/\n<=6) (h2:∀ n ∈ ns2,0<=n/\n<=6):∀ n,(dM p ns1 ns2 ps Ms1 Ms2 n).length<=36 * n
 | 0=>Jaf _
 | n + 1=>by
  rw [Zk2,Jae,Zjg];have:=Zss (p:=p) (ps:=ps) (Ms1:=Ms1) (Ms2:=Ms2) h1 h2 n;have:=nt_nt (i:=(ps.getD n (0,0)).1) (j:=(ps.getD n (0,0)).2) h1 h2;omega
theorem dM_gd {p m:Int} {ns1 ns2:List Int} {ps:List (Int × Int)} {Ms1 Ms2:List Mv} (hp:GroundP p) (V1:Vals p m ps ns1 Ms1) (V2:Vals p m ps ns2 Ms2):∀ xs ∈ dM p ns1 ns2 ps Ms1 Ms2 ps.length,Zco p 30 xs:=λxs hx=>by
 refine Zbj (Zsr hx) λt i j ht hi hj e97=>?_;obtain rfl:=e97;have hq:ps[t]? = some (ps.getD t (0,0)):=by rw [Zbe ht]; exact Jaa _
 have h0:Zco p 14 [(0,1)]:=λx hx=>by rw [Jaq.mp hx]; exact ⟨Zch hp,Za8 (by decide) (by decide),Za8 (by decide) (by decide)⟩
 obtain ⟨sh1,sr1⟩:=V1.sh t _ hq;obtain ⟨sh2,sr2⟩:=V2.sh t _ hq;unfold Zpm;refine Zp8 (n:=14) hp (by decide) h0 (λk=>?_) (Zko h0 (sr2 _ (Za7 (by omega))).2 (λx hx=>by rw [(Jdw.mp hx).2]; exact h0 _ (by simp)) _) _;by_cases hk:k < (Ms1.getD t []).length
 .have:=sr1 _ (Za7 (d:=[]) hk);exact this.2 _ (Za7 (by omega))
 .rw [show (Ms1.getD t []).getD k [] = [] by rw [Jac,Jal (by omega)]; rfl];exact h0 _ (by simp)
theorem Zp6 {p m:Int} {ns1 ns2:List Int} {ps:List (Int × Int)} {Ms1 Ms2:List Mv} (V1:Vals p m ps ns1 Ms1) (V2:Vals p m ps ns2 Ms2):stN ns1 ns2 ns1.length<=36/\(p = 0->stN ns1 ns2 ns1.length<=9):=by
 have h1:=Zns ns1.length (B:=6) (λn h=>(V1.sz n h).1) V2.sz (Jaf _);rw [Jcl] at h1;have:=V1.sum;refine ⟨by omega,λh=>?_⟩;have s1:=V1.sum0 h;have s2:=V2.sum0 h;have h2:=Zns ns1.length (ns2:=ns2) (B:=3) (λn h=>(V1.sz n h).1) (λn hn=>by
  obtain ⟨i,hi,rfl⟩:=Jap.mp hn;have:=Zls (ns:=ns2) (i:=i) λn h=>(V2.sz n h).1;rw [Zbe hi] at this;exact ⟨this.1,by omega⟩) (Jaf _)
 rw [Jcl] at h2;omega
def spDif (S C G:Addr):L2.Sp:=λvs H Q _=>∃ (x x':Addr) (p m:Int) (ps:List (Int × Int)) (ns ns':List Int) (Ms Ms':List Mv),vs = [.ref x,.ref x']/\StV S C G H x p m ps ns Ms/\StV S C G H x' p m ps ns' Ms'/\GroundP p/\Vals p m ps ns Ms/\Vals p m ps ns' Ms' /\
 ∀ (t R:Addr) (rs:List Addr) (n:Int) H',Same H H'->H' t = some (.tup [.int n,.int (stN ns ns' ns.length:Nat),.ref R])->MadeR H H' p R rs (dM p ns ns' ps Ms Ms' ps.length)->Q (.ref t) H'
theorem ok_dif {f:Addr} {fd:FuncData} (F:Fun K "differences" "differences" Zea f fd) (T:Txt K mg C G S) (C_stands_on:Cal P w K mg base "stands_on" 1 (spOn S C G)) (C_place_starts:Cal P w K mg base "place_starts" 1 (Zt2 S C G)) (C_difference_row:Cal P w K mg base "difference_row" 7 (spDr S C G)):FnOk P w K mg base CX0 8 f fd ["one","other"] (spDif S C G):=by
 have nd:=Zfu.nd;refine F.ok Zfu (λvs H Q E h=>?_) (λcdv A outer s H vs Q E hr h=>?_)
 .refine Zo1 h λx x' p m ps ns ns' Ms Ms' e98 _=>?_;clear h;obtain rfl:=e98;rfl
 .refine Zpw h λx x' p m ps ns ns' Ms Ms' e99 i1 i2 e910=>?_;clear h;obtain rfl:=e99;refine Zcj e910 λhp V1 V2 q=>?_;clear e910;refine Zmk (id i1) λdx g d z l lp xs st=>?_;refine Zmk (id i2) λdx' g' d' z' l' lp' xs' st'=>?_;refine ⟨_,((@Za1 _ _ _ _ _ _ _ _ (Zbz (Zb1 (Za6 C_stands_on hr.m rfl ((pvr 0)<&>((Zbc (pvr 1) rfl)<&>((Zbc (pvr 1) rfl)<&>Zaa)))))) (@Zal _ _ _ Zee) Zan)<*>((Zak (i:=2) nd rfl (Or.inl rfl) (@Zbm _ _ _ _ Zaa))<*>((Zbh Jan rfl (Zlq rfl T.n_enumerate ((Zcz (Zcz (pv 0) rfl) rfl)<&>Zaa)) (@Zbv _ _ _ _ _ 2 rfl (@Zai _ _ _ _ _ (@Zae _ _ 3 _ nd rfl (Or.inl rfl) (Or.inl rfl)) (@Zai _ _ _ _ _ (@Zbv _ _ _ _ _ 2 rfl (@Zai _ _ _ _ _ (@Zae _ _ 4 _ nd rfl (Or.inl rfl) (Or.inl rfl)) (@Zai _ _ _ _ _ (@Zae _ _ 5 _ nd rfl (Or.inl rfl) (Or.inl rfl)) (@Za0 _) (by rfl)) (by rfl)) (by rfl) (by rfl)) (@Za0 _) (by rfl)) (by rfl)) (by rfl) (by rfl)) (@Zal _ _ _ (Zbh Jan rfl (Zdt rfl T.n_range ((Zaj<|>(Zcz (pv 1) rfl)<||>(pv 5))<&>Zaa)) (@Zae _ _ 6 _ nd rfl (Or.inl rfl) (Or.inl rfl)) (@Zal _ _ _ (Zbh Jan rfl (Zdt rfl T.n_range ((Zaj<|>(Zcz (pv 0) rfl)<||>(pv 4))<&>Zaa)) (@Zae _ _ 7 _ nd rfl (Or.inl rfl) (Or.inl rfl)) (@Zal _ _ _ (Zb2 (Zez Jax Jay Jaz (mtJ Zba) (pvr 2) ((Za6 C_difference_row hr.m rfl ((pvr 0)<&>((pvr 1)<&>((pvr 3)<&>((pvr 6)<&>((pvr 7)<&>Zaa))))))<&>Zaa)))))))))<*>(~~~(@Zas _ _ _ _ _ ((Za3 Zaq rfl T.n_len Ja8 ((pvr 2)<&>Zaa))<&>((Zaj<|>(Za6 C_place_starts hr.m rfl ((pvr 0)<&>((pvr 1)<&>Zaa)))<||>(Zjp Zfp Zab))<&>((pvr 2)<&>Zaa)))))))),?_⟩;refine cut2 λX hX=>?_;walk_at "wp";refine Zby S dx' _ ⟨st'.ins,T.cl_Standing,T.nSg,_,Zgm ..,S,dx',_,st'.ins,T.cl_Standing,T.nSd,_,Zc2 ..,x,dx,g,d,z,l,g',d',lp,lp',p,p,m,m,xs,xs',ps,ps,rfl,st.ins,st.grd,st'.grd,st.drw,st'.drw,st.prs,st'.prs,?_⟩;refine ⟨true,by rw [Jaj ⟨rfl,rfl,rfl⟩],Zj8 (by decide) ⟨by decide,λR hR=>?_⟩⟩;have s1:=Same.new (o:=.lst []) hR;have q1:(upd H R (.lst [])) R = some (.lst []):=Zac;generalize upd H R (.lst []) = H1 at *;subst hX;refine Zd2 λX hX=>?_;walk_at "wp";refine Zad st.drw λdd hd1 hd2=>?_;have hxl:=st.prs.1;refine ⟨_,rfl,x,S,dx,_,_,rfl,s1 _ _ st.ins,T.cl_Standing,T.nSd,Zc2 ..,d,C,dd,_,_,rfl,s1 _ _ hd1,T.cl_Drawing,T.nA,Zcg m lp,lp,rfl,⟨_,SqL.of (s1 _ _ hd2)⟩,Zk0 (xs:=xs) (λt σ H2=>∃ (v3 v4 v5 v6 v7:Option V) (rs:List Addr),σ = [some (.ref x),some (.ref x'),some (.ref R),v3,v4,v5,v6,v7]/\Same H H2/\MadeR H H2 p R rs (dM p ns ns' ps Ms Ms' t))
   ⟨none,none,none,none,none,[],rfl,s1,q1,All2.nil,by simp,by simp⟩ (λi σ H2 _ ⟨_,_,_,_,_,_,_,e,_⟩=>SqL.of (e _ _ hd2)) ?_ ?_⟩
  .intro t u pz σ H2 hu hpz e91;refine xE6_3 e91 λv3 v4 v5 v6 v7 rs e911 s2 mr=>?_;clear e91;obtain rfl:=e911;refine Zpt λD2 hD2=>?_;have ht:t < ps.length:=by have:=(Jag.mp hu).1; omega
   have hq:ps[t]? = some (ps.getD t (0,0)):=by rw [Zbe ht]; exact Jaa _
   have ds:=Zk2 p ns ns' ps Ms Ms' t;have dl:=Zss (p:=p) (ps:=ps) (Ms1:=Ms) (Ms2:=Ms') V1.sz V2.sz t;generalize ps.getD t (0,0) = pq at *;obtain ⟨tl,hd⟩:=pq;refine Zad (st.prs.2 t u _ hu hq) λta e912 hta=>?_;obtain rfl:=e912;have s3:=s2.trans (Same.new (o:=.tup [V.int t,V.ref ta]) hpz);have mr3:=mr.same (Same.new (o:=.tup [V.int t,V.ref ta]) hpz);have e3:upd H2 pz (.tup [V.int t,V.ref ta]) pz = some (.tup [V.int t,V.ref ta]):=Zac;generalize upd H2 pz (.tup [V.int t,V.ref ta]) = H3 at *;refine Zcj (V1.ip _ (Jad hq)) λi0 i1' j0 j1=>?_;have hl1:=V1.hm;have hl2:=V2.hm;simp only [Zps,Zge,Ztf,Zbi,List.set_cons_zero,List.set_cons_succ];refine Zau pz _ ⟨rfl,SqT.of e3,rfl,_,_,rfl,_,_,rfl,⟨ta,_,rfl,SqT.of (s3 _ _ hta),rfl,_,_,rfl,_,_,rfl,rfl,?_⟩⟩;refine ⟨rfl,_,rfl,x',S,dx',_,_,rfl,s3 _ _ st'.ins,T.cl_Standing,T.nSs,Zdi ..,_,rfl,z',_,_,_,rfl,rfl,SqL.of (s3 _ _ st'.szs.1),Zjo st'.szs j0 (by omega),(nt ns' hd:Nat),rfl,Zu9 _,Zvf (Jav (Zhh (i:=hd) (B:=6) V2.sz).1 (by decide)),?_⟩;rw [Jba];have b6:=(Zhh (i:=tl) (B:=6) V1.sz).1;have b36:=nt_nt (i:=tl) (j:=hd) V1.sz V2.sz;refine Za2 (n:=nt ns' hd) (λi σ H4=>∃ (v6 v7:Option V) (rs:List Addr),σ = [some (.ref x),some (.ref x'),some (.ref R),some (.int t),some (.int tl),some (.int hd),v6,v7]/\Same H H4/\MadeR H H4 p R rs (dM p ns ns' ps Ms Ms' t ++ Zkb p ns ns' (tl,hd) (Ms.getD t []) (Ms'.getD t []) i)) ⟨v6,v7,rs,rfl,s3,by rw [show Zkb p ns ns' (tl,hd) (Ms.getD t []) (Ms'.getD t []) 0 = [] from rfl,Jcp]; exact mr3⟩ ?_ ?_
   .intro i σ H4 hi e92;refine Zia e92 λv6 v7 rs4 e913 s4 mr4=>?_;clear e92;obtain rfl:=e913;refine Zpt λD4 hD4=>?_;simp only [Zbi,List.set_cons_zero,List.set_cons_succ];have bs:=Zjf p ns ns' (tl,hd) (Ms.getD t []) (Ms'.getD t []) i;have bl:=Zjg (p:=p) (ns1:=ns) (ns2:=ns') (q:=(tl,hd)) (A1:=Ms.getD t []) (A2:=Ms'.getD t []) i;have i36:(i + 1) * nt ns tl<=36:=Jav (Jca hi (Jaf _)) b36;rw [Jel] at i36;have bl:(Zkb p ns ns' (tl,hd) (Ms.getD t []) (Ms'.getD t []) i).length + nt ns tl<=36:=by rw [bl]; exact i36
    rw [Jc3];refine ⟨_,rfl,x,S,dx,_,_,rfl,s4 _ _ st.ins,T.cl_Standing,T.nSs,Zdi ..,_,rfl,z,_,_,_,rfl,rfl,SqL.of (s4 _ _ st.szs.1),Zjo st.szs i0 (by omega),(nt ns tl:Nat),rfl,Zu9 _,Zvf (Jav b6 (by decide)),?_⟩;rw [Jba];refine Za2 (n:=nt ns tl) (λj σ H5=>∃ (v7:Option V) (rs:List Addr),σ = [some (.ref x),some (.ref x'),some (.ref R),some (.int t),some (.int tl),some (.int hd),some (.int i),v7]/\Same H H5/\MadeR H H5 p R rs (dM p ns ns' ps Ms Ms' t ++ Zkb p ns ns' (tl,hd) (Ms.getD t []) (Ms'.getD t []) i ++ (List.range j).map λj=>Zpm p ns ns' (tl,hd) (Ms.getD t []) (Ms'.getD t []) i j)) ⟨v7,rs4,rfl,s4,by rw [List.range_zero,List.map_nil,Jcp]; exact mr4⟩ ?_ ?_
    .intro j σ H5 hj e93;refine Zbl e93 λv7 rs5 e914 s5 mr5=>?_;clear e93;obtain rfl:=e914;have l5:rs5.length<=900:=by
      rw [mr5.2.1.1,Jae,Jae,Jab,Ja4];have:=V1.p9;omega
     walk_at "wp";rw [Jc3];refine ⟨.inl ⟨rfl,_,SqL.of mr5.1⟩,x,x',p,m,ps,ns,ns',Ms,Ms',t,i,j,(tl,hd),rfl,i1.same s5,i2.same s5,hp,V1,V2,hq,hi,hj,λD H6 s6 hD rv=>?_⟩;have mr6:=mr5.same s6;refine ⟨_,mr6.1,Zap (by rw [Jab]; omega),(s5.trans s6).upd hR,rs5 ++ [D],?_⟩;have:=mr6.add rv (Zag mr5.1 hD).symm (s5.free hD);rw [Jb7,Ja1,<- Jbw];exact this
    .intro σ H5 e94;refine Zbl e94 λv7 rs5 e915 s5 mr5=>?_;clear e94;obtain rfl:=e915;subst hD4;rw [Jbw,<- bs] at mr5;exact Zby _ v7 rs5 ⟨rfl,s5,mr5⟩
   .intro σ H4 e95;refine Zia e95 λv6 v7 rs4 e916 s4 mr4=>?_;clear e95;obtain rfl:=e916;subst hD2;rw [show dM p ns ns' ps Ms Ms' t ++ Zkb p ns ns' (tl,hd) (Ms.getD t []) (Ms'.getD t []) (nt ns' hd) = dM p ns ns' ps Ms Ms' (t + 1) from ds.symm] at mr4;exact xI6_1 _ _ _ v6 v7 rs4 ⟨rfl,s4,mr4⟩
  .intro σ H2 e96;refine xE6_3 e96 λv3 v4 v5 v6 v7 rs e917 s2 mr=>?_;clear e96;obtain rfl:=e917;subst hX;walk_at "wp";rw [hxl] at mr;refine ⟨_,.inl (SqL.of mr.1),x,x',p,m,ps,ns,ns',Ms,Ms',rfl,i1.same s2,i2.same s2,by have:=V1.hm; have:=V2.hm; omega,λD H3 s3 _ eD=>⟨D,rfl,_,SqL.of eD,_,Zfl,by decide,λtt htt=>?_⟩⟩;have s4:=Same.new (o:=.tup [V.int ((rs.map V.ref).length:Nat),V.int (stN ns ns' ns.length:Nat),V.ref R]) htt;exact q tt R rs _ _ (s2.trans (s3.trans s4)) Zac (mr.same (s3.trans s4))
def spCm (S C G PL:Addr):L2.Sp:=λvs H Q _=>∃ (x x':Addr) (p m:Int) (ps:List (Int × Int)) (ns ns':List Int) (Ms Ms':List Mv),vs = [.ref x,.ref x']/\StV S C G H x p m ps ns Ms/\StV S C G H x' p m ps ns' Ms'/\GroundP p/\Vals p m ps ns Ms/\Vals p m ps ns' Ms'/\H PL = some Zwg /\
 ∀ (rk:Nat) H',Same H H'->IsRk p (dM p ns ns' ps Ms Ms' ps.length).length (stN ns ns' ns.length) (dM p ns ns' ps Ms Ms' ps.length) rk->Q (.int ((stN ns ns' ns.length:Nat) - (rk:Nat))) H'
theorem ok_cm {f:Addr} {fd:FuncData} (F:Fun K "count_maps" "count_maps" Zfc f fd) (T:Txt K mg C G S) (C_differences:Cal P w K mg base "differences" 8 (spDif S C G)) (C_rank:Cal P w K mg base "rank" 8 (Zqj G PL)):FnOk P w K mg base CX0 9 f fd ["one","other"] (spCm S C G PL):=by
 have nd:=Zgq.nd;refine F.ok Zgq (λvs H Q E h=>?_) (λcdv A outer s H vs Q E hr h=>?_)
 .refine Zo1 h λx x' p m ps ns ns' Ms Ms' e918 _=>?_;clear h;obtain rfl:=e918;rfl
 .refine Zpw h λx x' p m ps ns ns' Ms Ms' e919 i1 i2 e920=>?_;clear h;obtain rfl:=e919;refine Zcv e920 λhp V1 V2 hPL q=>?_;clear e920;refine Zmk (id i1) λdx g d z l lp xs st=>?_;refine ⟨_,((Zak (i:=2) nd rfl (Or.inl rfl) (Za6 C_differences hr.m rfl ((pvr 0)<&>((pvr 1)<&>Zaa))))<*>(~~~(Zbp<|>(Zaz<|>(pvr 2)<||>Zab)<&&>(Za6 C_rank hr.m rfl ((Zbc (pvr 0) rfl)<&>((pvr 2)<&>Zaa)))))),?_⟩;walk_at "wp";refine Zmi x x' p m ps ns ns' Ms Ms' ⟨rfl,i1,i2,hp,V1,V2,λt R rs n H1 s1 ht mr=>?_⟩;obtain ⟨t36,t9⟩:=Zp6 V1 V2;have dl:=Zss (p:=p) (ps:=ps) (Ms1:=Ms) (Ms2:=Ms') V1.sz V2.sz ps.length;have p9:=V1.p9;have hw:∀ xs ∈ dM p ns ns' ps Ms Ms' ps.length,xs.length = stN ns ns' ns.length:=λxs hx=>by
   refine Zbj (Zsr hx) λ_ _ _ _ _ _ e921=>?_;obtain rfl:=e921;exact Zot ..
  have gd:=dM_gd hp V1 V2;generalize dM p ns ns' ps Ms Ms' ps.length = M at *;generalize stN ns ns' ns.length = tt at *;refine ⟨t,rfl,_,SqT.of ht,_,rfl,S,dx,_,s1 _ _ st.ins,T.cl_Standing,T.nSg,_,Zgm ..,g,t,R,rs,p,n,30,tt,M,rfl,st.grd.same s1,hp,ht,⟨mr.1,mr.2.1,hw,gd,by omega,by omega,by decide,?_⟩,sw_smA hp (by decide) hw (λh0=>?_),s1 _ _ hPL,λrk H2 s2 ir=>⟨_,rfl,_,rfl,q rk H2 (s1.trans s2) ir⟩⟩
  .show (tt + 1) * 30<=67000001;omega
  .have:=t9 h0;have h1:((tt + 1) * 30 + 1) * 2 ^ tt<=301 * 2 ^ 9:=Jca (by omega) (Jcm (by decide) this);exact Jav h1 (by decide)
theorem cutF {wi:TI} {g:TG} {tb:TS} {D:Ends} {σ:L2.St} {H:Hp} (h:∀ tb',tb' = tb->tFor wi g tb' D σ H):tFor wi g tb D σ H:=h tb rfl
theorem MadeR.put {H H':Hp} {p:Int} {R D:Addr} {rs:List Addr} {M:Mv} {l:List V} {o:HO} (h:MadeR H H' p R rs M) (hD:H' D = some (.lst l)) (n:D ≠ R) (nin:D ∉ rs):MadeR H (upd H' D o) p R rs M:=
 ⟨by rw [Zah n.symm]; exact h.1,h.2.1.monoM λb ys hb q=>q.put hD (λz=>nin (z ▸ hb)),h.2.2⟩
theorem MadeR.off {H H':Hp} {p:Int} {R D:Addr} {rs:List Addr} {M:Mv} (h:MadeR H H' p R rs M) (hD:H' D = none):D ∉ rs:=λz=>by
 obtain ⟨i,hi,e⟩:=Jap.mp z;refine Zad (h.2.1.at' (Jaa hi)) λ_ _ e913=>?_;obtain ⟨vs,hv,_⟩:=e913;rw [e,hD] at hv;cases hv
def PrV (H:Hp) (a:Addr) (p:Int) (ps:List (Int × Int)) (ns:List Int) (Ms:List Mv) (z l:Addr):Prop:=H a = some (.tup [.ref z,.ref l])/\Sizes H z ns/\TabsV H p l ps ns Ms
def spAsk:L2.Sp:=λvs H Q _=>∃ (a t1 t2 z1 l1 z2 l2:Addr) (p m:Int) (xs:List V) (ps:List (Int × Int)) (ns ns':List Int) (Ms Ms':List Mv),vs = [.int p,.ref a,.ref t1,.ref t2]/\H a = some (.lst xs)/\Prs H xs ps/\PrV H t1 p ps ns Ms z1 l1/\PrV H t2 p ps ns' Ms' z2 l2/\GroundP p/\Vals p m ps ns Ms/\Vals p m ps ns' Ms' /\
 ∀ (t R:Addr) (rs:List Addr) H',Same H H'->H' t = some (.tup [.ref R,.int (stN ns ns' ns.length:Nat)])->MadeR H H' p R rs (dM p ns ns' ps Ms Ms' ps.length)->Q (.ref t) H'
theorem ok_ask {f:Addr} {fd:FuncData} (F:Fun K "_law_asked" "_law_asked" Zgb f fd) (T:Txt K mg C G S) (C_law_whole:Cal P w K mg base "_law_whole" 1 Zqo) (C_law_plus:Cal P w K mg base "_law_plus" 3 (Zki Zey)) (C_law_times:Cal P w K mg base "_law_times" 3 (Zki Zbk)):FnOk P w K mg base CX0 4 f fd ["_law_p","_law_arrows","_law_one","_law_other"] spAsk:=by
 have nd:=Zh0.nd;refine F.ok Zh0 (λvs H Q E h=>?_) (λcdv A outer s H vs Q E hr h=>?_)
 .refine xE15_2 h λa t1 t2 z1 l1 z2 l2 p m xs ps ns ns' Ms Ms' e914 _=>?_;clear h;obtain rfl:=e914;rfl
 .refine xE15_4 h λa t1 t2 z1 l1 z2 l2 p m xs ps ns ns' Ms Ms' e915 ha pr e916=>?_;clear h;obtain rfl:=e915;refine Zdd e916 λP1 P2 hp V1 V2 q=>?_;clear e916;have hll:ns'.length = ns.length:=by have:=V1.hm; have:=V2.hm; omega
  refine ⟨_,((Zak (i:=4) nd rfl (Or.inl rfl) (@Zbm _ _ _ _ (Zab<&>Zaa)))<*>((Zbh Jan rfl (Zlp rfl T.n_zip ((Zaz<|>(pv 2)<||>Zab)<&>((Zaz<|>(pv 3)<||>Zab)<&>Zaa))) (@Zbv _ _ _ _ _ 2 rfl (@Zai _ _ _ _ _ (@Zae _ _ 5 _ nd rfl (Or.inl rfl) (Or.inl rfl)) (@Zai _ _ _ _ _ (@Zae _ _ 6 _ nd rfl (Or.inl rfl) (Or.inl rfl)) (@Za0 _) (by rfl)) (by rfl)) (by rfl) (by rfl)) (@Zal _ _ _ (Zb2 (Zez Jax Jay Jaz (mtJ Zba) (pvr 4) ((Zay<|>(Zaj<|>(pvr 4)<||>(Zjp Zfp Zab))<&&>((opJ Za4)<|>(pvr 5)<&&>(pvr 6)))<&>Zaa)))))<*>((Zak (i:=7) nd rfl (Or.inl rfl) (@Zbm _ _ _ _ Zaa))<*>((Zbh Jan rfl (Zlq rfl T.n_enumerate ((pv 1)<&>Zaa)) (@Zbv _ _ _ _ _ 2 rfl (@Zai _ _ _ _ _ (@Zae _ _ 8 _ nd rfl (Or.inl rfl) (Or.inl rfl)) (@Zai _ _ _ _ _ (@Zae _ _ 9 _ nd rfl (Or.inl rfl) (Or.inl rfl)) (@Za0 _) (by rfl)) (by rfl)) (by rfl) (by rfl)) ((Zb3 (pvr 9) (@Zbv _ _ _ _ _ 2 rfl (@Zai _ _ _ _ _ (@Zae _ _ 10 _ nd rfl (Or.inl rfl) (Or.inl rfl)) (@Zai _ _ _ _ _ (@Zae _ _ 11 _ nd rfl (Or.inl rfl) (Or.inl rfl)) (@Za0 _) (by rfl)) (by rfl)) (by rfl) (by rfl)))<*>(@Zal _ _ _ (Zbh Jan rfl (Zdt rfl T.n_range ((Zaj<|>(Zaz<|>(pv 3)<||>Zab)<||>(pv 11))<&>Zaa)) (@Zae _ _ 12 _ nd rfl (Or.inl rfl) (Or.inl rfl)) (@Zal _ _ _ (Zbh Jan rfl (Zdt rfl T.n_range ((Zaj<|>(Zaz<|>(pv 2)<||>Zab)<||>(pv 10))<&>Zaa)) (@Zae _ _ 13 _ nd rfl (Or.inl rfl) (Or.inl rfl)) ((Zhf (i:=14) (own:=["_law_j"]) (fr:=[("_law_p",0)]) rfl (Zcn (by kernel_rfl)) (Zdt rfl T.n_range ((Zaj<|>(pv 4)<||>(Zjp Zfp Zab))<&>Zaa)) (λ_ _ _ _=>⟨(@Zae _ _ 0 _ (show (["_law_j","_law_p"]:List Str).Nodup by decide +kernel) rfl (Or.inl rfl) (Or.inr rfl)),Zbb,(Za6 C_law_whole hr.m rfl ((pv 1)<&>(Zab<&>Zaa)))⟩) nd rfl rfl rfl)<*>((Zbh Jan rfl (Zdt rfl T.n_range ((Zaj<|>(Zaz<|>(pv 3)<||>Zab)<||>(pv 10))<&>Zaa)) (@Zae _ _ 15 _ nd rfl (Or.inl rfl) (Or.inl rfl)) ((Zak (i:=16) nd rfl (Or.inl rfl) (Zay<|>(Zay<|>((ixJ Zaj)<|>(pvr 4)<||>(pvr 10))<&&>(Zgt<|>(pvr 15)<&&>(Zaj<|>((Zjq Zaz)<|>(pvr 2)<||>Zab)<||>(pvr 10))))<&&>(pvr 13)))<*>(@Zal _ _ _ (Zb3 (Za6 C_law_plus hr.m rfl ((pvr 0)<&>(((ixJ Zaj)<|>(pvr 14)<||>(pvr 16))<&>((Zaj<|>(Zaj<|>(Zaz<|>(Zaj<|>((Zjq Zaz)<|>(pvr 3)<||>Zab)<||>(pvr 8))<||>Zab)<||>(pvr 12))<||>(pvr 15))<&>Zaa)))) (Zh4 (pvr 14) (pvr 16) Zdj)))))<*>((Zbh Jan rfl (Zdt rfl T.n_range ((Zaj<|>(Zaz<|>(pv 2)<||>Zab)<||>(pv 11))<&>Zaa)) (@Zae _ _ 15 _ nd rfl (Or.inl rfl) (Or.inl rfl)) ((Zak (i:=16) nd rfl (Or.inl rfl) (Zay<|>(Zay<|>((ixJ Zaj)<|>(pvr 4)<||>(pvr 11))<&&>(Zgt<|>(pvr 12)<&&>(Zaj<|>((Zjq Zaz)<|>(pvr 2)<||>Zab)<||>(pvr 11))))<&&>(pvr 15)))<*>((Zak (i:=17) nd rfl (Or.inl rfl) (Za6 C_law_times hr.m rfl ((pvr 0)<&>((Za6 C_law_whole hr.m rfl ((pvr 0)<&>((Zjp Zfp Zab)<&>Zaa)))<&>((Zaj<|>(Zaj<|>(Zaz<|>(Zaj<|>((Zjq Zaz)<|>(pvr 2)<||>Zab)<||>(pvr 8))<||>Zab)<||>(pvr 15))<||>(pvr 13))<&>Zaa)))))<*>(@Zal _ _ _ (Zb3 (Za6 C_law_plus hr.m rfl ((pvr 0)<&>(((ixJ Zaj)<|>(pvr 14)<||>(pvr 16))<&>((pvr 17)<&>Zaa)))) (Zh4 (pvr 14) (pvr 16) Zdj))))))<*>(@Zal _ _ _ (Zb2 (Zez Jax Jay Jaz (mtJ Zba) (pvr 7) ((pvr 14)<&>Zaa)))))))))))))<*>(~~~(@Zas _ _ _ _ _ ((pvr 7)<&>((Zaj<|>(pvr 4)<||>(Zjp Zfp Zab))<&>Zaa)))))))),?_⟩;refine Zd2 λX hX=>?_;walk_at "wp";refine ⟨by decide,λD hD=>?_⟩;have s1:=Same.new (o:=.lst [V.int 0]) hD;have q1:(upd H D (.lst [V.int 0])) D = some (.lst (stL ns ns' 1)):=Zac;generalize upd H D (.lst [V.int 0]) = H1 at *;have n8:=P1.2.1.2.1;subst hX;refine Zd2 λX hX=>?_;walk_at "wp";refine ⟨_,rfl,t1,_,_,_,rfl,rfl,SqT.of (s1 _ _ P1.1),rfl,_,rfl,t2,_,_,_,rfl,rfl,SqT.of (s1 _ _ P2.1),rfl,z1,z2,rfl,⟨_,SqL.of (s1 _ _ P1.2.1.1)⟩,⟨_,SqL.of (s1 _ _ P2.2.1.1)⟩,
   Zsm (xs:=ns.map V.int) (ys:=ns'.map V.int) (λi σ H2=>∃ v5 v6:Option V,σ = [some (.int p),some (.ref a),some (.ref t1),some (.ref t2),some (.ref D),v5,v6,none,none,none,none,none,none,none,none,none,none,none]/\Same H H2/\H2 D = some (.lst (stL ns ns' (i + 1)))) (by rw [Jab,Jab,hll]) ⟨none,none,rfl,s1,q1⟩ (λi σ H2 _ ⟨_,_,_,e,_⟩=>⟨SqL.of (e _ _ P1.2.1.1),SqL.of (e _ _ P2.2.1.1)⟩) ?_ ?_⟩
  .intro i va vb pz σ H2 ha hb hpz e91;refine Zbl e91 λv5 v6 e917 s2 h2=>?_;clear e91;obtain rfl:=e917;refine Zad (Zej ha) λn fa e918=>?_;obtain rfl:=e918;refine Zad (Zej hb) λn' fb e919=>?_;obtain rfl:=e919;have hi:i < ns.length:=(Jag.mp fa).1;obtain ⟨a0,a1⟩:=P1.2.1.2.2 n (Jad fa);obtain ⟨b0,b1⟩:=P2.2.1.2.2 n' (Jad fb);have s3:=Same.new (o:=.tup [V.int n,V.int n']) hpz;have h3:=s3 _ _ h2;walk_at "wp";refine ⟨_,SqT.of Zac,rfl,_,_,rfl,_,_,rfl,rfl,?_⟩;generalize upd H2 pz (.tup [V.int n,V.int n']) = H3 at *;refine ⟨.inl ⟨rfl,_,SqL.of h3⟩,_,SqL.of h3,_,Zfl,(Zgl a0 a1).mul (Zgl b0 b1),_,rfl,_,h3,Zap (by rw [Jab,Ja4]; omega),_,_,⟨rfl,rfl⟩,(s2.trans s3).upd hD,?_⟩;rw [Zac,Znt (by rw [Jdg n n']; exact Zqe fa fb a0 b0)]
  .intro σ H2 e92;refine Zbl e92 λv5 v6 e920 s2 eD=>?_;clear e92;obtain rfl:=e920;rw [Jab] at eD;have key:X { nx:=λx H'=>Q V.non H',rt:=Q } [some (.int p),some (.ref a),some (.ref t1),some (.ref t2),some (.ref D),v5,v6,none,none,none,none,none,none,none,none,none,none,none] H2:=by
    subst hX;refine Zd2 λX hX=>?_;walk_at "wp";refine ⟨by decide,λR hR=>?_⟩;have s3:=s2.trans (Same.new (o:=.lst []) hR);have e3:(upd H2 R (.lst [])) R = some (.lst []):=Zac;have eD3:=Same.new (o:=.lst []) hR _ _ eD;have fR:H R = none:=s2.free hR;have nRD:D ≠ R:=Zag eD hR;generalize upd H2 R (.lst []) = H3 at *;subst hX;refine Zd2 λX hX=>?_;refine cutF λY hY=>?_;refine ⟨_,rfl,a,rfl,⟨_,SqL.of (s3 _ _ ha)⟩,Zk0 (xs:=xs) (λt σ H4=>∃ (v8 v9 v10 v11 v12 v13 v14 v15 v16 v17:Option V) (rs:List Addr),σ = [some (.int p),some (.ref a),some (.ref t1),some (.ref t2),some (.ref D),v5,v6,some (.ref R),v8,v9,v10,v11,v12,v13,v14,v15,v16,v17]/\Same H H4/\H4 D = some (.lst (stL ns ns' (ns.length + 1)))/\MadeR H H4 p R rs (dM p ns ns' ps Ms Ms' t))
     ⟨none,none,none,none,none,none,none,none,none,none,[],rfl,s3,eD3,e3,All2.nil,by simp,by simp⟩ (λi σ H4 _ ⟨_,_,_,_,_,_,_,_,_,_,_,_,e,_⟩=>SqL.of (e _ _ ha)) ?_ ?_⟩
    .intro t u pz σ H4 hu hpz e93;refine Znn e93 λv8 v9 v10 v11 v12 v13 v14 v15 v16 v17 rs e921 s4 eD4 mr=>?_;clear e93;obtain rfl:=e921;refine Zpt λD2 hD2=>?_;have ht:t < ps.length:=by have:=(Jag.mp hu).1; have:=pr.1; omega
     have hq:ps[t]? = some (ps.getD t (0,0)):=by rw [Zbe ht]; exact Jaa _
     have ds:=Zk2 p ns ns' ps Ms Ms' t;have dl:=Zss (p:=p) (ps:=ps) (Ms1:=Ms) (Ms2:=Ms') V1.sz V2.sz t;generalize ps.getD t (0,0) = pq at *;obtain ⟨tl,hd⟩:=pq;refine Zad (pr.2 t u _ hu hq) λta e922 hta=>?_;obtain rfl:=e922;have s5:=s4.trans (Same.new (o:=.tup [V.int t,V.ref ta]) hpz);have mr5:=mr.same (Same.new (o:=.tup [V.int t,V.ref ta]) hpz);have eD5:=Same.new (o:=.tup [V.int t,V.ref ta]) hpz _ _ eD4;have e5:upd H4 pz (.tup [V.int t,V.ref ta]) pz = some (.tup [V.int t,V.ref ta]):=Zac;generalize upd H4 pz (.tup [V.int t,V.ref ta]) = H5 at *;refine Zcj (V1.ip _ (Jad hq)) λi0 i1' j0 j1=>?_;have hl1:=V1.hm;have hl2:=V2.hm;have ht0:tl.toNat < ns.length:=by omega
     have hd0:hd.toNat < ns.length:=by omega
     have et:atI (stL ns ns' (ns.length + 1)) tl = some (V.int (stN ns ns' tl.toNat:Nat)):=Zb0 i0 (Zlg (by omega));have eh:atI (stL ns ns' (ns.length + 1)) hd = some (V.int (stN ns ns' hd.toNat:Nat)):=Zb0 j0 (Zlg (by omega));simp only [Zps,Zge,Ztf,Zbi,List.set_cons_zero,List.set_cons_succ];refine Zau pz _ ⟨rfl,SqT.of e5,rfl,_,_,rfl,_,_,rfl,rfl,?_⟩;subst hY;refine Zd2 λZ hZ=>?_;walk_at "wp";refine ⟨_,SqT.of (s5 _ _ hta),rfl,_,_,rfl,_,_,rfl,rfl,?_⟩;subst hZ;refine cutF λY hY=>?_;refine ⟨_,rfl,t2,_,_,_,rfl,rfl,SqT.of (s5 _ _ P2.1),rfl,_,rfl,z2,_,_,_,rfl,rfl,SqL.of (s5 _ _ P2.2.1.1),Zjo P2.2.1 j0 (by omega),(nt ns' hd:Nat),rfl,Zu9 _,Zvf (Jav (Zhh (i:=hd) (B:=6) V2.sz).1 (by decide)),?_⟩;rw [Jba];have b6:=(Zhh (i:=tl) (B:=6) V1.sz).1;have b6':=(Zhh (i:=tl) (B:=6) V2.sz).1;have b6h:=(Zhh (i:=hd) (B:=6) V1.sz).1;have b6h':=(Zhh (i:=hd) (B:=6) V2.sz).1;have b36:=nt_nt (i:=tl) (j:=hd) V1.sz V2.sz;refine Za2 (n:=nt ns' hd) (λi σ H4=>∃ (v12 v13 v14 v15 v16 v17:Option V) (rs:List Addr),σ = [some (.int p),some (.ref a),some (.ref t1),some (.ref t2),some (.ref D),v5,v6,some (.ref R),some (.int t),some (.ref ta),some (.int tl),some (.int hd),v12,v13,v14,v15,v16,v17]/\Same H H4/\H4 D = some (.lst (stL ns ns' (ns.length + 1)))/\MadeR H H4 p R rs (dM p ns ns' ps Ms Ms' t ++ Zkb p ns ns' (tl,hd) (Ms.getD t []) (Ms'.getD t []) i)) ⟨v12,v13,v14,v15,v16,v17,rs,rfl,s5,eD5,by rw [show Zkb p ns ns' (tl,hd) (Ms.getD t []) (Ms'.getD t []) 0 = [] from rfl,Jcp]; exact mr5⟩ ?_ ?_
     .intro i σ H6 hi e94;refine Zmj e94 λv12 v13 v14 v15 v16 v17 rs6 e923 s6 eD6 mr6=>?_;clear e94;obtain rfl:=e923;refine Zpt λD4 hD4=>?_;simp only [Zbi,List.set_cons_zero,List.set_cons_succ];have bs:=Zjf p ns ns' (tl,hd) (Ms.getD t []) (Ms'.getD t []) i;have bl:=Zjg (p:=p) (ns1:=ns) (ns2:=ns') (q:=(tl,hd)) (A1:=Ms.getD t []) (A2:=Ms'.getD t []) i;have i36:(i + 1) * nt ns tl<=36:=Jav (Jca hi (Jaf _)) b36;rw [Jel] at i36;have bl:(Zkb p ns ns' (tl,hd) (Ms.getD t []) (Ms'.getD t []) i).length + nt ns tl<=36:=by rw [bl]; exact i36
      rw [Jc3];subst hY;refine cutF λY hY=>?_;refine ⟨_,rfl,t1,_,_,_,rfl,rfl,SqT.of (s6 _ _ P1.1),rfl,_,rfl,z1,_,_,_,rfl,rfl,SqL.of (s6 _ _ P1.2.1.1),Zjo P1.2.1 i0 (by omega),(nt ns tl:Nat),rfl,Zu9 _,Zvf (Jav b6 (by decide)),?_⟩;rw [Jba];refine Za2 (n:=nt ns tl) (λj σ H5=>∃ (v13 v14 v15 v16 v17:Option V) (rs:List Addr),σ = [some (.int p),some (.ref a),some (.ref t1),some (.ref t2),some (.ref D),v5,v6,some (.ref R),some (.int t),some (.ref ta),some (.int tl),some (.int hd),some (.int i),v13,v14,v15,v16,v17]/\Same H H5/\H5 D = some (.lst (stL ns ns' (ns.length + 1)))/\MadeR H H5 p R rs (dM p ns ns' ps Ms Ms' t ++ Zkb p ns ns' (tl,hd) (Ms.getD t []) (Ms'.getD t []) i ++ (List.range j).map λj=>Zpm p ns ns' (tl,hd) (Ms.getD t []) (Ms'.getD t []) i j)) ⟨v13,v14,v15,v16,v17,rs6,rfl,s6,eD6,by rw [List.range_zero,List.map_nil,Jcp]; exact mr6⟩ ?_ ?_
      .intro j σ H7 hj e95;refine Zpy e95 λv13 v14 v15 v16 v17 rs7 e924 s7 eD7 mr7=>?_;clear e95;obtain rfl:=e924;have l7:rs7.length<=900:=by
        rw [mr7.2.1.1,Jae,Jae,Jab,Ja4];have:=V1.p9;omega
       refine Zpt λD5 hD5=>?_;simp only [Zbi,List.set_cons_zero,List.set_cons_succ];rw [Jc3];subst hY;refine Zd2 λZ hZ=>?_;walk_at "wp";obtain ⟨t36,_⟩:=Zp6 V1 V2;refine ⟨_,rfl,1,rfl,D,_,_,_,rfl,rfl,SqL.of eD7,Zfl,(stN ns ns' ns.length:Nat),rfl,Zu9 _,Zvf (Jav t36 (by decide)),λRw hRw=>?_⟩;rw [Jba];refine Zsx (λ_ Hc v=>NumV Hc p v (0,1)) (λq s=>q.same s) (λq h=>q.put h) hRw (Jav t36 (by decide)) (λk Hc Qc hk sc _ qc=>?_) λws H8 s8 e8 wl hws=>?_
       .simp only [Zb8];walk_at "wp";exact ⟨_,rfl,p,0,rfl,hp,λv He se nv=>qc v He se (by rw [Zd0] at nv; exact nv)⟩
       have rw8:RowV H8 p Rw (List.replicate (stN ns ns' ns.length) (0,1)):=⟨ws,e8,by rw [Jbg]; exact wl,λk v x e1 e2=>by
        rw [(Jdw.mp (Jad e2)).2];exact hws k v e1⟩
       have s08:=s7.trans s8;have eD8:=s8 _ _ eD7;have mr8:=mr7.same s8;have fRw:H Rw = none:=s7.free hRw;have nRw:Rw ≠ R:=(Zag mr7.1 hRw).symm;have nRD':D ≠ Rw:=Zag eD7 hRw;have nin7:=mr7.off hRw;clear s8 hws e8 wl eD7 mr7 ws hRw;refine Zk9 (P1.2.2.at hq) λts1 tt1 r1 rs1 hl1' et1 tv1=>?_;refine Zk9 (P2.2.2.at hq) λts2 tt2 r2 rs2 hl2' et2 tv2=>?_;obtain ⟨sh1,sr1⟩:=V1.sh t _ hq;obtain ⟨sh2,sr2⟩:=V2.sh t _ hq;obtain ⟨a2,vs2,ea2,ha2,al2⟩:=tv2.rowAt (i:=i) (by rw [sh2]; exact hi);have hr2:=sr2 _ (Za7 (d:=[]) (show i < (Ms'.getD t []).length by rw [sh2]; exact hi));have lv2:vs2.length = nt ns' tl:=al2.1.trans hr2.1;have h0:Zco p 14 [(0,1)]:=λx hx=>by rw [Jaq.mp hx]; exact ⟨Zch hp,Za8 (by decide) (by decide),Za8 (by decide) (by decide)⟩
       -- all but the row and the rows stay
       subst hZ;refine Zd2 λZ hZ=>?_;refine cutF λY hY=>?_;refine ⟨_,rfl,t2,_,_,_,rfl,rfl,SqT.of (s08 _ _ P2.1),rfl,_,rfl,z2,_,_,_,rfl,rfl,SqL.of (s08 _ _ P2.2.1.1),Zjo P2.2.1 i0 (by omega),(nt ns' tl:Nat),rfl,Zu9 _,Zvf (Jav b6' (by decide)),?_⟩;rw [Jba];refine Za2 (n:=nt ns' tl) (λk σ H5=>∃ (v15 v16 v17:Option V),σ = [some (.int p),some (.ref a),some (.ref t1),some (.ref t2),some (.ref D),v5,v6,some (.ref R),some (.int t),some (.ref ta),some (.int tl),some (.int hd),some (.int i),some (.int j),some (.ref Rw),v15,v16,v17]/\Same H H5/\H5 D = some (.lst (stL ns ns' (ns.length + 1)))/\MadeR H H5 p R rs7 (dM p ns ns' ps Ms Ms' t ++ Zkb p ns ns' (tl,hd) (Ms.getD t []) (Ms'.getD t []) i ++ (List.range j).map λj=>Zpm p ns ns' (tl,hd) (Ms.getD t []) (Ms'.getD t []) i j)/\RowV H5 p Rw (Zo9 ((Ms'.getD t []).getD i []) (stN ns ns' tl.toNat) (nt ns tl) j k (List.replicate (stN ns ns' ns.length) (0,1)))) ⟨v15,v16,v17,rfl,s08,eD8,mr8,rw8⟩ ?_ ?_
       .intro k σ H9 hk e96;refine Zbj e96 λv15 v16 v17 e925 s9 eD9 e926=>?_;clear e96;obtain rfl:=e925;obtain ⟨mr9,rw9⟩:=e926;refine Zpt λD6 hD6=>?_;simp only [Zbi,List.set_cons_zero,List.set_cons_succ];rw [Jc3];subst hY;refine Zd2 λW hW=>?_;walk_at "wp";refine ⟨_,SqL.of eD9,_,et,_,SqT.of (s9 _ _ P1.1),_,rfl,z1,rfl,_,SqL.of (s9 _ _ P1.2.1.1),_,Zjo P1.2.1 i0 (by omega),_,rfl,.inl ⟨by omega,by omega⟩,_,rfl,?_⟩;rw [show ((stN ns ns' tl.toNat:Nat):Int) + (k:Int) * ((nt ns tl:Nat):Int) + (j:Int) = ((stN ns ns' tl.toNat + k * nt ns tl + j:Nat):Int) by rw [Jbz,Jbz,Jb8]];refine Zad rw9 λws hws alw=>?_;clear rw9;have wl:ws.length = stN ns ns' ns.length:=by rw [alw.1,Zed,Jbg]
        have pl:=Zn7 (j:=j) ht0 hk hj;have hpos:stN ns ns' tl.toNat + k * nt ns tl + j < ws.length:=wl ▸ pl;obtain ⟨vb,evb⟩:∃ vb,vs2[k]? = some vb:=⟨_,Jaa (by omega)⟩
        refine Zad (al2.at' evb) λy ey ny=>?_;have gy:=hr2.2 y (Jad ey);obtain ⟨va,eva⟩:∃ va,ws[stN ns ns' tl.toNat + k * nt ns tl + j]? = some va:=⟨_,Jaa hpos⟩
        refine Zad (alw.at' eva) λu eu nu=>?_;have hu0:u = (0,1):=by rw [<- Zat (d:=(0,1)) eu]; exact Zuc (by omega)
        subst hu0;subst hW;walk_at "wp";refine ⟨_,SqL.of hws,va,Zd4 eva,_,SqT.of (s9 _ _ P2.1),_,rfl,l2,rfl,_,SqL.of (s9 _ _ hl2'),_,Zd4 et2,tt2,rfl,_,SqT.of (s9 _ _ tv2.tup),_,rfl,r2,rfl,_,SqL.of (s9 _ _ tv2.lst),_,Zd4 ea2,a2,rfl,_,SqL.of (s9 _ _ ha2),vb,Zd4 evb,p,va,vb,(0,1),y,rfl,hp,⟨nu,ny.same s9,Zch hp,gy.1,7,14,Za8 (by decide) (by decide),Za8 (by decide) (by decide),gy.2.1,gy.2.2,by decide⟩,λv10 H10 s10 n10=>?_⟩;rw [Zm6 hp gy.1] at n10;have hws10:=s10 _ _ hws;subst hD6;refine ⟨ws,hws10,stN ns ns' tl.toNat + k * nt ns tl + j,Zr1 hpos,_,_,_,rfl,(s9.trans s10).upd fRw,by rw [Zah nRD']; exact s10 _ _ eD9,(mr9.same s10).put hws10 nRw nin7,⟨_,Zac,?_⟩⟩;have:=(alw.mono λ_ _ q=>(q.same s10).put (o:=.lst (ws.set (stN ns ns' tl.toNat + k * nt ns tl + j) v10)) hws10).set (stN ns ns' tl.toNat + k * nt ns tl + j) (n10.put hws10);show All2 _ _ (List.set _ _ _);rw [Zat ey];exact this
       .intro σ H9 e97;refine Zbj e97 λv15 v16 v17 e927 s9 eD9 e928=>?_;clear e97;obtain rfl:=e927;obtain ⟨mr9,rw9⟩:=e928;have gP:=Zko (s:=stN ns ns' tl.toNat) (w:=nt ns tl) (c:=j) h0 hr2.2 (r:=List.replicate (stN ns ns' ns.length) (0,1)) (λx hx=>by rw [(Jdw.mp hx).2]; exact h0 _ (by simp)) (nt ns' tl);have lP:(Zo9 ((Ms'.getD t []).getD i []) (stN ns ns' tl.toNat) (nt ns tl) j (nt ns' tl) (List.replicate (stN ns ns' ns.length) (0,1))).length = stN ns ns' ns.length:=by rw [Zed,Jbg]
        have eR:Zpm p ns ns' (tl,hd) (Ms.getD t []) (Ms'.getD t []) i j = Ztb p (λk=>((Ms.getD t []).getD k []).getD j (0,1)) (stN ns ns' hd.toNat + i * nt ns hd) (nt ns hd) (Zo9 ((Ms'.getD t []).getD i []) (stN ns ns' tl.toNat) (nt ns tl) j (nt ns' tl) (List.replicate (stN ns ns' ns.length) (0,1))):=rfl;generalize Zo9 ((Ms'.getD t []).getD i []) (stN ns ns' tl.toNat) (nt ns tl) j (nt ns' tl) (List.replicate (stN ns ns' ns.length) (0,1)) = PO at *;have key2:Z D5 [some (.int p),some (.ref a),some (.ref t1),some (.ref t2),some (.ref D),v5,v6,some (.ref R),some (.int t),some (.ref ta),some (.int tl),some (.int hd),some (.int i),some (.int j),some (.ref Rw),v15,v16,v17] H9:=by
         subst hZ;refine Zd2 λZ hZ=>?_;refine cutF λY hY=>?_;refine ⟨_,rfl,t1,_,_,_,rfl,rfl,SqT.of (s9 _ _ P1.1),rfl,_,rfl,z1,_,_,_,rfl,rfl,SqL.of (s9 _ _ P1.2.1.1),Zjo P1.2.1 j0 (by omega),(nt ns hd:Nat),rfl,Zu9 _,Zvf (Jav b6h (by decide)),?_⟩;rw [Jba];refine Za2 (n:=nt ns hd) (λk σ H5=>∃ (v15 v16 v17:Option V),σ = [some (.int p),some (.ref a),some (.ref t1),some (.ref t2),some (.ref D),v5,v6,some (.ref R),some (.int t),some (.ref ta),some (.int tl),some (.int hd),some (.int i),some (.int j),some (.ref Rw),v15,v16,v17]/\Same H H5/\H5 D = some (.lst (stL ns ns' (ns.length + 1)))/\MadeR H H5 p R rs7 (dM p ns ns' ps Ms Ms' t ++ Zkb p ns ns' (tl,hd) (Ms.getD t []) (Ms'.getD t []) i ++ (List.range j).map λj=>Zpm p ns ns' (tl,hd) (Ms.getD t []) (Ms'.getD t []) i j)/\RowV H5 p Rw (Ztb p (λk=>((Ms.getD t []).getD k []).getD j (0,1)) (stN ns ns' hd.toNat + i * nt ns hd) k PO)) ⟨v15,v16,v17,rfl,s9,eD9,mr9,rw9⟩ ?_ ?_
         .intro k σ H10 hk e98;refine Zbj e98 λv15 v16 v17 e929 s10 eD10 e930=>?_;clear e98;obtain rfl:=e929;obtain ⟨mr10,rw10⟩:=e930;refine Zpt λD6 hD6=>?_;simp only [Zbi,List.set_cons_zero,List.set_cons_succ];rw [Jc3];obtain ⟨a1,vs1,ea1,ha1,al1⟩:=tv1.rowAt (i:=k) (by rw [sh1]; exact hk);have hr1:=sr1 _ (Za7 (d:=[]) (show k < (Ms.getD t []).length by rw [sh1]; exact hk));have lv1:vs1.length = nt ns tl:=al1.1.trans hr1.1;have hj':j < nt ns tl:=hj;obtain ⟨vb,evb⟩:∃ vb,vs1[j]? = some vb:=⟨_,Jaa (by omega)⟩
          refine Zad (al1.at' evb) λy ey ny=>?_;have gy:=hr1.2 y (Jad ey);subst hY;refine Zd2 λW hW=>?_;walk_at "wp";refine ⟨_,SqL.of eD10,_,eh,_,SqT.of (s10 _ _ P1.1),_,rfl,z1,rfl,_,SqL.of (s10 _ _ P1.2.1.1),_,Zjo P1.2.1 j0 (by omega),_,rfl,.inl ⟨by omega,by omega⟩,_,rfl,?_⟩;rw [show ((stN ns ns' hd.toNat:Nat):Int) + (i:Int) * ((nt ns hd:Nat):Int) + (k:Int) = ((stN ns ns' hd.toNat + i * nt ns hd + k:Nat):Int) by rw [Jbz,Jbz,Jb8]];refine Zad rw10 λws hws alw=>?_;clear rw10;have wl:ws.length = stN ns ns' ns.length:=by rw [alw.1,Zih,lP]
          have pl:=Zn7 (j:=k) hd0 hi hk;have hpos:stN ns ns' hd.toNat + i * nt ns hd + k < ws.length:=wl ▸ pl;obtain ⟨va,eva⟩:∃ va,ws[stN ns ns' hd.toNat + i * nt ns hd + k]? = some va:=⟨_,Jaa hpos⟩
          refine Zad (alw.at' eva) λu eu nu=>?_;have gu:Isn p u/\BtN 14 u:=by
           have e1:=Zkh (p:=p) (f:=λk=>((Ms.getD t []).getD k []).getD j (0,1)) (s:=stN ns ns' hd.toNat + i * nt ns hd) (k:=k) (r:=PO);rw [Zat eu] at e1;rw [e1];exact gP _ (Za7 (by rw [lP]; exact pl))
          subst hW;refine Zd2 λW hW=>?_;walk_at "wp";refine Zau p (-1) ⟨rfl,hp,λmv H11 s11 nm1=>?_⟩;have s011:=s10.trans s11;refine ⟨_,SqT.of (s011 _ _ P1.1),_,rfl,l1,rfl,_,SqL.of (s011 _ _ hl1'),_,Zd4 et1,tt1,rfl,_,SqT.of (s011 _ _ tv1.tup),_,rfl,r1,rfl,_,SqL.of (s011 _ _ tv1.lst),_,Zd4 ea1,a1,rfl,_,SqL.of (s011 _ _ ha1),vb,Zd4 evb,p,mv,vb,Zhl p (-1),y,rfl,hp,⟨nm1,ny.same s011,Zcm hp.lo,gy.1,7,14,Zsb hp,Zsa hp,gy.2.1,gy.2.2,by decide⟩,λlv H12 s12 nl=>?_⟩;have il:=Zbw hp.lo (Zcm (k:=-1) hp.lo) gy.1;have bl':=Zoz hp gy.1 gy.2 (by decide);have me:=Zoj hp gu.1 gy.1;generalize Zbk p (Zhl p (-1)) y = less at *;have s1112:=s11.trans s12;have hws12:=s1112 _ _ hws;subst hW;walk_at "wp";refine ⟨_,SqL.of hws12,va,Zd4 eva,p,va,lv,u,less,rfl,hp,⟨nu.same s1112,nl,gu.1,il,14,15,gu.2.1,gu.2.2,bl'.1,bl'.2,by decide⟩,λv13 H13 s13 n13=>?_⟩;rw [me] at n13;have s1113:=s1112.trans s13;have hws13:=s13 _ _ hws12;subst hD6;refine ⟨ws,hws13,stN ns ns' hd.toNat + i * nt ns hd + k,Zr1 hpos,_,_,_,rfl,(s10.trans s1113).upd fRw,by rw [Zah nRD']; exact s1113 _ _ eD10,(mr10.same s1113).put hws13 nRw nin7,⟨_,Zac,?_⟩⟩;have:=(alw.mono λ_ _ q=>(q.same s1113).put (o:=.lst (ws.set (stN ns ns' hd.toNat + i * nt ns hd + k) v13)) hws13).set (stN ns ns' hd.toNat + i * nt ns hd + k) (n13.put hws13);show All2 _ _ (List.set _ _ _);rw [Zat eu];show All2 _ _ (List.set _ _ (Zdy p u (((Ms.getD t []).getD k []).getD j (0,1))));rw [Zat ey];exact this
         .intro σ H10 e99;refine Zbj e99 λv15 v16 v17 e931 s10 eD10 e932=>?_;clear e99;obtain rfl:=e931;obtain ⟨mr10,rw10⟩:=e932;rw [<- eR] at rw10;subst hZ;walk_at "wp";subst hD5;refine ⟨.inl ⟨rfl,_,SqL.of mr10.1⟩,_,mr10.1,Zap (by rw [Jab]; omega),_,_,_,_,_,rs7 ++ [Rw],rfl,s10.upd fR,by rw [Zah nRD]; exact eD10,?_⟩;have:=mr10.add rw10 nRw fRw;rw [Jb7,Ja1,<- Jbw];exact this
        exact key2
      .intro σ H7 e910;refine Zpy e910 λv13 v14 v15 v16 v17 rs7 e933 s7 eD7 mr7=>?_;clear e910;obtain rfl:=e933;subst hD4;rw [Jbw,<- bs] at mr7;exact Zth _ _ _ _ _ _ rs7 ⟨rfl,s7,eD7,mr7⟩
     .intro σ H6 e911;refine Zmj e911 λv12 v13 v14 v15 v16 v17 rs6 e934 s6 eD6 mr6=>?_;clear e911;obtain rfl:=e934;subst hD2;rw [show dM p ns ns' ps Ms Ms' t ++ Zkb p ns ns' (tl,hd) (Ms.getD t []) (Ms'.getD t []) (nt ns' hd) = dM p ns ns' ps Ms Ms' (t + 1) from ds.symm] at mr6;exact Znm _ _ _ _ _ _ _ _ _ _ rs6 ⟨rfl,s6,eD6,mr6⟩
    .intro σ H4 e912;refine Znn e912 λv8 v9 v10 v11 v12 v13 v14 v15 v16 v17 rs e935 s4 eD4 mr=>?_;clear e912;obtain rfl:=e935;subst hX;rw [pr.1] at mr;walk_at "wp";refine ⟨_,SqL.of eD4,_,Zfl,by decide,λtt htt=>?_⟩;have s5:=Same.new (o:=.tup [V.ref R,V.int (stN ns ns' ns.length:Nat)]) htt;exact q tt R rs _ (s4.trans s5) Zac (mr.same s5)
   exact key
abbrev Tc:=Int × Int × List (List V)
def RelM (H:Hp) (p hh:Int) (MV:List (List V)) (M:Mv):Prop:=(M.length:Int) = hh/\∀ i,i < M.length->All2 (NumV H p) (MV.getD i []) (M.getD i [])
theorem TabC.rel {H:Hp} {p hh wd:Int} {t r:Addr} {rs:List Addr} {MV:List (List V)} (h:TabC H p hh wd t r rs MV):∃ M,RelM H p hh MV M/\Shp hh wd M/\GoodM p BB M:=by
 refine Zav h.tab.byV λM tv sh gd=>?_;refine ⟨M,⟨sh.1,λi hi=>?_⟩,sh,gd⟩;refine Zbl (tv.rowAt hi) λa vs ea ha al=>?_;rw [Jah] at ea;cases e:rs[i]? with
 | none=>rw [e] at ea; cases ea
 | some b=>
  rw [e] at ea;cases ea;have:=h.con i _ e;rw [ha] at this;cases this;exact al
theorem RelM.tab {H H':Hp} {p hh wd:Int} {t r:Addr} {rs:List Addr} {MV:List (List V)} {M:Mv} (h:RelM H p hh MV M) (s:Same H H') (tc:TabC H' p hh wd t r rs MV):TabV H' p hh wd t r rs M:=by
 have hl:=tc.tab.len;have h1:=h.1;refine ⟨tc.tab.tup,tc.tab.lst,⟨by omega,λi a xs e1 e2=>?_⟩,tc.tab.nin⟩;have hi:=(Jag.mp e2).1;have:=h.2 i hi;rw [Zat e2] at this;exact ⟨_,tc.con i a e1,this.mono λ_ _ k=>k.same s⟩
def RelC (H:Hp) (p:Int) (c:Tc) (M:Mv):Prop:=RelM H p c.1 c.2.2 M/\Shp c.1 c.2.1 M/\GoodM p BB M
theorem Tbs.rel {H:Hp} {p:Int} {l:Addr} {ts:List Addr} {cs:List Tc} (h:Tbs H p l ts cs):∃ Ms,All2 (RelC H p) cs Ms:=
 All2.pick λc hc=>by
  obtain ⟨i,hi,rfl⟩:=Jap.mp hc;have hl:=h.2.1;obtain ⟨⟨r,rs,tc⟩,_⟩:=h.2.2.2 i _ _ (Jaa (show i < ts.length by omega)) (Jaa hi);exact tc.rel
theorem bt_bb {p:Int} {xs:List Nv} (h:∀ x ∈ xs,Isn p x/\Bd BB x):Zco p 14 xs:=λx hx=>by
 obtain ⟨a,b,c⟩:=h x hx;exact ⟨a,Jbk b (by decide),Jbk c (by decide)⟩
theorem Zos {ns:List Int} {i n:Int} (h:n = ns.getD i.toNat 0) (h0:0<=n):n = (nt ns i:Nat):=by unfold nt; rw [<- h]; omega
theorem Znq {H H':Hp} {p:Int} {l:Addr} {ts:List Addr} {cs:List Tc} {ps:List (Int × Int)} {ns:List Int} {Ms:List Mv} (a:All2 (RelC H p) cs Ms) (s:Same H H') (hl:H' l = some (.lst (ts.map V.ref))) (hn:ts.length = cs.length) (ht:∀ (i:Nat) t c,ts[i]? = some t->cs[i]? = some c->∃ r rs,TabC H' p c.1 c.2.1 t r rs c.2.2) (ft:Fits ns cs ps) (h0:∀ c ∈ cs,0<=c.1/\0<=c.2.1):TabsV H' p l ps ns Ms:=by
 refine ⟨ts,hl,by rw [hn]; exact ft.1,λi t q e1 e2=>?_⟩;have hi:i < cs.length:=by have:=(Jag.mp e1).1; omega
 refine Zla (ht i t _ e1 (Jaa hi)) λr rs tc=>?_;refine Zad (a.at' (Jaa hi)) λM eM rel=>?_;obtain ⟨f1,f2⟩:=ft.2 i _ q (Jaa hi) e2;obtain ⟨p1,p2⟩:=h0 _ (Ja2 hi);have tv:=rel.1.tab s tc;rw [Zat eM];rw [Zos f1 p1,Zos f2 p2] at tv;exact ⟨r,rs,tv⟩
theorem vals_of {H:Hp} {p m:Int} {cs:List Tc} {ps:List (Int × Int)} {ns:List Int} {Ms:List Mv} (a:All2 (RelC H p) cs Ms) (ft:Fits ns cs ps) (h0:∀ c ∈ cs,0<=c.1/\0<=c.2.1) (ip:InP m ps) (p9:ps.length<=9) (hm:(ns.length:Int) = m) (n0:∀ n ∈ ns,0<=n) (sum:ns.sum<=6) (sum0:p = 0->ns.sum<=3):Vals p m ps ns Ms:=by
 refine ⟨ip,p9,hm,λn hn=>⟨n0 n hn,?_⟩,sum,sum0,λi q e=>?_⟩
 .obtain ⟨i,hi,rfl⟩:=Jap.mp hn;have:=(Zls (i:=i) n0).2.1;rw [Zbe hi] at this;omega
 .have hi:i < cs.length:=by have:=(Jag.mp e).1; have:=ft.1; omega
  refine Zad (a.at' (Jaa hi)) λM eM rel=>?_;obtain ⟨f1,f2⟩:=ft.2 i _ q (Jaa hi) e;obtain ⟨p1,p2⟩:=h0 _ (Ja2 hi);have g1:=Zos f1 p1;have g2:=Zos f2 p2;refine Za9 rel λ_ sh gd=>?_;clear rel;rw [Zat eM];have:=sh.1;refine ⟨by omega,λxs hx=>⟨by have:=sh.2 xs hx; omega,bt_bb (gd xs hx)⟩⟩
structure PairC (H:Hp) (t:Addr) (p m:Int) (ps:List (Int × Int)) (ns:List Int) (cs:List Tc) (z l:Addr) (ts:List Addr):Prop where
 tup:H t = some (.tup [.ref z,.ref l])
 sz:Sizes H z ns
 tb:Tbs H p l ts cs
 ft:Fits ns cs ps
 hm:(ns.length:Int) = m
 sum:ns.sum<=6
 sum0:p = 0->ns.sum<=3
theorem PairC.same {H H':Hp} {t:Addr} {p m:Int} {ps:List (Int × Int)} {ns:List Int} {cs:List Tc} {z l:Addr} {ts:List Addr} (h:PairC H t p m ps ns cs z l ts) (s:Same H H'):PairC H' t p m ps ns cs z l ts:=⟨s _ _ h.tup,h.sz.same s,h.tb.same s,h.ft,h.hm,h.sum,h.sum0⟩
theorem PairC.pos {H:Hp} {t:Addr} {p m:Int} {ps:List (Int × Int)} {ns:List Int} {cs:List Tc} {z l:Addr} {ts:List Addr} (h:PairC H t p m ps ns cs z l ts):∀ c ∈ cs,0<=c.1/\0<=c.2.1:=λc hc=>by
 obtain ⟨i,hi,rfl⟩:=Jap.mp hc;have hl:=h.tb.2.1;have:=(h.tb.2.2.2 i _ _ (Jaa (show i < ts.length by omega)) (Jaa hi)).2;exact ⟨this.1,this.2.2.1⟩
theorem PairC.prV {H H':Hp} {t:Addr} {p m:Int} {ps:List (Int × Int)} {ns:List Int} {cs:List Tc} {z l:Addr} {ts:List Addr} {Ms:List Mv} (h:PairC H t p m ps ns cs z l ts) (a:All2 (RelC H p) cs Ms) (s:Same H H'):PrV H' t p ps ns Ms z l:=
 ⟨s _ _ h.tup,h.sz.same s,Znq a s (s _ _ h.tb.1) h.tb.2.1 (λi t c e1 e2=>((h.tb.same s).2.2.2 i t c e1 e2).1) h.ft h.pos⟩
theorem PairC.vals {H:Hp} {t:Addr} {p m:Int} {ps:List (Int × Int)} {ns:List Int} {cs:List Tc} {z l:Addr} {ts:List Addr} {Ms:List Mv} (h:PairC H t p m ps ns cs z l ts) (a:All2 (RelC H p) cs Ms) (ip:InP m ps) (p9:ps.length<=9):Vals p m ps ns Ms:=
 vals_of a h.ft h.pos ip p9 h.hm (λn hn=>(h.sz.2.2 n hn).1) h.sum h.sum0
theorem StdF.stV {H0 H H':Hp} {S G:Addr} {x:Addr} {p m:Int} {ps:List (Int × Int)} {ns:List Int} {cs:List Tc} {dx g d z l lp:Addr} {xs:List V} {ts:List Addr} {Ms:List Mv} (h:StdF H0 S C G H' x p m ps ns cs dx g d z l lp xs ts) (a:All2 (RelC H p) cs Ms) (s:Same H H') (ft:Fits ns cs ps) (h0:∀ c ∈ cs,0<=c.1/\0<=c.2.1):StV S C G H' x p m ps ns Ms:=
 ⟨dx,g,d,z,l,lp,xs,h.ins,h.grd,h.drw,h.prs,h.szs,Znq a s h.lst h.len (λi t c e1 e2=>let ⟨r,rs,tc,_⟩:=h.tbs i t c e1 e2; ⟨r,rs,tc⟩) ft h0⟩
def spStd (S C G:Addr):L2.Sp:=λvs H Q _=>∃ (e t z l:Addr) (p m:Int) (xs:List V) (ps:List (Int × Int)) (ns:List Int) (ts:List Addr) (cs:List Tc),vs = [.int p,.int m,.ref e,.ref t]/\GroundP p/\1<=m/\m<=8/\H e = some (.lst xs)/\Prs H xs ps/\InP m ps/\ps.length<=9/\PairC H t p m ps ns cs z l ts /\
 ∀ (x dx g d z' l' lp:Addr) (ts':List Addr) (H':Hp),Same H H'->StdF H S C G H' x p m ps ns cs dx g d z' l' lp xs ts'->Q (.ref x) H'
theorem ok_std {f:Addr} {fd:FuncData} (F:Fun K "_law_standing" "_law_standing" Zdq f fd) (T:Txt K mg C G S) (C_Standing:CalI P w K mg base "Standing" S 8 (spSI S C G)) (C_Ground:CalI P w K mg base "Ground" G 3 (Zmy G)) (C_Drawing:CalI P w K mg base "Drawing" C 4 (Zqp C)) (C_law_lent:Cal P w K mg base "_law_lent" 1 Zqm):FnOk P w K mg base CX0 10 f fd ["_law_p","_law_many","_law_arrows","_law_pair"] (spStd S C G):=by
 have nd:=Ze5.nd;refine F.ok Ze5 (λvs H Q E h=>?_) (λcdv A outer s H vs Q E hr h=>?_)
 .refine Zvz h λe t z l p m xs ps ns ts cs e94 _=>?_;clear h;obtain rfl:=e94;rfl
 .refine Znn h λe t z l p m xs ps ns ts cs e95 hp m0 e96=>?_;clear h;obtain rfl:=e95;refine Zto e96 λm8 he pr ip p9 pc q=>?_;clear e96;have hpl:=pr.1;have hz:=pc.sz;have hm:=pc.hm;have hT:=pc.tb;have ft:=pc.ft;refine ⟨_,(~~~(pe_n C_Standing hr.m rfl ((pe_n C_Ground hr.m rfl ((pvr 0)<&>Zaa))<&>((pe_n C_Drawing hr.m rfl ((pvr 1)<&>((Zie Zci rfl T.n_list Jc1 ((pvr 2)<&>Zaa))<&>Zaa)))<&>((Zie Zci rfl T.n_list Jc1 (((Zjq Zaz)<|>(pvr 3)<||>Zab)<&>Zaa))<&>((Za6 C_law_lent hr.m rfl (((Zjq Zaz)<|>(pvr 3)<||>Zab)<&>Zaa))<&>Zaa)))))),?_⟩;walk_at "wp";intro g dg hg hdg ndg;have fg:(upd H dg (.own g)) g = none:=by rw [Zah ndg.symm]; exact hg
  have sg:Same H (upd (upd H dg (.own g)) g (.ins G dg [])):=(Same.new hdg).trans (Same.new fg);refine Zby g dg p ⟨rfl,Zac,hp,λH1 ex1 hg1=>⟨rfl,?_⟩⟩;have s1:Same H H1:=Same.thru sg hg ex1;refine ⟨_,.inl (SqL.of (s1 _ _ he)),λe1 hle1 d dd hd hdd ndd=>?_⟩;have s2:=Same.new (o:=.lst xs) hle1;have q2:(upd H1 e1 (.lst xs)) e1 = some (.lst xs):=Zac;generalize upd H1 e1 (.lst xs) = H2 at *;have fd0:(upd H2 dd (.own d)) d = none:=by rw [Zah ndd.symm]; exact hd
  have sd:Same H2 (upd (upd H2 dd (.own d)) d (.ins C dd [])):=(Same.new hdd).trans (Same.new fd0);refine Zg0 d dd m e1 xs ⟨rfl,Zac,m0,m8,sd _ _ q2,by omega,(Zvn (pr.same (s1.trans s2)) ip).same sd,λlp H3 ex3 hd3 flp hlp=>⟨rfl,?_⟩⟩;have s3:Same H2 H3:=Same.thru sd hd ex3;have t3:=(s1.trans s2).trans s3;refine ⟨_,SqT.of (t3 _ _ pc.tup),_,rfl,z,rfl,_,.inl (SqL.of (t3 _ _ hz.1)),λz1 hz1=>?_⟩;have s4:=Same.new (o:=.lst (ns.map V.int)) hz1;have q4:(upd H3 z1 (.lst (ns.map V.int))) z1 = some (.lst (ns.map V.int)):=Zac;generalize upd H3 z1 (.lst (ns.map V.int)) = H4 at *;refine ⟨_,SqT.of ((t3.trans s4) _ _ pc.tup),_,rfl,l,p,ts,cs,rfl,(hT.same t3).same s4,λl1 ts1 H5 s5 fl1 hl1 hn1 ht1 _ x dx hx hdx ndx=>?_⟩;have s35:=s4.trans s5;have t5:=t3.trans s35;have T5:=hT.of hl1 hn1 ht1;have z5:Sizes H5 z1 ns:=⟨s5 _ _ q4,hz.2⟩
  have g5:GAt G H5 g p:=⟨dg,((s2.trans s3).trans s35) _ _ hg1⟩
  have d5:Zfj C H5 d m lp xs:=⟨dd,s35 _ _ hd3,s35 _ _ hlp⟩
  exact std_of hx hdx ndx g5 hp d5 (pr.same t5) ip p9 z5 hm T5 ft t5 (((s1.trans s2).trans sd).free flp) λdy z' l' ts' H6 s6 st=>⟨rfl,q x dy g d z' l' lp ts' H6 (t5.trans s6) st⟩
structure PairF (H0 H:Hp) (t:Addr) (p m:Int) (ps:List (Int × Int)) (ns:List Int) (cs:List Tc) (z l:Addr) (ts:List Addr):Prop where
 pc:PairC H t p m ps ns cs z l ts
 ft:H0 t = none
 fz:H0 z = none
 fl:H0 l = none
 tf:∀ (i:Nat) t c,ts[i]? = some t->cs[i]? = some c->TabF H0 H p c.1 c.2.1 t c.2.2
theorem Ztc {H0:Hp} {a D:Addr} {o:HO} (h:H0 a = none) (hD:H0 D = some o):a ≠ D:=λz=>by rw [z,hD] at h; cases h
theorem PairF.same {H0 H H':Hp} {t:Addr} {p m:Int} {ps:List (Int × Int)} {ns:List Int} {cs:List Tc} {z l:Addr} {ts:List Addr} (h:PairF H0 H t p m ps ns cs z l ts) (s:Same H H'):PairF H0 H' t p m ps ns cs z l ts:=⟨h.pc.same s,h.ft,h.fz,h.fl,λi t c e1 e2=>(h.tf i t c e1 e2).same s⟩
theorem PairF.bag {b:Addr} {o:HO} {H0 H H':Hp} {t:Addr} {p m:Int} {ps:List (Int × Int)} {ns:List Int} {cs:List Tc} {z l:Addr} {ts:List Addr} (h:PairF H0 H t p m ps ns cs z l ts) (hb:Bag H b) (h0:H0 b = some o) (e:Ext b H H'):PairF H0 H' t p m ps ns cs z l ts:=by
 have tf:∀ (i:Nat) t c,ts[i]? = some t->cs[i]? = some c->TabF H0 H' p c.1 c.2.1 t c.2.2:=λi t c e1 e2=>by
  refine Zdv (h.tf i t c e1 e2) λr rs tc f1 f2 f3=>?_;exact Zau r rs ⟨tc.ext hb e (Ztc f2 h0) (λz=>Ztc (f3 b z) h0 rfl),f1,f2,f3⟩
 refine ⟨⟨e _ _ (Ztc h.ft h0) h.pc.tup,⟨e _ _ (Ztc h.fz h0) h.pc.sz.1,h.pc.sz.2⟩,⟨e _ _ (Ztc h.fl h0) h.pc.tb.1,h.pc.tb.2.1,h.pc.tb.2.2.1,λi t c e1 e2=>?_⟩,h.pc.ft,h.pc.hm,h.pc.sum,h.pc.sum0⟩,h.ft,h.fz,h.fl,tf⟩;refine Zbo (tf i t c e1 e2) λr rs tc _=>?_;exact ⟨⟨r,rs,tc⟩,(h.pc.tb.2.2.2 i t c e1 e2).2⟩
theorem PairF.put {D:Addr} {o:HO} {ys:List V} {o':HO} {H0 H:Hp} {t:Addr} {p m:Int} {ps:List (Int × Int)} {ns:List Int} {cs:List Tc} {z l:Addr} {ts:List Addr} (h:PairF H0 H t p m ps ns cs z l ts) (hD:H D = some (.lst ys)) (h0:H0 D = some o):PairF H0 (upd H D o') t p m ps ns cs z l ts:=by
 have tf:∀ (i:Nat) t c,ts[i]? = some t->cs[i]? = some c->TabF H0 (upd H D o') p c.1 c.2.1 t c.2.2:=λi t c e1 e2=>by
  refine Zdv (h.tf i t c e1 e2) λr rs tc f1 f2 f3=>?_;exact Zau r rs ⟨tc.put hD (Ztc f2 h0) (λz=>Ztc (f3 D z) h0 rfl),f1,f2,f3⟩
 refine ⟨⟨by rw [Zah (Ztc h.ft h0)]; exact h.pc.tup,⟨by rw [Zah (Ztc h.fz h0)]; exact h.pc.sz.1,h.pc.sz.2⟩,⟨by rw [Zah (Ztc h.fl h0)]; exact h.pc.tb.1,h.pc.tb.2.1,h.pc.tb.2.2.1,λi t c e1 e2=>?_⟩,h.pc.ft,h.pc.hm,h.pc.sum,h.pc.sum0⟩,h.ft,h.fz,h.fl,tf⟩;refine Zbo (tf i t c e1 e2) λr rs tc _=>?_;exact ⟨⟨r,rs,tc⟩,(h.pc.tb.2.2.2 i t c e1 e2).2⟩
theorem Zk1 {b a:Addr} {H H':Hp} (e:Ext b H H') (hb:Bag H' b) (h:H' a = none):H a = none:=by
 cases f:H a with
 | none=>rfl
 | some o=>
  have:=e a o (hb.ne h) f;rw [h] at this;cases this
def E2 (b D:Addr) (H H':Hp):Prop:=∀ a o,a ≠ b->a ≠ D->H a = some o->H' a = some o
theorem E2.free {b D a:Addr} {H H':Hp} {o:HO} (e:E2 b D H H') (hb:Bag H' b) (hD:H' D = some o) (h:H' a = none):H a = none:=by
 cases f:H a with
 | none=>rfl
 | some o'=>
  have:=e a o' (hb.ne h) (λz=>by rw [z,hD] at h; cases h) f;rw [h] at this;cases this
theorem TabF.less {H0 H1 H:Hp} {p hh wd:Int} {t:Addr} {M:List (List V)} (h:TabF H1 H p hh wd t M) (k:∀ a,H1 a = none->H0 a = none):TabF H0 H p hh wd t M:=let ⟨r,rs,a,b,c,d⟩:=h; ⟨r,rs,a,k _ b,k _ c,λx hx=>k _ (d x hx)⟩
def spTwo:L2.Sp:=λvs H Q _=>∃ (b:Addr) (p:Int) (mo:Bool),vs = [.ref b,.int p,.bl mo]/\Bag H b/\GroundP p/\∀ (t e pl t1 t2 z1 l1 z2 l2:Addr) (m:Int) (xs:List V) (ps:List (Int × Int)) (ns1 ns2:List Int) (cs1 cs2:List Tc) (ts1 ts2:List Addr) (H':Hp),Ext b H H'->H' t = some (.tup [.int m,.ref e,.ref pl])->H' pl = some (.lst [.ref t1,.ref t2])->H' e = some (.lst xs)->Prs H' xs ps->InP m ps->ps.length<=9->1<=m->m<=8->PairC H' t1 p m ps ns1 cs1 z1 l1 ts1->PairC H' t2 p m ps ns2 cs2 z2 l2 ts2->Q (.ref t) H'
theorem ok_two {f:Addr} {fd:FuncData} (F:Fun K "_law_two" "_law_two" Zi3 f fd) (T:Txt K mg C G S) (C_law_draw:Cal P w K mg base "_law_draw" 1 Zdg) (C_law_drawn:Cal P w K mg base "_law_drawn" 4 (Zid Ztq)) (C_law_sizes:Cal P w K mg base "_law_sizes" 2 Zms) (C_law_tables:Cal P w K mg base "_law_tables" 5 spTbs):FnOk P w K mg base CX0 6 f fd ["_law_bag_here","_law_p","_law_more"] spTwo:=by
 have nd:=Zjx.nd;refine F.ok Zjx (λvs H Q E h=>?_) (λcdv A outer s H vs Q E hr h=>?_)
 .refine Zdu h λb p mo e97 _=>?_;clear h;obtain rfl:=e97;rfl
 .refine Zbj h λb p mo e98 hb hp q=>?_;clear h;obtain rfl:=e98;refine ⟨_,((Zak (i:=3) nd rfl (Or.inl rfl) (Za6 C_law_draw hr.m rfl ((pvr 0)<&>(Zab<&>Zaa))))<*>((Zb3 (Za6 C_law_drawn hr.m rfl ((pvr 0)<&>((pvr 3)<&>Zaa))) (@Zbv _ _ _ _ _ 2 rfl (@Zai _ _ _ _ _ (@Zae _ _ 4 _ nd rfl (Or.inl rfl) (Or.inl rfl)) (@Zai _ _ _ _ _ (@Zae _ _ 5 _ nd rfl (Or.inl rfl) (Or.inl rfl)) (@Za0 _) (by rfl)) (by rfl)) (by rfl) (by rfl)))<*>((Zak (i:=6) nd rfl (Or.inl rfl) (Zaj<|>(@Zbm _ _ _ _ (Zab<&>(Zab<&>Zaa)))<||>(Zie Zl9 rfl T.n_int boot_int ((Zcy (Zif Zcc) (pvr 1) Zab (Zam _))<&>Zaa))))<*>((Zak (i:=7) nd rfl (Or.inl rfl) (Za3 Zaq rfl T.n_len Ja8 ((Zbf (own:=["_law_arrow"]) (fr:=[]) rfl (Zcn (by kernel_rfl)) (Zbt (pv 5)) (λ_ _ _ _=>⟨(@Zae _ _ 0 _ (show (["_law_arrow"]:List Str).Nodup by decide +kernel) rfl (Or.inl rfl) (Or.inr rfl)),(Zq7 (Zcl Zcc ((Zjb K rfl)<|>(pv 0)<||>Zab) ((Zjb K rfl)<|>(pv 0)<||>Zab) (Zam _))),(pv 0)⟩))<&>Zaa)))<*>((@Za1 _ _ _ _ _ _ _ _ (Zao (Zj3 Ze0) (pvr 7) Zab (Zam _)) (@Zal _ _ _ (Zak (i:=6) nd rfl (Or.inl rfl) (Zaj<|>(@Zbm _ _ _ _ (Zab<&>(Zab<&>Zaa)))<||>(Zie Zl9 rfl T.n_int boot_int ((Zcy (Zj3 Ze0) (pvr 7) Zab (Zam _))<&>Zaa))))) Zan)<*>((@Za1 _ _ _ _ _ _ _ _ (PW.pt (Zln (Zud (pvr 2) (λ_=>rfl)) (Zln (Zao (Zj3 Zhg) (pvr 3) Zab (Zam _)) (Zln (Zao (Zj3 Ze0) (pvr 1) Zab (Zam _)) (Zm5 (Zao Zcc (Za6 C_law_draw hr.m rfl ((pvr 0)<&>(Zab<&>Zaa))) Zab (Zam _))))))) (@Zal _ _ _ (Zak (i:=6) nd rfl (Or.inl rfl) Zab)) Zan)<*>((Zak (i:=8) nd rfl (Or.inl rfl) (@Zbm _ _ _ _ Zaa))<*>((Zbh Jan rfl (Zdt rfl T.n_range (Zab<&>Zaa)) (@Zae _ _ 9 _ nd rfl (Or.inl rfl) (Or.inl rfl)) ((Zak (i:=10) nd rfl (Or.inl rfl) (Za6 C_law_sizes hr.m rfl ((pvr 0)<&>((pvr 4)<&>((pvr 6)<&>Zaa)))))<*>(@Zal _ _ _ (Zb2 (Zez Jax Jay Jaz (mtJ Zba) (pvr 8) ((@Zas _ _ _ _ _ ((pvr 10)<&>((Za6 C_law_tables hr.m rfl ((pvr 0)<&>((pvr 1)<&>((pvr 5)<&>((pvr 10)<&>Zaa)))))<&>Zaa)))<&>Zaa))))))<*>(~~~(@Zas _ _ _ _ _ ((pvr 4)<&>((pvr 5)<&>((pvr 8)<&>Zaa))))))))))))),?_⟩;refine cut2 λX hX=>?_;walk_at "wp";refine hb.draw (by decide) (by decide) λwy H1 w0 w1 e1 b1=>⟨b,_,rfl,⟨wy,rfl⟩,b1,λpt e m xs H2 O=>⟨pt,rfl,_,SqT.of O.tup,rfl,_,_,rfl,_,_,rfl,rfl,?_⟩⟩
  have e2:=e1.trans O.ext;have b2:=O.bag;have m0:=O.lo;have m8:=O.hi;have x9:=O.len;have neb:e ≠ b:=b1.ne O.new;have he:=O.lst;refine Zad (Zq8 O.ed) λps pr ip=>?_;have pl:=pr.1;clear O;have p0:=hp.lo;subst hX;refine Zd2 λX hX=>?_;walk_at "wp";refine ⟨by decide,λq1 hq1=>?_⟩;have s3:=Same.new (o:=.lst [V.int 4,V.int 3]) hq1;have eq1:upd H2 q1 (.lst [V.int 4,V.int 3]) q1 = some (.lst [V.int 4,V.int 3]):=Zac;generalize upd H2 q1 (.lst [V.int 4,V.int 3]) = H3 at *;have aft:∀ mo3:Int,0<=mo3->mo3<=4->(p = 0->mo3<=3)->X { nx:=λx H'=>Q V.non H',rt:=Q } [some (.ref b),some (.int p),some (.bl mo),some (.int wy),some (.int m),some (.ref e),some (.int mo3),none,none,none,none] H3:=by
   intro mo3 h0 h4 h3;subst hX;refine Zd2 λX hX=>?_;walk_at "wp";have aft2:∀ (n:Nat) (H4:Hp),Same H3 H4->X { nx:=λx H'=>Q V.non H',rt:=Q } [some (.ref b),some (.int p),some (.bl mo),some (.int wy),some (.int m),some (.ref e),some (.int mo3),some (.int (n:Nat)),none,none,none] H4:=by
    intro n H4 s4;subst hX;refine Zd2 λX hX=>?_;refine cutI λY hY=>?_;walk_at "wp";have aft3:∀ (mo4:Int) (H5:Hp),Same H3 H5->0<=mo4->mo4<=4->(p = 0->mo4<=3)->X { nx:=λx H'=>Q V.non H',rt:=Q } [some (.ref b),some (.int p),some (.bl mo),some (.int wy),some (.int m),some (.ref e),some (.int mo4),some (.int (n:Nat)),none,none,none] H5:=by
     intro mo4 H5 s5 h0 h4 h3;have s25:=s3.trans s5;have b5:=b2.same s25;subst hX;refine Zd2 λX hX=>?_;have aft4:∀ (mo5:Int) (H6:Hp),Ext b H5 H6->Bag H6 b->0<=mo5->mo5<=6->(p = 0->mo5<=3)->X { nx:=λx H'=>Q V.non H',rt:=Q } [some (.ref b),some (.int p),some (.bl mo),some (.int wy),some (.int m),some (.ref e),some (.int mo5),some (.int (n:Nat)),none,none,none] H6:=by
      intro mo5 H6 e6 b6 h0 h6 h3;have E6:Ext b H H6:=λa o n h=>e6 a o n (s25 a o (e2 a o n h));have he6:H6 e = some (.lst xs):=e6 _ _ neb (s25 _ _ he);have pr6:Prs H6 xs ps:=(pr.same s25).bag b5 e6;subst hX;refine Zd2 λX hX=>?_;walk_at "wp";refine ⟨by decide,λD hD=>?_⟩;have nD:D ≠ b:=b6.ne hD;have s7:=Same.new (o:=.lst []) hD;have eD7:upd H6 D (.lst []) D = some (.lst []):=Zac;have fD:H D = none:=Zk1 E6 b6 hD;have b7:=b6.same s7;have he7:=s7 _ _ he6;have pr7:=pr6.same s7;have neD:e ≠ D:=Zag he6 hD;have E7:Ext b H (upd H6 D (.lst [])):=λa o n h=>s7 a o (E6 a o n h);generalize upd H6 D (.lst []) = H7 at *;obtain ⟨yb,hb7⟩:=b7.lst;have key:X { nx:=λx H'=>Q V.non H',rt:=Q } [some (.ref b),some (.int p),some (.bl mo),some (.int wy),some (.int m),some (.ref e),some (.int mo5),some (.int (n:Nat)),some (.ref D),none,none] H7:=by
       subst hX;refine Zd2 λX hX=>?_;walk_at "wp";refine ⟨_,rfl,by decide,by decide,Za2 (n:=2) (λi σ H8=>∃ (v9 v10:Option V) (tt:List Addr),σ = [some (.ref b),some (.int p),some (.bl mo),some (.int wy),some (.int m),some (.ref e),some (.int mo5),some (.int (n:Nat)),some (.ref D),v9,v10]/\E2 b D H7 H8/\Bag H8 b/\H8 D = some (.lst (tt.map V.ref))/\tt.length = i/\∀ t ∈ tt,∃ ns cs z l ts,PairF H7 H8 t p m ps ns cs z l ts)
        ⟨none,none,[],rfl,λ_ _ _ _ h=>h,b7,eD7,rfl,by simp⟩ ?_ ?_⟩
       .intro i σ H8 hi e91;refine Zbj e91 λv9 v10 tt e99 E8 b8 e910=>?_;clear e91;obtain rfl:=e99;refine Za9 e910 λeD8 hl hall=>?_;clear e910;refine Zpt λD2 hD2=>?_;walk_at "wp";refine Zby b m mo5 ⟨rfl,b8,m0,m8,h0,by omega,λz ns H9 e9 b9 fz hz hm hs=>?_⟩;have nzb:z ≠ b:=b8.ne fz;have he8:=E8 _ _ neb neD he7;have he9:=e9 _ _ neb he8;have pr8:Prs H8 xs ps:=⟨pr7.1,λi x q h1 h2=>by
         refine Zad (pr7.2 i x q h1 h2) λt e1 e2=>?_;exact ⟨t,e1,E8 _ _ (Zeh e2 hb7 (by intro z; cases z)) (Zeh e2 eD7 (by intro z; cases z)) e2⟩⟩
        have eD9:=e9 _ _ nD eD8;refine ⟨.inl ⟨rfl,_,SqL.of eD9⟩,b,e,z,p,m,xs,ps,ns,rfl,b9,hp,he9,pr8.bag b8 e9,ip,by omega,hz,hm,neb,nzb,λl ts cs H10 e10 b10 fl tb tf ft=>⟨by decide,λt ht=>?_⟩⟩;have eD10:=e10 _ _ nD eD9;have s11:=Same.new (o:=.tup [V.ref z,V.ref l]) ht;have et:upd H10 t (.tup [V.ref z,V.ref l]) t = some (.tup [V.ref z,V.ref l]):=Zac;have f8:∀ a,H9 a = none->H8 a = none:=λa h=>Zk1 e9 b9 h;have f7:∀ a,H8 a = none->H7 a = none:=λa h=>E8.free b8 eD8 h;have pf:PairF H7 (upd H10 t (.tup [V.ref z,V.ref l])) t p m ps ns cs z l ts:=by
         refine ⟨⟨et,⟨s11 _ _ (e10 _ _ nzb hz.1),hz.2⟩,tb.same s11,ft,hm,by omega,λh=>by have:=h3 h; omega⟩,f7 _ (f8 _ (Zk1 e10 b10 ht)),f7 _ fz,f7 _ (f8 _ fl),λi t c e1 e2=>?_⟩;exact ((tf i t c e1 e2).same s11).less λa h=>f7 _ (f8 _ h)
        have b11:=b10.same s11;have eD11:=s11 _ _ eD10;have E11:E2 b D H7 (upd H10 t (.tup [V.ref z,V.ref l])):=λa o n1 n2 h=>s11 _ _ (e10 _ _ n1 (e9 _ _ n1 (E8 a o n1 n2 h)));generalize upd H10 t (.tup [V.ref z,V.ref l]) = H11 at *;have hall11:∀ t' ∈ tt,∃ ns cs z l ts,PairF H7 H11 t' p m ps ns cs z l ts:=λt' ht'=>by
         refine Ztl (hall t' ht') λns' cs' z' l' ts' pf'=>?_;exact Zg0 ns' cs' z' l' ts' (((pf'.bag b8 hb7 e9).bag b9 hb7 e10).same s11)
        subst hD2;refine ⟨_,eD11,Zap (by rw [Jab]; omega),_,_,tt ++ [t],rfl,λa o n1 n2 h=>by rw [Zah n2]; exact E11 a o n1 n2 h,b11.new nD,by rw [Zac,Zbq],by rw [Jae,hl]; rfl,λt' ht'=>?_⟩;rcases Jai.mp ht' with h | h
        .refine Ztl (hall11 t' h) λns' cs' z' l' ts' pf'=>?_;exact Zg0 ns' cs' z' l' ts' (pf'.put eD11 eD7)
        .rw [Jaq.mp h];exact Zg0 ns cs z l ts (pf.put eD11 eD7)
       .intro σ H8 e92;refine Zbj e92 λv9 v10 tt e911 E8 b8 e912=>?_;clear e92;obtain rfl:=e911;refine Za9 e912 λeD8 hl hall=>?_;clear e912;subst hX;walk_at "wp";refine ⟨by decide,λt ht=>?_⟩;have s9:=Same.new (o:=.tup [V.int m,V.ref e,V.ref D]) ht
        match tt,hl,hall,eD8 with
        | [t1,t2],_,hall,eD8=>
         refine Ztl (hall t1 (by simp)) λns1 cs1 z1 l1 ts1 pf1=>?_;refine Ztl (hall t2 (by simp)) λns2 cs2 z2 l2 ts2 pf2=>?_;have pr8:Prs H8 xs ps:=⟨pr7.1,λi x q h1 h2=>by
          refine Zad (pr7.2 i x q h1 h2) λt e1 e2=>?_;exact ⟨t,e1,E8 _ _ (Zeh e2 hb7 (by intro z; cases z)) (Zeh e2 eD7 (by intro z; cases z)) e2⟩⟩
         refine q t e D t1 t2 z1 l1 z2 l2 m xs ps ns1 ns2 cs1 cs2 ts1 ts2 _ (λa o n h=>?_) Zac (s9 _ _ eD8) (s9 _ _ (E8 _ _ neb neD he7)) (pr8.same s9) ip (by omega) m0 m8 (pf1.pc.same s9) (pf2.pc.same s9);exact s9 _ _ (E8 a o n (λz=>by rw [z,fD] at h; cases h) (E7 a o n h))
      exact key
     refine cutI λY hY=>?_;walk_at "wp";have x0:X { nx:=λx H'=>Q V.non H',rt:=Q } [some (.ref b),some (.int p),some (.bl mo),some (.int wy),some (.int m),some (.ref e),some (.int mo4),some (.int (n:Nat)),none,none,none] H5:=aft4 mo4 H5 (λ_ _ _ h=>h) b5 h0 (by omega) h3;refine ⟨mo,rfl,Zbx (λ_=>Zbx (λ_=>Zbx (λhc=>?_) (λ_=>x0)) (λ_=>x0)) (λ_=>x0)⟩;have hc:=Ja0 hc;refine b5.draw (by decide) (by decide) λr H6 r0 r1 e6 b6=>⟨rfl,Zbx (λ_=>?_) (λ_=>aft4 mo4 H6 e6 b6 h0 (by omega) h3)⟩
     subst hY;walk_at "wp";exact aft4 6 H6 e6 b6 (by decide) (by decide) (λz=>by omega)
    refine Zbx (λhc=>?_) (λ_=>aft3 mo3 H4 s4 h0 h4 h3);subst hY;walk_at "wp";refine ⟨by decide,λq2 hq2=>⟨_,SqL.of Zac,?_⟩⟩;have s5:=s4.trans (Same.new (o:=.lst [V.int 2,V.int 1]) hq2);by_cases h:decide (3 < (n:Int)) = true
    .exact ⟨.int 1,by rw [if_pos h]; rfl,aft3 1 _ s5 (by decide) (by decide) (λ_=>by decide)⟩
    .exact ⟨.int 2,by rw [if_neg h]; rfl,aft3 2 _ s5 (by decide) (by decide) (λ_=>by decide)⟩
   refine ⟨_,rfl,e,rfl,⟨_,SqL.of (s3 _ _ he)⟩,λD hD=>Zfo (xs:=xs) (λi vs H4=>Same H3 H4/\H4 D = some (.lst vs)/\vs.length<=i) ⟨Same.new hD,Zac,Jaf _⟩ (λi vs H4 _ p=>SqL.of (p.1 _ _ (s3 _ _ he))) ?_ λvs H4 ⟨s4,e4,l4⟩=>⟨D,rfl,_,.inl (SqL.of e4),aft2 _ H4 s4⟩⟩;intro i u vs σ' H4 hi hu sh e93;refine Za9 e93 λs4 e4 l4=>?_;clear e93;obtain ⟨z1,rfl⟩:=sh.one;simp only [Zfx,Zbi,List.set_cons_zero];have hi':i < ps.length:=by have:=(Jag.mp hu).1; omega
   refine Zad (pr.2 i u _ hu (Jaa hi')) λta e913 hta=>?_;obtain rfl:=e913;have hta4:=(s3.trans s4) _ _ hta;simp only [Zb8];walk_at "wp";refine ⟨_,SqT.of hta4,_,rfl,_,SqT.of hta4,_,rfl,rfl,Zbx (λ_=>?_) (λ_=>?_)⟩
   .exact Zok (ws:=vs ++ [V.ref ta]) hi Sh.mk1 e4 (Zap (by omega)) ⟨s4.upd hD,Zac,by rw [Jae]; exact Nat.succ_le_succ l4⟩
   .exact leaf0 (ws:=vs) hi Sh.mk1 ⟨s4,e4,by omega⟩
  refine ⟨_,SqL.of eq1,?_⟩;by_cases h0:p = 0
  .exact ⟨.int 3,by rw [if_pos (Jaj h0)]; rfl,aft 3 (by decide) (by decide) (λ_=>by decide)⟩
  .exact ⟨.int 4,by rw [if_neg (λz=>h0 (Ja0 z))]; rfl,aft 4 (by decide) (by decide) (λz=>absurd z h0)⟩
end
end Pf
namespace Pf
open PySem L2 PyProof.Rows
section
variable {P:Program} {w:World} {K:PySem.W.Frag} {mg:Str->Option Value} {base:Heap} {C G S:Addr}
def Zqr:Sp:=λvs H Q _=>∃ (e r1 r2:Addr) (m:Int) (xs:List V) (ps:List (Int × Int)) (a b:List Int),vs = [.ref e,.ref r1,.ref r2]/\H e = some (.lst xs)/\xs.length<=9/\Prs H xs ps/\InP m ps/\H r1 = some (.lst (a.map V.int))/\H r2 = some (.lst (b.map V.int)) /\
 a.length = m.toNat/\b.length = m.toNat/\m<=8/\(∀ n ∈ a,Big n)/\(∀ n ∈ b,Big n)/\Q (.int (Zpk ps a b)) H
theorem ok_form {f:Addr} {fd:FuncData} (F:Fun K "_law_form" "_law_form" Zg7 f fd) (T:Txt K mg C G S):FnOk P w K mg base CX0 1 f fd ["_law_arrows","_law_one","_law_other"] Zqr:=by
 have nd:=Ziu.nd;refine F.ok Ziu (λvs H Q E h=>?_) (λcdv A outer s H vs Q E hr h=>?_)
 .refine xE8_2 h λe r1 r2 m xs ps a b e95 _=>?_;clear h;obtain rfl:=e95;rfl
 .refine xE8_4 h λe r1 r2 m xs ps a b e96 he hl e97=>?_;clear h;obtain rfl:=e96;refine Zp1 e97 λhps hin h1 h2 l1 l2 m8 b1 b2 q=>?_;clear e97;have hlen:=hps.1;refine ⟨_,((Zak (i:=3) nd rfl (Or.inl rfl) Zab)<*>((Zbh Jan rfl (Zdt rfl T.n_range ((Za3 Zaq rfl T.n_len Ja8 ((pv 1)<&>Zaa))<&>Zaa)) (@Zae _ _ 4 _ nd rfl (Or.inl rfl) (Or.inl rfl)) (@Zal _ _ _ (Zak (i:=3) nd rfl (Or.inl rfl) (Zay<|>(pvr 3)<&&>(Za4<|>((ixJ Zaj)<|>(pvr 1)<||>(pvr 4))<&&>((ixJ Zaj)<|>(pvr 2)<||>(pvr 4)))))))<*>((Zbh Jan rfl (Zbt (pv 0)) (@Zbv _ _ _ _ _ 2 rfl (@Zai _ _ _ _ _ (@Zae _ _ 5 _ nd rfl (Or.inl rfl) (Or.inl rfl)) (@Zai _ _ _ _ _ (@Zae _ _ 6 _ nd rfl (Or.inl rfl) (Or.inl rfl)) (@Za0 _) (by rfl)) (by rfl)) (by rfl) (by rfl)) (@Zal _ _ _ (Zak (i:=3) nd rfl (Or.inl rfl) (Zbp<|>(pvr 3)<&&>(Za4<|>((ixJ Zaj)<|>(pvr 1)<||>(pvr 5))<&&>((ixJ Zaj)<|>(pvr 2)<||>(pvr 6)))))))<*>(~~~(pvr 3))))),?_⟩;walk_at "wp";refine ⟨_,rfl,r1,rfl,_,.inl (SqL.of h1),_,rfl,by simp only [Jab]; omega,by simp only [Jab]; omega,Za2 (λi σ H2=>∃ v4 v5 v6:Option V,σ = [some (.ref e),some (.ref r1),some (.ref r2),some (.int (Zvo a b i)),v4,v5,v6]/\H2 = H) ⟨none,none,none,rfl,rfl⟩ ?_ ?_⟩
  .intro i σ H2 hi e91;refine Zdu e91 λv4 v5 v6 e98 e99=>?_;clear e91;obtain rfl:=e98;obtain rfl:=e99;walk_at "wp";simp only [Jab] at hi;have t0:(0 + (i:Int)).toNat < a.length:=by omega
   have t1:(0 + (i:Int)).toNat < b.length:=by omega
   refine ⟨_,SqL.of h1,_,Zb0 (by omega) (Zep t0),_,SqL.of h2,_,Zb0 (by omega) (Zep t1),_,rfl,_,rfl,(Zfi b1 t0).mul (Zfi b2 t1),?_,_,rfl⟩;rw [Jc3];rfl
  .intro σ H2 e92;refine Zdu e92 λv4 v5 v6 e910 e911=>?_;clear e92;obtain rfl:=e910;obtain rfl:=e911;walk_at "wp";refine ⟨_,rfl,e,rfl,⟨_,SqL.of he⟩,Zik (xs:=xs) (λi σ H=>∃ v4 v5 v6:Option V,σ = [some (.ref e),some (.ref r1),some (.ref r2),some (.int (Zvo a b a.length - Zjs a b (ps.take i))),v4,v5,v6]/\H = H2)
    ⟨v4,v5,v6,?_,rfl⟩ (λi σ H _ ⟨_,_,_,_,hH⟩=>SqL.of (by rw [hH]; exact he)) ?_ ?_⟩
   .simp [Zjs,arrZ]
   .intro i x σ H hi e93;refine Zdu e93 λv4 v5 v6 e912 e913=>?_;clear e93;obtain rfl:=e912;obtain rfl:=e913;have hi1:i < xs.length:=(Jag.mp hi).1;have hq:ps[i]? = some (ps[i]'(by omega)):=Jaa _;refine Zad (hps.2 i x _ hi hq) λt e914 ht=>?_;obtain rfl:=e914;refine Zcj (hin _ (Jad hq)) λp0 p1 p2 p3=>?_;refine Zau t _ ⟨rfl,SqT.of ht,rfl,_,_,rfl,_,_,rfl,rfl,?_⟩;walk_at "wp";have t0:(ps[i]'(by omega)).1.toNat < a.length:=by omega
    have t1:(ps[i]'(by omega)).2.toNat < b.length:=by omega
    refine ⟨_,SqL.of h1,_,Zb0 p0 (Zep t0),_,SqL.of h2,_,Zb0 p2 (Zep t1),_,rfl,_,rfl,(Zfi b1 t0).mul (Zfi b2 t1),?_⟩;rw [Jdl,hq];show _ = Zvo a b a.length - Zjs a b (ps.take i ++ [ps[i]'(by omega)])/\_;rw [Zhn];exact ⟨by omega,_,rfl⟩
   .intro σ H e94;refine Zdu e94 λv4 v5 v6 e915 e916=>?_;clear e94;obtain rfl:=e915;obtain rfl:=e916;rw [hlen,Jcl]
    first | exact q | exact ⟨_,rfl,q⟩
theorem Zpo {a D:Addr} {xs:List V} {ps:List (Int × Int)} {fr:List (Str × Nat)} {σ:L2.St} {te:TE} {H1:Hp} {Q:VK} (g:Int × Int->Int) (ha:H1 a = some (.lst xs)) (hps:Prs H1 xs ps) (hD:H1 D = none) (hn:xs.length<=1000)
  (h:∀ (i:Nat) q H (Q:VK),ps[i]? = some q->Same H1 H->(∀ H',Same H H'->Q (.int (g q)) H')->te (some (.int q.1) :: some (.int q.2) :: Zb8 fr σ) H Q)
  (hQ:∀ H',Same H1 H'->H' D = some (.lst ((ps.map g).map V.int))->Q (.ref D) H'):Zb9 (Zps K 2 (Zge (Zbi 0) (Zge (Zbi 1) Ztf))) Zgj te (Itl K a) D (Zh8 2 fr σ) H1 Q:=by
 have hlen:=hps.1;refine Zfo (xs:=xs) (λi vs H=>Same H1 H/\H D = some (.lst vs)/\vs = ((ps.take i).map g).map V.int) ⟨Same.new hD,Zac,rfl⟩ (λi vs H _ p=>SqL.of (p.1 _ _ ha)) ?_ (λvs H ⟨s,e,hv⟩=>hQ H s (by rw [e,hv,hlen,Jcl]));intro i x vs σ' H hi hx sh e91;refine Za9 e91 λs e e93=>?_;clear e91;obtain rfl:=e93;refine Zla sh.two λz1 z2 e94=>?_;obtain rfl:=e94;have hi':i < ps.length:=by omega
 have hq:ps[i]? = some ps[i]:=Jaa hi';refine Zad (hps.2 i x _ hx hq) λt e95 ht=>?_;obtain rfl:=e95;refine Zau t _ ⟨rfl,SqT.of (s _ _ ht),rfl,_,_,rfl,_,_,rfl,rfl,?_⟩;simp only [Zgj,List.set_cons_zero,List.set_cons_succ,Jcy];refine h i _ H _ hq s λH' s'=>?_;refine Zok (ws:=((ps.take (i + 1)).map g).map V.int) hi Sh.mk2 (s' _ _ e) (Zap (by rw [Jab,Jab,Jbb]; omega)) ⟨(s.trans s').upd hD,?_,rfl⟩;rw [Zac,Jdl,hq,Ja1,Ja1];rfl
theorem Zpn {a b D:Addr} {as bs:List Int} {fr:List (Str × Nat)} {σ:L2.St} {te:TE} {H1:Hp} {Q:VK} (g:Int->Int->Int) (ha:H1 a = some (.lst (as.map V.int))) (hb:H1 b = some (.lst (bs.map V.int))) (hl:bs.length = as.length) (hD:H1 D = none) (hn:as.length<=1000)
  (h:∀ (i:Nat) H (Q:VK),i < as.length->Same H1 H->(∀ H',Same H H'->Q (.int (g (atZ as i) (atZ bs i))) H')->te (some (.int (atZ as i)) :: some (.int (atZ bs i)) :: Zb8 fr σ) H Q)
  (hQ:∀ H',Same H1 H'->H' D = some (.lst (((List.range as.length).map λi:Nat=>g (atZ as i) (atZ bs i)).map V.int))->Q (.ref D) H'):Zb9 (Zps K 2 (Zge (Zbi 0) (Zge (Zbi 1) Ztf))) Zgj te (Itz K a b) D (Zh8 2 fr σ) H1 Q:=by
 refine Zk4 (xs:=as.map V.int) (ys:=bs.map V.int) (λi vs H=>Same H1 H/\H D = some (.lst vs)/\vs = ((List.range i).map λi:Nat=>g (atZ as i) (atZ bs i)).map V.int) (by rw [Jab,Jab]; exact hl) ⟨Same.new hD,Zac,rfl⟩ (λi vs H _ p=>⟨SqL.of (p.1 _ _ ha),SqL.of (p.1 _ _ hb)⟩) ?_ (λvs H ⟨s,e,hv⟩=>hQ H s (by rw [e,hv,Jab]));intro i x y p vs σ' H hi hx hy hp sh e92;refine Za9 e92 λs e e96=>?_;clear e92;obtain rfl:=e96;refine Zla sh.two λz1 z2 e97=>?_;obtain rfl:=e97;rw [Jab] at hi;have ex:=Zep (ns:=as) (i:=(i:Int)) (by simpa using hi);have ey:=Zep (ns:=bs) (i:=(i:Int)) (by simpa [hl] using hi);rw [Jba] at ex ey;rw [ex] at hx;rw [ey] at hy;cases hx;cases hy;refine Zau p _ ⟨rfl,SqT.of Zac,rfl,_,_,rfl,_,_,rfl,rfl,?_⟩;simp only [Zgj,List.set_cons_zero,List.set_cons_succ,Jcy];have s1:=s.trans (Same.new (o:=.tup [.int (atZ as i),.int (atZ bs i)]) hp);refine h i _ _ hi s1 λH' s'=>?_;have e':=s' _ _ ((Same.new (o:=.tup [.int (atZ as i),.int (atZ bs i)]) hp) _ _ e);refine Zok (ws:=((List.range (i + 1)).map λi:Nat=>g (atZ as i) (atZ bs i)).map V.int) (by rw [Jab]; exact hi) Sh.mk2 e' (Zap (by rw [Jab,Jab,Ja4]; omega)) ⟨(s1.trans s').upd hD,?_,rfl⟩;rw [Zac,Jb7,Ja1,Ja1];rfl
theorem Zqc (a b:List Int):∀ (n N:Nat),n<=N->preSum (λi=>((List.range N).map λi:Nat=>atZ a i * atZ b i).getD i 0) n = Zvo a b n
 | 0,_,_=>rfl
 | n + 1,N,h=>by
  unfold preSum Zvo;rw [Zqc a b n N (by omega)];congr 1;simp [Jac,show n < N by omega]
theorem Zqd (a b:List Int) (ps:List (Int × Int)):∀ n,n<=ps.length->preSum (λi=>(ps.map λq=>atZ a q.1 * atZ b q.2).getD i 0) n = Zjs a b (ps.take n)
 | 0,_=>rfl
 | n + 1,h=>by
  have hq:ps[n]? = some (ps[n]'(by omega)):=Jaa _;have e:ps.take (n + 1) = ps.take n ++ [ps[n]'(by omega)]:=by rw [Jdl,hq]; rfl
  rw [e,Zhn,<- Zqd a b ps n (by omega)];show _ + _ = _;congr 1;simp [Jac,hq]
def spTwS (C:Addr):Sp:=λvs H Q _=>∃ (p r1 r2:Addr) (m:Int) (ps:List (Int × Int)) (a b:List Int),vs = [.ref p,.ref r1,.ref r2]/\Drw C H p m ps/\InP m ps/\H r1 = some (.lst (a.map V.int))/\H r2 = some (.lst (b.map V.int)) /\
 a.length = m.toNat/\b.length = m.toNat/\m<=8/\(∀ n ∈ a,Big n)/\(∀ n ∈ b,Big n)/\∀ H',Same H H'->Q (.int (Zpk ps a b)) H'
theorem ok_twS {f:Addr} {fd:FuncData} (F:Fun K "two_sided" "two_sided" Zf1 f fd) (T:Txt K mg C G S):FnOk P w K mg base CX0 1 f fd ["drawing","one","other"] (spTwS C):=by
 have nd:=Zhq.nd;refine F.ok Zhq (λvs H Q E h=>?_) (λcdv A outer s H vs Q E hr h=>?_)
 .refine Zti h λp r1 r2 m ps a b e98 _=>?_;clear h;obtain rfl:=e98;rfl
 .refine Zmj h λp r1 r2 m ps a b e99 e910 hin e911=>?_;clear h;obtain rfl:=e99;obtain ⟨lp,xs,⟨dx,hp,hlp⟩,hl,hps⟩:=e910;refine xE0_8 e911 λh1 h2 l1 l2 m8 b1 b2 q=>?_;clear e911;have hlen:=hps.1;refine ⟨_,((Zak (i:=3) nd rfl (Or.inl rfl) (Za3 (Zox rfl) rfl T.n_sum boot_sum ((Zbf (own:=["a","b"]) (fr:=[]) rfl (Zcn (by kernel_rfl)) (Zlp rfl T.n_zip ((pv 1)<&>((pv 2)<&>Zaa))) (λ_ _ _ _=>⟨(@Zff _ K rfl _ _ _ _ 2 rfl (@Zai _ _ _ _ _ (@Zae _ _ 0 _ (show (["a","b"]:List Str).Nodup by decide +kernel) rfl (Or.inl rfl) (Or.inr rfl)) (@Zai _ _ _ _ _ (@Zae _ _ 1 _ (show (["a","b"]:List Str).Nodup by decide +kernel) rfl (Or.inl rfl) (Or.inr rfl)) (@Za0 _) (by rfl)) (by rfl)) (by rfl) (by rfl)),Zbb,(Za4<|>(pv 0)<&&>(pv 1))⟩))<&>Zaa)))<*>(~~~(Zbp<|>(pvr 3)<&&>(Za3 (Zox rfl) rfl T.n_sum boot_sum ((Zbf (own:=["tail","head"]) (fr:=[("one",1),("other",2)]) rfl (Zcn (by kernel_rfl)) (Zbt (Zcz (pv 0) rfl)) (λ_ _ _ _=>⟨(@Zff _ K rfl _ _ _ _ 2 rfl (@Zai _ _ _ _ _ (@Zae _ _ 0 _ (show (["tail","head","one","other"]:List Str).Nodup by decide +kernel) rfl (Or.inl rfl) (Or.inr rfl)) (@Zai _ _ _ _ _ (@Zae _ _ 1 _ (show (["tail","head","one","other"]:List Str).Nodup by decide +kernel) rfl (Or.inl rfl) (Or.inr rfl)) (@Za0 _) (by rfl)) (by rfl)) (by rfl) (by rfl)),Zbb,(Za4<|>((Zel K rfl)<|>(pv 2)<||>(pv 0))<&&>((Zel K rfl)<|>(pv 3)<||>(pv 1)))⟩))<&>Zaa))))),?_⟩;walk_at "wp";refine ⟨_,rfl,_,rfl,r1,r2,rfl,⟨_,SqL.of h1⟩,⟨_,SqL.of h2⟩,λD hD=>Zpn (λx y=>x * y) h1 h2 (by omega) hD (by omega) (λi H' Q' hi s' q'=>?_) λH1 s1 e1=>⟨D,rfl,_,SqL.of e1,?_⟩⟩
  .refine ⟨_,rfl,_,rfl,_,_,rfl,rfl,?_,q' H' (Same.refl _)⟩;exact (Zfi b1 (by simpa using hi)).mul (Zfi b2 (by simp; omega))
  .have hp1:=s1 _ _ hp;have hlp1:=s1 _ _ hlp;refine ⟨_,rfl,p,C,dx,_,_,rfl,hp1,T.cl_Drawing,T.nA,Zcg _ _,lp,rfl,⟨_,SqL.of hlp1⟩,λD2 hD2=>Zpo (λq=>atZ a q.1 * atZ b q.2) hlp1 (hps.same s1) hD2 (by omega) (λi q H' Q' hq s' q'=>?_) λH2 s2 e2=>⟨D2,rfl,_,SqL.of e2,?_⟩⟩
   .refine Zcj (hin _ (Jad hq)) λp0 p1 p2 p3=>?_;have t0:q.1.toNat < a.length:=by omega
    have t1:q.2.toNat < b.length:=by omega
    have hh1:=s' _ _ (s1 _ _ h1);have hh2:=s' _ _ (s1 _ _ h2);refine ⟨_,rfl,_,rfl,r1,_,_,_,rfl,rfl,SqL.of hh1,Zb0 p0 (Zep t0),_,rfl,_,rfl,r2,_,_,_,rfl,rfl,SqL.of hh2,Zb0 p2 (Zep t1),_,_,rfl,rfl,(Zfi b1 t0).mul (Zfi b2 t1),q' H' (Same.refl _)⟩
   .rw [Jab,Jab,Ja4,Zqc a b _ _ (Jaf _),Zqd a b ps _ (Jaf _),Jcl];exact q H2 (s1.trans s2)
end
end Pf
set_option maxHeartbeats 2000000
namespace Pf
open PySem L2 L3 PyProof.Rows
section
variable {P:Program} {w:World} {K:PySem.W.Frag} {mg:Str->Option Value} {base:Heap} {C PL:Addr}
theorem Zqf {ns ns':List Int} (h:∀ n ∈ ns,0<=n) (h':∀ n ∈ ns',0<=n):∀ k,((stN ns ns' k:Nat):Int) = Zvo ns ns' k
 | 0=>rfl
 | k + 1=>by
  have e:=Zqf h h' k;have g:∀ {l:List Int},(∀ n ∈ l,0<=n)->((l.getD k 0).toNat:Int) = atZ l k:=λ{l} hl=>by
   unfold atZ;rw [Jba];by_cases z:k < l.length
   .exact Jbv (hl _ (Za7 z))
   .rw [Jac,Jal (by omega)]; rfl
  show ((stN ns ns' k + (ns'.getD k 0).toNat * (ns.getD k 0).toNat:Nat):Int) = Zvo ns ns' k + atZ ns k * atZ ns' k;rw [Jbz,Jb8,e,g h,g h',Jdg (atZ ns' k)]
theorem nt_at {ns:List Int} (h:∀ n ∈ ns,0<=n) (i:Int):((nt ns i:Nat):Int) = atZ ns i:=by
 unfold nt atZ;by_cases z:i.toNat < ns.length
 .exact Jbv (h _ (Za7 z))
 .rw [Jac,Jal (by omega)]; rfl
theorem Zwm {p:Int} {ns ns':List Int} {ps:List (Int × Int)} {Ms Ms':List Mv} (h:∀ n ∈ ns,0<=n) (h':∀ n ∈ ns',0<=n):∀ n,n<=ps.length->((dM p ns ns' ps Ms Ms' n).length:Int) = Zjs ns ns' (ps.take n)
 | 0,_=>rfl
 | n + 1,hn=>by
  have hq:ps[n]? = some (ps[n]'hn):=Jaa _;rw [Zk2,Jae,Zjg,Jbz,Zwm h h' n (by omega),Jdl,hq,Jb8,nt_at h,nt_at h'];show _ = Zjs ns ns' (ps.take n ++ [ps[n]'hn]);rw [Zhn,Zbe hn,Jdg]
theorem big6 {ns:List Int} {p m:Int} {ps:List (Int × Int)} {Ms:List Mv} (V:Vals p m ps ns Ms):∀ n ∈ ns,Big n:=λn hn=>by
 obtain ⟨a,b⟩:=V.sz n hn;exact ⟨by omega,by omega⟩
def spCt (S C G PL:Addr):L2.Sp:=λvs H Q _=>∃ (x x':Addr) (p m:Int) (ps:List (Int × Int)) (ns ns':List Int) (Ms Ms':List Mv),vs = [.ref x,.ref x']/\StV S C G H x p m ps ns Ms/\StV S C G H x' p m ps ns' Ms'/\GroundP p/\Vals p m ps ns Ms/\Vals p m ps ns' Ms'/\m<=8/\H PL = some Zwg /\
 ∀ (rk:Nat) H',Same H H'->IsRk p (dM p ns ns' ps Ms Ms' ps.length).length (stN ns ns' ns.length) (dM p ns ns' ps Ms Ms' ps.length) rk->Q (.int (((stN ns ns' ns.length:Nat) - (rk:Nat):Int) - Zpk ps ns ns')) H'
theorem ok_ct {f:Addr} {fd:FuncData} (F:Fun K "count_ties" "count_ties" Zfb f fd) (T:Txt K mg C G S) (C_count_maps:Cal P w K mg base "count_maps" 9 (spCm S C G PL)) (C_two_sided:Cal P w K mg base "two_sided" 1 (spTwS C)):FnOk P w K mg base CX0 10 f fd ["one","other"] (spCt S C G PL):=by
 have nd:=Zgp.nd;refine F.ok Zgp (λvs H Q E h=>?_) (λcdv A outer s H vs Q E hr h=>?_)
 .refine Zo1 h λx x' p m ps ns ns' Ms Ms' e93 _=>?_;clear h;obtain rfl:=e93;rfl
 .refine Zpw h λx x' p m ps ns ns' Ms Ms' e94 i1 i2 e95=>?_;clear h;obtain rfl:=e94;refine Zdd e95 λhp V1 V2 m8 hPL q=>?_;clear e95;refine ⟨_,(~~~(Zbp<|>(Za6 C_count_maps hr.m rfl ((pvr 0)<&>((pvr 1)<&>Zaa)))<&&>(Za6 C_two_sided hr.m rfl ((Zbc (pvr 0) rfl)<&>((Zbc (pvr 0) rfl)<&>((Zbc (pvr 1) rfl)<&>Zaa)))))),?_⟩;walk_at "wp";refine Zmi x x' p m ps ns ns' Ms Ms' ⟨rfl,i1,i2,hp,V1,V2,hPL,λrk H1 s1 ir=>?_⟩;refine Zmk (i1.same s1) λdx g d z l lp xs st=>?_;refine Zmk (i2.same s1) λdx' g' d' z' l' lp' xs' st'=>?_;have hl:=st.prs.1;have p9:=V1.p9;have h1:=V1.hm;have h2:=V2.hm;exact Zby S dx _ ⟨st.ins,T.cl_Standing,T.nSd,_,Zc2 ..,S,dx,_,st.ins,T.cl_Standing,T.nSs,_,Zdi ..,S,dx',_,st'.ins,T.cl_Standing,T.nSs,_,Zdi ..,d,z,z',m,ps,ns,ns',rfl,⟨lp,xs,st.drw,by omega,st.prs⟩,V1.ip,st.szs.1,st'.szs.1,by omega,by omega,m8,big6 V1,big6 V2,λH2 s2=>⟨_,rfl,_,rfl,q rk H2 (s1.trans s2) ir⟩⟩
def Zqq (S C G PL:Addr):L2.Sp:=λvs H Q _=>∃ (e t1 t2 z1 l1 z2 l2:Addr) (p m:Int) (xs:List V) (ps:List (Int × Int)) (ns1 ns2:List Int) (cs1 cs2:List Tc) (ts1 ts2:List Addr),vs = [.int p,.int m,.ref e,.ref t1,.ref t2]/\GroundP p/\1<=m/\m<=8/\H e = some (.lst xs)/\Prs H xs ps/\InP m ps/\ps.length<=9/\PairC H t1 p m ps ns1 cs1 z1 l1 ts1/\PairC H t2 p m ps ns2 cs2 z2 l2 ts2/\H PL = some Zwg/\∀ H',Same H H'->Q (.bl true) H'
theorem ok_held {f:Addr} {fd:FuncData} (F:Fun K "_law_held" "_law_held" Zg6 f fd) (T:Txt K mg C G S) (C_law_asked:Cal P w K mg base "_law_asked" 4 spAsk) (C_law_rank:Cal P w K mg base "_law_rank" 5 spLrk) (C_law_standing:Cal P w K mg base "_law_standing" 10 (spStd S C G)) (C_count_ties:Cal P w K mg base "count_ties" 10 (spCt S C G PL)) (C_count_maps:Cal P w K mg base "count_maps" 9 (spCm S C G PL)) (C_law_form:Cal P w K mg base "_law_form" 1 Zqr):FnOk P w K mg base CX0 11 f fd ["_law_p","_law_many","_law_arrows","_law_one","_law_other"] (Zqq S C G PL):=by
 have nd:=Zit.nd;refine F.ok Zit (λvs H Q E h=>?_) (λcdv A outer s H vs Q E hr h=>?_)
 .refine xE17_2 h λe t1 t2 z1 l1 z2 l2 p m xs ps ns1 ns2 cs1 cs2 ts1 ts2 e96 _=>?_;clear h;obtain rfl:=e96;rfl
 .refine xE17_4 h λe t1 t2 z1 l1 z2 l2 p m xs ps ns1 ns2 cs1 cs2 ts1 ts2 e97 hp m0 e98=>?_;clear h;obtain rfl:=e97;refine Ztn e98 λm8 he pr ip p9 pc1 pc2 hPL q=>?_;clear e98;obtain ⟨Ms1,rel1⟩:=pc1.tb.rel;obtain ⟨Ms2,rel2⟩:=pc2.tb.rel;have V1:=pc1.vals rel1 ip p9;have V2:=pc2.vals rel2 ip p9;have P1:=pc1.prV rel1 (Same.refl _);have P2:=pc2.prV rel2 (Same.refl _);refine ⟨_,((Zb3 (Za6 C_law_asked hr.m rfl ((pvr 0)<&>((pvr 2)<&>((pvr 3)<&>((pvr 4)<&>Zaa))))) (@Zbv _ _ _ _ _ 2 rfl (@Zai _ _ _ _ _ (@Zae _ _ 5 _ nd rfl (Or.inl rfl) (Or.inl rfl)) (@Zai _ _ _ _ _ (@Zae _ _ 6 _ nd rfl (Or.inl rfl) (Or.inl rfl)) (@Za0 _) (by rfl)) (by rfl)) (by rfl) (by rfl)))<*>((Zak (i:=7) nd rfl (Or.inl rfl) (Zbp<|>(Za3 Zaq rfl T.n_len Ja8 ((pvr 5)<&>Zaa))<&&>(Za6 C_law_rank hr.m rfl ((pvr 0)<&>((pvr 5)<&>((pvr 6)<&>Zaa))))))<*>((Zak (i:=8) nd rfl (Or.inl rfl) (Za6 C_law_standing hr.m rfl ((pvr 0)<&>((pvr 1)<&>((pvr 2)<&>((pvr 3)<&>Zaa))))))<*>((Zak (i:=9) nd rfl (Or.inl rfl) (Za6 C_law_standing hr.m rfl ((pvr 0)<&>((pvr 1)<&>((pvr 2)<&>((pvr 4)<&>Zaa))))))<*>((Zak (i:=10) nd rfl (Or.inl rfl) (Za6 C_count_ties hr.m rfl ((pvr 8)<&>((pvr 9)<&>Zaa))))<*>((@Za1 _ _ _ _ _ _ _ _ (PW.pt (Zec (Zbz (Zb1 (Za3 Za5 rfl T.n_isinstance Jbt ((pvr 10)<&>((Zgs rfl T.n_int boot_int)<&>Zaa))))) (Zec (Zb1 (Za3 Za5 rfl T.n_isinstance Jbt ((pvr 10)<&>((Zgs rfl T.n_bool boot_bool)<&>Zaa)))) (Zdb (Zao (opNeJ Zfh) (pvr 10) (pvr 7) (Zam _)))))) (~~~Zfg) Zan)<*>(~~~(Zcy Zcc (Zbp<|>(Za6 C_count_maps hr.m rfl ((pvr 8)<&>((pvr 9)<&>Zaa)))<&&>(pvr 10)) (Za6 C_law_form hr.m rfl ((pvr 2)<&>(((Zjq Zaz)<|>(pvr 3)<||>Zab)<&>(((Zjq Zaz)<|>(pvr 4)<||>Zab)<&>Zaa)))) (Zam _))))))))),?_⟩;refine Zd2 λX hX=>?_;walk_at "wp";refine xI15_1 e t1 t2 z1 l1 z2 l2 p m xs ps ns1 ns2 Ms1 Ms2 ⟨rfl,he,pr,P1,P2,hp,V1,V2,λt R rs H1 s1 ht mr=>⟨t,rfl,_,SqT.of ht,rfl,_,_,rfl,_,_,rfl,rfl,?_⟩⟩;subst hX;refine Zd2 λX hX=>?_;walk_at "wp";obtain ⟨t36,t9⟩:=Zp6 V1 V2;have dl:=Zss (p:=p) (ps:=ps) (Ms1:=Ms1) (Ms2:=Ms2) V1.sz V2.sz ps.length;have hw:∀ xs ∈ dM p ns1 ns2 ps Ms1 Ms2 ps.length,xs.length = stN ns1 ns2 ns1.length:=λxs hx=>by
   refine Zbj (Zsr hx) λ_ _ _ _ _ _ e99=>?_;obtain rfl:=e99;exact Zot ..
  have gd:=dM_gd hp V1 V2;have dc:=Zwm (p:=p) (ps:=ps) (Ms:=Ms1) (Ms':=Ms2) (λn hn=>(V1.sz n hn).1) (λn hn=>(V2.sz n hn).1) ps.length (Jaf _);have sd:=Zqf (λn hn=>(V1.sz n hn).1) (λn hn=>(V2.sz n hn).1) ns1.length;rw [Jcl] at dc;have rl:(rs.map V.ref).length = (dM p ns1 ns2 ps Ms1 Ms2 ps.length).length:=by rw [Jab]; exact mr.2.1.1
  refine ⟨_,.inl (SqL.of mr.1),p,R,rs,30,(dM p ns1 ns2 ps Ms1 Ms2 ps.length).length,stN ns1 ns2 ns1.length,dM p ns1 ns2 ps Ms1 Ms2 ps.length,rfl,hp,⟨mr.1,mr.2.1,mr.2.2.1,rfl,hw,gd⟩,by decide,by omega,by omega,λh0=>?_,λrk H2 s2 ir=>⟨_,rfl,?_⟩⟩
  .have:=t9 h0;have h1:(30 + 1) * 4 ^ stN ns1 ns2 ns1.length<=31 * 4 ^ 9:=Jca (by omega) (Jcm (by decide) this);exact Jav h1 (by decide)
  rw [rl];have s02:=s1.trans s2;clear mr gd hw dl t36 t9 rl ht;subst hX;refine Zd2 λX hX=>?_;walk_at "wp";refine Znm e t1 z1 l1 p m xs ps ns1 ts1 cs1 ⟨rfl,hp,m0,m8,s02 _ _ he,pr.same s02,ip,p9,pc1.same s02,λx dx g d z' l' lp ts' H3 s3 st=>?_⟩;have s03:=s02.trans s3;have S1:=st.stV rel1 s03 pc1.ft pc1.pos;clear st;subst hX;refine Zd2 λX hX=>?_;walk_at "wp";refine Znm e t2 z2 l2 p m xs ps ns2 ts2 cs2 ⟨rfl,hp,m0,m8,s03 _ _ he,pr.same s03,ip,p9,pc2.same s03,λy dy g' d' z'' l'' lp' ts'' H4 s4 st=>?_⟩;have s04:=s03.trans s4;have S2:=st.stV rel2 s04 pc2.ft pc2.pos;have S1:=S1.same s4;clear st;subst hX;refine Zd2 λX hX=>?_;walk_at "wp";refine Zmi x y p m ps ns1 ns2 Ms1 Ms2 ⟨rfl,S1,S2,hp,V1,V2,m8,s04 _ _ hPL,λrk' H5 s5 ir'=>?_⟩;obtain rfl:=ir.uniq hp ir';have s05:=s04.trans s5;have ev:((stN ns1 ns2 ns1.length:Nat) - (rk:Nat):Int) - Zpk ps ns1 ns2 = ((dM p ns1 ns2 ps Ms1 Ms2 ps.length).length:Nat) - (rk:Nat):=by
   unfold Zpk;rw [dc,sd];omega
  rw [ev];subst hX;refine Zd2 λX hX=>?_;walk_at "wp";refine Zad (Zwi (K:=K) (Kn.int (H:=H5) (i:=((dM p ns1 ns2 ps Ms1 Ms2 ps.length).length:Nat) - (rk:Nat)))) λy1 a1 b1=>?_;refine Zad (Zrx (K:=K) (Kn.int (H:=H5) (i:=((dM p ns1 ns2 ps Ms1 Ms2 ps.length).length:Nat) - (rk:Nat)))) λy2 a2 b2=>?_;refine Zau _ _ ⟨⟨rfl,rfl⟩,_,rfl,y1,a1,_,b1,Zj8 Jau ⟨_,_,⟨rfl,rfl⟩,_,rfl,y2,a2,_,b2,Zj8 Jau (Zj8 (by decide) ?_)⟩⟩;clear a1 b1 a2 b2 ir';subst hX;walk_at "wp";refine Zmi x y p m ps ns1 ns2 Ms1 Ms2 ⟨rfl,S1.same s5,S2.same s5,hp,V1,V2,s05 _ _ hPL,λrk' H6 s6 ir'=>?_⟩;obtain rfl:=ir.uniq hp ir';have s06:=s05.trans s6;have hl:=pr.1;have hm1:=V1.hm;have hm2:=V2.hm;refine ⟨_,rfl,_,SqT.of (s06 _ _ P1.1),_,rfl,_,SqT.of (s06 _ _ P2.1),_,rfl,e,z1,z2,m,xs,ps,ns1,ns2,rfl,s06 _ _ he,by omega,pr.same s06,ip,s06 _ _ P1.2.1.1,s06 _ _ P2.2.1.1,by omega,by omega,m8,big6 V1,big6 V2,rfl,?_⟩;rw [Jaj (Jdt V.int (show ((stN ns1 ns2 ns1.length:Nat) - (rk:Nat):Int) - (((dM p ns1 ns2 ps Ms1 Ms2 ps.length).length:Nat) - (rk:Nat)) = Zpk ps ns1 ns2 by omega))];exact q H6 s06
def Zt3 (K:PySem.W.Frag) (PL:Addr):L2.Sp:=λvs H Q _=>∃ (a:Addr) (ns:List Int),vs = [.ref a]/\SqL K H a (ns.map V.int)/\ns.length<=63/\H PL = some Zwg/\∀ H',H' PL = some Zwg->Q (.bl true) H'
theorem cut3 {A B B2 X:TS} {D:Ends} {σ:L2.St} {H:Hp} (h:∀ X',X' = X->Zmo A (Zmo B (Zmo B2 X')) D σ H):Zmo A (Zmo B (Zmo B2 X)) D σ H:=h X rfl
theorem ok_law {f:Addr} {fd:FuncData} (F:Fun K "law" "law" Zkm f fd) (T:Txt K mg C G S) (C_law_cell:Cal P w K mg base "_law_cell" 1 (Zqs K)) (C_law_bag:Cal P w K mg base "_law_bag" 1 spBag) (C_law_draw:Cal P w K mg base "_law_draw" 1 Zdg) (C_law_two:Cal P w K mg base "_law_two" 6 spTwo) (C_law_held:Cal P w K mg base "_law_held" 11 (Zqq S C G PL)):FnOk P w K mg base CX0 12 f fd ["_law_script"] (Zt3 K PL):=by
 have nd:=Zv6.nd;refine F.ok Zv6 (λvs H Q E h=>?_) (λcdv A outer s H vs Q E hr h=>?_)
 .refine Zbo h λa ns e910 _=>?_;clear h;obtain rfl:=e910;rfl
 .refine Zic h λa ns e911 hS hl hPL q=>?_;clear h;obtain rfl:=e911;refine ⟨_,((Zbh Jan rfl (Zdt rfl T.n_range ((Zay<|>(Za3 (Zji rfl) rfl T.n_min boot_min ((Za3 Zaq rfl T.n_len Ja8 ((pv 0)<&>Zaa))<&>(Zab<&>Zaa)))<&&>Zab)<&>Zaa)) (@Zae _ _ 1 _ nd rfl (Or.inl rfl) (Or.inl rfl)) ((Zak (i:=2) nd rfl (Or.inl rfl) (Za6 C_law_bag hr.m rfl ((Za6 C_law_cell hr.m rfl ((pvr 0)<&>((pvr 1)<&>Zaa)))<&>Zaa)))<*>((Zak (i:=3) nd rfl (Or.inl rfl) (Zaj<|>(@Zbm _ _ _ _ (Zab<&>(Zab<&>(Zab<&>(Zab<&>(Zab<&>Zaa))))))<||>(Za6 C_law_draw hr.m rfl ((pvr 2)<&>(Zab<&>Zaa)))))<*>((Zb3 (Za6 C_law_two hr.m rfl ((pvr 2)<&>((pvr 3)<&>((Zcy (Zif Zcc) (pvr 1) Zab (Zam _))<&>Zaa)))) (@Zbv _ _ _ _ _ 3 rfl (@Zai _ _ _ _ _ (@Zae _ _ 4 _ nd rfl (Or.inl rfl) (Or.inl rfl)) (@Zai _ _ _ _ _ (@Zae _ _ 5 _ nd rfl (Or.inl rfl) (Or.inl rfl)) (@Zai _ _ _ _ _ (@Zae _ _ 6 _ nd rfl (Or.inl rfl) (Or.inl rfl)) (@Za0 _) (by rfl)) (by rfl)) (by rfl)) (by rfl) (by rfl)))<*>((@Za1 _ _ _ _ _ _ _ _ (Zbz (Zb1 (Za6 C_law_held hr.m rfl ((pvr 3)<&>((pvr 4)<&>((pvr 5)<&>(((ixJ Zaj)<|>(pvr 6)<||>Zab)<&>(((ixJ Zaj)<|>(pvr 6)<||>Zab)<&>Zaa)))))))) (~~~Zfg) Zan)<*>(@Zal _ _ _ (@Za1 _ _ _ _ _ _ _ _ (Zbz (Zb1 (Za6 C_law_held hr.m rfl ((pvr 3)<&>((pvr 4)<&>((pvr 5)<&>(((ixJ Zaj)<|>(pvr 6)<||>Zab)<&>(((ixJ Zaj)<|>(pvr 6)<||>Zab)<&>Zaa)))))))) (~~~Zfg) Zan)))))))<*>(~~~Zfg)),?_⟩;refine ⟨_,rfl,a,_,rfl,.inl hS,_,_,rfl,_,_,rfl,rfl,_,rfl,?_,?_,Za2 (λi σ H2=>∃ v1 v2 v3 v4 v5 v6:Option V,σ = [some (.ref a),v1,v2,v3,v4,v5,v6]/\Same H H2) ⟨none,none,none,none,none,none,rfl,Same.refl H⟩ ?_ ?_⟩
  .split <;> omega
  .split <;> omega
  .intro i σ H2 hi e91;refine Ztj e91 λv1 v2 v3 v4 v5 v6 e912 s2=>?_;clear e91;obtain rfl:=e912;refine Zpt λD2 hD2=>?_;simp only [Zbi,List.set_cons_zero,List.set_cons_succ];refine cut3 λX hX=>?_;walk_at "wp";refine Zby a ns (0 + i) ⟨rfl,s2.seq hS,hl,by omega,λc=>⟨c,rfl,λl xa xb hl0 xb0 xb1=>?_⟩⟩;have b3:Bag (upd H2 l (Znl xa xb)) l:=Bag.set xb0 xb1;have s3:Same H (upd H2 l (Znl xa xb)):=s2.trans (Same.new hl0);have fl:H l = none:=s2.free hl0;generalize upd H2 l (Znl xa xb) = H3 at *;refine ⟨by decide,λp1 hp1=>?_⟩;have np1:p1 ≠ l:=b3.ne hp1;have s3':=s3.trans (Same.new (o:=.lst [V.int 0,V.int 2,V.int 3,V.int 5,V.int 97]) hp1);refine (b3.new np1).draw (n:=5) (by decide) (by decide) λr5 H4 r50 r51 e4 b4=>?_;refine Zad (Zrc (L:=[0,2,3,5,97]) (by decide) r50 r51) λp hat hp=>?_;have s4:Same H H4:=Same.thru s3' fl e4;refine Zau _ r5 ⟨rfl,SqL.of (e4 _ _ np1 Zac),_,hat,?_⟩;clear s3' e4 hp1 hat;refine Zby l p _ ⟨rfl,b4,hp,λt e pl t1 t2 z1 l1 z2 l2 m xs ps ns1 ns2 cs1 cs2 ts1 ts2 H5 e5 ht hpl he pr ip p9 m0 m8 pc1 pc2=>⟨t,rfl,_,SqT.of ht,rfl,_,_,rfl,_,_,rfl,_,_,rfl,rfl,?_⟩⟩;have s5:Same H H5:=Same.thru s4 fl e5;clear e5 s4 b4 b3 s3 hl0;subst hX;refine Zd2 λX hX=>?_;walk_at "wp";refine ⟨_,SqL.of hpl,.ref t1,rfl,_,SqL.of hpl,.ref t2,rfl,e,t1,t2,z1,l1,z2,l2,p,m,xs,ps,ns1,ns2,cs1,cs2,ts1,ts2,rfl,hp,m0,m8,he,pr,ip,p9,pc1,pc2,s5 _ _ hPL,λH6 s6=>⟨true,rfl,Zj8 (by decide) ?_⟩⟩;have s56:=s5.trans s6;subst hX;walk_at "wp";refine ⟨_,SqL.of (s6 _ _ hpl),.ref t2,rfl,_,SqL.of (s6 _ _ hpl),.ref t1,rfl,e,t2,t1,z2,l2,z1,l1,p,m,xs,ps,ns2,ns1,cs2,cs1,ts2,ts1,rfl,hp,m0,m8,s6 _ _ he,pr.same s6,ip,p9,pc2.same s6,pc1.same s6,s56 _ _ hPL,λH7 s7=>⟨true,rfl,Zj8 (by decide) ?_⟩⟩;subst hD2;exact xI6_1 _ _ _ _ _ _ ⟨rfl,s56.trans s7⟩
  .intro σ H2 e92;refine Ztj e92 λv1 v2 v3 v4 v5 v6 e913 s2=>?_;clear e92;obtain rfl:=e913;exact q H2 (s2 _ _ hPL)
end
end Pf
set_option maxHeartbeats 4000000
namespace Pf
open PySem L2 PyProof.Rows
open PySem.W (nsIn codeIn keepIn fnOf findIn isFn mg_of mg_none_of plainGet hasDictIn plainOver makesIn)
theorem ex1 {us:List Value} (hl:us.length = 1):∃ a0,us = [a0]:=match us,hl with | [a0],_=>⟨a0,rfl⟩
theorem ex2 {us:List Value} (hl:us.length = 2):∃ a0 a1,us = [a0,a1]:=match us,hl with | [a0,a1],_=>⟨a0,a1,rfl⟩
theorem ex3 {us:List Value} (hl:us.length = 3):∃ a0 a1 a2,us = [a0,a1,a2]:=match us,hl with | [a0,a1,a2],_=>⟨a0,a1,a2,rfl⟩
theorem ex4 {us:List Value} (hl:us.length = 4):∃ a0 a1 a2 a3,us = [a0,a1,a2,a3]:=match us,hl with | [a0,a1,a2,a3],_=>⟨a0,a1,a2,a3,rfl⟩
theorem ex5 {us:List Value} (hl:us.length = 5):∃ a0 a1 a2 a3 a4,us = [a0,a1,a2,a3,a4]:=match us,hl with | [a0,a1,a2,a3,a4],_=>⟨a0,a1,a2,a3,a4,rfl⟩
def Gf (K:PySem.W.Frag) (x:Str) (st:Stmt) (f:Addr):Prop:=nsIn K mainGlobals x = some (some (.ref f))/\∃ fd,Fun K x x st f fd
theorem all_mk {l:PySem.W.OpenLaw} {w:World} {K:PySem.W.Frag} {h:Heap} {mg:Str->Option Value} {fa C Cg Cs:Addr} {t1 t2 t3 t4 t5:Tok} (hpt:l.prog.given.tree = none) {cL PL:Addr} (X:K.In h) (G:h.Ns mainGlobals mg) (hfa:mg "law" = some (.ref fa))
  {f1 f2 f3 f4 f5 f6 f7 f8 f9 f10 f11 f12 f13 f14 f15 f16 f17 f18 f19 f20 f21 f22 f23 f24 f25 f26 f27 f28 f29 f30 f31 f32 f33 f34 f35 f36 f37 f38 f39 f40 f41 f42 f43 f44 f45 f46 f47 f48 f49 f50 f51 f52 f53 f54 f55 f56 f57 f58 f59 f60 f61 f62 f63 f64:Addr} {od22 an22 od58 an58 od61 an61:Option Addr} {sl22 sl58 sl61:Array (Option Value)} {oc22 kV22 dc22 pm22 ct22 oc58 kV58 dc58 pm58 ct58 cd58 oc61 kV61 dc61 pm61 ct61 cd61:Value}
  {D61:Addr} {doc61:Value} {dod61:Option Addr} {dosl61:Array (Option Value)} {dn61:Nat} {dt61:Tok}
  (u1:Gf K "is_whole" Zfm f1)
  (u2:Gf K "makes_drawing" Zc7 f2)
  (u3:Gf K "is_arrow" Zhd f3)
  (u4:Gf K "_law_cell" Zg9 f4)
  (u5:Gf K "_law_bag" Zi4 f5)
  (u6:Gf K "_law_draw" Zg8 f6)
  (u7:Gf K "_law_order" Zf8 f7)
  (u8:Gf K "_law_rest_edges" Zcw f8)
  (u9:Gf K "_law_bad_edges" Zc9 f9)
  (u10:Gf K "_law_edges" Zf9 f10)
  (u11:Gf K "_law_drawn" Zga f11)
  (u12:Gf K "common_divisor" Zce f12)
  (u13:Gf K "not_both_long" Zc6 f13)
  (u14:Gf K "shortened" Zf3 f14)
  (u15:Gf K "leading_steps" Zc8 f15)
  (u16:Gf K "common_multiple" Zcp f16)
  (u17:Gf K "is_table" Zhb f17)
  (u18:Gf K "is_row" Zkn f18)
  (u19:Gf K "whole_row" Zf0 f19)
  (u20:Gf K "tidied" Zkl f20)
  (u21:Gf K "cleared" Zi6 f21)
  (a22:nsIn K mainGlobals "leading_row" = some (some (.ref f22)))
  (l22:K.lookup f22 = some ⟨oc22,od22,.func (fnOf "leading_row" "leading_row" (Zcq Zbs) (Zb7 Zbs) (Zaf Zbs) .none kV22 dc22 pm22 an22 (.ref cL) ct22),sl22⟩)
  (c22:codeIn K (.ref cL) "leading_row" = true)
  (k22:keepIn K (.ref f22) = true)
  (u23:Gf K "swept" Zm3 f23)
  (u24:Gf K "rank" Zq1 f24)
  (u25:Gf K "are_sizes" Zgc f25)
  (u26:Gf K "is_table_of" Zd8 f26)
  (u27:Gf K "are_tables" Zfd f27)
  (u28:Gf K "stands_on" Zf2 f28)
  (u29:Gf K "place_starts" Zdp f29)
  (u30:Gf K "difference_row" Zcx f30)
  (u31:Gf K "differences" Zea f31)
  (u32:Gf K "count_maps" Zfc f32)
  (u33:Gf K "is_prime" Zhc f33)
  (u34:Gf K "tells_ground" Zdo f34)
  (u35:Gf K "fraction" Zhe f35)
  (u36:Gf K "inverse" Zi5 f36)
  (u37:Gf K "rest_of" Zi2 f37)
  (u38:Gf K "is_fraction" Zd9 f38)
  (u39:Gf K "_law_low" Zfa f39)
  (u40:Gf K "_law_number" Ze9 f40)
  (u41:Gf K "_law_plus" Zg4 f41)
  (u42:Gf K "_law_times" Zf5 f42)
  (u43:Gf K "_law_whole" Zf4 f43)
  (u44:Gf K "_law_sizes" Zf7 f44)
  (u45:Gf K "_law_table" Zf6 f45)
  (u46:Gf K "_law_tables" Ze8 f46)
  (u47:Gf K "_law_lent" Zg5 f47)
  (u48:Gf K "_law_back" Zha f48)
  (u49:Gf K "_law_row_sum" Zd7 f49)
  (u50:Gf K "_law_rank" Zg3 f50)
  (u51:Gf K "_law_two" Zi3 f51)
  (u52:Gf K "_law_standing" Zdq f52)
  (u53:Gf K "_law_asked" Zgb f53)
  (u54:Gf K "two_sided" Zf1 f54)
  (u55:Gf K "count_ties" Zfb f55)
  (u56:Gf K "_law_form" Zg7 f56)
  (u57:Gf K "_law_held" Zg6 f57)
  (a58:nsIn K mainGlobals "law" = some (some (.ref f58)))
  (l58:K.lookup f58 = some ⟨oc58,od58,.func (fnOf "law" "law" (Zcq Zkm) (Zb7 Zkm) (Zaf Zkm) .none kV58 dc58 pm58 an58 cd58 ct58),sl58⟩)
  (c58:codeIn K cd58 "law" = true)
  (k58:keepIn K (.ref f58) = true)
  (aC:nsIn K mainGlobals "Drawing" = some (some (.ref C)))
  (a59:findIn K (.ref C) "__init__" = some (some (.ref f59)))
  (i59:isFn K (.ref f59) = true)
  (u59:∃ fd,Fun K "__init__" "Drawing.__init__" Zds f59 fd)
  (pg:plainGet K C Str.empty = true)
  (hd:hasDictIn K C = true)
  (po:plainOver K C = true)
  (sa:findIn K (.ref C) "__setattr__" = some (some (.builtin "object.__setattr__")))
  (mk:makesIn K C = true)
  (kc:keepIn K (.ref C) = true)
  (nM:findIn K (.ref C) "many" = some none)
  (nA:findIn K (.ref C) "arrows" = some none)
  (aCg:nsIn K mainGlobals "Ground" = some (some (.ref Cg)))
  (a60:findIn K (.ref Cg) "__init__" = some (some (.ref f60)))
  (i60:isFn K (.ref f60) = true)
  (u60:∃ fd,Fun K "__init__" "Ground.__init__" Zeb f60 fd)
  (a61:findIn K (.ref Cg) "number" = some (some (.ref f61)))
  (i61:isFn K (.ref f61) = true)
  (l61:K.lookup f61 = some ⟨oc61,od61,.func (fnOf "number" "Ground.number" (Zcq Zaw) (Zb7 Zaw) (Zaf Zaw) (.ref D61) kV61 dc61 pm61 an61 cd61 ct61),sl61⟩)
  (dl61:K.lookup D61 = some ⟨doc61,dod61,.seq #[.int 1 dt61] dn61,dosl61⟩)
  (c61:codeIn K cd61 "Ground.number" = true)
  (k61:keepIn K (.ref f61) = true)
  (a62:findIn K (.ref Cg) "minus" = some (some (.ref f62)))
  (i62:isFn K (.ref f62) = true)
  (u62:∃ fd,Fun K "minus" "Ground.minus" Zdr f62 fd)
  (a63:findIn K (.ref Cg) "is_number" = some (some (.ref f63)))
  (i63:isFn K (.ref f63) = true)
  (u63:∃ fd,Fun K "is_number" "Ground.is_number" Zck f63 fd)
  (pg_Cg:plainGet K Cg Str.empty = true)
  (hd_Cg:hasDictIn K Cg = true)
  (po_Cg:plainOver K Cg = true)
  (sa_Cg:findIn K (.ref Cg) "__setattr__" = some (some (.builtin "object.__setattr__")))
  (mk_Cg:makesIn K Cg = true)
  (kc_Cg:keepIn K (.ref Cg) = true)
  (nP:findIn K (.ref Cg) "prime" = some none)
  (aCs:nsIn K mainGlobals "Standing" = some (some (.ref Cs)))
  (a64:findIn K (.ref Cs) "__init__" = some (some (.ref f64)))
  (i64:isFn K (.ref f64) = true)
  (u64:∃ fd,Fun K "__init__" "Standing.__init__" Zda f64 fd)
  (pg_Cs:plainGet K Cs Str.empty = true)
  (hd_Cs:hasDictIn K Cs = true)
  (po_Cs:plainOver K Cs = true)
  (sa_Cs:findIn K (.ref Cs) "__setattr__" = some (some (.builtin "object.__setattr__")))
  (mk_Cs:makesIn K Cs = true)
  (kc_Cs:keepIn K (.ref Cs) = true)
  (nSg:findIn K (.ref Cs) "ground" = some none)
  (nSd:findIn K (.ref Cs) "drawing" = some none)
  (nSs:findIn K (.ref Cs) "sizes" = some none)
  (nSt:findIn K (.ref Cs) "tables" = some none)
  (g1:nsIn K mainGlobals "MOST_POINTS" = some (some (.int 8 t1)))
  (g2:nsIn K mainGlobals "MOST_ARROWS" = some (some (.int 9 t2)))
  (g3:nsIn K mainGlobals "LARGEST_PRIME" = some (some (.int 97 t3)))
  (g4:nsIn K mainGlobals "LONG" = some (some (.int 4000 t4)))
  (g5:nsIn K mainGlobals "LEADING" = some (some (.int 126 t5)))
  (z0:nsIn K mainGlobals "len" = some none)
  (z1:nsIn K mainGlobals "range" = some none)
  (z2:nsIn K mainGlobals "list" = some none)
  (z3:nsIn K mainGlobals "min" = some none)
  (z4:nsIn K mainGlobals "int" = some none)
  (z5:nsIn K mainGlobals "bool" = some none)
  (z6:nsIn K mainGlobals "tuple" = some none)
  (z7:nsIn K mainGlobals "all" = some none)
  (z8:nsIn K mainGlobals "isinstance" = some none)
  (z9:nsIn K mainGlobals "abs" = some none)
  (z10:nsIn K mainGlobals "zip" = some none)
  (z11:nsIn K mainGlobals "enumerate" = some none)
  (z12:nsIn K mainGlobals "reversed" = some none)
  (z13:nsIn K mainGlobals "sum" = some none)
  (hcL:hdIn K cL PL = true):
  ∃ fd:FuncData,(∀ (s:Shared) (v:Value),BindsTo s fd ⟨[v],[]⟩ [("_law_script",v)])/\∀ base:Heap,K.In base->base.Ns mainGlobals mg->FnOk l.prog w K mg base CX0 12 fa fd ["_law_script"] (Zt3 K PL):=by
 have e:=hfa.symm.trans (mg_of X G a58);cases e;have T:Txt K mg C Cg Cs:=⟨⟨pg,hd,po,sa⟩,nM,nA,⟨pg_Cg,hd_Cg,po_Cg,sa_Cg⟩,nP,⟨pg_Cs,hd_Cs,po_Cs,sa_Cs⟩,nSg,nSd,nSs,nSt,mg_none_of X G z0,mg_none_of X G z1,mg_none_of X G z2,mg_none_of X G z3,mg_none_of X G z4,mg_none_of X G z5,mg_none_of X G z6,mg_none_of X G z7,mg_none_of X G z8,mg_none_of X G z9,mg_none_of X G z10,mg_none_of X G z11,mg_none_of X G z12,mg_none_of X G z13,⟨t1,mg_of X G g1⟩,⟨t2,mg_of X G g2⟩,⟨t3,mg_of X G g3⟩,⟨t4,mg_of X G g4⟩,⟨t5,mg_of X G g5⟩⟩
 obtain ⟨a1,_,F1⟩:=u1;have b1:=F1.binds (ps:=["thing"]) λ_ _ _ _ _ _ us hl=>by obtain ⟨_,rfl⟩:=ex1 hl; rfl
 obtain ⟨a2,_,F2⟩:=u2;have b2:=F2.binds (ps:=["many","arrows"]) λ_ _ _ _ _ _ us hl=>by obtain ⟨_,_,rfl⟩:=ex2 hl; rfl
 obtain ⟨a3,_,F3⟩:=u3;have b3:=F3.binds (ps:=["many","thing"]) λ_ _ _ _ _ _ us hl=>by obtain ⟨_,_,rfl⟩:=ex2 hl; rfl
 obtain ⟨a4,_,F4⟩:=u4;have b4:=F4.binds (ps:=["_law_script","_law_k"]) λ_ _ _ _ _ _ us hl=>by obtain ⟨_,_,rfl⟩:=ex2 hl; rfl
 obtain ⟨a5,_,F5⟩:=u5;have b5:=F5.binds (ps:=["_law_cell_here"]) λ_ _ _ _ _ _ us hl=>by obtain ⟨_,rfl⟩:=ex1 hl; rfl
 obtain ⟨a6,_,F6⟩:=u6;have b6:=F6.binds (ps:=["_law_bag_here","_law_many"]) λ_ _ _ _ _ _ us hl=>by obtain ⟨_,_,rfl⟩:=ex2 hl; rfl
 obtain ⟨a7,_,F7⟩:=u7;have b7:=F7.binds (ps:=["_law_bag_here","_law_many"]) λ_ _ _ _ _ _ us hl=>by obtain ⟨_,_,rfl⟩:=ex2 hl; rfl
 obtain ⟨a8,_,F8⟩:=u8;have b8:=F8.binds (ps:=["_law_bag_here","_law_way"]) λ_ _ _ _ _ _ us hl=>by obtain ⟨_,_,rfl⟩:=ex2 hl; rfl
 obtain ⟨a9,_,F9⟩:=u9;have b9:=F9.binds (ps:=["_law_bag_here"]) λ_ _ _ _ _ _ us hl=>by obtain ⟨_,rfl⟩:=ex1 hl; rfl
 obtain ⟨a10,_,F10⟩:=u10;have b10:=F10.binds (ps:=["_law_bag_here","_law_way"]) λ_ _ _ _ _ _ us hl=>by obtain ⟨_,_,rfl⟩:=ex2 hl; rfl
 obtain ⟨a11,_,F11⟩:=u11;have b11:=F11.binds (ps:=["_law_bag_here","_law_way"]) λ_ _ _ _ _ _ us hl=>by obtain ⟨_,_,rfl⟩:=ex2 hl; rfl
 obtain ⟨a12,_,F12⟩:=u12;have b12:=F12.binds (ps:=["one","other"]) λ_ _ _ _ _ _ us hl=>by obtain ⟨_,_,rfl⟩:=ex2 hl; rfl
 obtain ⟨a13,_,F13⟩:=u13;have b13:=F13.binds (ps:=["one","other"]) λ_ _ _ _ _ _ us hl=>by obtain ⟨_,_,rfl⟩:=ex2 hl; rfl
 obtain ⟨a14,_,F14⟩:=u14;have b14:=F14.binds (ps:=["one","other"]) λ_ _ _ _ _ _ us hl=>by obtain ⟨_,_,rfl⟩:=ex2 hl; rfl
 obtain ⟨a15,_,F15⟩:=u15;have b15:=F15.binds (ps:=["one","other"]) λ_ _ _ _ _ _ us hl=>by obtain ⟨_,_,rfl⟩:=ex2 hl; rfl
 obtain ⟨a16,_,F16⟩:=u16;have b16:=F16.binds (ps:=["one","other"]) λ_ _ _ _ _ _ us hl=>by obtain ⟨_,_,rfl⟩:=ex2 hl; rfl
 obtain ⟨a17,_,F17⟩:=u17;have b17:=F17.binds (ps:=["ground","thing"]) λ_ _ _ _ _ _ us hl=>by obtain ⟨_,_,rfl⟩:=ex2 hl; rfl
 obtain ⟨a18,_,F18⟩:=u18;have b18:=F18.binds (ps:=["ground","wide","thing"]) λ_ _ _ _ _ _ us hl=>by obtain ⟨_,_,_,rfl⟩:=ex3 hl; rfl
 obtain ⟨a19,_,F19⟩:=u19;have b19:=F19.binds (ps:=["ground","row"]) λ_ _ _ _ _ _ us hl=>by obtain ⟨_,_,rfl⟩:=ex2 hl; rfl
 obtain ⟨a20,_,F20⟩:=u20;have b20:=F20.binds (ps:=["ground","row"]) λ_ _ _ _ _ _ us hl=>by obtain ⟨_,_,rfl⟩:=ex2 hl; rfl
 obtain ⟨a21,_,F21⟩:=u21;have b21:=F21.binds (ps:=["ground","row","lead","place"]) λ_ _ _ _ _ _ us hl=>by obtain ⟨_,_,_,_,rfl⟩:=ex4 hl; rfl
 have F22:FunC K "leading_row" "leading_row" Zbs f22 _ cL:=⟨⟨oc22,od22,kV22,dc22,pm22,an22,ct22,sl22,rfl,l22,c22⟩⟩
 have b22:=F22.binds (ps:=["rows","place"]) λ_ _ _ _ _ _ us hl=>by obtain ⟨_,_,rfl⟩:=ex2 hl; rfl
 obtain ⟨a23,_,F23⟩:=u23;have b23:=F23.binds (ps:=["ground","rows","wide"]) λ_ _ _ _ _ _ us hl=>by obtain ⟨_,_,_,rfl⟩:=ex3 hl; rfl
 obtain ⟨a24,_,F24⟩:=u24;have b24:=F24.binds (ps:=["ground","table"]) λ_ _ _ _ _ _ us hl=>by obtain ⟨_,_,rfl⟩:=ex2 hl; rfl
 obtain ⟨a25,_,F25⟩:=u25;have b25:=F25.binds (ps:=["drawing","thing"]) λ_ _ _ _ _ _ us hl=>by obtain ⟨_,_,rfl⟩:=ex2 hl; rfl
 obtain ⟨a26,_,F26⟩:=u26;have b26:=F26.binds (ps:=["ground","high","wide","thing"]) λ_ _ _ _ _ _ us hl=>by obtain ⟨_,_,_,_,rfl⟩:=ex4 hl; rfl
 obtain ⟨a27,_,F27⟩:=u27;have b27:=F27.binds (ps:=["ground","drawing","sizes","thing"]) λ_ _ _ _ _ _ us hl=>by obtain ⟨_,_,_,_,rfl⟩:=ex4 hl; rfl
 obtain ⟨a28,_,F28⟩:=u28;have b28:=F28.binds (ps:=["standing","ground","drawing"]) λ_ _ _ _ _ _ us hl=>by obtain ⟨_,_,_,rfl⟩:=ex3 hl; rfl
 obtain ⟨a29,_,F29⟩:=u29;have b29:=F29.binds (ps:=["one","other"]) λ_ _ _ _ _ _ us hl=>by obtain ⟨_,_,rfl⟩:=ex2 hl; rfl
 obtain ⟨a30,_,F30⟩:=u30;have b30:=F30.binds (ps:=["one","other","at","row_place","column_place"]) λ_ _ _ _ _ _ us hl=>by obtain ⟨_,_,_,_,_,rfl⟩:=ex5 hl; rfl
 obtain ⟨a31,_,F31⟩:=u31;have b31:=F31.binds (ps:=["one","other"]) λ_ _ _ _ _ _ us hl=>by obtain ⟨_,_,rfl⟩:=ex2 hl; rfl
 obtain ⟨a32,_,F32⟩:=u32;have b32:=F32.binds (ps:=["one","other"]) λ_ _ _ _ _ _ us hl=>by obtain ⟨_,_,rfl⟩:=ex2 hl; rfl
 obtain ⟨a33,_,F33⟩:=u33;have b33:=F33.binds (ps:=["number"]) λ_ _ _ _ _ _ us hl=>by obtain ⟨_,rfl⟩:=ex1 hl; rfl
 obtain ⟨a34,_,F34⟩:=u34;have b34:=F34.binds (ps:=["thing"]) λ_ _ _ _ _ _ us hl=>by obtain ⟨_,rfl⟩:=ex1 hl; rfl
 obtain ⟨a35,_,F35⟩:=u35;have b35:=F35.binds (ps:=["top","bottom"]) λ_ _ _ _ _ _ us hl=>by obtain ⟨_,_,rfl⟩:=ex2 hl; rfl
 obtain ⟨a36,_,F36⟩:=u36;have b36:=F36.binds (ps:=["rest","prime"]) λ_ _ _ _ _ _ us hl=>by obtain ⟨_,_,rfl⟩:=ex2 hl; rfl
 obtain ⟨a37,_,F37⟩:=u37;have b37:=F37.binds (ps:=["top","bottom","prime"]) λ_ _ _ _ _ _ us hl=>by obtain ⟨_,_,_,rfl⟩:=ex3 hl; rfl
 obtain ⟨a38,_,F38⟩:=u38;have b38:=F38.binds (ps:=["thing"]) λ_ _ _ _ _ _ us hl=>by obtain ⟨_,rfl⟩:=ex1 hl; rfl
 obtain ⟨a39,_,F39⟩:=u39;have b39:=F39.binds (ps:=["_law_top","_law_bottom"]) λ_ _ _ _ _ _ us hl=>by obtain ⟨_,_,rfl⟩:=ex2 hl; rfl
 obtain ⟨a40,_,F40⟩:=u40;have b40:=F40.binds (ps:=["_law_bag_here","_law_p"]) λ_ _ _ _ _ _ us hl=>by obtain ⟨_,_,rfl⟩:=ex2 hl; rfl
 obtain ⟨a41,_,F41⟩:=u41;have b41:=F41.binds (ps:=["_law_p","_law_a","_law_b"]) λ_ _ _ _ _ _ us hl=>by obtain ⟨_,_,_,rfl⟩:=ex3 hl; rfl
 obtain ⟨a42,_,F42⟩:=u42;have b42:=F42.binds (ps:=["_law_p","_law_a","_law_b"]) λ_ _ _ _ _ _ us hl=>by obtain ⟨_,_,_,rfl⟩:=ex3 hl; rfl
 obtain ⟨a43,_,F43⟩:=u43;have b43:=F43.binds (ps:=["_law_p","_law_k"]) λ_ _ _ _ _ _ us hl=>by obtain ⟨_,_,rfl⟩:=ex2 hl; rfl
 obtain ⟨a44,_,F44⟩:=u44;have b44:=F44.binds (ps:=["_law_bag_here","_law_many","_law_most"]) λ_ _ _ _ _ _ us hl=>by obtain ⟨_,_,_,rfl⟩:=ex3 hl; rfl
 obtain ⟨a45,_,F45⟩:=u45;have b45:=F45.binds (ps:=["_law_bag_here","_law_p","_law_high","_law_wide"]) λ_ _ _ _ _ _ us hl=>by obtain ⟨_,_,_,_,rfl⟩:=ex4 hl; rfl
 obtain ⟨a46,_,F46⟩:=u46;have b46:=F46.binds (ps:=["_law_bag_here","_law_p","_law_arrows","_law_sizes_here"]) λ_ _ _ _ _ _ us hl=>by obtain ⟨_,_,_,_,rfl⟩:=ex4 hl; rfl
 obtain ⟨a47,_,F47⟩:=u47;have b47:=F47.binds (ps:=["_law_tables_here"]) λ_ _ _ _ _ _ us hl=>by obtain ⟨_,rfl⟩:=ex1 hl; rfl
 obtain ⟨a48,_,F48⟩:=u48;have b48:=F48.binds (ps:=["_law_p","_law_a"]) λ_ _ _ _ _ _ us hl=>by obtain ⟨_,_,rfl⟩:=ex2 hl; rfl
 obtain ⟨a49,_,F49⟩:=u49;have b49:=F49.binds (ps:=["_law_p","_law_one","_law_often","_law_other"]) λ_ _ _ _ _ _ us hl=>by obtain ⟨_,_,_,_,rfl⟩:=ex4 hl; rfl
 obtain ⟨a50,_,F50⟩:=u50;have b50:=F50.binds (ps:=["_law_p","_law_rows","_law_wide"]) λ_ _ _ _ _ _ us hl=>by obtain ⟨_,_,_,rfl⟩:=ex3 hl; rfl
 obtain ⟨a51,_,F51⟩:=u51;have b51:=F51.binds (ps:=["_law_bag_here","_law_p","_law_more"]) λ_ _ _ _ _ _ us hl=>by obtain ⟨_,_,_,rfl⟩:=ex3 hl; rfl
 obtain ⟨a52,_,F52⟩:=u52;have b52:=F52.binds (ps:=["_law_p","_law_many","_law_arrows","_law_pair"]) λ_ _ _ _ _ _ us hl=>by obtain ⟨_,_,_,_,rfl⟩:=ex4 hl; rfl
 obtain ⟨a53,_,F53⟩:=u53;have b53:=F53.binds (ps:=["_law_p","_law_arrows","_law_one","_law_other"]) λ_ _ _ _ _ _ us hl=>by obtain ⟨_,_,_,_,rfl⟩:=ex4 hl; rfl
 obtain ⟨a54,_,F54⟩:=u54;have b54:=F54.binds (ps:=["drawing","one","other"]) λ_ _ _ _ _ _ us hl=>by obtain ⟨_,_,_,rfl⟩:=ex3 hl; rfl
 obtain ⟨a55,_,F55⟩:=u55;have b55:=F55.binds (ps:=["one","other"]) λ_ _ _ _ _ _ us hl=>by obtain ⟨_,_,rfl⟩:=ex2 hl; rfl
 obtain ⟨a56,_,F56⟩:=u56;have b56:=F56.binds (ps:=["_law_arrows","_law_one","_law_other"]) λ_ _ _ _ _ _ us hl=>by obtain ⟨_,_,_,rfl⟩:=ex3 hl; rfl
 obtain ⟨a57,_,F57⟩:=u57;have b57:=F57.binds (ps:=["_law_p","_law_many","_law_arrows","_law_one","_law_other"]) λ_ _ _ _ _ _ us hl=>by obtain ⟨_,_,_,_,_,rfl⟩:=ex5 hl; rfl
 have F58:=fun_mk (st:=Zkm) l58 c58 k58;obtain ⟨_,F59⟩:=u59;have b59:=F59.binds (ps:=["self","many","arrows"]) λ_ _ _ _ _ _ us hl=>by obtain ⟨_,_,_,rfl⟩:=ex3 hl; rfl
 obtain ⟨_,F60⟩:=u60;have b60:=F60.binds (ps:=["self","prime"]) λ_ _ _ _ _ _ us hl=>by obtain ⟨_,_,rfl⟩:=ex2 hl; rfl
 have F61:FunD K "number" "Ground.number" Zaw f61 _ D61:=⟨⟨oc61,od61,kV61,dc61,pm61,an61,cd61,ct61,sl61,rfl,l61,c61⟩⟩
 have b61:=Zgy (fd:=fnOf "number" "Ground.number" (Zcq Zaw) (Zb7 Zaw) (Zaf Zaw) (.ref D61) kV61 dc61 pm61 an61 cd61 ct61) (ps:=["self","top","bottom"]) (ds:=[.int 1 dt61]) dl61 rfl λus hl=>match us,(show us.length = 2 by simpa using hl) with | [_,_],_=>⟨_,rfl,rfl⟩
 have bF61:=Zgy (fd:=fnOf "number" "Ground.number" (Zcq Zaw) (Zb7 Zaw) (Zaf Zaw) (.ref D61) kV61 dc61 pm61 an61 cd61 ct61) (ps:=["self","top","bottom"]) (ds:=[]) dl61 rfl λus hl=>match us,(show us.length = 3 by simpa using hl) with | [_,_,_],_=>⟨_,rfl,rfl⟩
 obtain ⟨_,F62⟩:=u62;have b62:=F62.binds (ps:=["self","a","b"]) λ_ _ _ _ _ _ us hl=>by obtain ⟨_,_,_,rfl⟩:=ex3 hl; rfl
 obtain ⟨_,F63⟩:=u63;have b63:=F63.binds (ps:=["self","thing"]) λ_ _ _ _ _ _ us hl=>by obtain ⟨_,_,rfl⟩:=ex2 hl; rfl
 obtain ⟨_,F64⟩:=u64;have b64:=F64.binds (ps:=["self","ground","drawing","sizes","tables"]) λ_ _ _ _ _ _ us hl=>by obtain ⟨_,_,_,_,_,rfl⟩:=ex5 hl; rfl
 refine ⟨fnOf "law" "law" (Zcq Zkm) (Zb7 Zkm) (Zaf Zkm) .none kV58 dc58 pm58 an58 cd58 ct58,λs v=>.of_eq rfl,λbase KB _=>?_⟩;have hcb:=hd_of KB hcL;have C1:Cal l.prog w K mg base "is_whole" 1 Zg1:=⟨_,_,_,Zul F1 T ,mg_of X G a1,F1.kp,b1⟩
 have C1A:Cal l.prog w K mg base "is_whole" 1 Zgk:=⟨_,_,_,Zrl F1 T ,mg_of X G a1,F1.kp,b1⟩
 have C3:Cal l.prog w K mg base "is_arrow" 2 Zm1:=⟨_,_,_,Zu1 F3 T C1,mg_of X G a3,F3.kp,b3⟩
 have C2:Cal l.prog w K mg base "makes_drawing" 3 Zmx:=⟨_,_,_,Zut F2 T C1 C3,mg_of X G a2,F2.kp,b2⟩
 have C59:CalI l.prog w K mg base "Drawing" C 4 (Zqp C):=⟨_,_,_,ok_init F59 T C2,⟨mk,a59,i59,kc⟩,mg_of X G aC,b59⟩
 have C15:Cal l.prog w K mg base "leading_steps" 1 Zqn:=⟨_,_,_,ok_lead F15 T hpt,mg_of X G a15,F15.kp,b15⟩
 have C14:Cal l.prog w K mg base "shortened" 2 Zmt:=⟨_,_,_,Zup F14 T C15,mg_of X G a14,F14.kp,b14⟩
 have C13:Cal l.prog w K mg base "not_both_long" 3 spNbl:=⟨_,_,_,ok_nbl F13 T C14,mg_of X G a13,F13.kp,b13⟩
 have C12:Cal l.prog w K mg base "common_divisor" 4 Zo6:=⟨_,_,_,ok_cdB F12 T C13,mg_of X G a12,F12.kp,b12⟩
 have C12A:Cal l.prog w K mg base "common_divisor" 1 spCd:=⟨_,_,_,ok_cd F12 T ,mg_of X G a12,F12.kp,b12⟩
 have C33:Cal l.prog w K mg base "is_prime" 1 Zmv:=⟨_,_,_,Zur F33 T ,mg_of X G a33,F33.kp,b33⟩
 have C34:Cal l.prog w K mg base "tells_ground" 2 Zmq:=⟨_,_,_,Zum F34 T C1 C33,mg_of X G a34,F34.kp,b34⟩
 have C35:Cal l.prog w K mg base "fraction" 5 Zkj:=⟨_,_,_,Zux F35 T hpt C12,mg_of X G a35,F35.kp,b35⟩
 have C36:Cal l.prog w K mg base "inverse" 1 spInv:=⟨_,_,_,ok_inv F36 T ,mg_of X G a36,F36.kp,b36⟩
 have C37:Cal l.prog w K mg base "rest_of" 2 Zmu:=⟨_,_,_,Zuq F37 T C36,mg_of X G a37,F37.kp,b37⟩
 have C38:Cal l.prog w K mg base "is_fraction" 2 spFr:=⟨_,_,_,ok_fr F38 T C1A C12A,mg_of X G a38,F38.kp,b38⟩
 have C60:CalI l.prog w K mg base "Ground" Cg 3 (Zmy Cg):=⟨_,_,_,Zuw F60 T C34,⟨mk_Cg,a60,i60,kc_Cg⟩,mg_of X G aCg,b60⟩
 have C61:CalD l.prog w K mg base Cg "number" 6 (Zqk Cg) [.int 1]:=⟨_,_,_,_,ok_numQ F61 T C35 C37,⟨a61,i61,k61⟩,b61,.cons ⟨_,rfl⟩ .nil⟩
 have C62:CalM l.prog w K mg base Cg "minus" 6 (spMin Cg):=⟨_,_,_,ok_min F62 T C35,⟨a62,i62,F62.kp⟩,b62⟩
 have C63:CalM l.prog w K mg base Cg "is_number" 3 (spIsN Cg):=⟨_,_,_,ok_isn F63 T C1A C38,⟨a63,i63,F63.kp⟩,b63⟩
 have C18:Cal l.prog w K mg base "is_row" 4 (Zqi Cg):=⟨_,_,_,Zuv F18 T C63,mg_of X G a18,F18.kp,b18⟩
 have C17:Cal l.prog w K mg base "is_table" 5 (Zqh Cg):=⟨_,_,_,Zuu F17 T C1A C18,mg_of X G a17,F17.kp,b17⟩
 have C25:Cal l.prog w K mg base "are_sizes" 2 (spSz C):=⟨_,_,_,ok_sz F25 T C1,mg_of X G a25,F25.kp,b25⟩
 have C26:Cal l.prog w K mg base "is_table_of" 6 (spTo Cg):=⟨_,_,_,ok_to F26 T C17,mg_of X G a26,F26.kp,b26⟩
 have C27:Cal l.prog w K mg base "are_tables" 7 (spTs C Cg):=⟨_,_,_,ok_ts F27 T C26,mg_of X G a27,F27.kp,b27⟩
 have C64:CalI l.prog w K mg base "Standing" Cs 8 (spSI Cs C Cg):=⟨_,_,_,Zuo F64 T C25 C27,⟨mk_Cs,a64,i64,kc_Cs⟩,mg_of X G aCs,b64⟩
 have C16:Cal l.prog w K mg base "common_multiple" 5 spCmB:=⟨_,_,_,ok_cmB F16 T hpt C12,mg_of X G a16,F16.kp,b16⟩
 have C19:Cal l.prog w K mg base "whole_row" 6 (spWrZ Cg):=⟨_,_,_,ok_wrZ F19 T hpt C16,mg_of X G a19,F19.kp,b19⟩
 have C20:Cal l.prog w K mg base "tidied" 5 (Znu Cg):=⟨_,_,_,ok_tidy F20 T hpt C12,mg_of X G a20,F20.kp,b20⟩
 have C21:Cal l.prog w K mg base "cleared" 6 (Zmz Cg):=⟨_,_,_,Zu0 F21 T hpt C12 C20,mg_of X G a21,F21.kp,b21⟩
 have C22:Cal l.prog w K mg base "leading_row" 1 (spLr PL):=⟨_,_,_,ok_lr F22 T hcb,mg_of X G a22,k22,b22⟩
 have C23:Cal l.prog w K mg base "swept" 7 (Zmr Cg PL):=⟨_,_,_,Zun F23 T C19 C20 C21 C22,mg_of X G a23,F23.kp,b23⟩
 have C24:Cal l.prog w K mg base "rank" 8 (Zqj Cg PL):=⟨_,_,_,ok_rank F24 T C23,mg_of X G a24,F24.kp,b24⟩
 have C28:Cal l.prog w K mg base "stands_on" 1 (spOn Cs C Cg):=⟨_,_,_,ok_on F28 T ,mg_of X G a28,F28.kp,b28⟩
 have C29:Cal l.prog w K mg base "place_starts" 1 (Zt2 Cs C Cg):=⟨_,_,_,ok_sta F29 T ,mg_of X G a29,F29.kp,b29⟩
 have C30:Cal l.prog w K mg base "difference_row" 7 (spDr Cs C Cg):=⟨_,_,_,ok_dr F30 T C29 C61 C62,mg_of X G a30,F30.kp,b30⟩
 have C31:Cal l.prog w K mg base "differences" 8 (spDif Cs C Cg):=⟨_,_,_,ok_dif F31 T C28 C29 C30,mg_of X G a31,F31.kp,b31⟩
 have C32:Cal l.prog w K mg base "count_maps" 9 (spCm Cs C Cg PL):=⟨_,_,_,ok_cm F32 T C31 C24,mg_of X G a32,F32.kp,b32⟩
 have C4:Cal l.prog w K mg base "_law_cell" 1 (Zqs K):=⟨_,_,_,ok_cell F4 T ,mg_of X G a4,F4.kp,b4⟩
 have C5:Cal l.prog w K mg base "_law_bag" 1 spBag:=⟨_,_,_,ok_bag F5 T ,mg_of X G a5,F5.kp,b5⟩
 have C6:Cal l.prog w K mg base "_law_draw" 1 Zdg:=⟨_,_,_,ok_draw F6 T ,mg_of X G a6,F6.kp,b6⟩
 have C7:Cal l.prog w K mg base "_law_order" 2 Zmw:=⟨_,_,_,Zus F7 T C6,mg_of X G a7,F7.kp,b7⟩
 have C8:Cal l.prog w K mg base "_law_rest_edges" 2 (Zid Ztq):=⟨_,_,_,ok_rest F8 T C6,mg_of X G a8,F8.kp,b8⟩
 have C9:Cal l.prog w K mg base "_law_bad_edges" 2 (Zid way0):=⟨_,_,_,ok_bad F9 T C6,mg_of X G a9,F9.kp,b9⟩
 have C10:Cal l.prog w K mg base "_law_edges" 3 (Zid Ztq):=⟨_,_,_,Zuy F10 T C6 C9 C8,mg_of X G a10,F10.kp,b10⟩
 have C11:Cal l.prog w K mg base "_law_drawn" 4 (Zid Ztq):=⟨_,_,_,Zuz F11 T C6 C10 C7,mg_of X G a11,F11.kp,b11⟩
 have C39A:Cal l.prog w K mg base "_law_low" 1 Znw:=⟨_,_,_,ok_low F39 T hpt,mg_of X G a39,F39.kp,b39⟩
 have C39B:Cal l.prog w K mg base "_law_low" 1 Znv:=⟨_,_,_,Zrn F39 T hpt,mg_of X G a39,F39.kp,b39⟩
 have C39Z:Cal l.prog w K mg base "_law_low" 1 Zql:=⟨_,_,_,Zrm F39 T hpt,mg_of X G a39,F39.kp,b39⟩
 have C40:Cal l.prog w K mg base "_law_number" 3 spNum:=⟨_,_,_,ok_lnum F40 T C6 C39A,mg_of X G a40,F40.kp,b40⟩
 have C41:Cal l.prog w K mg base "_law_plus" 3 (Zki Zey):=⟨_,_,_,ok_addB F41 T C39B,mg_of X G a41,F41.kp,b41⟩
 have C42:Cal l.prog w K mg base "_law_times" 3 (Zki Zbk):=⟨_,_,_,ok_mulB F42 T C39B,mg_of X G a42,F42.kp,b42⟩
 have C43:Cal l.prog w K mg base "_law_whole" 1 Zqo:=⟨_,_,_,ok_lint F43 T ,mg_of X G a43,F43.kp,b43⟩
 have C44:Cal l.prog w K mg base "_law_sizes" 2 Zms:=⟨_,_,_,ok_lsz F44 T C6,mg_of X G a44,F44.kp,b44⟩
 have C45:Cal l.prog w K mg base "_law_table" 4 spTb:=⟨_,_,_,ok_tb F45 T C6 C40 C43,mg_of X G a45,F45.kp,b45⟩
 have C46:Cal l.prog w K mg base "_law_tables" 5 spTbs:=⟨_,_,_,ok_tbs F46 T C45,mg_of X G a46,F46.kp,b46⟩
 have C47:Cal l.prog w K mg base "_law_lent" 1 Zqm:=⟨_,_,_,ok_lent F47 T ,mg_of X G a47,F47.kp,b47⟩
 have C48:Cal l.prog w K mg base "_law_back" 4 Zm0:=⟨_,_,_,ok_back F48 T C39Z,mg_of X G a48,F48.kp,b48⟩
 have C49:Cal l.prog w K mg base "_law_row_sum" 4 spSum:=⟨_,_,_,ok_rsum F49 T C41 C42,mg_of X G a49,F49.kp,b49⟩
 have C50:Cal l.prog w K mg base "_law_rank" 5 spLrk:=⟨_,_,_,ok_lrk F50 T C43 C42 C48 C49,mg_of X G a50,F50.kp,b50⟩
 have C51:Cal l.prog w K mg base "_law_two" 6 spTwo:=⟨_,_,_,ok_two F51 T C6 C11 C44 C46,mg_of X G a51,F51.kp,b51⟩
 have C52:Cal l.prog w K mg base "_law_standing" 10 (spStd Cs C Cg):=⟨_,_,_,ok_std F52 T C64 C60 C59 C47,mg_of X G a52,F52.kp,b52⟩
 have C53:Cal l.prog w K mg base "_law_asked" 4 spAsk:=⟨_,_,_,ok_ask F53 T C43 C41 C42,mg_of X G a53,F53.kp,b53⟩
 have C54:Cal l.prog w K mg base "two_sided" 1 (spTwS C):=⟨_,_,_,ok_twS F54 T ,mg_of X G a54,F54.kp,b54⟩
 have C55:Cal l.prog w K mg base "count_ties" 10 (spCt Cs C Cg PL):=⟨_,_,_,ok_ct F55 T C32 C54,mg_of X G a55,F55.kp,b55⟩
 have C56:Cal l.prog w K mg base "_law_form" 1 Zqr:=⟨_,_,_,ok_form F56 T ,mg_of X G a56,F56.kp,b56⟩
 have C57:Cal l.prog w K mg base "_law_held" 11 (Zqq Cs C Cg PL):=⟨_,_,_,ok_held F57 T C53 C50 C52 C55 C32 C56,mg_of X G a57,F57.kp,b57⟩
 exact ok_law F58 T C4 C5 C6 C51 C57
theorem walk {l:PySem.W.OpenLaw} {q:Program} {loose:List Str} {XP:(Str->Option Value)->Heap->Prop} {d:DefRec} {K:Params->PySem.W.Frag} {as:List Addr} {e:∀ (P:Params),as = List.map (λx=>x.fst) (K P)} {PL:Addr} (hq:importsNone q = true) (hn:l.most = some 63) (hdf:d.params.defaults = [])
  (hN:∀ p,(K p).lookup PL = none) (hC:∀ p,hdIn (K p) (PL + 2) PL = true)
  (F:∀ (w:World) (mg:Str->Option Value) (fa:Addr) (h:Heap),(K w.params).In h->h.Ns mainGlobals mg->mg d.name = some (.ref fa)->
   ∃ fd:FuncData,(∀ (s:Shared) (u:Value),BindsTo s fd ⟨[u],[]⟩ [("_law_script",u)])/\∀ base:Heap,(K w.params).In base->base.Ns mainGlobals mg->FnOk l.prog w (K w.params) mg base CX0 12 fa fd ["_law_script"] (Zt3 (K w.params) PL)):
  PySem.W.WalkO q loose XP (PySem.W.kmHook K as e [PL]).says l.row.toRowW d [] (λf vs=>PySem.call f vs):=
 Zts (n:=63) (k:=12) (x:="_law_script") (sp:=λw=>Zt3 (K w.params) PL) (PL + 2) PL 127 26 ("leading_row.<locals>." ++ "<lambda>") hq hn (by decide) hdf ⟨rfl,by decide,by decide⟩ (λw h Y=>PySem.W.km_in_of Y) (λw h Y=>PySem.W.km_tabs_of Y PL (Jaq.mpr rfl)) hN hC F (λ_ H a ns Q E hl hS hT q=>⟨a,ns,rfl,hS,hl,hT,q⟩)
end Pf
namespace PySem.W.Fast
def tw7778226442408383182:=0
def tw15435925265058322641:=0
def tw14761240244471052330:=0
def tw4298920455026603002:=0
def tw2260341855168981381:=0
def tw5371385997502165036:=0
def tw1820678467965558036:=0
def tw2458062311120093449:=0
def tw14067304869574799202:=0
def tw235162593903134014:=0
def tw8973261680917428487:=0
def tw18231040243347555665:=0
def tw12054269567518383817:=0
def tw5405293413540833485:=0
def tw1370406492858054300:=0
def tw3694264353104592790:=0
def tw2933996767436330734:=0
def tw9982501419162191951:=0
def tw4034622360620489738:=0
def tw11005049344674147616:=0
def tw48651798833014471:=0
def tw8984478961162707172:=0
def tw6223517595511684698:=0
def tw2149937549385957167:=0
def tw8216720842253548096:=0
def tw15812458861416231129:=0
def tw12454103981718487765:=0
def tw12206990742620292156:=0
def tw14266966059665155053:=0
def tw16412062036640762686:=0
def tw7713756559828467920:=0
def tw2370668504351146087:=0
def tw12630490212837195526:=0
def tw13759016288507360162:=0
def tw9636166200060037969:=0
def tw1261430473015106099:=0
def tw11703878175353098317:=0
def tw600478006409263054:=0
def tw7812524786344357233:=0
def tw8075021653372980594:=0
def tw8479963393742645141:=0
def tw12849097638260648459:=0
def tw7656793918439359892:=0
def tw12747841346146889101:=0
def tw14167053417548438312:=0
def tw2322882048430737781:=0
def tw5851502725387780037:=0
def tw2063690400947439724:=0
def tw3435617895423708706:=0
def tw9452699419215472212:=0
def tw2119995668399006877:=0
def tw11748894522562692041:=0
def tw1643170463542784334:=0
def tw16033957176846552641:=0
def tw13945931594883065033:=0
def tw2360053750450733049:=0
def tw844425801013521140:=0
def tw11845494754389314691:=0
def tw8486241427279354453:=0
def tw7599554939740797519:=0
def tw18292562728699820608:=0
def tw4238567440808198312:=0
def tw12380883912451070395:=0
def tw10475877020432417463:=0
def tw2326068895860231372:=0
def tw7997273720495604425:=0
def tw18096565429758010258:=0
def tw17435775171587730955:=0
def tw12951747156881362219:=0
def tw17493462038700880878:=0
def tw7047266790237823069:=0
def tw17329072218718175898:=0
def tw503176747653732483:=0
def tw10529725356292237943:=0
def tw2471586309210138244:=0
def tw15749662881803461256:=0
def tw11399628127623180226:=0
def tw6786376427138720342:=0
def tw13777430645464735041:=0
def tw4742637150053881382:=0
def tw12745772489769684416:=0
def tw16463748330551163612:=0
def tw3264615048732544842:=0
def tw10017983528711767603:=0
def tw11945504883116026461:=0
def tw13392374640683692250:=0
def tw14949845082571270635:=0
def tw11933693186530901660:=0
def tw8909221589826908520:=0
def tw8249918458441455204:=0
def tw2570360882284907656:=0
def tw11658202492408106487:=0
def tw3324815261050592753:=0
def tw4578373115634143077:=0
def tw15873672510206536082:=0
def tw9962242383496702475:=0
def tw9775737646092811619:=0
def tw8944902561314975217:=0
def tw14456398135973320663:=0
def tw961126729451404398:=0
def tw1378779640603946013:=0
def tw9841507072887684271:=0
def tw15134475052097185459:=0
def tw13175617468608319917:=0
def tw8608547932262855267:=0
def tw666943402320566719:=0
def tw890538884897908906:=0
def tw11934124038178528295:=0
def tw8525171257827011682:=0
def tw54309765262856887:=0
def tw16817056177483390263:=0
def tw14142131682081823165:=0
def tw2005278315486785363:=0
def tw5085062807508038600:=0
def tw1614643951871035077:=0
def tw6930181297667611634:=0
def tw9620465493346695790:=0
def tw17716915264477589052:=0
def tw8489545452743639795:=0
def tw6112567601792449096:=0
def tw8698368209970537658:=0
def tw7157869994157150776:=0
def tw13917529175777430430:=0
def tw10229707139025734700:=0
def tw11715096304146678220:=0
def tw10696140564592282921:=0
def tw8302642392080759805:=0
def tw16616957328041262380:=0
def tw1060332578625204877:=0
def tw818267499108013668:=0
def tw10788261452432004608:=0
def tw17214344782232470861:=0
def tw6490722546450051276:=0
def tw3745378251920759648:=0
def tw1539631867100432563:=0
def tw3145895773771164002:=0
def tw13973542606318380907:=0
def tw8612817297903360423:=0
def tw6439609058163713465:=0
def tw14645109763056711865:=0
def tw11736116645531785352:=0
def tw14636043671144826612:=0
def tw15589160672700698274:=0
def tw9824515924535938616:=0
def tw15383216537536182586:=0
def tw17640963408010018353:=0
def tw10720496619404074040:=0
def tw1353496225394971681:=0
def tw13468744941315496305:=0
def tw8769575184483329801:=0
def tw16365761693272691538:=0
def tw4007623825867981736:=0
def tw1780257811692953214:=0
def tw17311771982429028357:=0
def tw9803391283375346994:=0
def tw1849966572780271825:=0
def tw9402249037323611002:=0
def tw4911421492934150411:=0
def tw9237463689200104726:=0
def tw8239574857931509628:=0
def tw17945247154625796233:=0
def tw4408647286621596363:=0
def tw5580673460861876364:=0
def tw3762534551671700021:=0
def tw8772417374636441296:=0
def tw11353534667018214503:=0
def tw8076454245612014892:=0
def tw6981644585445863028:=0
def tw18073202001836685007:=0
def tw12713604286879328082:=0
def tw17910912692420042616:=0
def tw6670604546337041424:=0
def tw13132870962451009641:=0
def tw4196273113704029807:=0
def tw2571828911635745969:=0
def tw7627705132716171201:=0
def tw10347356711994143299:=0
def tw16508980430253100645:=0
def tw16960909834207811574:=0
def tw18031721513482961611:=0
def tw16785303633843168689:=0
def tw17944006435218741099:=0
def tw11064524711494415842:=0
def tw13651221070406013142:=0
def tw12848918263170319218:=0
def tw9026296895153109198:=0
def tw7868757264883073354:=0
def tw18158395581969985535:=0
def tw3871063859531135740:=0
def tw15675561830008889234:=0
def tw6077524780145938323:=0
def tw10722517252338425107:=0
def tw13270020496150811798:=0
def tw8949242074968129850:=0
def tw1617748690156138280:=0
def tw16220403008908395029:=0
def tw17177437411374489363:=0
def tw3540191022615392396:=0
def tw7434775679885249334:=0
def tw8543296305148332637:=0
def tw1004465027153605757:=0
def tw6815542571556843688:=0
def tw13544985784668907479:=0
def tw4091187553106004915:=0
def tw13699140500310461456:=0
def tw5775051080065352925:=0
def tw10963714757181791137:=0
def tw2949135491024891335:=0
def tw17258740129843814376:=0
def tw8716326770111273060:=0
def tw13206321349411846108:=0
def tw9101457089368912791:=0
def tw17921876576441694485:=0
def tw15889854477008275256:=0
end PySem.W.Fast
open PySem PySem.W PyProof.Rows
local macro_rules | `(tactic| walk_at "v")=>`(tactic| exact ⟨_,⟨⟨_,_,_,_,_,_,_,_,_,rfl,by k_is,by k_is⟩,by k_is⟩⟩)
local macro_rules | `(tactic| walk_at "u")=>`(tactic| exact ⟨by k_is,_,⟨⟨_,_,_,_,_,_,_,_,_,rfl,by k_is,by k_is⟩,by k_is⟩⟩)
set_option maxRecDepth 100000 in
set_option maxHeartbeats 0 in
theorem PySem.Challenge.cw_limbtables_k33_ties_beyond_holds : PySem.Challenge.rw_limbtables_k33_ties_beyond.Holds := by
 w_on; o_law; k_head; (case hw=>w_witness2)
 k_fill
 refine Pf.walk (l:=PySem.Challenge.rw_limbtables_k33_ties_beyond) (by decide +kernel) rfl rfl (λp=>by kernel_rfl) (λp=>by kernel_rfl) ?F
 case F=>
  intro w mg fa h KX G hmg;refine' Pf.all_mk rfl KX G hmg ?u1 ?u2 ?u3 ?u4 ?u5 ?u6 ?u7 ?u8 ?u9 ?u10 ?u11 ?u12 ?u13 ?u14 ?u15 ?u16 ?u17 ?u18 ?u19 ?u20 ?u21 ?a22 ?l22 ?c22 ?k22 ?u23 ?u24 ?u25 ?u26 ?u27 ?u28 ?u29 ?u30 ?u31 ?u32 ?u33 ?u34 ?u35 ?u36 ?u37 ?u38 ?u39 ?u40 ?u41 ?u42 ?u43 ?u44 ?u45 ?u46 ?u47 ?u48 ?u49 ?u50 ?u51 ?u52 ?u53 ?u54 ?u55 ?u56 ?u57 ?a58 ?l58 ?c58 ?k58 ?aC ?a59 ?i59 ?u59 ?pg ?hd ?po ?sa ?mk ?kc ?nM ?nA ?aCg ?a60 ?i60 ?u60 ?a61 ?i61 ?l61 ?dl61 ?c61 ?k61 ?a62 ?i62 ?u62 ?a63 ?i63 ?u63 ?pg_Cg ?hd_Cg ?po_Cg ?sa_Cg ?mk_Cg ?kc_Cg ?nP ?aCs ?a64 ?i64 ?u64 ?pg_Cs ?hd_Cs ?po_Cs ?sa_Cs ?mk_Cs ?kc_Cs ?nSg ?nSd ?nSs ?nSt ?g1 ?g2 ?g3 ?g4 ?g5 ?z0 ?z1 ?z2 ?z3 ?z4 ?z5 ?z6 ?z7 ?z8 ?z9 ?z10 ?z11 ?z12 ?z13 ?hcL
  (case u1 | u2 | u3 | u4 | u5 | u6 | u7 | u8 | u9 | u10 | u11 | u12 | u13 | u14 | u15 | u16 | u17 | u18 | u19 | u20 | u21=>walk_at "u")
  (case a22 | l22 | c22 | k22=>k_is)
  (case u23 | u24 | u25 | u26 | u27 | u28 | u29 | u30 | u31 | u32 | u33 | u34 | u35 | u36 | u37 | u38 | u39 | u40 | u41 | u42 | u43 | u44 | u45 | u46 | u47 | u48 | u49 | u50 | u51 | u52 | u53 | u54 | u55 | u56 | u57=>walk_at "u")
  (case a58 | l58 | c58 | k58 | aC | a59 | i59=>k_is)
  (case u59=>walk_at "v")
  (case pg | hd | po | sa | mk | kc | nM | nA | aCg | a60 | i60=>k_is)
  (case u60=>walk_at "v")
  (case a61 | i61 | l61 | dl61 | c61 | k61 | a62 | i62=>k_is)
  (case u62=>walk_at "v")
  (case a63 | i63=>k_is)
  (case u63=>walk_at "v")
  (case pg_Cg | hd_Cg | po_Cg | sa_Cg | mk_Cg | kc_Cg | nP | aCs | a64 | i64=>k_is)
  (case u64=>walk_at "v")
  (case pg_Cs | hd_Cs | po_Cs | sa_Cs | mk_Cs | kc_Cs | nSg | nSd | nSs | nSt | g1 | g2 | g3 | g4 | g5 | z0 | z1 | z2 | z3 | z4 | z5 | z6 | z7 | z8 | z9 | z10 | z11 | z12 | z13=>k_is)
  (case hcL=>kernel_rfl)
#print axioms PySem.Challenge.cw_limbtables_k33_ties_beyond_holds