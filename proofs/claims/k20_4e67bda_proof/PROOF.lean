import PyProof.Rows.All
import Wide.All
import OpenK.AllK
import Wide.FinOn
import Lean
import PyProof.EqAt
import PyProof.EqKinds
import PyProof.TupleCall
import PyProof.DictCompW
import PyProof.Rows.SortWalk
import PyProof.Rows.CountFlat
import PyProof.ZipIter
import PyProof.Rows.ZipGen
import PyProof.SumWalkG
import PyProof.EqAt
import PyProof.P3Eq
import PyProof.MinMaxWalk
import KE.KLam
import KE.KMinKey
import PyProof.NeKinds
import PySem.Challenge.RW_limbtables_k20_whole_good_or_low
abbrev Jaa:=@List.length_map
abbrev Jab:=@List.getElem?_eq_getElem
abbrev Jac:=@PySem.wpAny_bind
abbrev Jad:=@PySem.Heap.get?_push_of_some
abbrev Jae:=@Nat.le_refl
abbrev Jaf:=@PySem.Heap.lt_size
abbrev Jag:=@Classical.byContradiction
abbrev Jah:=@List.mem_append_right
abbrev Jai:=@List.size_toArray
abbrev Jaj:=@Bool.false_ne_true
abbrev Jak:=@List.length_append
abbrev Jal:=@Int.toNat_natCast
abbrev Jam:=@List.mem_cons
abbrev Jan:=@List.mem_filter
abbrev Jao:=@List.mem_map
abbrev Jap:=@PySem.wpAny_pure
abbrev Jaq:=@of_decide_eq_true
abbrev Jar:=@List.mem_of_getElem?
abbrev Jas:=@PySem.Heap.get?_push_size
abbrev Jat:=@List.lookup_cons
abbrev Jau:=@List.set_cons_zero
abbrev Jav:=@List.map_append
abbrev Jaw:=@List.filter_sublist
abbrev Jax:=@Nat.lt_of_lt_of_le
abbrev Jay:=@Nat.ne_of_lt
abbrev Jaz:=@List.length_filter_le
abbrev Ja0:=@List.getElem?_eq_some_iff
abbrev Ja1:=@List.map_cons
abbrev Ja2:=@List.Nodup.sublist
abbrev Ja3:=@decide_eq_true
abbrev Ja4:=@Option.some.inj
abbrev Ja5:=@PySem.wpAny_mono
abbrev Ja6:=@List.getElem?_map
abbrev Ja7:=@List.mem_cons_of_mem
abbrev Ja8:=@List.length_take
abbrev Ja9:=@PySem.mem_of_lookup
abbrev Jba:=@Nat.le_trans
abbrev Jbb:=@List.getElem?_append_right
abbrev Jbc:=@List.getD_eq_getElem?_getD
abbrev Jbd:=@PySem.PassesOwn.never
abbrev Jbe:=@PySem.F.plainAttrs_list
abbrev Jbf:=@List.take_add_one
abbrev Jbg:=@List.mem_singleton
abbrev Jbh:=@beq_iff_eq
abbrev Jbi:=@List.take_length
abbrev Jbj:=@List.length_replicate
abbrev Jbk:=@List.getElem?_append_left
abbrev Jbl:=@List.nodup_cons
abbrev Jbm:=@List.length_cons
abbrev Jbn:=@PySem.wpAny_truthy_bool
abbrev Jbo:=@Nat.le_of_lt
abbrev Jbp:=@Nat.lt_irrefl
abbrev Jbq:=@PySem.wpAny_holding
abbrev Jbr:=@List.filter_append
abbrev Jbs:=@PySem.F.slot_list_append
abbrev Jbt:=@PySem.F.type_list_append
abbrev Jbu:=@Bool.eq_iff_iff
abbrev Jbv:=@PySem.boot_len
abbrev Jbw:=@List.mem_iff_getElem
abbrev Jbx:=@decide_eq_true_iff
abbrev Jby:=@PySem.F.plain_min_loop
abbrev Jbz:=@PySem.W.kia_one
abbrev Jb0:=@List.getElem_mem
abbrev Jb1:=@Nat.zero_le
abbrev Jb2:=@List.length_range
abbrev Jb3:=@Bool.and_eq_true
abbrev Jb4:=@Int.toNat_of_nonneg
abbrev Jb5:=@PySem.wpAny_standAt
abbrev Jb6:=@decide_eq_false
abbrev Jb7:=@List.mem_append
abbrev Jb8:=@List.cons.injEq
abbrev Jb9:=@List.mem_cons_self
abbrev Jca:=@List.count_pos_iff
abbrev Jcb:=@List.set_cons_succ
abbrev Jcc:=@PySem.Heap.size_push
abbrev Jcd:=@List.map_map
abbrev Jce:=@Nat.le_of_succ_le
abbrev Jcf:=@PyProof.Rows.callWith_type1
abbrev Jcg:=@List.map_congr_left
abbrev Jch:=@PySem.MeetsSeq.plain_remove_loop
abbrev Jci:=@List.all_eq_true
abbrev Jcj:=@Int.mul_nonneg
abbrev Jck:=@PySem.Around.under_plainId
abbrev Jcl:=@PySem.wpAny_passesOwn
abbrev Jcm:=@Option.isSome_iff_exists
abbrev Jcn:=@PySem.wpAny_comprehension_free
abbrev Jco:=@PySem.AutoSeq1.wpAny_loadPart'
abbrev Jcp:=@List.range_succ
abbrev Jcq:=@beq_eq_false_iff_ne
abbrev Jcr:=@List.getElem?_replicate
abbrev Jcs:=@List.replicate_succ
abbrev Jct:=@List.length_drop
abbrev Jcu:=@PySem.wpAny_pyNext_list_item
abbrev Jcv:=@PySem.W.cellsFrom_some
abbrev Jcw:=@if_true
abbrev Jcx:=@PySem.wpAny_Call_Name_kw
abbrev Jcy:=@List.length_set
abbrev Jcz:=@List.find?_cons
abbrev Jc0:=@PySem.wpAny_pyIter_list
abbrev Jc1:=@List.any_cons
abbrev Jc2:=@List.flatten_cons
abbrev Jc3:=@List.mem_range
abbrev Jc4:=@List.drop_eq_getElem_cons
abbrev Jc5:=@PySem.wpAny_tryCatch
abbrev Jc6:=@List.exists_mem_of_ne_nil
abbrev Jc7:=@List.take_succ_cons
abbrev Jc8:=@List.length_erase_of_mem
abbrev Jc9:=@Ne.symm
abbrev Jda:=@Bool.false_eq_true
abbrev Jdb:=@List.count_cons
abbrev Jdc:=@PySem.plainId_quiet
abbrev Jdd:=@PySem.codeAny_builtin
abbrev Jde:=@PyProof.Rows.boot_isinstance
abbrev Jdf:=@PySem.F.entry_min_loop
abbrev Jdg:=@PySem.wpAny_newObj_type
abbrev Jdh:=@Nat.lt_succ_of_lt
abbrev Jdi:=@List.filter_congr
abbrev Jdj:=@congrArg
abbrev Jdk:=@List.drop_zero
abbrev Jdl:=@Nat.ne_of_gt
abbrev Jdm:=@PySem.wpAny_pyNext_list_end
abbrev Jdn:=@Int.mul_zero
abbrev Jdo:=@List.count_cons_of_ne
abbrev Jdp:=@Nat.lt_succ_self
abbrev Jdq:=@Nat.le_add_right
abbrev Jdr:=@List.mem_flatten
abbrev Jds:=@decide_eq_decide
abbrev Jdt:=@List.perm_cons_erase
abbrev Jdu:=@List.count_cons_self
abbrev Jdv:=@List.length_eraseIdx
abbrev Jdw:=@List.filterMap_cons
abbrev Jdx:=@Array.length_toList
abbrev Jdy:=@PySem.wpAny_execs_nil
abbrev Jdz:=@PySem.W.plainGet_of
abbrev Jd0:=@List.append_nil
abbrev Jd1:=@Nat.le_succ
abbrev Jd2:=@Bool.or_eq_true
abbrev Jd3:=@Option.map_some
abbrev Jd4:=@Int.mul_ne_zero
abbrev Jd5:=@PySem.wpAny_updateSeq
abbrev Jd6:=@PySem.Heap.SameBut.update
abbrev Jd7:=@PyProof.Rows.boot_list
abbrev Jd8:=@PySem.codeAny_mono
abbrev Jd9:=@List.map_nil
abbrev Jea:=@PySem.SeqAt.EqAt.of_refs
abbrev Jeb:=@List.pairwise_cons
abbrev Jec:=@List.erase_sublist
abbrev Jed:=@List.take_sublist
abbrev Jee:=@List.append_assoc
abbrev Jef:=@PySem.call_meets
abbrev Jeg:=@List.mem_range'_1
abbrev Jeh:=@PySem.Paired.length
abbrev Jei:=@if_false
abbrev Jej:=@List.all_cons
set_option compiler.postponeCompile true
set_option bootstrap.genMatcherCode false
set_option genSizeOf false
-- CHANGE: your row's module here,as the last of these rows
set_option Elab.async false
set_option linter.all false
set_option maxRecDepth 100000
namespace L2
open PySem PySem.Spec PyProof.Rows
abbrev Key:=Sum Int Str
def Zjq:Key->Value->Bool
 | .inl k,v=>Value.isInt k v
 | .inr x,v=>Value.isStrOf x v
def keyH (w:World):Key->Int
 | .inl k=>hashInt k
 | .inr x=>hashStr w x
theorem Zba:∀ {k:Key} {v:Value},Zjq k v = true->(∃ i t,k = Sum.inl i/\v = Value.int i t)\/(∃ x t,k = Sum.inr x/\v = Value.str x t)
 | .inl i,v,h=>by
  obtain ⟨t,e⟩:=Value.isInt_shape (k:=i) (v:=v) h
  exact .inl ⟨i,t,rfl,e⟩
 | .inr x,v,h=>by
  obtain ⟨t,e⟩:=Value.isStrOf_shape (x:=x) (v:=v) h
  exact .inr ⟨x,t,rfl,e⟩
theorem Zlr (i:Int) (t:Tok):Zjq (.inl i) (.int i t) = true:=by simp [Zjq,Value.isInt]
theorem Zlq (x:Str) (t:Tok):Zjq (.inr x) (.str x t) = true:=by simp [Zjq,Value.isStrOf]
theorem key_ll (a b:Int):decide ((Sum.inl a:Key) = Sum.inl b) = (a == b):=by
 by_cases e:a = b
 ·subst e; simp
 ·have h:¬ (Sum.inl a:Key) = Sum.inl b:=fun q=>e (Sum.inl.inj q)
  rw [Jb6 h]
  exact (Jcq.mpr e).symm
theorem key_rr (a b:Str):decide ((Sum.inr a:Key) = Sum.inr b) = decide (a = b):=by
 by_cases e:a = b
 ·subst e; simp
 ·have h:¬ (Sum.inr a:Key) = Sum.inr b:=fun q=>e (Sum.inr.inj q)
  rw [Jb6 h,Jb6 e]
theorem key_lr (a:Int) (b:Str):decide ((Sum.inl a:Key) = Sum.inr b) = false:=Jb6 (fun q=>nomatch q)
theorem key_rl (a:Str) (b:Int):decide ((Sum.inr a:Key) = Sum.inl b) = false:=Jb6 (fun q=>nomatch q)
def Zbt (prog:Program) (w:World):PySem.KeyKind prog w Key where
 is:=Zjq
 hash:=keyH w
 inj:=fun v a b ha hb=>by
  rcases Zba ha with ⟨i,t,rfl,rfl⟩ | ⟨x,t,rfl,rfl⟩
  ·rcases Zba hb with ⟨j,u,rfl,e⟩ | ⟨y,u,rfl,e⟩
   ·injection e with e1 _; rw [e1]
   ·exact nomatch e
  ·rcases Zba hb with ⟨j,u,rfl,e⟩ | ⟨y,u,rfl,e⟩
   ·exact nomatch e
   ·injection e with e1 _; rw [e1]
 byValue:=fun k v h=>by
  rcases Zba h with ⟨i,t,rfl,rfl⟩ | ⟨x,t,rfl,rfl⟩ <;> rfl
 pyHash:=fun hv h=>by
  rcases Zba hv with ⟨i,t,rfl,rfl⟩ | ⟨x,t,rfl,rfl⟩
  ·exact wpAny_pyHash_int h
  ·exact wpAny_pyHash_str h
 eqBool:=fun hu hv h=>by
  rcases Zba hu with ⟨i,t,rfl,rfl⟩ | ⟨x,t,rfl,rfl⟩
  ·rcases Zba hv with ⟨j,u,rfl,rfl⟩ | ⟨y,u,rfl,rfl⟩
   ·rw [key_ll] at h; exact wpAny_eqBool_int h
   ·rw [key_lr] at h; exact SeqAt.EqAt.int_str i t y u _ _ _ _ h
  ·rcases Zba hv with ⟨j,u,rfl,rfl⟩ | ⟨y,u,rfl,rfl⟩
   ·rw [key_rl] at h; exact SeqAt.EqAt.str_int x t j u _ _ _ _ h
   ·rw [key_rr] at h; exact wpAny_eqBool_str h
 «strs»:=fun k x t v h=>by
  rcases Zba h with ⟨i,u,rfl,e⟩ | ⟨y,u,rfl,e⟩
  ·exact nomatch e
  ·injection e with e1 _
   subst e1
   cases v <;> rfl
theorem Zia (prog:Program) (w:World) (i:Int) (t:Tok):(Zbt prog w).is (.inl i) (.int i t) = true:=Zlr i t
theorem Zh9 (prog:Program) (w:World) (x:Str) (t:Tok):(Zbt prog w).is (.inr x) (.str x t) = true:=Zlq x t
inductive V where
 | non | bl (b:Bool) | int (i:Int) | str (x:Str) | byt (b:Array UInt8) | flt (b:UInt64) | ref (a:Addr) | ty (n:String)
 deriving DecidableEq
def RelV:V->Value->Prop
 | .non,u=>u = Value.none
 | .bl b,u=>u = Value.bool b
 | .int i,u=>∃ t,u = Value.int i t
 | .str x,u=>∃ t,u = Value.str x t
 | .byt b,u=>∃ t,u = Value.bytes b t
 | .flt b,u=>∃ t,u = Value.float b t
 | .ref a,u=>u = Value.ref a
 | .ty n,u=>u = Value.type n
abbrev Vals:List V->List Value->Prop:=Paired RelV
theorem Vals.length {xs:List V} {us:List Value} (r:Vals xs us):xs.length = us.length:=Jeh r
theorem Vals.get:∀ {xs:List V} {us:List Value} {i:Nat} {x:V},Vals xs us->xs[i]? = some x->∃ u,us[i]? = some u/\RelV x u
 | _,_,_,_,.nil,e=>by simp at e
 | _,_,0,_,.cons r _,e=>by simp at e; subst e; exact ⟨_,rfl,r⟩
 | _,_,i + 1,x,.cons _ t,e=>by
  obtain ⟨u,h1,h2⟩:=Vals.get (i:=i) (x:=x) t (by simpa using e)
  exact ⟨u,by simpa using h1,h2⟩
theorem Vals.set {x:V} {u:Value} (r:RelV x u):∀ {xs:List V} {us:List Value} (i:Nat),Vals xs us->Vals (xs.set i x) (us.set i u)
 | _,_,_,.nil=>.nil
 | _,_,0,.cons _ t=>.cons r t
 | _,_,i + 1,.cons q t=>.cons q (Vals.set r i t)
theorem Vals.append:∀ {xs ys:List V} {us ws:List Value},Vals xs us->Vals ys ws->Vals (xs ++ ys) (us ++ ws)
 | _,_,_,_,.nil,s=>s
 | _,_,_,_,.cons r t,s=>.cons r (Vals.append t s)
theorem Vals.take:∀ {xs:List V} {us:List Value} (n:Nat),Vals xs us->Vals (xs.take n) (us.take n)
 | _,_,0,_=>.nil
 | _,_,_ + 1,.nil=>.nil
 | _,_,n + 1,.cons r t=>.cons r (Vals.take n t)
theorem Vals.drop:∀ {xs:List V} {us:List Value} (n:Nat),Vals xs us->Vals (xs.drop n) (us.drop n)
 | _,_,0,r=>r
 | _,_,_ + 1,.nil=>.nil
 | _,_,n + 1,.cons _ t=>Vals.drop n t
def RelO:Option V->Option Value->Prop
 | some v,some u=>RelV v u
 | none,none=>True
 | _,_=>False
def KV {κ:Type}:List (κ × V)->List (κ × Value)->Prop:=Paired fun (p:κ × V) (q:κ × Value)=>p.1 = q.1/\RelV p.2 q.2
def kV:Key->V
 | .inl i=>.int i
 | .inr x=>.str x
inductive HO where
  | lst (xs:List V)
  | tup (xs:List V)
  | dK (kvs:List (Key × V)) | dT (kvs:List (List Key × V))
  | set (S:Int->Bool) (n:Nat)
  | ins (C dx:Addr) (fs:List (Str × V))
  | own (x:Addr)
  | xd (fs:List (Str × V))
  | met (f x:Addr)
  | rng (lo hi:Int)
  | frz (o:Obj) (u:HO)
  | tbl (ps:Array Value)
  | ext (φ:Heap->Prop)
  | tab (l c:Int) (q:Str)
abbrev Hp:=Addr->Option HO
def upd (H:Hp) (a:Addr) (o:HO):Hp:=fun b=>if b = a then some o else H b
theorem Zac {H:Hp} {a:Addr} {o:HO}:upd H a o a = some o:=by unfold upd; rw [if_pos rfl]
theorem Zaf {H:Hp} {a b:Addr} {o:HO} (h:b ≠ a):upd H a o b = H b:=by unfold upd; rw [if_neg h]
theorem upd_upd {H:Hp} {a:Addr} {o u:HO}:upd (upd H a o) a u = upd H a u:=by
 funext b; unfold upd; split <;> rfl
theorem Zjm {H:Hp} {a b:Addr} {o u:HO} (h:H a = some o) (h':H b = some u) (d:o ≠ u):a ≠ b:=by
 intro e; subst e; rw [h] at h'; exact d (Ja4 h')
theorem Zae {H:Hp} {a b:Addr} {o:HO} (h:H a = some o) (h':H b = none):a ≠ b:=by
 intro e; subst e; rw [h] at h'; cases h'
section
variable (P:Program) (w:World)
def ObjOk (H:Hp) (h:Heap) (a:Addr):HO->Prop
 | .lst xs=>xs.length<=sizeLine/\∃ (its:List Value) (n:Nat),Vals xs its/\h.get? a = some { cls:=.type "list",data:=.seq its.toArray n }
 | .tup xs=>xs.length<=sizeLine/\∃ its:List Value,Vals xs its/\IsTup h a its.toArray
 | .dK kvs=>kvs.length<=sizeLine/\(a == sysModules) = false/\∃ vs,KV kvs vs/\h.DictOf (Zbt P w) a vs
 | .dT kvs=>kvs.length<=sizeLine/\(a == sysModules) = false/\∃ xs:List (List Key × Addr × Value),
   Paired (fun (p:List Key × V) (q:List Key × Addr × Value)=>p.1 = q.1/\H q.2.1 = some (.tup (p.1.map kV))/\RelV p.2 q.2.2) kvs xs /\
   ∃ o es ep,h.get? a = some o/\o.ExactDict/\o.data = .dict es ep/\es.toList = xs.map (entryOfKey (tupleKind (Zbt P w)))/\(xs.map (·.1)).Nodup
 | .set S n=>h.SetOf (intKind P w) a S n
 | .ins C dx fs=>H dx = some (.own a)/\fs.length<=1000/\dx ≠ a/\h.get? a = some (PySem.W.instObj C dx) /\
   ∃ mA,h.Ns1 dx mA/\(∀ f,RelO (fs.lookup f) (mA f))/\PySem.Within mA (fs.map (·.1))
 | .own _=>∃ o,h.get? a = some o
 | .xd fs=>∃ mA,h.Ns1 a mA/\∀ f,RelO (fs.lookup f) (mA f)
 | .rng lo hi=>∃ t u v,h.get? a = some { cls:=.type "range",data:=.fields #[.int lo t,.int hi u,.int 1 v] }
 | .frz o u=>h.get? a = some o/\ObjOk H h a u
 | .tbl ps=>h.get? a = some { cls:=.none,data:=.fields ps }
 | .met f x=>h.get? a = some (PySem.W.methodObj (.ref f) (.ref x))
 | .ext φ=>φ h/\(∃ o,h.get? a = some o)/\∀ h1 h2:Heap,φ h1->(∀ o,h1.get? a = some o->h2.get? a = some o)->φ h2
 | .tab l c q=>h.get? a = some { cls:=.none,data:=.fields #[] }\/∃ c' oc vs t,h.get? a = some { cls:=.none,data:=.fields #[rawInt l,rawInt c,.ref c'] }/\c' ≠ a/\H c' = some (.frz oc (.own a))/\oc.data = .fields vs/\vs[1]? = some (.str q t)
def HOk (H:Hp) (h:Heap):Prop:=∀ a o,H a = some o->ObjOk P w H h a o
end
section
variable {P:Program} {w:World} {H H':Hp} {h h':Heap} {a:Addr} {o:HO}
theorem ObjOk.lt (x:ObjOk P w H h a o):a < h.objs.size:=by
 cases o with
 | lst xs=>obtain ⟨_,_,_,_,e⟩:=x; exact Jaf e
 | tup xs=>obtain ⟨_,_,_,p⟩:=x; exact p.lt
 | dK kvs=>obtain ⟨_,_,_,_,o,_,_,e,_⟩:=x; exact Jaf e
 | dT kvs=>obtain ⟨_,_,_,_,o,_,_,e,_⟩:=x; exact Jaf e
 | set S n=>obtain ⟨o,_,_,_,e,_⟩:=x; exact Jaf e
 | ins C dx fs=>obtain ⟨_,_,_,e,_⟩:=x; exact Jaf e
 | own y=>obtain ⟨_,e⟩:=x; exact Jaf e
 | xd fs=>obtain ⟨_,⟨_,_,_,e,_⟩,_⟩:=x; exact Jaf e
 | rng lo hi=>obtain ⟨_,_,_,e⟩:=x; exact Jaf e
 | frz ob u=>obtain ⟨e,_⟩:=x; exact Jaf e
 | tbl ps=>exact Jaf (show h.get? a = some _ from x)
 | met f y=>exact Jaf (show h.get? a = some _ from x)
 | ext φ=>obtain ⟨_,⟨_,e⟩,_⟩:=x; exact Jaf e
 | tab l c q=>
  rcases x with e | ⟨_,_,_,_,e,_⟩
  ·exact Jaf e
  ·exact Jaf e
theorem Paired.mapP {α β:Type} {F G:α->β->Prop}:∀ {l₁:List α} {l₂:List β},Paired F l₁ l₂->(∀ a b,F a b->G a b)->Paired G l₁ l₂
 | _,_,.nil,_=>.nil
 | _,_,.cons r t,f=>.cons (f _ _ r) (Paired.mapP t f)
theorem ObjOk.stay (x:ObjOk P w H h a o) (k:∀ b u,(b = a\/H b = some (.own a))->h.get? b = some u->h'.get? b = some u)
  (ho:∀ b,H b = some (.own a)->H' b = some (.own a)) (ht:∀ b xs,H b = some (.tup xs)->H' b = some (.tup xs)) (hz:∀ b o' u,H b = some (.frz o' u)->H' b = some (.frz o' u)):ObjOk P w H' h' a o:=by
 induction o with
 | lst xs=>obtain ⟨z,its,n,r,e⟩:=x; exact ⟨z,its,n,r,k _ _ (.inl rfl) e⟩
 | tup xs=>obtain ⟨z,its,r,ob,e,c⟩:=x; exact ⟨z,its,r,ob,k _ _ (.inl rfl) e,c⟩
 | dK kvs=>obtain ⟨z,y,vs,r,ob,es,ep,e,c⟩:=x; exact ⟨z,y,vs,r,ob,es,ep,k _ _ (.inl rfl) e,c⟩
 | dT kvs=>
  obtain ⟨z,y,xs,r,ob,es,ep,e,c⟩:=x
  exact ⟨z,y,xs,Paired.mapP r fun p q z=>⟨z.1,ht _ _ z.2.1,z.2.2⟩,ob,es,ep,k _ _ (.inl rfl) e,c⟩
 | set S n=>obtain ⟨ob,es,ep,t,e,c⟩:=x; exact ⟨ob,es,ep,t,k _ _ (.inl rfl) e,c⟩
 | ins C dx fs=>
  obtain ⟨d,z,ne,e,mA,⟨od,es,ep,e2,c⟩,r⟩:=x
  exact ⟨ho _ d,z,ne,k _ _ (.inl rfl) e,mA,⟨od,es,ep,k _ _ (.inr d) e2,c⟩,r⟩
 | own y=>obtain ⟨ob,e⟩:=x; exact ⟨ob,k _ _ (.inl rfl) e⟩
 | xd fs=>obtain ⟨mA,⟨od,es,ep,e,c⟩,r⟩:=x; exact ⟨mA,⟨od,es,ep,k _ _ (.inl rfl) e,c⟩,r⟩
 | rng lo hi=>obtain ⟨t,u,v,e⟩:=x; exact ⟨t,u,v,k _ _ (.inl rfl) e⟩
 | frz ob u ih=>obtain ⟨e,q⟩:=x; exact ⟨k _ _ (.inl rfl) e,ih q⟩
 | tbl ps=>
  have e:h.get? a = some { cls:=.none,data:=.fields ps }:=x
  show h'.get? a = some { cls:=.none,data:=.fields ps }
  exact k a _ (.inl rfl) e
 | met f y=>
  have e:h.get? a = some (PySem.W.methodObj (.ref f) (.ref y)):=x
  show h'.get? a = some (PySem.W.methodObj (.ref f) (.ref y))
  exact k a _ (.inl rfl) e
 | ext φ=>obtain ⟨p,⟨o,e⟩,st⟩:=x; exact ⟨st _ _ p fun o q=>k _ _ (.inl rfl) q,⟨o,k _ _ (.inl rfl) e⟩,st⟩
 | tab l c q=>
  rcases x with e | ⟨c',oc,vs,t,e,ne,e2,r⟩
  ·exact .inl (k _ _ (.inl rfl) e)
  ·exact .inr ⟨c',oc,vs,t,k _ _ (.inl rfl) e,ne,hz _ _ _ e2,r⟩
theorem HOk.lt (x:HOk P w H h) (e:H a = some o):a < h.objs.size:=(x a o e).lt
theorem HOk.fresh (x:HOk P w H h) (e:h.objs.size<=a):H a = none:=by
 cases q:H a with
 | none=>rfl
 | some u=>exact absurd (Jax (x.lt q) e) (Jbp _)
theorem HOk.kept (x:HOk P w H h) (k:∀ b u,h.get? b = some u->h'.get? b = some u):HOk P w H h':=fun a o e=>
 (x a o e).stay (fun b u _ q=>k b u q) (fun _ q=>q) (fun _ _ q=>q) fun _ _ _ q=>q
theorem HOk.laid (x:HOk P w H h) (k:∀ b u,h.get? b = some u->h'.get? b = some u) (hp:h.objs.size<=a) (new:ObjOk P w (upd H a o) h' a o):HOk P w (upd H a o) h':=fun b u e=>by
 have hn:=x.fresh hp
 by_cases hb:b = a
 ·subst hb; rw [Zac] at e; cases e; exact new
 ·rw [Zaf hb] at e
  exact (x b u e).stay (fun c v _ q=>k c v q) (fun c q=>by rw [Zaf (Zae q hn)]; exact q) (fun c xs q=>by rw [Zaf (Zae q hn)]; exact q) fun c _ _ q=>by rw [Zaf (Zae q hn)]; exact q
end
def Rd (H:Hp) (a:Addr) (u:HO):Prop:=H a = some u\/∃ o,H a = some (.frz o u)
theorem Rd.ok {P:Program} {w:World} {H:Hp} {h:Heap} {a:Addr} {u:HO} (r:Rd H a u) (x:HOk P w H h):ObjOk P w H h a u:=by
 rcases r with r | ⟨o,r⟩
 ·exact x a u r
 ·obtain ⟨_,q⟩:=x a _ r
  exact q
def Mut:Option HO->Prop
 | some (.lst _)=>True
 | some (.dK _)=>True
 | some (.dT _)=>True
 | some (.set _ _)=>True
 | some (.ins _ _ _)=>True
 | some (.ext _)=>True
 | some (.tab _ _ _)=>True
 | _=>False
section
variable {P:Program} {w:World} {H:Hp} {h h':Heap} {x e:Addr} {o':HO}
theorem HOk.write (ok:HOk P w H h) (mu:Mut (H x)) (he:e = x\/H e = some (.own x)) (k:∀ b u,b ≠ e->h.get? b = some u->h'.get? b = some u) (heo:∃ u,h'.get? e = some u)
  (new:ObjOk P w (upd H x o') h' x o'):HOk P w (upd H x o') h':=fun b u q=>by
 have nown:∀ c y,H c = some (.own y)->c ≠ x:=fun c y r z=>by subst z; rw [r] at mu; exact mu
 have ntup:∀ c xs,H c = some (.tup xs)->c ≠ x:=fun c xs r z=>by subst z; rw [r] at mu; exact mu
 have nfrz:∀ c o' u',H c = some (.frz o' u')->c ≠ x:=fun c o' u' r z=>by subst z; rw [r] at mu; exact mu
 by_cases hb:b = x
 ·subst hb; rw [Zac] at q; cases q; exact new
 ·rw [Zaf hb] at q
  by_cases hbe:b = e
  ·have q':H b = some (.own x):=by
    rcases he with z | z
    ·exact absurd (hbe.trans z) hb
    ·rw [hbe]; exact z
   rw [q] at q'; cases q'
   obtain ⟨v,hv⟩:=heo
   exact ⟨v,by rw [hbe]; exact hv⟩
  ·refine (ok b u q).stay (fun c v hc r=>k c v ?_ r) (fun c r=>by rw [Zaf (nown c b r)]; exact r) (fun c xs r=>by rw [Zaf (ntup c xs r)]; exact r) fun c o' u' r=>by rw [Zaf (nfrz c o' u' r)]; exact r
   rcases hc with rfl | hc
   ·exact hbe
   ·rintro rfl
    rcases he with z | z
    ·exact nown c b hc z
    ·rw [hc] at z; cases z; exact hb rfl
end
structure Un (fs ex:List Addr) (H H':Hp) (h h':Heap):Prop where
 keep:∀ b o,h.get? b = some o->H b = none->b ∉ fs->b ∉ ex->h'.get? b = some o
 slot:∀ b o,h.get? b = some o->H b = none->b ∈ fs->b ∉ ex->∃ sl,h'.get? b = some { o with slots:=sl }
 free:∀ b o,h.get? b = some o->H b = none->b ∉ ex->H' b = none
 there:∀ b o,h.get? b = some o->b ∉ ex->∃ o',h'.get? b = some o'
 tups:∀ b xs,H b = some (.tup xs)->H' b = some (.tup xs)
 frzs:∀ b o u,H b = some (.frz o u)->H' b = some (.frz o u)
 tbls:∀ b ps,H b = some (.tbl ps)->∃ more,H' b = some (.tbl (ps ++ more))
section
variable {fs fs' ex ex':List Addr} {H H1 H2:Hp} {h h1 h2 h':Heap} {a x e:Addr} {o:HO}
theorem Un.any (u:Un fs ex H H1 h h1) {b:Addr} {ob:Obj} (q:h.get? b = some ob) (n:H b = none) (hx:b ∉ ex):∃ sl,h1.get? b = some { ob with slots:=sl }:=by
 by_cases hb:b ∈ fs
 ·exact u.slot b ob q n hb hx
 ·exact ⟨ob.slots,u.keep b ob q n hb hx⟩
theorem Un.kept (k:∀ b u,h.get? b = some u->h'.get? b = some u):Un fs ex H H h h':=
 ⟨fun b ob q _ _ _=>k b ob q,fun b ob q _ _ _=>⟨ob.slots,k b ob q⟩,fun _ _ _ n _=>n,fun b ob q _=>⟨ob,k b ob q⟩,fun _ _ q=>q,fun _ _ _ q=>q,fun _ ps q=>⟨#[],by rw [q]; simp⟩⟩
theorem Un.refl:Un fs ex H H h h:=Un.kept fun _ _ q=>q
theorem Un.laid (k:∀ b u,h.get? b = some u->h'.get? b = some u) (hp:h.objs.size<=a) (hn:H a = none):Un fs ex H (upd H a o) h h' where
 keep:=fun b u q _ _ _=>k b u q
 slot:=fun b u q _ _ _=>⟨u.slots,k b u q⟩
 free:=fun b u q n _=>by rw [Zaf (Jay (Jax (Jaf q) hp))]; exact n
 there:=fun b u q _=>⟨u,k b u q⟩
 tups:=fun b xs q=>by rw [Zaf (Zae q hn)]; exact q
 frzs:=fun b u xs q=>by rw [Zaf (Zae q hn)]; exact q
 tbls:=fun b ps q=>⟨#[],by rw [Zaf (Zae q hn),q]; simp⟩
theorem Un.write (mu:Mut (H x)) (he:e = x\/H e = some (.own x)) (k:∀ b u,b ≠ e->h.get? b = some u->h'.get? b = some u) (heo:∃ u,h'.get? e = some u):Un fs ex H (upd H x o) h h':=by
 have hx:∀ b,H b = none->b ≠ x:=fun b n z=>by subst z; rw [n] at mu; exact mu
 have hb:∀ b,H b = none->b ≠ e:=fun b n z=>by
  subst z
  rcases he with r | r
  ·exact hx b n r
  ·rw [n] at r; cases r
 have hm:∀ b u,H b = some u->¬ Mut (some u)->b ≠ x:=fun b u q nm z=>by subst z; rw [q] at mu; exact nm mu
 refine ⟨fun b u q n _ _=>k b u (hb b n) q,fun b u q n _ _=>⟨u.slots,k b u (hb b n) q⟩,fun b u q n _=>by rw [Zaf (hx b n)]; exact n,fun b u q _=>?_,
  fun b xs q=>by rw [Zaf (hm b _ q fun z=>z)]; exact q,fun b u xs q=>by rw [Zaf (hm b _ q fun z=>z)]; exact q,fun b ps q=>⟨#[],by rw [Zaf (hm b _ q fun z=>z),q]; simp⟩⟩
 by_cases hbe:b = e
 ·subst hbe; exact heo
 ·exact ⟨u,k b u hbe q⟩
end
def trk (h:Heap) (H:Hp):List Addr:=(List.range h.objs.size).filter fun a=>(H a).isSome
def Zmr (h:Heap) (H:Hp):Heap:=PySem.W.hideAll h (trk h H)
theorem Zl1 (h:Heap) (H:Hp):(Zmr h H).objs.size = h.objs.size:=PySem.W.hideAll_size _ _
theorem Zny {h:Heap} {H:Hp} {b:Addr} {o:Obj} (e:h.get? b = some o) (n:H b = none):(Zmr h H).get? b = some o:=
 PySem.W.hideAll_get _ e fun hm=>by
  have q:(H b).isSome = true:=(Jan.mp hm).2
  rw [n] at q; simp at q
theorem of_hidT {h:Heap} {H:Hp} {b:Addr} {o:Obj} (e:(Zmr h H).get? b = some o):h.get? b = some o/\H b = none:=by
 have e':h.get? b = some o:=PySem.W.of_hideAll (trk h H) e
 refine ⟨e',?_⟩
 cases q:H b with
 | none=>rfl
 | some x=>
  have hm:b ∈ trk h H:=Jan.mpr ⟨Jc3.mpr (Jaf e'),by simp [q]⟩
  have z:(Zmr h H).get? b = none:=PySem.W.hideAll_none (trk h H) hm
  rw [z] at e; cases e
def allNews (g h:Heap) (L:Addr):List (Addr × Obj):=(List.range h.objs.size).filterMap fun a=>if a = L\/(g.get? a).isSome = true then none else (h.get? a).map fun o=>(a,o)
def rest (g h:Heap) (L d:Addr):List (Addr × Obj):=(allNews g h L).filter fun p=>decide (p.1 ≠ d)
structure Mod (K:PySem.W.Frag) (mg:Str->Option Value) (base:Heap):Prop where
 kin:K.In base
 glob:base.Ns mainGlobals mg
 blt:∃ mb,base.Ns builtinsNs mb/\∀ x:Str,x ≠ "__name__" -> mb x = bootBuiltins x
 nolimit:base.NoLimit
 seer:base.NoSeer
 bmain:∃ bm ob,mg "__builtins__" = some (.ref bm)/\bm ≠ builtinsNs/\base.get? bm = some ob/\ob.cls = .type "module" /\ ob.dict = some builtinsNs/\ob.data = .plain
def Seen (l:List Env):Prop:=∃ e r,l = e :: r/\e.scope.isGenerator = false/\e.scope.isCoroutine = false/\e.builtins = builtinsNs/\e.globals = mainGlobals
structure Cx where
 prog:Program
 w:World
 K:PySem.W.Frag
 mg:Str->Option Value
 base:Heap
 A:Around
 N:List Str
 s₀:Shared
 H₀:Hp
 env:Env
 outer:List Env
 stack:List Env
 ex:List Addr
 fn:Str->Bool
 calm:Bool
 pn:List (Addr × Obj)
 xe:Value->Shared->Prop
def frs (l:List Env):List Addr:=l.filterMap (·.frame)
abbrev Cx.fs (X:Cx):List Addr:=frs X.outer
def Vis (sc:Scope) (x:Str):Prop:=sc.names.lookup x = some .local\/sc.names.lookup x = some .cell\/sc.names.lookup x = some .free
def Loc (sc:Scope) (x:Str):Prop:=sc.names.lookup x = some .local\/sc.names.lookup x = some .cell
def Look (env:Env) (h:Heap) (m:Str->Option Value) (x:Str) (u:Value):Prop:=
 (env.kindOf x = some .local/\m x = some u)\/((env.kindOf x = some .cell\/env.kindOf x = some .free)/\∃ c,env.cells.lookup x = some c/\h.IsCell c (some u))
structure Cx.Ok (X:Cx):Prop where
 mod:Mod X.K X.mg X.base
 kind:X.env.scope.kind = .function
 glob:X.env.globals = mainGlobals
 blt:X.env.builtins = builtinsNs
 above:X.s₀.heap.objs.size<=X.env.locals
 inj:∀ x y c,X.env.cells.lookup x = some c->X.env.cells.lookup y = some c->x = y
 has:∀ x,(X.env.kindOf x = some .cell\/X.env.kindOf x = some .free)->∃ c,X.env.cells.lookup x = some c
 cab:∀ x c,X.fn x = true->X.env.cells.lookup x = some c->X.s₀.heap.objs.size<=c
 hd:X.calm = true->X.A.handled = none
 frames:X.A.frames = some X.stack
 stk:X.stack = X.outer\/(X.stack = X.env :: X.outer/\X.env.frame = some X.env.locals)
 exf:∀ b ∈ X.ex,b ≠ X.env.locals/\∀ x c,X.env.cells.lookup x = some c->c ≠ b
 bs:∀ b o,X.base.get? b = some o->X.s₀.heap.get? b = some o/\X.H₀ b = none
 bsz:X.base.objs.size<=X.s₀.heap.objs.size
 noex:∀ b o,X.base.get? b = some o->b ∉ X.ex
 exfs:∀ b ∈ X.ex,b ∉ X.fs
 funs:X.s₀.heap.FunFrames X.base X.outer
 frf:∀ b ∈ X.fs,X.H₀ b = none
 top:Seen X.stack
structure Inv (X:Cx) (pins:List (Addr × Obj)) (σ:List (Option V)) (H:Hp) (s:Shared):Prop where
 ok:X.Ok
 os:s.os = X.s₀.os
 bare:AllBare s.gens
 base:Un X.fs X.ex X.H₀ H X.s₀.heap s.heap
 loc:∃ m,s.heap.Ns X.env.locals m/\∀ (i:Nat) (x:Str) (v:V),X.N[i]? = some x->σ[i]? = some (some v)->Vis X.env.scope x->∃ u,RelV v u/\Look X.env s.heap m x u
 cell:∀ x c,X.env.cells.lookup x = some c->∃ v,s.heap.IsCell c v
 free:H X.env.locals = none
 freeC:∀ x c,X.env.cells.lookup x = some c->H c = none
 pin:∀ p ∈ X.pn ++ pins,s.heap.get? p.1 = some p.2/\H p.1 = none/\p.1 ≠ X.env.locals/\p.1 ∉ X.fs/\∀ v,p.2.data ≠ .cell v
 hok:HOk X.prog X.w H s.heap
 len:σ.length = X.N.length
section
variable {X:Cx} {pins:List (Addr × Obj)} {σ:List (Option V)} {H H':Hp} {s:Shared} {h':Heap}
theorem Cx.Ok.nofr (ok:X.Ok) {b:Addr} {o:Obj} (e:X.base.get? b = some o):b ∉ X.fs:=fun hb=>by
 have:=(ok.funs.mem hb).1
 rw [e] at this; cases this
theorem Inv.bs (I:Inv X pins σ H s):∀ b o,X.base.get? b = some o->s.heap.get? b = some o/\H b = none:=fun b o e=>
 ⟨I.base.keep b o (I.ok.bs b o e).1 (I.ok.bs b o e).2 (I.ok.nofr e) (I.ok.noex b o e),I.base.free b o (I.ok.bs b o e).1 (I.ok.bs b o e).2 (I.ok.noex b o e)⟩
theorem Inv.bk (I:Inv X pins σ H s):∀ b o,X.base.get? b = some o->s.heap.get? b = some o:=fun b o e=>(I.bs b o e).1
theorem Inv.mod (I:Inv X pins σ H s):Mod X.K X.mg X.base:=I.ok.mod
theorem Inv.kIn (I:Inv X pins σ H s):X.K.In s.heap:=I.ok.mod.kin.keeps I.bk
theorem Inv.nolimit (I:Inv X pins σ H s):s.heap.NoLimit:=I.ok.mod.nolimit.keeps I.bk
theorem Inv.lt (I:Inv X pins σ H s):X.env.locals < s.heap.objs.size:=let ⟨_,hn,_⟩:=I.loc; hn.lt
theorem Inv.sz (I:Inv X pins σ H s):X.s₀.heap.objs.size<=s.heap.objs.size:=Jba I.ok.above (Jbo I.lt)
theorem Inv.nofs (I:Inv X pins σ H s) {a:Addr} (h:s.heap.objs.size<=a):a ∉ X.fs:=fun hb=>by
 obtain ⟨_,o,ho,_⟩:=I.ok.funs.mem hb
 exact absurd (Jax (Jaf ho) (Jba I.sz h)) (Jbp _)
theorem Inv.cne (I:Inv X pins σ H s):∀ x c,X.env.cells.lookup x = some c->c ≠ X.env.locals:=fun x c e z=>by
 obtain ⟨v,o,ho,hd⟩:=I.cell x c e
 obtain ⟨m,⟨o',es,ep,ho',hd',_⟩,_⟩:=I.loc
 rw [z,ho'] at ho; cases ho; rw [hd'] at hd; cases hd
theorem Inv.funs (I:Inv X pins σ H s):s.heap.FunFrames X.base X.outer:=by
 have all:∀ (l:List Env),(∀ b ∈ frs l,b ∈ X.fs)->X.s₀.heap.FunFrames X.base l->s.heap.FunFrames X.base l:=by
  intro l
  induction l with
  | nil=>intro _ _; trivial
  | cons env r ih=>
   intro hs hl
   obtain ⟨hk,⟨L,o,hf,hn,ho,hd⟩,hr⟩:=hl
   have hL:L ∈ X.fs:=hs L (by unfold frs; rw [Jdw,hf]; exact Jb9)
   obtain ⟨sl,e⟩:=I.base.slot L o ho (I.ok.frf L hL) hL fun z=>I.ok.exfs L z hL
   exact ⟨hk,⟨L,_,hf,hn,e,hd⟩,ih (fun b hb=>hs b (by unfold frs; rw [Jdw,hf]; exact Ja7 _ hb)) hr⟩
 exact all X.outer (fun _ hb=>hb) I.ok.funs
theorem Inv.stack (I:Inv X pins σ H s):s.heap.FunFrames X.base X.stack:=by
 rcases I.ok.stk with e | ⟨e,hf⟩
 ·rw [e]; exact I.funs
 ·rw [e]
  obtain ⟨m,hn,_⟩:=I.loc
  refine .cons (by rw [I.ok.kind]; decide) hf hn ?_ I.funs
  exact Heap.get?_none_of_le (Jba I.ok.bsz I.ok.above)
theorem Inv.stkSub (I:Inv X pins σ H s):∀ b ∈ frs X.stack,b ∈ X.env.locals :: X.fs:=fun b hb=>by
 rcases I.ok.stk with e | ⟨e,hf⟩
 ·rw [e] at hb; exact Ja7 _ hb
 ·rw [e] at hb
  unfold frs at hb
  rw [Jdw,hf] at hb
  exact hb
theorem Inv.stkFree (I:Inv X pins σ H s):∀ b ∈ frs X.stack,H b = none:=fun b hb=>by
 rcases Jam.mp (I.stkSub b hb) with e | hb
 ·rw [e]; exact I.free
 ·obtain ⟨_,o,ho,_⟩:=I.ok.funs.mem hb
  exact I.base.free b o ho (I.ok.frf b hb) fun z=>I.ok.exfs b z hb
theorem Inv.step {g':Array GenState} {t':Nat} {d':Drawn} {ch:List Addr} (I:Inv X pins σ H s)
  (hch:∀ b ∈ ch,(b ∈ X.ex\/X.s₀.heap.objs.size<=b)/\b ≠ X.env.locals/\(∀ x c,X.env.cells.lookup x = some c->c ≠ b)/\∀ p ∈ X.pn ++ pins,p.1 ≠ b)
  (keep:∀ b o,b ≠ X.env.locals->b ∉ X.fs->b ∉ ch->s.heap.get? b = some o->H b = none->h'.get? b = some o)
  (slot:∀ b o,b ≠ X.env.locals->b ∈ X.fs->b ∉ ch->s.heap.get? b = some o->H b = none->∃ sl,h'.get? b = some { o with slots:=sl }) (free:∀ b o,b ∉ ch->s.heap.get? b = some o->H b = none->H' b = none)
  (there:∀ b o,b ∉ ch->s.heap.get? b = some o->∃ o',h'.get? b = some o')
  (tups:∀ b xs,H b = some (.tup xs)->H' b = some (.tup xs)) (frzs:∀ b o u,H b = some (.frz o u)->H' b = some (.frz o u)) (tbls:∀ b ps,H b = some (.tbl ps)->∃ more,H' b = some (.tbl (ps ++ more)))
  (ns:∀ m,s.heap.Ns X.env.locals m->h'.Ns X.env.locals m) (hok:HOk X.prog X.w H' h') (hg:AllBare g'):
  Inv X pins σ H' { s with heap:=h',gens:=g',drawn:=d',toks:=t' }:=by
 have neL:∀ b o,X.s₀.heap.get? b = some o->b ≠ X.env.locals:=fun b o e=>Jay (Jax (Jaf e) I.ok.above)
 have neC:∀ b o,X.s₀.heap.get? b = some o->b ∉ X.ex->b ∉ ch:=fun b o e hx hb=>by
  rcases (hch b hb).1 with z | z
  ·exact hx z
  ·exact absurd (Jax (Jaf e) z) (Jbp _)
 have cellK:∀ x c,X.env.cells.lookup x = some c->∀ v,s.heap.IsCell c v->h'.IsCell c v:=fun x c e v ⟨o,ho,hd⟩=>by
  have nch:c ∉ ch:=fun z=>(hch c z).2.2.1 x c e rfl
  by_cases hc:c ∈ X.fs
  ·obtain ⟨sl,q⟩:=slot c o (I.cne x c e) hc nch ho (I.freeC x c e)
   exact ⟨_,q,hd⟩
  ·exact ⟨o,keep c o (I.cne x c e) hc nch ho (I.freeC x c e),hd⟩
 refine ⟨I.ok,I.os,hg,⟨fun b o e n hb hx=>?_,fun b o e n hb hx=>?_,fun b o e n hx=>?_,fun b o e hx=>?_,fun b xs e=>tups b xs (I.base.tups b xs e),fun b o xs e=>frzs b o xs (I.base.frzs b o xs e),fun b ps e=>?_⟩,?_,fun x c e=>?_,?_,fun x c e=>?_,fun p hp=>?_,hok,I.len⟩
 ·exact keep b o (neL b o e) hb (neC b o e hx) (I.base.keep b o e n hb hx) (I.base.free b o e n hx)
 ·obtain ⟨sl,e1⟩:=I.base.slot b o e n hb hx
  obtain ⟨sl',e2⟩:=slot b _ (neL b o e) hb (neC b o e hx) e1 (I.base.free b o e n hx)
  exact ⟨sl',e2⟩
 ·obtain ⟨o',e1⟩:=I.base.there b o e hx
  exact free b o' (neC b o e hx) e1 (I.base.free b o e n hx)
 ·obtain ⟨o',e1⟩:=I.base.there b o e hx
  exact there b o' (neC b o e hx) e1
 ·obtain ⟨m1,e1⟩:=I.base.tbls b ps e
  obtain ⟨m2,e2⟩:=tbls b _ e1
  exact ⟨m1 ++ m2,by rw [e2,Array.append_assoc]⟩
 ·obtain ⟨m,hn,hl⟩:=I.loc
  refine ⟨m,ns m hn,fun i x v e1 e2 e3=>?_⟩
  obtain ⟨u,r,l⟩:=hl i x v e1 e2 e3
  refine ⟨u,r,?_⟩
  rcases l with l | ⟨k,c,e,z⟩
  ·exact .inl l
  ·exact .inr ⟨k,c,e,cellK x c e _ z⟩
 ·obtain ⟨v,z⟩:=I.cell x c e
  exact ⟨v,cellK x c e v z⟩
 ·obtain ⟨m,⟨o,_,_,ho,_⟩,_⟩:=I.loc
  exact free _ o (fun z=>(hch _ z).2.1 rfl) ho I.free
 ·obtain ⟨v,o,ho,hd⟩:=I.cell x c e
  exact free c o (fun z=>(hch c z).2.2.1 x c e rfl) ho (I.freeC x c e)
 ·obtain ⟨e,n,ne,nf,d⟩:=I.pin p hp
  have nch:p.1 ∉ ch:=fun z=>(hch p.1 z).2.2.2 p hp rfl
  exact ⟨keep p.1 p.2 ne nf nch e n,free p.1 p.2 nch e n,ne,nf,d⟩
theorem Inv.un {t':Nat} (I:Inv X pins σ H s) (u:Un X.fs [] H H' s.heap h') (hok:HOk X.prog X.w H' h'):Inv X pins σ H' { s with heap:=h',toks:=t' }:=by
 obtain ⟨m,⟨o,es,ep,ho,r⟩,_⟩:=id I.loc
 obtain ⟨sl,hL⟩:=u.any ho I.free (by simp)
 exact I.step (g':=s.gens) (d':=s.drawn) (ch:=[]) (fun _ z=>nomatch z) (fun b o _ hb _ e n=>u.keep b o e n hb (by simp)) (fun b o _ hb _ e n=>u.slot b o e n hb (by simp)) (fun b o _ e n=>u.free b o e n (by simp)) (fun b o _ e=>u.there b o e (by simp)) u.tups u.frzs u.tbls (fun m' hm=>by
  obtain ⟨o',es',ep',ho',r'⟩:=hm
  rw [ho] at ho'; cases ho'
  exact ⟨_,es',ep',hL,r'⟩) hok I.bare
theorem Inv.call {g':Array GenState} {t':Nat} {d':Drawn} {ch:List Addr} (I:Inv X pins σ H s) (u:Un (frs X.stack) ch H H' s.heap h') (hok:HOk X.prog X.w H' h') (hg:AllBare g')
  (hch:∀ b ∈ ch,(b ∈ X.ex\/X.s₀.heap.objs.size<=b)/\b ≠ X.env.locals/\(∀ x c,X.env.cells.lookup x = some c->c ≠ b)/\∀ p ∈ X.pn ++ pins,p.1 ≠ b):
  Inv X pins σ H' { s with heap:=h',gens:=g',drawn:=d',toks:=t' }:=by
 obtain ⟨m,⟨o,es,ep,ho,r⟩,_⟩:=id I.loc
 obtain ⟨sl,hL⟩:=u.any ho I.free fun z=>(hch _ z).2.1 rfl
 exact I.step (ch:=ch) hch (fun b o hL hb hc e n=>u.keep b o e n (fun z=>(Jam.mp (I.stkSub b z)).elim hL hb) hc) (fun b o _ _ hc e n=>u.any e n hc) (fun b o hc e n=>u.free b o e n hc) (fun b o hc e=>u.there b o e hc) u.tups u.frzs u.tbls (fun m' hm=>by
  obtain ⟨o',es',ep',ho',r'⟩:=hm
  rw [ho] at ho'; cases ho'
  exact ⟨_,es',ep',hL,r'⟩) hok hg
theorem Inv.turned {t':Nat} {it:Addr} (I:Inv X pins σ H s) (k:∀ b o,b ≠ it->s.heap.get? b = some o->h'.get? b = some o) (hn:H it = none) (hL:it ≠ X.env.locals)
  (h1:it ∈ X.ex\/X.s₀.heap.objs.size<=it) (h2:∀ x c,X.env.cells.lookup x = some c->c ≠ it) (h3:∀ p ∈ X.pn ++ pins,p.1 ≠ it):Inv X pins σ H { s with heap:=h',toks:=t' }:=by
 have nit:∀ b u,H b = some u->b ≠ it:=fun b u e z=>by rw [z,hn] at e; cases e
 refine I.step (g':=s.gens) (d':=s.drawn) (ch:=[it]) (fun b hb=>?_) (fun b o _ _ hc e _=>k b o (fun z=>hc (by simp [z])) e) (fun b o _ _ hc e _=>⟨o.slots,k b o (fun z=>hc (by simp [z])) e⟩) (fun _ _ _ _ n=>n)
  (fun b o hc e=>⟨o,k b o (fun z=>hc (by simp [z])) e⟩) (fun _ _ e=>e) (fun _ _ _ e=>e) (fun b ps e=>⟨#[],by rw [e]; simp⟩) (fun m hm=>?_) (fun b u e=>?_) I.bare
 ·have e:b = it:=by simpa using hb
  subst e
  exact ⟨h1,hL,h2,h3⟩
 ·obtain ⟨o,es,ep,ho,r⟩:=hm
  exact ⟨o,es,ep,k _ o (Jc9 hL) ho,r⟩
 ·refine (I.hok b u e).stay (fun c v hc q=>k c v ?_ q) (fun _ q=>q) (fun _ _ q=>q) fun _ _ _ q=>q
  rcases hc with z | z
  ·rw [z]; exact nit b u e
  ·exact nit c _ z
theorem Inv.tok (I:Inv X pins σ H s) (t:Nat):Inv X pins σ H { s with toks:=t }:=I.un (h':=s.heap) (t':=t) Un.refl I.hok
theorem Inv.kept {t':Nat} (I:Inv X pins σ H s) (k:∀ b u,s.heap.get? b = some u->h'.get? b = some u):Inv X pins σ H { s with heap:=h',toks:=t' }:=I.un (Un.kept k) (I.hok.kept k)
theorem Inv.laid {a:Addr} {o:HO} {t':Nat} (I:Inv X pins σ H s) (k:∀ b u,s.heap.get? b = some u->h'.get? b = some u) (hp:s.heap.objs.size<=a) (new:ObjOk X.prog X.w (upd H a o) h' a o):
  Inv X pins σ (upd H a o) { s with heap:=h',toks:=t' }:=I.un (Un.laid k hp (I.hok.fresh hp)) (I.hok.laid k hp new)
theorem Inv.write {x e:Addr} {o:HO} {t':Nat} (I:Inv X pins σ H s) (mu:Mut (H x)) (he:e = x\/H e = some (.own x)) (k:∀ b u,b ≠ e->s.heap.get? b = some u->h'.get? b = some u) (heo:∃ u,h'.get? e = some u)
  (new:ObjOk X.prog X.w (upd H x o) h' x o):Inv X pins σ (upd H x o) { s with heap:=h',toks:=t' }:=I.un (Un.write mu he k heo) (I.hok.write mu he k heo new)
theorem Inv.pins_of {pins':List (Addr × Obj)} (I:Inv X pins σ H s) (h:∀ p ∈ pins',s.heap.get? p.1 = some p.2/\H p.1 = none/\p.1 ≠ X.env.locals/\p.1 ∉ X.fs/\∀ v,p.2.data ≠ .cell v):Inv X pins' σ H s:=
 ⟨I.ok,I.os,I.bare,I.base,I.loc,I.cell,I.free,I.freeC,fun p hp=>(Jb7.mp hp).elim (fun z=>I.pin p (List.mem_append_left _ z)) (h p),I.hok,I.len⟩
theorem Zi1 {N:List Str} (hN:N.Nodup) {i j:Nat} {x:Str} (a:N[i]? = some x) (b:N[j]? = some x):i = j:=by
 obtain ⟨h1,e1⟩:=Ja0.mp a
 obtain ⟨h2,e2⟩:=Ja0.mp b
 exact (List.getElem_inj hN).mp (e1.trans e2.symm)
theorem Zg4 {M:Model} {A:Around} {E:Value->Shared->Prop} {i:Nat} {x:Str} {v:V} {u:Value} {Q:Unit->Shared->Prop} (I:Inv X pins σ H s) (hN:X.N.Nodup) (hi:X.N[i]? = some x) (hx:Loc X.env.scope x) (r:RelV v u)
  (h:∀ s',Inv X pins (σ.set i (some v)) H s'->(∃ a,Heap.SameBut a s.heap s'.heap/\(a = X.env.locals\/X.env.cells.lookup x = some a))->Q () s') (hf:X.fn x = true\/X.env.scope.names.lookup x = some .local:=by first | exact .inl rfl | exact .inr rfl | assumption):wpAny M A (storeName X.env x u) Q E s:=by
 obtain ⟨m,hn,hl⟩:=id I.loc
 have hcls:(X.env.scope.kind == .class || (X.env.scope.kind == .module && X.env.locals != X.env.globals)) = false:=by rw [I.ok.kind]; rfl
 have hiσ:i < σ.length:=by rw [I.len]; exact (Ja0.mp hi).1
 have cne:=I.cne
 have tracked:∀ {a:Addr} {h':Heap},(∃ o,s.heap.get? a = some o/\H a = none)->Heap.SameBut a s.heap h'->HOk X.prog X.w H h':=fun {a h'} ha hs b ob e=>by
  obtain ⟨_,_,hfree⟩:=ha
  refine (I.hok b ob e).stay (fun c w' hc q=>(hs.2 c ?_).trans q) (fun _ q=>q) (fun _ _ q=>q) fun _ _ _ q=>q
  rintro rfl
  rcases hc with rfl | hc
  ·rw [hfree] at e; cases e
  ·rw [hfree] at hc; cases hc
 rcases hx with hk | hk
 ·refine wpAny_storeName_local hk hn (fun h' hn' hs=>?_) hcls
  obtain ⟨oL,_,_,hoL,_⟩:=id hn
  refine h _ ⟨I.ok,I.os,I.bare,⟨fun b o e n hb hx=>?_,fun b o e n hb hx=>?_,I.base.free,fun b o e hx=>?_,I.base.tups,I.base.frzs,I.base.tbls⟩,⟨_,hn',fun j y v' e1 e2 e3=>?_⟩,fun y c e=>?_,I.free,I.freeC,fun p hp=>?_,tracked ⟨oL,hoL,I.free⟩ hs,by simpa using I.len⟩ ⟨_,hs,.inl rfl⟩
  ·exact (hs.2 b (Jay (Jax (Jaf e) I.ok.above))).trans (I.base.keep b o e n hb hx)
  ·obtain ⟨sl,e1⟩:=I.base.slot b o e n hb hx
   exact ⟨sl,(hs.2 b (Jay (Jax (Jaf e) I.ok.above))).trans e1⟩
  ·obtain ⟨o',e1⟩:=I.base.there b o e hx
   exact ⟨o',(hs.2 b (Jay (Jax (Jaf e) I.ok.above))).trans e1⟩
  ·by_cases hj:j = i
   ·subst hj
    rw [hi] at e1; cases e1
    rw [List.getElem?_set_self hiσ] at e2
    cases e2
    exact ⟨u,r,.inl ⟨hk,by simp⟩⟩
   ·rw [List.getElem?_set_ne (Jc9 hj)] at e2
    obtain ⟨u',r',q⟩:=hl j y v' e1 e2 e3
    refine ⟨u',r',?_⟩
    rcases q with ⟨k,e⟩ | ⟨k,c,e,z⟩
    ·refine .inl ⟨k,?_⟩
     have:y ≠ x:=fun e=>hj (Zi1 hN e1 (e ▸ hi))
     simp [this,e]
    ·exact .inr ⟨k,c,e,z.sameBut hs (cne y c e)⟩
  ·obtain ⟨w',z⟩:=I.cell y c e
   exact ⟨w',z.sameBut hs (cne y c e)⟩
  ·obtain ⟨e,n,ne,nf,d⟩:=I.pin p hp
   exact ⟨(hs.2 p.1 ne).trans e,n,ne,nf,d⟩
 ·have hfn:X.fn x = true:=by
   rcases hf with z | z
   ·exact z
   ·rw [z] at hk; cases hk
  obtain ⟨c,hc⟩:=I.ok.has x (.inl hk)
  obtain ⟨w',z⟩:=I.cell x c hc
  refine wpAny_storeName_cell I.ok.kind hk hc z (fun h' hc' hs=>?_)
  obtain ⟨oc,hoc,hocd⟩:=id z
  refine h { s with heap:=h' } ⟨I.ok,I.os,I.bare,⟨fun b o e n hb hx=>?_,fun b o e n hb hx=>?_,I.base.free,fun b o e hx=>?_,I.base.tups,I.base.frzs,I.base.tbls⟩,⟨m,hn.sameBut hs (Jc9 (cne x c hc)),fun j y v' e1 e2 e3=>?_⟩,fun y c' e=>?_,I.free,I.freeC,fun p hp=>?_,tracked ⟨oc,hoc,I.freeC x c hc⟩ hs,by simpa using I.len⟩ ⟨c,hs,.inr hc⟩
  ·exact (hs.2 b (Jay (Jax (Jaf e) (I.ok.cab x c hfn hc)))).trans (I.base.keep b o e n hb hx)
  ·obtain ⟨sl,e1⟩:=I.base.slot b o e n hb hx
   exact ⟨sl,(hs.2 b (Jay (Jax (Jaf e) (I.ok.cab x c hfn hc)))).trans e1⟩
  ·obtain ⟨o',e1⟩:=I.base.there b o e hx
   exact ⟨o',(hs.2 b (Jay (Jax (Jaf e) (I.ok.cab x c hfn hc)))).trans e1⟩
  ·by_cases hj:j = i
   ·subst hj
    rw [hi] at e1; cases e1
    rw [List.getElem?_set_self hiσ] at e2
    cases e2
    exact ⟨u,r,.inr ⟨.inl hk,c,hc,hc'⟩⟩
   ·rw [List.getElem?_set_ne (Jc9 hj)] at e2
    obtain ⟨u',r',q⟩:=hl j y v' e1 e2 e3
    refine ⟨u',r',?_⟩
    rcases q with q | ⟨k,c',e,z'⟩
    ·exact .inl q
    ·refine .inr ⟨k,c',e,z'.sameBut hs ?_⟩
     rintro rfl
     exact hj (Zi1 hN e1 (I.ok.inj _ _ _ e hc ▸ hi))
  ·by_cases hcc:c' = c
   ·subst hcc; exact ⟨_,hc'⟩
   ·obtain ⟨w2,z2⟩:=I.cell y c' e
    exact ⟨w2,z2.sameBut hs hcc⟩
  ·obtain ⟨e,n,ne,nf,d⟩:=I.pin p hp
   refine ⟨(hs.2 p.1 ?_).trans e,n,ne,nf,d⟩
   intro q
   rw [q,hoc] at e
   have q':oc = p.2:=Ja4 e
   exact d w' (by rw [<- q']; exact hocd)
theorem Zeu {M:Model} {A:Around} {E:Value->Shared->Prop} {i:Nat} {x:Str} {v:V} {u:Value} {Q:Unit->Shared->Prop} (I:Inv X pins σ H s) (hN:X.N.Nodup) (hi:X.N[i]? = some x) (hx:Loc X.env.scope x) (r:RelV v u)
  (h:∀ s',Inv X pins (σ.set i (some v)) H s'->Q () s') (hf:X.fn x = true\/X.env.scope.names.lookup x = some .local:=by first | exact .inl rfl | exact .inr rfl | assumption):wpAny M A (storeName X.env x u) Q E s:=
 Zg4 I hN hi hx r (fun s' I' _=>h s' I') hf
theorem Inv.call' {s':Shared} {ch:List Addr} (I:Inv X pins σ H s) (ho:s'.os = s.os) (u:Un (frs X.stack) ch H H' s.heap s'.heap) (hok:HOk X.prog X.w H' s'.heap) (hg:AllBare s'.gens)
  (hch:∀ b ∈ ch,(b ∈ X.ex\/X.s₀.heap.objs.size<=b)/\b ≠ X.env.locals/\(∀ x c,X.env.cells.lookup x = some c->c ≠ b)/\∀ p ∈ X.pn ++ pins,p.1 ≠ b):Inv X pins σ H' s':=by
 obtain ⟨h',g',d',t',o'⟩:=s'
 have e:o' = s.os:=ho
 subst e
 exact I.call (g':=g') (t':=t') (d':=d') u hok hg hch
end
abbrev XK:=Value->Option Addr->Hp->Prop
abbrev St:=List (Option V)
abbrev VK:=V->Hp->Prop
abbrev TE:=St->Hp->VK->Prop
abbrev TT:=St->Hp->(Bool->Hp->Prop)->Prop
abbrev TA:=St->Hp->(List V->Hp->Prop)->Prop
structure Ends where
 nx:St->Hp->Prop
 rt:VK
 bk:St->Hp->Prop:=fun _ _=>False
 ct:St->Hp->Prop:=fun _ _=>False
abbrev TS:=Ends->St->Hp->Prop
def EP (X:Cx) (pins:List (Addr × Obj)) (σ:St) (Q:VK) (u:Value) (s':Shared):Prop:=∃ v H',Inv X pins σ H' s'/\RelV v u/\Q v H'
def TP (X:Cx) (pins:List (Addr × Obj)) (σ:St) (Q:Bool->Hp->Prop) (b:Bool) (s':Shared):Prop:=∃ H',Inv X pins σ H' s'/\Q b H'
def AP (X:Cx) (pins:List (Addr × Obj)) (σ:St) (Q:List V->Hp->Prop) (us:List Value) (s':Shared):Prop:=∃ vs H',Inv X pins σ H' s'/\Vals vs us/\Q vs H'
def SP (X:Cx) (pins:List (Addr × Obj)) (D:Ends) (f:Flow) (s':Shared):Prop:=
 match f with
 | .next=>∃ σ' H',Inv X pins σ' H' s'/\D.nx σ' H'
 | .brk=>∃ σ' H',Inv X pins σ' H' s'/\D.bk σ' H'
 | .cont=>∃ σ' H',Inv X pins σ' H' s'/\D.ct σ' H'
 | .ret u=>∃ v σ' H',Inv X pins σ' H' s'/\RelV v u/\D.rt v H'
def PE (X:Cx) (e:Expr) (t:TE):Prop:=
 ∀ (pins:List (Addr × Obj)) (s:Shared) (σ:St) (H:Hp) (Q:VK),Inv X pins σ H s->t σ H Q->wpAny (model X.prog X.w) X.A (eval e X.env) (EP X pins σ Q) X.xe s
def PT (X:Cx) (e:Expr) (t:TT):Prop:=
 ∀ (pins:List (Addr × Obj)) (s:Shared) (σ:St) (H:Hp) (Q:Bool->Hp->Prop),Inv X pins σ H s->t σ H Q->wpAny (model X.prog X.w) X.A (isTrue e X.env (eval e X.env)) (TP X pins σ Q) X.xe s
def PW (X:Cx) (e:Expr) (t:TT):Prop:=
 ∀ (whole:Sem Value) (pins:List (Addr × Obj)) (s:Shared) (σ:St) (H:Hp) (Q:Bool->Hp->Prop),Inv X pins σ H s->t σ H Q->wpAny (model X.prog X.w) X.A (isTrue e X.env whole) (TP X pins σ Q) X.xe s
theorem PW.pt {X:Cx} {e:Expr} {t:TT} (h:PW X e t):PT X e t:=h _
def PA (X:Cx) (es:List Expr) (t:TA):Prop:=
 ∀ (pos:Pos) (pins:List (Addr × Obj)) (s:Shared) (σ:St) (H:Hp) (Q:List V->Hp->Prop),Inv X pins σ H s->t σ H Q->wpAny (model X.prog X.w) X.A (spliced (backTo pos (starEach es X.env))) (AP X pins σ Q) X.xe s
def PS (X:Cx) (st:Stmt) (t:TS):Prop:=
 ∀ (pins:List (Addr × Obj)) (s:Shared) (σ:St) (H:Hp) (D:Ends),Inv X pins σ H s->t D σ H->wpAny (model X.prog X.w) X.A (exec st X.env) (SP X pins D) X.xe s
def PSs (X:Cx) (st:List Stmt) (t:TS):Prop:=
 ∀ (pins:List (Addr × Obj)) (s:Shared) (σ:St) (H:Hp) (D:Ends),Inv X pins σ H s->t D σ H->wpAny (model X.prog X.w) X.A (execs st X.env) (SP X pins D) X.xe s
theorem thn {α:Type} {t:Sem α} {Q Q':α->Shared->Prop} {M:Model} {A:Around} {E:Value->Shared->Prop} {s:Shared} (h:wpAny M A t Q E s) (hQ:∀ a s,Q a s->Q' a s):wpAny M A t Q' E s:=Ja5 h hQ fun _ _ x=>x
section
variable {X:Cx}
theorem bin {a b:Expr} {ta tb:TE} (ha:PE X a ta) (hb:PE X b tb) {pins:List (Addr × Obj)} {s:Shared} {σ:St} {H:Hp} {R:V->V->Hp->Prop} (I:Inv X pins σ H s) (h:ta σ H fun x H1=>tb σ H1 fun y H2=>R x y H2)
  {α:Type} {Q:α->Shared->Prop} {f:Value->Value->Sem α}
  (hf:∀ v u s2 x y H2,Inv X pins σ H2 s2->RelV x v->RelV y u->R x y H2->wpAny (model X.prog X.w) X.A (f v u) Q X.xe s2):
  wpAny (model X.prog X.w) X.A (eval a X.env) (fun v s₁=>wpAny (model X.prog X.w) X.A (eval b X.env) (fun u s₂=>wpAny (model X.prog X.w) X.A (f v u) Q X.xe s₂) X.xe s₁) X.xe s:=by
 refine thn (ha pins s σ H _ I h) fun v s1 ⟨x,H1,I1,r1,q1⟩=>?_
 refine thn (hb pins s1 σ H1 _ I1 q1) fun u s2 ⟨y,H2,I2,r2,q2⟩=>?_
 exact hf v u s2 x y H2 I2 r1 r2 q2
def Zje (i:Nat):TE:=fun σ H Q=>∃ v,σ[i]? = some (some v)/\Q v H
def tC (v:V):TE:=fun _ H Q=>Q v H
theorem pe_var {i:Nat} {x:Str} {pos:Pos} (hN:X.N[i]? = some x) (hv:Vis X.env.scope x) (hd:(x == ("__debug__" : Str)) = false:=by decide) (hcd:(x == ("__classdict__" : Str)) = false:=by decide):PE X (.Name x pos) (Zje i):=by
 intro pins s σ H Q I h
 obtain ⟨v,e,h⟩:=h
 obtain ⟨m,hn,hl⟩:=I.loc
 obtain ⟨u,r,l⟩:=hl i x v hN e hv
 have fin:EP X pins σ Q u s:=⟨v,H,I,r,h⟩
 rcases l with ⟨hk,hm⟩ | ⟨hk,c,hc,hcell⟩
 ·exact wpAny_Name (wpAny_loadName_local I.ok.kind hk hn hm fin) hd
 ·rcases hk with hk | hk
  ·exact wpAny_Name (wpAny_loadName_cell I.ok.kind hk hc hcell fin) hd
  ·exact wpAny_Name (wpAny_loadName_free I.ok.kind hk hc hcell fin hcd) hd
theorem Zaa {i j pos}:PE X (.Constant (.int i) j pos) (tC (.int i)):=fun _ _ _ H _ I h=>wpAny_Constant_int ⟨.int i,H,I.tok _,⟨_,rfl⟩,h⟩
theorem Zfe {b j pos}:PE X (.Constant (.bool b) j pos) (tC (.bl b)):=fun _ _ _ H _ I h=>Constant_bool ⟨.bl b,H,I,rfl,h⟩
theorem Zhb {j pos}:PE X (.Constant .none j pos) (tC .non):=fun _ _ _ H _ I h=>Constant_none ⟨.non,H,I,rfl,h⟩
theorem Zk3 {x j pos}:PE X (.Constant (.str x) j pos) (tC (.str x)):=fun _ _ _ H _ I h=>Calls.Constant_str ⟨.str x,H,I.tok _,⟨_,rfl⟩,h⟩
def Gl (X:Cx) (x:Str):Prop:=X.env.kindOf x = some .globalImplicit
theorem Zib {E:Value->Shared->Prop} {pins:List (Addr × Obj)} {s:Shared} {σ:St} {H:Hp} {x:Str} {u:Value} {pos:Pos} {Q:Value->Shared->Prop} (I:Inv X pins σ H s) (hg:Gl X x) (hm:X.mg x = some u) (h:Q u s)
  (hd:(x == ("__debug__" : Str)) = false:=by decide):wpAny (model X.prog X.w) X.A (eval (.Name x pos) X.env) Q E s:=
 Calls.Name_function_global I.ok.kind hg (Calls.loadGlobal_global (by rw [I.ok.glob]; exact I.mod.glob.keeps I.bk) hm h) hd
theorem Zfh {E:Value->Shared->Prop} {pins:List (Addr × Obj)} {s:Shared} {σ:St} {H:Hp} {x:Str} {u:Value} {pos:Pos} {Q:Value->Shared->Prop} (I:Inv X pins σ H s) (hg:Gl X x) (hm:X.mg x = none) (hv:bootBuiltins x = some u) (h:Q u s)
  (hn:x ≠ "__name__" := by decide) (hd:(x == ("__debug__" : Str)) = false:=by decide):wpAny (model X.prog X.w) X.A (eval (.Name x pos) X.env) Q E s:=by
 obtain ⟨mb,h1,h2⟩:=I.mod.blt
 exact Calls.Name_function_global I.ok.kind hg (Calls.loadGlobal_builtin (by rw [I.ok.glob]; exact I.mod.glob.keeps I.bk) hm (by rw [I.ok.blt]; exact h1.keeps I.bk) ((h2 x hn).trans hv) h) hd
theorem pe_glob {x:Str} {v:V} {u:Value} {pos:Pos} (hg:Gl X x) (hm:X.mg x = some u) (r:RelV v u) (hd:(x == ("__debug__" : Str)) = false:=by decide):PE X (.Name x pos) (tC v):=
 fun _ _ _ H _ I h=>Zib I hg hm ⟨v,H,I,r,h⟩ hd
theorem pe_bltn {x:Str} {v:V} {u:Value} {pos:Pos} (hg:Gl X x) (hm:X.mg x = none) (hv:bootBuiltins x = some u) (r:RelV v u) (hn:x ≠ "__name__" := by decide) (hd:(x == ("__debug__" : Str)) = false:=by decide):PE X (.Name x pos) (tC v):=
 fun _ _ _ H _ I h=>Zfh I hg hm hv ⟨v,H,I,r,h⟩ hn hd
variable {a b:Expr} {ta tb:TE} {pos:Pos}
def PC (X:Cx) (op:CmpOp) (a b:Expr) (t:TE):Prop:=
 ∀ (pins:List (Addr × Obj)) (s:Shared) (σ:St) (H:Hp) (Q:VK),Inv X pins σ H s->t σ H Q->
  wpAny (model X.prog X.w) X.A (eval a X.env) (fun v s₁=>wpAny (model X.prog X.w) X.A (eval b X.env) (fun u s₂=>wpAny (model X.prog X.w) X.A (compareOp op v u) (EP X pins σ Q) X.xe s₂) X.xe s₁) X.xe s
theorem Znr (b:Expr) {op:CmpOp} (h:op ≠ .In) (h2:op ≠ .NotIn):behindInMarks op b = false:=by
 have e1:(op == CmpOp.In) = false:=by cases op <;> first | rfl | exact absurd rfl h
 have e2:(op == CmpOp.NotIn) = false:=by cases op <;> first | rfl | exact absurd rfl h2
 cases b <;> simp [behindInMarks,e1,e2]
def tB (t:TE):TT:=fun σ H Q=>t σ H fun x H1=>∃ c,x = .bl c/\Q c H1
theorem pt_cmp {op:CmpOp} {t:TE} (h:PC X op a b t) (h1:behindInMarks op b = false:=by first | exact Znr _ (by decide) (by decide) | rfl):PT X (.Compare a [op] [b] pos) (tB t):=by
 intro pins s σ H Q I hw
 refine wpAny_isTrue_Compare1 (thn (h pins s σ H _ I hw) fun v s1 h1=>thn h1 fun u s2 h2=>thn h2 fun c s3 ⟨x,H1,I1,r1,q1⟩=>?_) h1
 obtain ⟨d,rfl,q⟩:=q1
 cases r1
 exact Jbn ⟨H1,I1,q⟩
theorem Zeq {e:Expr} {t:TE} (h:PE X e t) (he:∀ whole,isTrue e X.env whole = (do let v <- whole; standAt e.pos; holding [v] (truthy v)):=by intro _; rfl):PT X e (tB t):=by
 intro pins s σ H Q I hw
 refine isTrue_plain (thn (h pins s σ H _ I hw) fun v s1 ⟨x,H1,I1,r1,q1⟩=>?_) (he _)
 obtain ⟨d,rfl,q⟩:=q1
 cases r1
 exact Jbn ⟨H1,I1,q⟩
variable {tA tB':TT} {rest:List Expr}
def tAnd (t u:TT):TT:=fun σ H Q=>t σ H fun c H1=>if c = true then u σ H1 Q else Q false H1
def tOr (t u:TT):TT:=fun σ H Q=>t σ H fun c H1=>if c = true then Q true H1 else u σ H1 Q
def tNot (t:TT):TT:=fun σ H Q=>t σ H fun c H1=>Q (!c) H1
theorem Ze9 (ha:PT X a tA):PW X (.BoolOp .And [a] pos) tA:=by
 intro wh pins s σ H Q I h
 refine isTrue_and (thn (ha pins s σ H Q I h) fun c s1 e=>?_)
 cases c with
 | true=>exact isTrue_and_nil e
 | false=>exact e
theorem Zfz (ha:PT X a tA):PW X (.BoolOp .Or [a] pos) tA:=by
 intro wh pins s σ H Q I h
 refine isTrue_or (thn (ha pins s σ H Q I h) fun c s1 e=>?_)
 cases c with
 | false=>exact isTrue_or_nil e
 | true=>exact e
theorem Zha (ha:PT X a tA) (hb:PW X (.BoolOp .And (b :: rest) pos) tB'):PW X (.BoolOp .And (a :: b :: rest) pos) (tAnd tA tB'):=by
 intro wh pins s σ H Q I h
 refine isTrue_and (thn (ha pins s σ H _ I h) fun c s1 ⟨H1,I1,q1⟩=>?_)
 cases c with
 | true=>exact hb wh pins s1 σ H1 Q I1 q1
 | false=>exact ⟨H1,I1,q1⟩
theorem Zjj (ha:PT X a tA) (hb:PW X (.BoolOp .Or (b :: rest) pos) tB'):PW X (.BoolOp .Or (a :: b :: rest) pos) (tOr tA tB'):=by
 intro wh pins s σ H Q I h
 refine isTrue_or (thn (ha pins s σ H _ I h) fun c s1 ⟨H1,I1,q1⟩=>?_)
 cases c with
 | true=>exact ⟨H1,I1,q1⟩
 | false=>exact hb wh pins s1 σ H1 Q I1 q1
theorem Zdt (ha:PT X a tA):PT X (.UnaryOp .Not a pos) (tNot tA):=by
 intro pins s σ H Q I h
 exact isTrue_not (ha pins s σ H (fun c H1=>Q (!c) H1) I h)
def tAndV (ta tb:TE):TE:=fun σ H Q=>ta σ H fun x H1=>∃ c,x = .bl c/\if c = true then tb σ H1 Q else Q (.bl false) H1
def tOrV (ta tb:TE):TE:=fun σ H Q=>ta σ H fun x H1=>∃ c,x = .bl c/\if c = true then Q (.bl true) H1 else tb σ H1 Q
def tNotV (ta:TE):TE:=fun σ H Q=>ta σ H fun x H1=>∃ c,x = .bl c/\Q (.bl (!c)) H1
theorem Zoj {op} {t:TE} (h:PE X a t):PE X (.BoolOp op [a] pos) t:=fun pins s σ H Q I hw=>BoolOp_one (h pins s σ H Q I hw)
theorem Zok (ha:PE X a ta) (hb:PE X (.BoolOp .And (b :: rest) pos) tb):PE X (.BoolOp .And (a :: b :: rest) pos) (tAndV ta tb):=by
 intro pins s σ H Q I h
 refine BoolOp_and (thn (ha pins s σ H _ I h) fun v s1 ⟨x,H1,I1,r1,q1⟩=>?_)
 obtain ⟨c,rfl,q1⟩:=q1
 cases r1
 refine Jbn ?_
 cases c with
 | true=>exact hb pins s1 σ H1 Q I1 q1
 | false=>exact ⟨.bl false,H1,I1,rfl,q1⟩
theorem pe_not (ha:PE X a ta):PE X (.UnaryOp .Not a pos) (tNotV ta):=by
 intro pins s σ H Q I h
 refine UnaryOp_ (thn (ha pins s σ H _ I h) fun v s1 ⟨x,H1,I1,r1,q1⟩=>?_)
 obtain ⟨c,rfl,q1⟩:=q1
 cases r1
 exact not_of (Jbn ⟨.bl (!c),H1,I1,rfl,q1⟩)
def tIf (t:TT) (ta tb:TE):TE:=fun σ H Q=>t σ H fun c H1=>if c = true then ta σ H1 Q else tb σ H1 Q
end
def SqL (K:PySem.W.Frag) (H:Hp) (a:Addr) (xs:List V):Prop:=
 Rd H a (.lst xs) \/
  ∃ (o:Obj) (its:Array Value) (n:Nat),K.lookup a = some o/\o.cls = .type "list" /\ o.dict = none/\o.data = .seq its n/\its.size<=sizeLine/\Vals xs its.toList
def SqT (K:PySem.W.Frag) (H:Hp) (a:Addr) (xs:List V):Prop:=
 Rd H a (.tup xs) \/
  ∃ (o:Obj) (its:Array Value) (n:Nat),K.lookup a = some o/\o.cls = .type "tuple" /\ o.data = .seq its n/\its.size<=sizeLine/\Vals xs its.toList
def absV:Value->Option V
 | .none=>some .non
 | .bool b=>some (.bl b)
 | .int i _=>some (.int i)
 | .str x _=>some (.str x)
 | .bytes b _=>some (.byt b)
 | .float b _=>some (.flt b)
 | .ref a=>some (.ref a)
 | .type n=>some (.ty n)
 | _=>none
theorem RelV.abs {x:V} {u:Value} (r:RelV x u):absV u = some x:=by
 cases x with
 | non=>cases r; rfl
 | bl _=>cases r; rfl
 | int _=>obtain ⟨t,rfl⟩:=r; rfl
 | str _=>obtain ⟨t,rfl⟩:=r; rfl
 | byt _=>obtain ⟨t,rfl⟩:=r; rfl
 | flt _=>obtain ⟨t,rfl⟩:=r; rfl
 | ref _=>cases r; rfl
 | ty _=>cases r; rfl
theorem RelV.inj {x y:V} {u:Value} (r:RelV x u) (q:RelV y u):x = y:=Ja4 (r.abs.symm.trans q.abs)
theorem Vals.inj:∀ {xs ys:List V} {us:List Value},Vals xs us->Vals ys us->xs = ys
 | _,_,_,.nil,.nil=>rfl
 | _,_,_,.cons r t,.cons r' t'=>by rw [r.inj r',Vals.inj t t']
section
variable {X:Cx} {pins:List (Addr × Obj)} {σ:St} {H:Hp} {s:Shared} {a:Addr} {xs ys:List V}
theorem SqL.of {K:PySem.W.Frag} (h:H a = some (.lst xs)):SqL K H a xs:=.inl (.inl h)
theorem SqT.of {K:PySem.W.Frag} (h:H a = some (.tup xs)):SqT K H a xs:=.inl (.inl h)
theorem Inv.list (I:Inv X pins σ H s) (h:SqL X.K H a xs):∃ its:List Value,Vals xs its/\PlainL s.heap a its.toArray/\xs.length<=sizeLine:=by
 rcases h with h | ⟨o,its,n,hk,hc,hd,hs,hz,r⟩
 ·obtain ⟨z,its,n,r,e⟩:=h.ok I.hok
  exact ⟨its,r,⟨_,n,e,rfl,rfl,rfl⟩,z⟩
 ·refine ⟨its.toList,r,⟨o,n,I.kIn a o hk,hc,hd,by simpa using hs⟩,?_⟩
  have e:=r.length
  simp only [Jdx] at e
  omega
theorem Inv.tuple (I:Inv X pins σ H s) (h:SqT X.K H a xs):∃ its:List Value,Vals xs its/\IsTup s.heap a its.toArray/\xs.length<=sizeLine:=by
 rcases h with h | ⟨o,its,n,hk,hc,hs,hz,r⟩
 ·obtain ⟨z,its,r,p⟩:=h.ok I.hok
  exact ⟨its,r,p,z⟩
 ·refine ⟨its.toList,r,⟨o,I.kIn a o hk,hc,n,by simpa using hs⟩,?_⟩
  have e:=r.length
  simp only [Jdx] at e
  omega
theorem Inv.list_inj (I:Inv X pins σ H s) (h:SqL X.K H a xs) (h':SqL X.K H a ys):xs = ys:=by
 obtain ⟨its,r,⟨o,n,e,_,_,d⟩,_⟩:=I.list h
 obtain ⟨its',r',⟨o',n',e',_,_,d'⟩,_⟩:=I.list h'
 rw [e] at e'; cases e'
 rw [d] at d'
 injection d' with d1 _
 have:its = its':=by simpa using Jdj Array.toList d1
 subst this
 exact r.inj r'
theorem Inv.tuple_inj (I:Inv X pins σ H s) (h:SqT X.K H a xs) (h':SqT X.K H a ys):xs = ys:=by
 obtain ⟨its,r,⟨o,e,_,n,d⟩,_⟩:=I.tuple h
 obtain ⟨its',r',⟨o',e',_,n',d'⟩,_⟩:=I.tuple h'
 rw [e] at e'; cases e'
 rw [d] at d'
 injection d' with d1 _
 have:its = its':=by simpa using Jdj Array.toList d1
 subst this
 exact r.inj r'
end
abbrev Cx.wish (X:Cx) (E:Value->Shared->Prop):Cx:={ X with xe:=E }
abbrev Cx.nox (X:Cx):Cx:=X.wish fun _ _=>False
theorem Cx.Ok.wish {X:Cx} (ok:X.Ok) (E:Value->Shared->Prop):(X.wish E).Ok:=
 ⟨ok.mod,ok.kind,ok.glob,ok.blt,ok.above,ok.inj,ok.has,ok.cab,ok.hd,ok.frames,ok.stk,ok.exf,ok.bs,ok.bsz,ok.noex,ok.exfs,ok.funs,ok.frf,ok.top⟩
theorem Cx.Ok.unwish {X:Cx} {E:Value->Shared->Prop} (ok:(X.wish E).Ok):X.Ok:=
 ⟨ok.mod,ok.kind,ok.glob,ok.blt,ok.above,ok.inj,ok.has,ok.cab,ok.hd,ok.frames,ok.stk,ok.exf,ok.bs,ok.bsz,ok.noex,ok.exfs,ok.funs,ok.frf,ok.top⟩
section
variable {X:Cx} {pins:List (Addr × Obj)} {σ:St} {H:Hp} {s:Shared} {E:Value->Shared->Prop}
theorem Inv.wish (I:Inv X pins σ H s) (E:Value->Shared->Prop):Inv (X.wish E) pins σ H s:=⟨I.ok.wish E,I.os,I.bare,I.base,I.loc,I.cell,I.free,I.freeC,I.pin,I.hok,I.len⟩
theorem Inv.unwish (I:Inv (X.wish E) pins σ H s):Inv X pins σ H s:=⟨I.ok.unwish,I.os,I.bare,I.base,I.loc,I.cell,I.free,I.freeC,I.pin,I.hok,I.len⟩
theorem SP.unwish {D:Ends} {f:Flow} {s':Shared} (h:SP (X.wish E) pins D f s'):SP X pins D f s':=by
 cases f with
 | next=>obtain ⟨σ',H',I,q⟩:=h; exact ⟨σ',H',I.unwish,q⟩
 | brk=>obtain ⟨σ',H',I,q⟩:=h; exact ⟨σ',H',I.unwish,q⟩
 | cont=>obtain ⟨σ',H',I,q⟩:=h; exact ⟨σ',H',I.unwish,q⟩
 | ret u=>obtain ⟨v,σ',H',I,r,q⟩:=h; exact ⟨v,σ',H',I.unwish,r,q⟩
theorem PSs.nox {st:List Stmt} {t:TS} (h:PSs X.nox st t):PSs X st t:=fun pins s σ H D I hw=>
 Ja5 (h pins s σ H D (I.wish _) hw) (fun _ _ q=>q.unwish) fun _ _ z=>False.elim z
end
section
variable {X:Cx} {st:Stmt} {rest:List Stmt} {t u:TS} {e:Expr} {te:TE} {pos:Pos}
def tNext:TS:=fun D σ H=>D.nx σ H
def tSeq (t u:TS):TS:=fun D σ H=>t { D with nx:=u D } σ H
theorem Zan:PSs X [] tNext:=fun _ _ σ H _ I h=>Jdy ⟨σ,H,I,h⟩
theorem Zm7 (h1:PS X st t) (h2:PSs X rest u):PSs X (st :: rest) (tSeq t u):=by
 intro pins s σ H D I h
 refine wpAny_execs_cons (thn (h1 pins s σ H { D with nx:=u D } I h) fun f s1 q=>?_)
 cases f with
 | next=>
  obtain ⟨σ',H',I',q⟩:=q
  exact h2 pins s1 σ' H' D I' q
 | ret v=>exact q
 | brk=>exact q
 | cont=>exact q
theorem Zaq (h1:PS X st t):PSs X [st] t:=by
 intro pins s σ H D I h
 refine wpAny_execs_cons (thn (h1 pins s σ H D I h) fun f s1 q=>?_)
 cases f with
 | next=>exact Jdy q
 | ret v=>exact q
 | brk=>exact q
 | cont=>exact q
theorem Inv.quiet {pins:List (Addr × Obj)} {σ:St} {H:Hp} {s:Shared} (I:Inv X pins σ H s):interactive X.env = false:=by simp [interactive,I.ok.kind]
def tDrop (te:TE):TS:=fun D σ H=>te σ H fun _ H1=>D.nx σ H1
theorem Zdh (he:PE X e te) (hs:swapsWith e none pos.line X.env = pure false:=by rfl):PS X (.Expr e pos) (tDrop te):=by
 intro pins s σ H D I h
 exact wpAny_Expr_any (thn (he pins s σ H _ I h) fun v s1 ⟨x,H1,I1,r1,q1⟩=>⟨σ,H1,I1,q1⟩) I.quiet hs
def tRet (te:TE):TS:=fun D σ H=>te σ H D.rt
theorem ps_ret (he:PE X e te):PS X (.Return (some e) pos) (tRet te):=by
 intro pins s σ H D I h
 exact wpAny_Return_some (thn (he pins s σ H _ I h) fun v s1 ⟨x,H1,I1,r1,q1⟩=>⟨x,σ,H1,I1,r1,q1⟩)
def tRetN:TS:=fun D _ H=>D.rt .non H
def tIfS (c:TT) (t u:TS):TS:=fun D σ H=>c σ H fun b H1=>if b = true then t D σ H1 else u D σ H1
theorem Zbj {c:Expr} {a b:List Stmt} {tc:TT} (hc:PT X c tc) (ha:PSs X a t) (hb:PSs X b u):PS X (.If c a b pos) (tIfS tc t u):=by
 intro pins s σ H D I h
 refine wpAny_If (thn (hc pins s σ H _ I h) fun d s1 ⟨H1,I1,q1⟩=>?_)
 cases d with
 | true=>exact ha pins s1 σ H1 D I1 q1
 | false=>exact hb pins s1 σ H1 D I1 q1
def tNever:TS:=fun _ _ _=>False
theorem Zm8:PS X st tNever:=fun _ _ _ _ _ _ h=>h.elim
end
abbrev TG:=V->St->Hp->(St->Hp->Prop)->Prop
abbrev TGs:=List V->St->Hp->(St->Hp->Prop)->Prop
def PG (X:Cx) (target:Expr) (t:TG):Prop:=
 ∀ (pins:List (Addr × Obj)) (s:Shared) (σ:St) (H:Hp) (v:V) (u:Value) (Q:St->Hp->Prop),Inv X pins σ H s->RelV v u->t v σ H Q->
  wpAny (model X.prog X.w) X.A (assign target X.env u) (fun _ s'=>∃ σ' H',Inv X pins σ' H' s'/\Q σ' H') X.xe s
def PGs (X:Cx) (ts:List Expr) (t:TGs):Prop:=
 ∀ (pins:List (Addr × Obj)) (s:Shared) (σ:St) (H:Hp) (vs:List V) (us:List Value) (Q:St->Hp->Prop),Inv X pins σ H s->Vals vs us->t vs σ H Q->
  wpAny (model X.prog X.w) X.A (assignInOrder ((assignEach ts X.env).map (·.2)) us) (fun _ s'=>∃ σ' H',Inv X pins σ' H' s'/\Q σ' H') X.xe s
abbrev TSet:=V->V->V->Hp->(Hp->Prop)->Prop
def PSet (X:Cx) (t:TSet):Prop:=
 ∀ (pins:List (Addr × Obj)) (s:Shared) (σ:St) (H:Hp) (o i v:V) (ov iv u:Value) (Q:Hp->Prop),Inv X pins σ H s->RelV o ov->RelV i iv->RelV v u->t o i v H Q->
  wpAny (model X.prog X.w) X.A (setItem ov iv u) (fun _ s'=>∃ H',Inv X pins σ H' s'/\Q H') X.xe s
abbrev TIp:=V->V->Hp->VK->Prop
section
variable {X:Cx} {pos:Pos}
def Zbd (i:Nat):TG:=fun v σ H Q=>Q (σ.set i (some v)) H
theorem Zag {i:Nat} {x:Str} (hN:X.N.Nodup) (hi:X.N[i]? = some x) (hx:Loc X.env.scope x) (hf:X.fn x = true\/X.env.scope.names.lookup x = some .local:=by first | exact .inl rfl | exact .inr rfl | assumption):PG X (.Name x pos) (Zbd i):=by
 intro pins s σ H v u Q I r h
 exact wpAny_assign_Name (Zeu I hN hi hx r (fun s' I'=>⟨_,H,I',h⟩) hf)
def gNil:TGs:=fun vs σ H Q=>vs = []/\Q σ H
def Zju (t:TG) (u:TGs):TGs:=fun vs σ H Q=>∃ v r,vs = v :: r/\t v σ H fun σ' H'=>u r σ' H' Q
theorem Zdi:PGs X [] gNil:=by
 intro pins s σ H vs us Q I r h
 obtain ⟨e,h⟩:=h
 subst e
 cases r
 exact assignInOrder_nil ⟨σ,H,I,h⟩
theorem Za3 {e:Expr} {es:List Expr} {t:TG} {u:TGs} (h1:PG X e t) (h2:PGs X es u)
  (hs:(assignEach (e :: es) X.env).map (·.2) = assign e X.env :: (assignEach es X.env).map (·.2):=by rfl):PGs X (e :: es) (Zju t u):=by
 intro pins s σ H vs us Q I r h
 obtain ⟨v,vr,e1,h⟩:=h
 subst e1
 cases r with
 | cons r rr=>
  rw [hs]
  refine assignInOrder_cons (thn (h1 pins s σ H _ _ _ I r h) fun _ s1 ⟨σ1,H1,I1,q1⟩=>?_)
  exact h2 pins s1 σ1 H1 _ _ Q I1 rr q1
def gTup (K:PySem.W.Frag) (n:Nat) (t:TGs):TG:=fun v σ H Q=>∃ a xs,v = .ref a/\SqT K H a xs/\xs.length = n/\t xs σ H Q
theorem Zf0 {es:List Expr} {k:Nat} {t:TGs} {n:Nat} (hc:X.calm = true) (h:PGs X es t)
  (hn:(assignEach es X.env).length = n:=by rfl) (hst:(assignEach es X.env).findIdx? (·.1) = none:=by rfl):PG X (.Tuple es k pos) (gTup X.K n t):=by
 intro pins s σ H v u Q I r hw
 obtain ⟨a,xs,e1,hq,hl,hw⟩:=hw
 subst e1
 cases r
 obtain ⟨its,rv,ht,hz⟩:=I.tuple hq
 refine assign_Tuple_tuple (I.ok.hd hc) ht (by simp [hn,<- hl,rv.length]) hst fun h' hx=>?_
 have I1:Inv X pins σ H { s with heap:=h' }:=I.kept (t':=s.toks) fun b o e=>hx b o (Jay (Jaf e)) e
 exact h pins _ σ H xs _ Q I1 (by simpa using rv) hw
def gSub (to ti:TE) (t:TSet):TG:=fun v σ H Q=>to σ H fun o H1=>ti σ H1 fun i H2=>t o i v H2 fun H3=>Q σ H3
theorem Zk0 {o i:Expr} {to ti:TE} {t:TSet} (ho:PE X o to) (hi:PE X i ti) (hs:PSet X t)
  (ha:∀ v,assign (.Subscript o i pos) X.env v = (do
   let ov <- holding [v] (eval o X.env)
   let iv <- holding [v,ov] (eval i X.env)
   standAt pos
   holding [v,ov,iv] (setItem ov iv v)
   release [v,ov,iv] []):=by intro _; rfl):PG X (.Subscript o i pos) (gSub to ti t):=by
 intro pins s σ H v u Q I r h
 rw [ha]
 refine Jac (Jbq (thn (ho pins s σ H _ I h) fun ov s1 ⟨x,H1,I1,r1,q1⟩=>?_))
 refine Jac (Jbq (thn (hi pins s1 σ H1 _ I1 q1) fun iv s2 ⟨y,H2,I2,r2,q2⟩=>?_))
 refine Jac (Jb5 (Jac (Jbq (thn (hs pins s2 σ H2 x y v ov iv u _ I2 r1 r2 r q2) fun _ s3 ⟨H3,I3,q3⟩=>?_))))
 exact wpAny_release ⟨σ,H3,I3,q3⟩
def tAsg (te:TE) (g:TG):TS:=fun D σ H=>te σ H fun x H1=>g x σ H1 D.nx
theorem Zfb {tg e:Expr} {te:TE} {g:TG} (he:PE X e te) (hg:PG X tg g) (hs:swapsWithSole [tg] e pos.line X.env = pure false:=by rfl) (hw:swappedStores [tg] e X.env = pure none:=by rfl)
  (h1:(assignEach [tg] X.env).map (·.2) = [assign tg X.env]:=by rfl):PS X (.Assign [tg] e pos) (tAsg te g):=by
 intro pins s σ H D I h
 refine wpAny_Assign_stores (thn (he pins s σ H _ I h) fun v s1 ⟨x,H1,I1,r1,q1⟩=>?_) hs hw
 rw [h1]
 exact thn (hg pins s1 σ H1 x v _ I1 r1 q1) fun _ s2 q=>q
theorem Zam {i:Nat} {x:Str} {e:Expr} {te:TE} {pos':Pos} (hN:X.N.Nodup) (hi:X.N[i]? = some x) (hx:Loc X.env.scope x) (he:PE X e te) (hs:swapsWith e (some (.Name x pos')) pos.line X.env = pure false:=by rfl) (hf:X.fn x = true\/X.env.scope.names.lookup x = some .local:=by first | exact .inl rfl | exact .inr rfl | assumption):
  PS X (.Assign [.Name x pos'] e pos) (tAsg te (Zbd i)):=by
 intro pins s σ H D I h
 refine wpAny_Assign_Name (thn (he pins s σ H _ I h) fun v s1 ⟨y,H1,I1,r1,q1⟩=>?_) hs
 exact Zeu I1 hN hi hx r1 (fun s2 I2=>⟨_,H1,I2,q1⟩) hf
def tPar (i j:Nat) (ta:TA):TS:=fun D σ H=>ta σ H fun vs H1=>∃ v w,vs = [v,w]/\D.nx ((σ.set i (some v)).set j (some w)) H1
theorem ps_par {i j:Nat} {x y:Str} {a b:Expr} {ta:TA} {px py pt:Pos} {kt k2 pt2} (hc:X.calm = true) (hN:X.N.Nodup) (hi:X.N[i]? = some x) (hj:X.N[j]? = some y) (hij:i ≠ j)
  (hx:X.env.scope.names.lookup x = some .local) (hy:X.env.scope.names.lookup y = some .local) (ha:PA X [a,b] ta)
  (hw:swappedStores [.Tuple [.Name x px,.Name y py] kt pt] (.Tuple [a,b] k2 pt2) X.env = pure (some [x,y]))
  (hs:swapsWithSole [.Tuple [.Name x px,.Name y py] kt pt] (.Tuple [a,b] k2 pt2) pos.line X.env = pure false:=by rfl):
  PS X (.Assign [.Tuple [.Name x px,.Name y py] kt pt] (.Tuple [a,b] k2 pt2) pos) (tPar i j ta):=by
 intro pins s σ H D I h
 rw [exec_Assign_arm]
 refine Jac (Jb5 ?_)
 rw [hs]
 refine Jac (Jap ?_)
 rw [if_neg (by decide)]
 refine Jac (Tuple_ (thn (ha _ pins s σ H _ I h) fun us s1 ⟨vs,H1,I1,r1,q1⟩=>?_))
 obtain ⟨v,w,e1,q1⟩:=q1
 subst e1
 obtain ⟨u1,u2,rfl,rv,rw'⟩:∃ u1 u2,us = [u1,u2]/\RelV v u1/\RelV w u2:=by
  cases r1 with
  | cons p q=>
   cases q with
   | cons p' q'=>
    cases q'
    exact ⟨_,_,rfl,p,p'⟩
 refine Jdg ?_ (by show 2<=sizeLine; decide)
 have I2:Inv X pins σ H1 { s1 with heap:=s1.heap.push { cls:=.type "tuple",data:=.seq [u1,u2].toArray } }:=I1.kept (t':=s1.toks) fun b o e=>Jad _ e
 rw [hw]
 refine Jac (Jap ?_)
 show wpAny (model X.prog X.w) X.A (do rule "assign.swapped-stores"; let items <- unpackItems (.ref s1.heap.objs.size) 2 none; assignInOrder [fun v=>bindName X.env y v,fun v=>bindName X.env x v] items.reverse; pure Flow.next) _ _ _
 refine Jac (wpAny_rule (Jac (unpackItems_tuple (items:=#[u1,u2]) (I.ok.hd hc) (IsTup.new s1.heap _) fun h' hx'=>?_)))
 have I3:=I2.kept (h':=h') (t':=s1.toks) fun b o e=>hx' b o (Jay (Jaf e)) e
 show wpAny _ _ (assignInOrder [fun v=>bindName X.env y v,fun v=>bindName X.env x v] [u2,u1] >>= fun _=>pure Flow.next) _ _ _
 refine Jac (assignInOrder_cons (wpAny_bindName (Zeu I3 hN hj (.inl hy) rw' (fun s2 I4=>?_) (.inr hy))))
 refine assignInOrder_cons (wpAny_bindName (Zeu I4 hN hi (.inl hx) rv (fun s3 I5=>assignInOrder_nil (Jap ?_)) (.inr hx)))
 rw [List.set_comm _ _ (Jc9 hij)] at I5
 exact ⟨_,H1,I5,q1⟩
def tAug (i:Nat) (te:TE) (ti:TIp):TS:=fun D σ H=>∃ x,σ[i]? = some (some x)/\te σ H fun y H1=>ti x y H1 fun z H2=>D.nx (σ.set i (some z)) H2
def tAugS (to ti te:TE) (tget:V->V->Hp->VK->Prop) (tip:TIp) (tset:TSet):TS:=fun D σ H=>to σ H fun o H1=>ti σ H1 fun i H2=>tget o i H2 fun x H3=>te σ H3 fun y H4=>tip x y H4 fun z H5=>tset o i z H5 fun H6=>D.nx σ H6
def ipI (f:Int->Int->Int):TIp:=fun x y H Q=>∃ i j,x = .int i/\y = .int j/\Q (.int (f i j)) H
end
section
variable {X:Cx} {pos:Pos}
def tWhile (c:TT) (tb:TS):TS:=fun D σ H=>∃ W:Nat->St->Hp->Prop,(∃ m,W m σ H)/\∀ m σ H,W m σ H->
 c σ H fun b H1=>if b = true then ∃ N:St->Hp->Prop,(∀ σ' H',N σ' H'->∃ m',m' < m/\W m' σ' H')/\tb { D with nx:=N,ct:=N,bk:=D.nx } σ H1 else D.nx σ H1
theorem Zgl {c:Expr} {body:List Stmt} {tc:TT} {tb:TS} (hp:PassesOwn (model X.prog X.w) X.A X.env X.xe) (hc:PT X c tc) (hb:PSs X body tb):PS X (.While c body [] pos) (tWhile tc tb):=by
 intro pins s σ H D I h
 obtain ⟨W,⟨m0,w0⟩,turn⟩:=h
 refine wpAny_While (codeAny_whileLoop (fun n s'=>∃ σ' H',Inv X pins σ' H' s'/\W n σ' H') ?_ m0 ⟨σ,H,I,w0⟩)
 rintro n s1 ⟨σ1,H1,I1,w1⟩
 refine Jcl hp (thn (hc pins s1 σ1 H1 _ I1 (turn n σ1 H1 w1)) fun b s2 ⟨H2,I2,q2⟩=>?_)
 cases b with
 | true=>
  obtain ⟨N,hN,q2⟩:=q2
  rw [if_pos rfl]
  refine Jcl hp (thn (hb pins s2 σ1 H2 _ I2 q2) fun f s3 q3=>?_)
  cases f with
  | next=>
   obtain ⟨σ3,H3,I3,n3⟩:=q3
   obtain ⟨m',hm,w3⟩:=hN σ3 H3 n3
   exact ⟨m',hm,σ3,H3,I3,w3⟩
  | cont=>
   obtain ⟨σ3,H3,I3,n3⟩:=q3
   obtain ⟨m',hm,w3⟩:=hN σ3 H3 n3
   exact ⟨m',hm,σ3,H3,I3,w3⟩
  | brk=>exact q3
  | ret v=>exact q3
 | false=>
  rw [if_neg Jaj]
  exact Jdy ⟨σ1,H2,I2,q2⟩
end
structure It where
 go:Nat->Hp->Prop
 yld:Nat->Hp->V->Hp->Prop
 stop:Nat->Hp->Prop
def FpOk (X:Cx) (pins:List (Addr × Obj)) (H:Hp) (b:Addr):Prop:=
 H b = none/\b ≠ X.env.locals/\b ∉ X.fs/\(b ∈ X.ex\/X.s₀.heap.objs.size<=b)/\(∀ x c,X.env.cells.lookup x = some c->c ≠ b)/\∀ p ∈ X.pn ++ pins,p.1 ≠ b
theorem Inv.fpOk {X:Cx} {pins:List (Addr × Obj)} {σ:St} {H H':Hp} {s:Shared} {b:Addr} (I:Inv X pins σ H s) (hb:s.heap.objs.size<=b) (hn:H' b = none):FpOk X pins H' b:=by
 refine ⟨hn,Jdl (Jax I.lt hb),I.nofs hb,.inr (Jba I.sz hb),fun x c e z=>?_,fun p hp z=>?_⟩
 ·obtain ⟨v,q⟩:=I.cell x c e
  exact absurd (Jax q.lt (by rw [z]; exact hb)) (Jbp _)
 ·exact absurd (Jax (Jaf (I.pin p hp).1) (by rw [z]; exact hb)) (Jbp _)
structure Turn (P:Program) (w:World) (K:PySem.W.Frag) (tg:Expr) (J:It) (fp:List Addr) (it:Addr) (tn:Nat->Heap->Prop):Prop where
 mem:it ∈ fp
 obj:∀ i h,tn i h->∀ b ∈ fp,∃ o,h.get? b = some o/\∀ v,o.data ≠ .cell v
 keep:∀ i h h',tn i h->(∀ b ∈ fp,∀ o,h.get? b = some o->h'.get? b = some o)->tn i h'
 item:∀ (X:Cx),X.prog = P->X.w = w->X.K = K->X.calm = true->∀ (i:Nat) (pins:List (Addr × Obj)) (s:Shared) (σ:St) (H:Hp) (E:Value->Shared->Prop),Inv X pins σ H s->(∀ b ∈ fp,FpOk X pins H b)->tn i s.heap->J.go i H->
  wpAny (model P w) X.A (pyNext (.ref it)) (fun r s1=>∃ u,r = some u /\
   wpAny (model P w) X.A (letOwnedTupleGo tg (.ref it) u) (fun _ s2=>∃ x H',Inv X pins σ H' s2/\RelV x u/\J.yld i H x H'/\tn (i + 1) s2.heap/\∀ b ∈ fp,H' b = none) E s1) E s
 done:∀ (X:Cx),X.prog = P->X.w = w->X.K = K->X.calm = true->∀ (i:Nat) (pins:List (Addr × Obj)) (s:Shared) (σ:St) (H:Hp) (E:Value->Shared->Prop),Inv X pins σ H s->(∀ b ∈ fp,FpOk X pins H b)->tn i s.heap->J.stop i H->
  wpAny (model P w) X.A (pyNext (.ref it)) (fun r s1=>r = none/\Inv X pins σ H s1) E s
 self:∀ (A:Around) (i:Nat) (s:Shared) (Q:Value->Shared->Prop) (E:Value->Shared->Prop),tn i s.heap->Q (.ref it) s->wpAny (model P w) A (pyIter (.ref it)) Q E s
abbrev TI:=St->Hp->(It->Hp->Prop)->Prop
def PIE (X:Cx) (pins:List (Addr × Obj)) (σ:St) (tg:Expr) (R:It->Hp->Prop) (itv:Value) (s2:Shared):Prop:=
 ∃ (it:Addr) (fp:List Addr) (tn:Nat->Heap->Prop) (J:It) (H':Hp),itv = .ref it/\Inv X pins σ H' s2/\Turn X.prog X.w X.K tg J fp it tn/\tn 0 s2.heap/\(∀ b ∈ fp,FpOk X pins H' b)/\R J H'
def PI (X:Cx) (tg iter:Expr) (wi:TI):Prop:=
 ∀ (pins:List (Addr × Obj)) (s:Shared) (σ:St) (H:Hp) (R:It->Hp->Prop),Inv X pins σ H s->wi σ H R->
  wpAny (model X.prog X.w) X.A (eval iter X.env) (fun v s1=>wpAny (model X.prog X.w) X.A (pyIter v) (PIE X pins σ tg R) X.xe s1) X.xe s
theorem go_of {M:Model} {A:Around} {E:Value->Shared->Prop} {s:Shared} {tg:Expr} {it:Addr} {u:Value} {o:Obj} {n:String} {vs:Array Value} {Q:Unit->Shared->Prop} (ho:s.heap.get? it = some o) (hc:o.cls = .type n) (hd:o.data = .fields vs)
  (hn:["enumerate","zip","dict_itemiterator","dict_reverseitemiterator","odict_iterator","itertools.zip_longest","itertools.pairwise"].contains n = false) (hQ:Q () s):wpAny M A (letOwnedTupleGo tg (.ref it) u) Q E s:=by
 unfold letOwnedTupleGo
 cases tg <;> first
  | exact Jap hQ
  | (cases u <;> first
    | exact Jap hQ
    | (refine Jac (wpAny_load ho ?_); rw [hc,hd]; show wpAny M A (if (["enumerate","zip","dict_itemiterator","dict_reverseitemiterator","odict_iterator","itertools.zip_longest","itertools.pairwise"].contains n && vs[0]? == some (rawInt _)) = true then _ else _) Q E s; rw [if_neg (by intro h; rw [hn,Bool.false_and] at h; cases h)]; exact Jap hQ))
def Itl (K:PySem.W.Frag) (a:Addr):It:=
 ⟨fun i H=>∃ xs x,SqL K H a xs/\xs[i]? = some x,fun i H x H'=>H' = H/\∀ xs,SqL K H a xs->xs[i]? = some x,fun i H=>∃ xs,SqL K H a xs/\xs.length<=i⟩
def Itt (K:PySem.W.Frag) (a:Addr):It:=
 ⟨fun i H=>∃ xs x,SqT K H a xs/\xs[i]? = some x,fun i H x H'=>H' = H/\∀ xs,SqT K H a xs->xs[i]? = some x,fun i H=>∃ xs,SqT K H a xs/\xs.length<=i⟩
def Itr (lo:Int) (n:Nat):It:=⟨fun i _=>i < n,fun i H x H'=>H' = H/\x = .int (lo + i),fun i _=>n<=i⟩
theorem Zj3 {P:Program} {w:World} {K:PySem.W.Frag} {tg:Expr} (a it:Addr):Turn P w K tg (Itl K a) [it] it (fun i h=>h.IsListIter it a i) where
 mem:=by simp
 obj:=fun i h st b hb=>by
  have e:b = it:=by simpa using hb
  subst e
  obtain ⟨o,e,c,d⟩:=st
  exact ⟨o,e,fun v z=>by rw [d] at z; cases z⟩
 keep:=fun i h h' st k=>st.at fun o e=>k it (by simp) o e
 item:=by
  intro X hP hw hK hc i pins s σ H E I hf st hg
  subst hP hw hK
  obtain ⟨xs,x,hq,hx⟩:=hg
  obtain ⟨its,rv,p,hz⟩:=I.list hq
  obtain ⟨u,hu,ru⟩:=rv.get hx
  obtain ⟨f0,f1,f2,f3,f4,f5⟩:=hf it (by simp)
  refine Jcu st p.isList (x:=u) (by simpa using hu) fun h' st' sb=>?_
  have I1:Inv X pins σ H { s with heap:=h' }:=I.turned (t':=s.toks) (fun b o hb e=>(sb.2 b hb).trans e) f0 f1 f3 f4 f5
  obtain ⟨o,e,c,d⟩:=id st'
  exact ⟨u,rfl,go_of (s:={ s with heap:=h' }) e c d (by decide) ⟨x,H,I1,ru,⟨rfl,fun ys hy=>by rw [I.list_inj hy hq]; exact hx⟩,st',fun b hb=>(hf b hb).1⟩⟩
 done:=by
  intro X hP hw hK hc i pins s σ H E I hf st hg
  subst hP hw hK
  obtain ⟨xs,hq,hx⟩:=hg
  obtain ⟨its,rv,p,hz⟩:=I.list hq
  obtain ⟨f0,f1,f2,f3,f4,f5⟩:=hf it (by simp)
  have hl:=rv.length
  exact Jdm (I.ok.hd hc) st p.isList (by simp; omega) fun h' eb=>⟨rfl,I.turned (t':=s.toks) (fun b o hb e=>eb b o hb e) f0 f1 f3 f4 f5⟩
 self:=fun _ _ _ _ _ st h=>wpAny_pyIter_listiter st h
theorem Zjc {P:Program} {w:World} {K:PySem.W.Frag} {tg:Expr} (a it:Addr):Turn P w K tg (Itt K a) [it] it (fun i h=>h.IsTupleIter it a i) where
 mem:=by simp
 obj:=fun i h st b hb=>by
  have e:b = it:=by simpa using hb
  subst e
  obtain ⟨o,e,c,d⟩:=st
  exact ⟨o,e,fun v z=>by rw [d] at z; cases z⟩
 keep:=fun i h h' st k=>st.at fun o e=>k it (by simp) o e
 item:=by
  intro X hP hw hK hc i pins s σ H E I hf st hg
  subst hP hw hK
  obtain ⟨xs,x,hq,hx⟩:=hg
  obtain ⟨its,rv,p,hz⟩:=I.tuple hq
  obtain ⟨u,hu,ru⟩:=rv.get hx
  obtain ⟨f0,f1,f2,f3,f4,f5⟩:=hf it (by simp)
  refine wpAny_pyNext_tuple_item st (show s.heap.IsTuple a its.toArray from p) (x:=u) (by simpa using hu) fun h' st' sb=>?_
  have I1:Inv X pins σ H { s with heap:=h' }:=I.turned (t':=s.toks) (fun b o hb e=>(sb.2 b hb).trans e) f0 f1 f3 f4 f5
  obtain ⟨o,e,c,d⟩:=id st'
  exact ⟨u,rfl,go_of (s:={ s with heap:=h' }) e c d (by decide) ⟨x,H,I1,ru,⟨rfl,fun ys hy=>by rw [I.tuple_inj hy hq]; exact hx⟩,st',fun b hb=>(hf b hb).1⟩⟩
 done:=by
  intro X hP hw hK hc i pins s σ H E I hf st hg
  subst hP hw hK
  obtain ⟨xs,hq,hx⟩:=hg
  obtain ⟨its,rv,p,hz⟩:=I.tuple hq
  obtain ⟨f0,f1,f2,f3,f4,f5⟩:=hf it (by simp)
  have hl:=rv.length
  exact wpAny_pyNext_tuple_end (I.ok.hd hc) st (show s.heap.IsTuple a its.toArray from p) (by simp; omega) fun h' eb=>⟨rfl,I.turned (t':=s.toks) (fun b o hb e=>eb b o hb e) f0 f1 f3 f4 f5⟩
 self:=fun _ _ _ _ _ st h=>wpAny_pyIter_tupleiter st h
theorem Zjd {P:Program} {w:World} {K:PySem.W.Frag} {tg:Expr} (it:Addr) (lo:Int) (n:Nat):Turn P w K tg (Itr lo n) [it] it (fun i h=>IsRangeIter h it (lo + (i:Nat) * 1) ((n:Int) - (i:Nat)) 1) where
 mem:=by simp
 obj:=fun i h st b hb=>by
  have e:b = it:=by simpa using hb
  subst e
  exact ⟨_,st,fun v z=>by
   have z':Data.fields _ = Data.cell v:=z
   cases z'⟩
 keep:=fun i h h' st k=>k it (by simp) _ st
 item:=by
  intro X hP hw hK hc i pins s σ H E I hf st hg
  subst hP hw hK
  obtain ⟨f0,f1,f2,f3,f4,f5⟩:=hf it (by simp)
  have W:=Walks.range (prog:=X.prog) (w:=X.w) (I.ok.hd hc) it lo 1 n
  refine W.item i s _ _ hg st fun v h' tk hv st' kk=>?_
  obtain ⟨t,rfl⟩:=hv
  have I1:Inv X pins σ H { s with heap:=h',toks:=tk }:=I.turned (fun b o hb e=>kk b o (by simpa using hb) e) f0 f1 f3 f4 f5
  refine ⟨_,rfl,go_of (s:={ s with heap:=h',toks:=tk }) (n:="range_iterator") st' rfl rfl (by decide) ⟨.int (lo + i),H,I1,⟨t,?_⟩,⟨rfl,rfl⟩,st',fun b hb=>(hf b hb).1⟩⟩
  rw [Int.mul_one]
 done:=by
  intro X hP hw hK hc i pins s σ H E I hf st hg
  subst hP hw hK
  obtain ⟨f0,f1,f2,f3,f4,f5⟩:=hf it (by simp)
  exact wpAny_pyNext_range_end (I.ok.hd hc) st (by have:n<=i:=hg; omega) fun h' eb=>⟨rfl,I.turned (t':=s.toks) (fun b o hb e=>eb b o hb e) f0 f1 f3 f4 f5⟩
 self:=fun _ _ _ _ _ st h=>wpAny_pyIter_rangeiter st h
section
variable {X:Cx} {tg:Expr}
def iList (K:PySem.W.Frag) (tl:TE):TI:=fun σ H R=>tl σ H fun x H1=>∃ a,x = .ref a/\(∃ xs,SqL K H1 a xs)/\R (Itl K a) H1
def iTup (K:PySem.W.Frag) (tl:TE):TI:=fun σ H R=>tl σ H fun x H1=>∃ a,x = .ref a/\(∃ xs,SqT K H1 a xs)/\R (Itt K a) H1
theorem Zbe {l:Expr} {tl:TE} (hl:PE X l tl):PI X tg l (iList X.K tl):=by
 intro pins s σ H R I h
 refine thn (hl pins s σ H _ I h) fun v s1 ⟨x,H1,I1,r1,q1⟩=>?_
 obtain ⟨a,e,⟨xs,hq⟩,q⟩:=q1
 subst e
 cases r1
 obtain ⟨its,rv,p,hz⟩:=I1.list hq
 refine Jc0 p.isList ?_
 refine ⟨s1.heap.objs.size,[s1.heap.objs.size],_,_,H1,rfl,I1.kept (t':=s1.toks) fun b o e=>Jad _ e,Zj3 a _,⟨_,Jas _ rfl,rfl,rfl⟩,fun b hb=>?_,q⟩
 have e:b = s1.heap.objs.size:=by simpa using hb
 subst e
 exact I1.fpOk (Jae _) (I1.hok.fresh (Jae _))
theorem Zoi {l:Expr} {tl:TE} (hl:PE X l tl):PI X tg l (iTup X.K tl):=by
 intro pins s σ H R I h
 refine thn (hl pins s σ H _ I h) fun v s1 ⟨x,H1,I1,r1,q1⟩=>?_
 obtain ⟨a,e,⟨xs,hq⟩,q⟩:=q1
 subst e
 cases r1
 obtain ⟨its,rv,p,hz⟩:=I1.tuple hq
 refine wpAny_pyIter_tuple (show s1.heap.IsTuple a its.toArray from p) ?_
 refine ⟨s1.heap.objs.size,[s1.heap.objs.size],_,_,H1,rfl,I1.kept (t':=s1.toks) fun b o e=>Jad _ e,Zjc a _,⟨_,Jas _ rfl,rfl,rfl⟩,fun b hb=>?_,q⟩
 have e:b = s1.heap.objs.size:=by simpa using hb
 subst e
 exact I1.fpOk (Jae _) (I1.hok.fresh (Jae _))
theorem Ziw {pins:List (Addr × Obj)} {σ:St} {H:Hp} {s:Shared} {R:It->Hp->Prop} {E:Value->Shared->Prop} {lo hi:Int} {t u v:Tok} {tk:Nat} (I:Inv X pins σ H s) (h1:-(2 ^ 62)<=lo) (h2:lo < 2 ^ 62) (h3:-(2 ^ 62)<=hi) (h4:hi < 2 ^ 62)
  (q:R (Itr lo (hi - lo).toNat) H):wpAny (model X.prog X.w) X.A (pyIter (.ref s.heap.objs.size)) (PIE X pins σ tg R) E { s with heap:=s.heap.push { cls:=.type "range",data:=.fields #[.int lo t,.int hi u,.int 1 v] },toks:=tk }:=by
 refine wpAny_pyIter_range (IsRange.new ..) (small_one h1 h2 h3 h4) ?_
 have I1:Inv X pins σ H { s with heap:=s.heap.push { cls:=.type "range",data:=.fields #[.int lo t,.int hi u,.int 1 v] },toks:=tk }:=I.kept fun b o e=>Jad _ e
 refine ⟨(s.heap.push { cls:=.type "range",data:=.fields #[.int lo t,.int hi u,.int 1 v] }).objs.size,[(s.heap.push { cls:=.type "range",data:=.fields #[.int lo t,.int hi u,.int 1 v] }).objs.size],_,_,H,rfl,
  I1.kept (t':=tk) fun b o e=>Jad _ e,Zjd _ lo (hi - lo).toNat,?_,fun b hb=>?_,q⟩
 ·have e1:lo + ((0:Nat):Int) * 1 = lo:=by simp
  have e2:(((hi - lo).toNat:Nat):Int) - ((0:Nat):Int) = Builtin.Range.rangeSize lo hi 1:=by rw [rangeSize_one]; split <;> omega
  show IsRangeIter _ _ (lo + ((0:Nat):Int) * 1) ((((hi - lo).toNat:Nat):Int) - ((0:Nat):Int)) 1
  rw [e1,e2]
  exact Jas _ rfl
 ·have e:b = (s.heap.push { cls:=.type "range",data:=.fields #[.int lo t,.int hi u,.int 1 v] }).objs.size:=by simpa using hb
  subst e
  exact I1.fpOk (Jae _) (I1.hok.fresh (Jae _))
def Zl0 (ta:TA):TI:=fun σ H R=>ta σ H fun vs H1=>∃ j:Int,vs = [.int j]/\-(2 ^ 62)<=j/\j < 2 ^ 62/\R (Itr 0 j.toNat) H1
def iRng2 (ta:TA):TI:=fun σ H R=>ta σ H fun vs H1=>∃ i j:Int,vs = [.int i,.int j]/\(-(2 ^ 62)<=i/\i < 2 ^ 62/\-(2 ^ 62)<=j/\j < 2 ^ 62)/\R (Itr i (j - i).toNat) H1
theorem Zky {a:Expr} {ta:TA} {p pos:Pos} (hg:Gl X "range") (hm:X.mg "range" = none) (ha:PA X [a] ta) (hs:starEach [a] X.env = [(false,eval a X.env)]:=by rfl):PI X tg (.Call (.Name "range" p) [a] [] pos) (Zl0 ta):=by
 intro pins s σ H R I h
 refine Call_ (Zfh I hg hm boot_range (Jcf (thn (ha pos pins s σ H _ I h) fun us s1 ⟨vs,H1,I1,r1,q1⟩=>?_) hs rfl))
 obtain ⟨j,e,q1,q2,q⟩:=q1
 subst e
 cases r1 with
 | cons r rr=>
  cases rr
  obtain ⟨t,rfl⟩:=r
  exact call_range_1 (Ziw I1 (by omega) (by omega) q1 q2 (by simpa using q))
theorem Zkx {a b:Expr} {ta:TA} {p pos:Pos} (hg:Gl X "range") (hm:X.mg "range" = none) (ha:PA X [a,b] ta) (hs:starEach [a,b] X.env = [(false,eval a X.env),(false,eval b X.env)]:=by rfl) (hs2:starEach [b] X.env = [(false,eval b X.env)]:=by rfl):
  PI X tg (.Call (.Name "range" p) [a,b] [] pos) (iRng2 ta):=by
 intro pins s σ H R I h
 refine Call_ (Zfh I hg hm boot_range (Jcf (thn (ha pos pins s σ H _ I h) fun us s1 ⟨vs,H1,I1,r1,q1⟩=>?_) (by rw [hs,hs2]) (by rw [hs2]; rfl)))
 obtain ⟨i,j,e,⟨q1,q2,q3,q4⟩,q⟩:=q1
 subst e
 cases r1 with
 | cons r rr=>
  cases rr with
  | cons r' rr=>
   cases rr
   obtain ⟨t,rfl⟩:=r
   obtain ⟨t',rfl⟩:=r'
   exact call_range_2 (Ziw I1 q1 q2 q3 q4 q)
def tFor (wi:TI) (g:TG) (tb:TS):TS:=fun D σ H=>wi σ H fun J H1=>∃ W:Nat->Nat->St->Hp->Prop,(∃ m,W 0 m σ H1)/\∀ i m σ H,W i m σ H->
 (J.stop i H/\D.nx σ H)\/(J.go i H/\∃ N:St->Hp->Prop,(∀ σ' H',N σ' H'->∃ m',m' < m/\W (i + 1) m' σ' H')/\∀ x H',J.yld i H x H'->g x σ H' fun σ2 H2=>tb { D with nx:=N,ct:=N,bk:=D.nx } σ2 H2)
def Zd4 (fp:List Addr) (h:Heap):List (Addr × Obj):=fp.filterMap fun b=>(h.get? b).map fun o=>(b,o)
theorem Za8 {fp:List Addr} {h:Heap} {b:Addr} {o:Obj} (hb:b ∈ fp) (e:h.get? b = some o):(b,o) ∈ Zd4 fp h:=List.mem_filterMap.mpr ⟨b,hb,by rw [e]; rfl⟩
theorem Zk9 {fp:List Addr} {h:Heap} {p:Addr × Obj} (hp:p ∈ Zd4 fp h):p.1 ∈ fp/\h.get? p.1 = some p.2:=by
 obtain ⟨b,hb,e⟩:=List.mem_filterMap.mp hp
 cases q:h.get? b with
 | none=>rw [q] at e; cases e
 | some o=>
  rw [q] at e
  have e':(b,o) = p:=Ja4 e
  subst e'
  exact ⟨hb,q⟩
theorem Inv.pinned {pins:List (Addr × Obj)} {σ:St} {H:Hp} {s:Shared} {fp:List Addr} (I:Inv X pins σ H s) (hf:∀ b ∈ fp,FpOk X pins H b) (ho:∀ b ∈ fp,∃ o,s.heap.get? b = some o/\∀ v,o.data ≠ .cell v):Inv X (pins ++ Zd4 fp s.heap) σ H s:=
 I.pins_of fun p hp=>(Jb7.mp hp).elim (fun z=>I.pin p (Jah _ z)) fun z=>by
  obtain ⟨hb,e⟩:=Zk9 z
  obtain ⟨f0,f1,f2,_⟩:=hf p.1 hb
  obtain ⟨o,e',d⟩:=ho p.1 hb
  rw [e] at e'; cases e'
  exact ⟨e,f0,f1,f2,d⟩
theorem Inv.unpinned {pins pl:List (Addr × Obj)} {σ:St} {H:Hp} {s:Shared} (I:Inv X (pins ++ pl) σ H s):Inv X pins σ H s:=I.pins_of fun p hp=>I.pin p (Jah _ (List.mem_append_left _ hp))
theorem Zcp {iter:Expr} {body:List Stmt} {wi:TI} {g:TG} {tb:TS} {pos:Pos} (hp:PassesOwn (model X.prog X.w) X.A X.env X.xe) (hc:X.calm = true) (hi:PI X tg iter wi) (hg:PG X tg g) (hb:PSs X body tb)
  (hs:∀ x,foldedSetIterable iter X.env x = pure x:=by intro _; rfl):PS X (.For tg iter body [] pos) (tFor wi g tb):=by
 intro pins s σ H D I h
 refine wpAny_For (thn (hi pins s σ H _ I h) fun v s1 h1=>thn h1 fun itv s2 h2=>?_) hs
 obtain ⟨it,fp,tn,J,H2,e,I2,T,st2,f2,W,⟨m0,w0⟩,turn⟩:=h2
 subst e
 -- what stays true of the iterator's objects through the loop
 have stat:∀ {H':Hp},(∀ b ∈ fp,H' b = none)->∀ b ∈ fp,FpOk X pins H' b:=fun hn b hb=>⟨hn b hb,(f2 b hb).2⟩
 refine codeAny_forLoop_any (fun n s'=>∃ i σ' H',Inv X pins σ' H' s'/\tn i s'.heap/\(∀ b ∈ fp,H' b = none)/\W i n σ' H') ?_ m0 ⟨0,σ,H2,I2,st2,fun b hb=>(f2 b hb).1,w0⟩
 rintro n s3 ⟨i,σ3,H3,I3,st3,fr3,w3⟩
 rcases turn i n σ3 H3 w3 with ⟨stop,qn⟩ | ⟨go,N,hN,step⟩
 ·refine Jcl hp (thn (T.done X rfl rfl rfl hc i pins s3 σ3 H3 X.xe I3 (stat fr3) st3 stop) fun r s4 ⟨hr,I4⟩=>?_)
  subst hr
  exact Jdy ⟨σ3,H3,I4,qn⟩
 ·refine Jcl hp (thn (T.item X rfl rfl rfl hc i pins s3 σ3 H3 X.xe I3 (stat fr3) st3 go) fun r s4 ⟨u,hr,h4⟩=>?_)
  subst hr
  refine Jcl hp (thn h4 fun _ s5 ⟨x,H5,I5,r5,y5,st5,fr5⟩=>?_)
  have I5':=I5.pinned (stat fr5) (T.obj _ _ st5)
  refine Jcl hp (thn (hg _ s5 σ3 H5 x u _ I5' r5 (step x H5 y5)) fun _ s6 ⟨σ6,H6,I6,q6⟩=>?_)
  refine Jcl hp (thn (hb _ s6 σ6 H6 _ I6 q6) fun f s7 q7=>?_)
  have again:∀ {σ7:St} {H7:Hp},Inv X (pins ++ Zd4 fp s5.heap) σ7 H7 s7->N σ7 H7->∃ m,m < n/\∃ i σ' H',Inv X pins σ' H' s7/\tn i s7.heap/\(∀ b ∈ fp,H' b = none)/\W i m σ' H':=fun {σ7 H7} I7 n7=>by
   obtain ⟨m',hm,w7⟩:=hN σ7 H7 n7
   refine ⟨m',hm,i + 1,σ7,H7,I7.unpinned,T.keep _ _ _ st5 fun b hb o e=>(I7.pin (b,o) (Jah _ (Jah _ (Za8 hb e)))).1,fun b hb=>?_,w7⟩
   obtain ⟨o,e,d⟩:=T.obj _ _ st5 b hb
   exact (I7.pin (b,o) (Jah _ (Jah _ (Za8 hb e)))).2.1
  cases f with
  | next=>obtain ⟨σ7,H7,I7,n7⟩:=q7; exact again I7 n7
  | cont=>obtain ⟨σ7,H7,I7,n7⟩:=q7; exact again I7 n7
  | brk=>obtain ⟨σ7,H7,I7,q7⟩:=q7; exact ⟨σ7,H7,I7.unpinned,q7⟩
  | ret v=>obtain ⟨x7,σ7,H7,I7,r7,q7⟩:=q7; exact ⟨x7,σ7,H7,I7.unpinned,r7,q7⟩
end
theorem Zex {K:PySem.W.Frag} {a:Addr} {xs:List V} {g:TG} {tb:TS} {D:Ends} {σ:St} {H:Hp} (Pv:Nat->St->Hp->Prop) (h0:Pv 0 σ H) (hl:∀ i σ H,i<=xs.length->Pv i σ H->SqL K H a xs)
  (hs:∀ i x σ H,xs[i]? = some x->Pv i σ H->g x σ H fun σ2 H2=>tb { D with nx:=Pv (i + 1),ct:=Pv (i + 1),bk:=D.nx } σ2 H2) (hd:∀ σ H,Pv xs.length σ H->D.nx σ H):
  ∃ W:Nat->Nat->St->Hp->Prop,(∃ m,W 0 m σ H)/\∀ i m σ H,W i m σ H->
   ((Itl K a).stop i H/\D.nx σ H)\/((Itl K a).go i H/\∃ N:St->Hp->Prop,(∀ σ' H',N σ' H'->∃ m',m' < m/\W (i + 1) m' σ' H')/\∀ x H',(Itl K a).yld i H x H'->g x σ H' fun σ2 H2=>tb { D with nx:=N,ct:=N,bk:=D.nx } σ2 H2):=by
 refine ⟨fun i m σ H=>m = xs.length - i/\i<=xs.length/\Pv i σ H,⟨xs.length,by simp,Jb1 _,h0⟩,?_⟩
 rintro i m σ H ⟨rfl,hi,p⟩
 have q:=hl i σ H hi p
 by_cases hlt:i < xs.length
 ·refine .inr ⟨⟨xs,xs[i],q,by simp [hlt]⟩,Pv (i + 1),fun σ' H' p'=>⟨xs.length - (i + 1),by omega,rfl,hlt,p'⟩,fun x H' y=>?_⟩
  obtain ⟨e,y⟩:=y
  subst e
  exact hs i x σ _ (y xs q) p
 ·have e:i = xs.length:=by omega
  subst e
  exact .inl ⟨⟨xs,q,Jae _⟩,hd σ H p⟩
theorem Zbm {lo:Int} {n:Nat} {g:TG} {tb:TS} {D:Ends} {σ:St} {H:Hp} (Pv:Nat->St->Hp->Prop) (h0:Pv 0 σ H)
  (hs:∀ i σ H,i < n->Pv i σ H->g (.int (lo + i)) σ H fun σ2 H2=>tb { D with nx:=Pv (i + 1),ct:=Pv (i + 1),bk:=D.nx } σ2 H2) (hd:∀ σ H,Pv n σ H->D.nx σ H):
  ∃ W:Nat->Nat->St->Hp->Prop,(∃ m,W 0 m σ H)/\∀ i m σ H,W i m σ H->
   ((Itr lo n).stop i H/\D.nx σ H)\/((Itr lo n).go i H/\∃ N:St->Hp->Prop,(∀ σ' H',N σ' H'->∃ m',m' < m/\W (i + 1) m' σ' H')/\∀ x H',(Itr lo n).yld i H x H'->g x σ H' fun σ2 H2=>tb { D with nx:=N,ct:=N,bk:=D.nx } σ2 H2):=by
 refine ⟨fun i m σ H=>m = n - i/\i<=n/\Pv i σ H,⟨n,by simp,Jb1 _,h0⟩,?_⟩
 rintro i m σ H ⟨rfl,hi,p⟩
 by_cases hlt:i < n
 ·refine .inr ⟨hlt,Pv (i + 1),fun σ' H' p'=>⟨n - (i + 1),by omega,rfl,hlt,p'⟩,fun x H' y=>?_⟩
  obtain ⟨e,y⟩:=y
  subst e y
  exact hs i σ _ hlt p
 ·have e:i = n:=by omega
  subst e
  exact .inl ⟨Jae _,hd σ H p⟩
abbrev R2:=V->V->Hp->VK->Prop
def OpR (X:Cx) (f:Value->Value->Sem Value) (r:R2):Prop:=
 ∀ (pins:List (Addr × Obj)) (s:Shared) (σ:St) (H:Hp) (x y:V) (v u:Value) (Q:VK),Inv X pins σ H s->RelV x v->RelV y u->r x y H Q->
  wpAny (model X.prog X.w) X.A (f v u) (EP X pins σ Q) X.xe s
def Zd8 (X:Cx) (f:Value) (r:List V->Hp->VK->Prop):Prop:=
 ∀ (pins:List (Addr × Obj)) (s:Shared) (σ:St) (H:Hp) (xs:List V) (us:List Value) (Q:VK),Inv X pins σ H s->Vals xs us->r xs H Q->
  wpAny (model X.prog X.w) X.A (call f us) (EP X pins σ Q) X.xe s
def TruR (X:Cx) (r:V->Hp->(Bool->Hp->Prop)->Prop):Prop:=
 ∀ (pins:List (Addr × Obj)) (s:Shared) (σ:St) (H:Hp) (x:V) (v:Value) (Q:Bool->Hp->Prop),Inv X pins σ H s->RelV x v->r x H Q->
  wpAny (model X.prog X.w) X.A (truthy v) (TP X pins σ Q) X.xe s
def tOp (r:R2) (ta tb:TE):TE:=fun σ H Q=>ta σ H fun x H1=>tb σ H1 fun y H2=>r x y H2 Q
def tUn (r:V->Hp->VK->Prop) (ta:TE):TE:=fun σ H Q=>ta σ H fun x H1=>r x H1 Q
def rI (C:Int->Int->Prop) (g:Int->Int->V):R2:=fun x y H Q=>∃ i j,x = .int i/\y = .int j/\C i j/\Q (g i j) H
def rI0 (g:Int->Int->V):R2:=fun x y H Q=>∃ i j,x = .int i/\y = .int j/\Q (g i j) H
def rU (g:Int->V):V->Hp->VK->Prop:=fun x H Q=>∃ i,x = .int i/\Q (g i) H
section
variable {X:Cx} {a b c:Expr} {ta tb tc:TE} {pos:Pos}
theorem binT (ha:PE X a ta) (hb:PE X b tb) {pins:List (Addr × Obj)} {s:Shared} {σ:St} {H:Hp} {R:V->V->Hp->Prop} (I:Inv X pins σ H s)
  (h:ta σ H fun x H1=>tb σ H1 fun y H2=>R x y H2) {Q:Value->Shared->Prop} {f:Value->Value->Sem Value}
  (hf:∀ v u s2 x y H2,Inv X pins σ H2 s2->RelV x v->RelV y u->R x y H2->wpAny (model X.prog X.w) X.A (f v u) Q X.xe s2):
  wpAny (model X.prog X.w) X.A (eval a X.env) (fun v s₁=>wpAny (model X.prog X.w) X.A (eval b X.env) (fun u s₂=>wpAny (model X.prog X.w) X.A (f v u) Q X.xe s₂) X.xe s₁) X.xe s:=by
 refine thn (ha pins s σ H _ I h) fun v s1 ⟨x,H1,I1,r1,q1⟩=>?_
 refine thn (hb pins s1 σ H1 _ I1 q1) fun u s2 ⟨y,H2,I2,r2,q2⟩=>?_
 exact hf v u s2 x y H2 I2 r1 r2 q2
theorem pe_op {op:Operator} {r:R2} (ho:OpR X (binaryOp op) r) (ha:PE X a ta) (hb:PE X b tb):PE X (.BinOp a op b pos) (tOp r ta tb):=by
 intro pins s σ H Q I h
 exact wpAny_BinOp (binT ha hb I h fun v u s2 x y H2 I2 rx ry q=>ho pins s2 σ H2 x y v u Q I2 rx ry q)
theorem opI {f:Value->Value->Sem Value} {C:Int->Int->Prop} {g:Int->Int->Int}
  (rule:∀ (i j:Int) (t u:Tok) (s:Shared) (Q:Value->Shared->Prop) (E:Value->Shared->Prop),C i j->Q (.int (g i j) s.toks) { s with toks:=s.toks + 1 }->wpAny (model X.prog X.w) X.A (f (.int i t) (.int j u)) Q E s):
  OpR X f (rI C fun i j=>.int (g i j)):=by
 intro pins s σ H x y v u Q I rx ry h
 obtain ⟨i,j,rfl,rfl,hc,q⟩:=h
 obtain ⟨t,rfl⟩:=rx
 obtain ⟨t',rfl⟩:=ry
 exact rule i j t t' s _ _ hc ⟨.int (g i j),H,I.tok _,⟨_,rfl⟩,q⟩
theorem opI0 {f:Value->Value->Sem Value} {g:Int->Int->Int}
  (rule:∀ (i j:Int) (t u:Tok) (s:Shared) (Q:Value->Shared->Prop) (E:Value->Shared->Prop),Q (.int (g i j) s.toks) { s with toks:=s.toks + 1 }->wpAny (model X.prog X.w) X.A (f (.int i t) (.int j u)) Q E s):
  OpR X f (rI0 fun i j=>.int (g i j)):=by
 intro pins s σ H x y v u Q I rx ry h
 obtain ⟨i,j,rfl,rfl,q⟩:=h
 obtain ⟨t,rfl⟩:=rx
 obtain ⟨t',rfl⟩:=ry
 exact rule i j t t' s _ _ ⟨.int (g i j),H,I.tok _,⟨_,rfl⟩,q⟩
theorem opB0 {f:Value->Value->Sem Value} {g:Int->Int->Bool}
  (rule:∀ (i j:Int) (t u:Tok) (s:Shared) (Q:Value->Shared->Prop) (E:Value->Shared->Prop),Q (.bool (g i j)) s->wpAny (model X.prog X.w) X.A (f (.int i t) (.int j u)) Q E s):
  OpR X f (rI0 fun i j=>.bl (g i j)):=by
 intro pins s σ H x y v u Q I rx ry h
 obtain ⟨i,j,rfl,rfl,q⟩:=h
 obtain ⟨t,rfl⟩:=rx
 obtain ⟨t',rfl⟩:=ry
 exact rule i j t t' s _ _ ⟨.bl (g i j),H,I,rfl,q⟩
def CDiv (i j:Int):Prop:=0 < j/\j < 1073741824
def CPow (i j:Int):Prop:=0<=j/\j<=1000000/\i.natAbs < 2 ^ 64
def CMul (i j:Int):Prop:=(-(2 ^ 64) < i/\i < 2 ^ 64)\/(-(2 ^ 64) < j/\j < 2 ^ 64)
theorem CMul.ok {i j:Int} (h:CMul i j):IntMulOk i j:=by
 rcases h with ⟨h1,h2⟩ | ⟨h1,h2⟩
 ·exact .of_left (intBits_le_64 h1 h2)
 ·exact .of_right (intBits_le_64 h1 h2)
theorem Za1:OpR X (binaryOp .Add) (rI0 fun i j=>.int (i + j)):=opI0 fun _ _ _ _ _ _ _ q=>add_int q
theorem Zcq:OpR X (binaryOp .Sub) (rI0 fun i j=>.int (i - j)):=opI0 fun _ _ _ _ _ _ _ q=>sub_int q
theorem Zf2:OpR X (binaryOp .Mult) (rI CMul fun i j=>.int (i * j)):=opI fun _ _ _ _ _ _ _ hc q=>mul_int q hc.ok
theorem Zgq:OpR X (binaryOp .FloorDiv) (rI CDiv fun i j=>.int (i / j)):=opI fun i j _ _ _ _ _ hc q=>by
 have h1:(0:Int) < j:=hc.1
 have h2:j < 1073741824:=hc.2
 exact floordiv_int (by omega) (by rw [Int.fdiv_eq_ediv_of_nonneg i (by omega)]; exact q) (.inl (PyProof.noPylong_small (by omega)))
theorem Zdj:OpR X (binaryOp .Mod) (rI (fun _ j=>0 < j) fun i j=>.int (i % j)):=opI fun i j _ _ _ _ _ hc q=>by
 have h1:(0:Int) < j:=hc
 exact mod_int' (by omega) (by rw [Int.fmod_eq_emod_of_nonneg i (by omega)]; exact q)
theorem Zf1:OpR X (binaryOp .Pow) (rI CPow fun i j=>.int (i ^ j.toNat)):=opI fun _ _ _ _ _ _ _ hc q=>pow_int_small hc.1 hc.2.1 hc.2.2 q
end
def scal:V->V->Bool
 | .non,.non=>true | .non,.int _=>true | .int _,.non=>true | .non,.bl _=>true | .bl _,.non=>true | .non,.str _=>true | .str _,.non=>true
 | .int _,.int _=>true | .bl _,.bl _=>true | .str _,.str _=>true | .byt _,.byt _=>true
 | .int _,.str _=>true | .str _,.int _=>true | .bl _,.str _=>true | .str _,.bl _=>true
 | _,_=>false
def rEq:R2:=fun x y H Q=>scal x y = true/\Q (.bl (decide (x = y))) H
def rNe:R2:=fun x y H Q=>scal x y = true/\Q (.bl (!decide (x = y))) H
theorem Zl6 {i j:Int}:decide (V.int i = V.int j) = (i == j):=by
 rw [Jbu]
 simp
theorem Zow {i j:Bool}:decide (V.bl i = V.bl j) = (i == j):=by
 rw [Jbu]
 simp
theorem Zl5 {i j:Str}:decide (V.str i = V.str j) = (i == j):=by
 rw [Jbu]
 simp
theorem Zl7 {i j:Array UInt8}:decide (V.byt i = V.byt j) = (i.toList == j.toList):=by
 rw [Jbu]
 cases i
 cases j
 simp
section
variable {X:Cx} {a b c:Expr} {ta tb tc:TE} {pos:Pos}
theorem Zaw {pins:List (Addr × Obj)} {σ:St} {H:Hp} {s:Shared} {Q:VK} {k k':Bool} (I:Inv X pins σ H s) (q:Q (.bl k) H) (e:k = k'):EP X pins σ Q (.bool k') s:=by
 subst e
 exact ⟨.bl k,H,I,rfl,q⟩
theorem Zd5:OpR X (compareOp .Eq) rEq:=by
 intro pins s σ H x y v u Q I rx ry h
 obtain ⟨hs,q⟩:=h
 cases x with
 | non=>
  cases rx
  cases y with
  | non=>cases ry; exact PySem.EqNone.eq_none_none (Zaw I q (by simp))
  | bl j=>cases ry; exact PySem.EqNone.eq_none_bool (Zaw I q (by simp))
  | int j=>obtain ⟨t',rfl⟩:=ry; exact PySem.EqNone.eq_none_int (Zaw I q (by simp))
  | str j=>obtain ⟨t',rfl⟩:=ry; exact PySem.EqNone.eq_none_str (Zaw I q (by simp))
  | _=>exact absurd (show false = true from hs) Jaj
 | bl i=>
  cases rx
  cases y with
  | non=>cases ry; exact PySem.EqNone.eq_bool_none (Zaw I q (by simp))
  | bl j=>cases ry; exact eq_bool (Zaw I q Zow)
  | str j=>obtain ⟨t',rfl⟩:=ry; exact PySem.EqMixed.eq_bool_str (Zaw I q (by simp))
  | _=>exact absurd (show false = true from hs) Jaj
 | int i=>
  obtain ⟨t,rfl⟩:=rx
  cases y with
  | non=>cases ry; exact PySem.EqNone.eq_int_none (Zaw I q (by simp))
  | int j=>obtain ⟨t',rfl⟩:=ry; exact eq_int (Zaw I q Zl6)
  | str j=>obtain ⟨t',rfl⟩:=ry; exact PySem.EqMixed.eq_int_str (Zaw I q (by simp))
  | _=>exact absurd (show false = true from hs) Jaj
 | str i=>
  obtain ⟨t,rfl⟩:=rx
  cases y with
  | non=>cases ry; exact PySem.EqNone.eq_str_none (Zaw I q (by simp))
  | bl j=>cases ry; exact PySem.EqMixed.eq_str_bool (Zaw I q (by simp))
  | int j=>obtain ⟨t',rfl⟩:=ry; exact PySem.EqMixed.eq_str_int (Zaw I q (by simp))
  | str j=>obtain ⟨t',rfl⟩:=ry; exact eq_str (Zaw I q Zl5)
  | _=>exact absurd (show false = true from hs) Jaj
 | byt i=>
  obtain ⟨t,rfl⟩:=rx
  cases y with
  | byt j=>obtain ⟨t',rfl⟩:=ry; exact PySem.W.eq_bytes (Zaw I q Zl7)
  | _=>exact absurd (show false = true from hs) Jaj
 | _=>cases y <;> exact absurd (show false = true from hs) Jaj
theorem Zk6:OpR X (compareOp .NotEq) rNe:=by
 intro pins s σ H x y v u Q I rx ry h
 obtain ⟨hs,q⟩:=h
 cases x with
 | non=>
  cases rx
  cases y with
  | non=>cases ry; exact PySem.EqNone.ne_none_none (Zaw I q (by simp))
  | bl j=>cases ry; exact PySem.EqNone.ne_none_bool (Zaw I q (by simp))
  | int j=>obtain ⟨t',rfl⟩:=ry; exact PySem.EqNone.ne_none_int (Zaw I q (by simp))
  | str j=>obtain ⟨t',rfl⟩:=ry; exact PySem.EqNone.ne_none_str (Zaw I q (by simp))
  | _=>exact absurd (show false = true from hs) Jaj
 | bl i=>
  cases rx
  cases y with
  | non=>cases ry; exact PySem.EqNone.ne_bool_none (Zaw I q (by simp))
  | bl j=>cases ry; exact ne_bool (Zaw I q (Jdj not Zow))
  | str j=>obtain ⟨t',rfl⟩:=ry; exact PySem.EqMixed.ne_bool_str (Zaw I q (by simp))
  | _=>exact absurd (show false = true from hs) Jaj
 | int i=>
  obtain ⟨t,rfl⟩:=rx
  cases y with
  | non=>cases ry; exact PySem.EqNone.ne_int_none (Zaw I q (by simp))
  | int j=>obtain ⟨t',rfl⟩:=ry; exact ne_int (Zaw I q (Jdj not Zl6))
  | str j=>obtain ⟨t',rfl⟩:=ry; exact PySem.EqMixed.ne_int_str (Zaw I q (by simp))
  | _=>exact absurd (show false = true from hs) Jaj
 | str i=>
  obtain ⟨t,rfl⟩:=rx
  cases y with
  | non=>cases ry; exact PySem.EqNone.ne_str_none (Zaw I q (by simp))
  | bl j=>cases ry; exact PySem.EqMixed.ne_str_bool (Zaw I q (by simp))
  | int j=>obtain ⟨t',rfl⟩:=ry; exact PySem.EqMixed.ne_str_int (Zaw I q (by simp))
  | str j=>obtain ⟨t',rfl⟩:=ry; exact ne_str (Zaw I q (Jdj not Zl5))
  | _=>exact absurd (show false = true from hs) Jaj
 | byt i=>
  obtain ⟨t,rfl⟩:=rx
  cases y with
  | byt j=>obtain ⟨t',rfl⟩:=ry; exact PySem.W.ne_bytes (Zaw I q (Jdj not Zl7))
  | _=>exact absurd (show false = true from hs) Jaj
 | _=>cases y <;> exact absurd (show false = true from hs) Jaj
theorem Znf:OpR X (compareOp .Lt) (rI0 fun i j=>.bl (decide (i < j))):=opB0 fun _ _ _ _ _ _ _ q=>lt_int q
theorem Zk7:OpR X (compareOp .LtE) (rI0 fun i j=>.bl (decide (i<=j))):=opB0 fun _ _ _ _ _ _ _ q=>le_int q
theorem Zgp:OpR X (compareOp .Gt) (rI0 fun i j=>.bl (decide (j < i))):=opB0 fun _ _ _ _ _ _ _ q=>gt_int q
theorem op_ge:OpR X (compareOp .GtE) (rI0 fun i j=>.bl (decide (j<=i))):=opB0 fun _ _ _ _ _ _ _ q=>ge_int q
theorem op_notN:OpR X (compareOp .IsNot) (fun x y H Q=>y = .non/\Q (.bl (!decide (x = .non))) H):=by
 intro pins s σ H x y v u Q I rx ry h
 obtain ⟨rfl,q⟩:=h
 cases ry
 refine isnot_none_gen (Zaw I q ?_)
 cases x <;> first
  | (cases rx; rfl)
  | (obtain ⟨t,rfl⟩:=rx; rfl)
theorem Zar (b:Expr) {op:CmpOp} (h:op ≠ .In:=by decide) (h2:op ≠ .NotIn:=by decide):behindInMarks op b = false:=by
 have e1:(op == CmpOp.In) = false:=by cases op <;> first | rfl | exact absurd rfl h
 have e2:(op == CmpOp.NotIn) = false:=by cases op <;> first | rfl | exact absurd rfl h2
 cases b <;> simp [behindInMarks,e1,e2]
theorem pe_cmpR {op:CmpOp} {r:R2} (ho:OpR X (compareOp op) r) (ha:PE X a ta) (hb:PE X b tb) (hm:behindInMarks op b = false):PE X (.Compare a [op] [b] pos) (tOp r ta tb):=by
 intro pins s σ H Q I h
 exact wpAny_Compare1 (binT ha hb I h fun v u s2 x y H2 I2 rx ry q=>ho pins s2 σ H2 x y v u Q I2 rx ry q) hm
def tTest (t:TE):TT:=fun σ H Q=>t σ H fun x H'=>∃ k,x = .bl k/\Q k H'
theorem Zai {op:CmpOp} {r:R2} (ho:OpR X (compareOp op) r) (ha:PE X a ta) (hb:PE X b tb) (hm:behindInMarks op b = false):PT X (.Compare a [op] [b] pos) (tTest (tOp r ta tb)):=by
 intro pins s σ H Q I h
 refine wpAny_isTrue_Compare1 (thn (ha pins s σ H _ I h) fun v s1 ⟨x,H1,I1,r1,q1⟩=>thn (hb pins s1 σ H1 _ I1 q1) fun u s2 ⟨y,H2,I2,r2,q2⟩=>
  thn (ho pins s2 σ H2 x y v u _ I2 r1 r2 q2) fun c s3 ⟨z,H3,I3,r3,k,e,q3⟩=>?_) hm
 subst e
 cases r3
 exact Jbn ⟨H3,I3,q3⟩
def Zj6 (r r':R2) (ta tb tc:TE):TE:=fun σ H Q=>ta σ H fun x H1=>tb σ H1 fun y H2=>r x y H2 fun z H3=>∃ k,z = .bl k /\
 (if k = true then tc σ H3 fun w' H4=>r' y w' H4 Q else Q (.bl false) H3)
theorem Znc {op op':CmpOp} {r r':R2} (ho:OpR X (compareOp op) r) (ho':OpR X (compareOp op') r') (ha:PE X a ta) (hb:PE X b tb) (hc:PE X c tc)
  (hm:lastMarks [op,op'] [b,c] = false:=by with_unfolding_all rfl):PE X (.Compare a [op,op'] [b,c] pos) (Zj6 r r' ta tb tc):=by
 intro pins s σ H Q I h
 refine Compare_chain (thn (ha pins s σ H _ I h) fun v s1 ⟨x,H1,I1,r1,q1⟩=>chain_link (thn (hb pins s1 σ H1 _ I1 q1) fun u s2 ⟨y,H2,I2,r2,q2⟩=>
  thn (ho pins s2 σ H2 x y v u _ I2 r1 r2 q2) fun d s3 ⟨z,H3,I3,r3,k,e,q3⟩=>?_)) hm
 subst e
 cases r3
 refine Jbn ?_
 cases k with
 | false=>exact ite_ff ⟨.bl false,H3,I3,rfl,q3⟩
 | true=>exact ite_tt (chain_last (thn (hc pins s3 σ H3 _ I3 q3) fun w' s4 ⟨z',H4,I4,r4,q4⟩=>ho' pins s4 σ H4 y z' u w' Q I4 r2 r4 q4))
theorem Zm6 {op op':CmpOp} {r r':R2} (ho:OpR X (compareOp op) r) (ho':OpR X (compareOp op') r') (ha:PE X a ta) (hb:PE X b tb) (hc:PE X c tc)
  (hm:lastMarks [op,op'] [b,c] = false:=by with_unfolding_all rfl):PT X (.Compare a [op,op'] [b,c] pos) (tTest (Zj6 r r' ta tb tc)):=by
 intro pins s σ H Q I h
 refine isTrue_chain (thn (ha pins s σ H _ I h) fun v s1 ⟨x,H1,I1,r1,q1⟩=>test_link (thn (hb pins s1 σ H1 _ I1 q1) fun u s2 ⟨y,H2,I2,r2,q2⟩=>
  thn (ho pins s2 σ H2 x y v u _ I2 r1 r2 q2) fun d s3 ⟨z,H3,I3,r3,k,e,q3⟩=>?_)) hm
 subst e
 cases r3
 refine Jbn ?_
 cases k with
 | false=>
  obtain ⟨k',e',q'⟩:=q3
  cases e'
  exact ite_ff ⟨H3,I3,q'⟩
 | true=>
  refine ite_tt (test_last (thn (hc pins s3 σ H3 _ I3 q3) fun w' s4 ⟨z',H4,I4,r4,q4⟩=>thn (ho' pins s4 σ H4 y z' u w' _ I4 r2 r4 q4) fun d' s5 ⟨z2,H5,I5,r5,k2,e2,q5⟩=>?_))
  subst e2
  cases r5
  exact Jbn ⟨H5,I5,q5⟩
def TruV (K:PySem.W.Frag) (x:V) (H:Hp) (k:Bool):Prop:=
 match x with
 | .non=>k = false
 | .bl b=>k = b
 | .int i=>k = (i != 0)
 | .str y=>y.length<=sizeLine/\k = ((y.length:Int) != 0)
 | .byt y=>y.size<=sizeLine/\k = ((y.size:Int) != 0)
 | .ref p=>(∃ xs,SqL K H p xs/\k = !xs.isEmpty)\/(∃ xs,SqT K H p xs/\k = !xs.isEmpty)\/∃ kvs,H p = some (.dK kvs)/\k = !kvs.isEmpty
 | _=>False
theorem Zjs {κ:Type} {kvs:List (κ × V)} {vs:List (κ × Value)} (r:KV kvs vs):(!vs.isEmpty) = !kvs.isEmpty:=by
 cases r <;> rfl
theorem Zf5 {xs:List V} {its:List Value} (r:Vals xs its):(!its.toArray.isEmpty) = !xs.isEmpty:=by
 cases r <;> simp
theorem Zhf:(sizeLine:Nat) < 2 ^ 63:=by rw [sizeLine_eq]; decide
theorem tru_ok:TruR X (fun x H Q=>∃ k,TruV X.K x H k/\Q k H):=by
 intro pins s σ H x v Q I rx h
 obtain ⟨k,e,q⟩:=h
 have hl:=Zhf
 have hs:sizeLine = 16777216:=sizeLine_eq
 cases x with
 | non=>
  cases rx
  have e':k = false:=e
  subst e'
  exact truthy_none ⟨H,I,q⟩
 | bl b=>
  cases rx
  have e':k = b:=e
  subst e'
  exact Jbn ⟨H,I,q⟩
 | int i=>
  obtain ⟨t,rfl⟩:=rx
  have e':k = (i != 0):=e
  subst e'
  exact PySem.P.truthy_int ⟨H,I,q⟩
 | str y=>
  obtain ⟨t,rfl⟩:=rx
  obtain ⟨hy,e'⟩:y.length<=sizeLine/\k = ((y.length:Int) != 0):=e
  subst e'
  exact PySem.P.truthy_str (by omega) ⟨H,I.tok _,q⟩
 | byt y=>
  obtain ⟨t,rfl⟩:=rx
  obtain ⟨hy,e'⟩:y.size<=sizeLine/\k = ((y.size:Int) != 0):=e
  subst e'
  exact PySem.W.truthy_bytes (by omega) ⟨H,I.tok _,q⟩
 | ref p=>
  cases rx
  have e':(∃ xs,SqL X.K H p xs/\k = !xs.isEmpty)\/(∃ xs,SqT X.K H p xs/\k = !xs.isEmpty)\/∃ kvs,H p = some (.dK kvs)/\k = !kvs.isEmpty:=e
  rcases e' with ⟨xs,hx,e'⟩ | ⟨xs,hx,e'⟩ | ⟨kvs,hx,e'⟩
  ·subst e'
   obtain ⟨its,r,pl,hz⟩:=I.list hx
   have hlen:=r.length
   exact wpAny_truthy_list pl.isList (by simp only [Jai]; omega) ⟨H,I.tok _,by rw [Zf5 r]; exact q⟩
  ·subst e'
   obtain ⟨its,r,pl,hz⟩:=I.tuple hx
   have hlen:=r.length
   exact truthy_tuple pl (by simp only [Jai]; omega) ⟨H,I.tok _,by rw [Zf5 r]; exact q⟩
  ·subst e'
   obtain ⟨hz,hS,vs,r,m⟩:kvs.length<=sizeLine/\(p == sysModules) = false/\∃ vs,KV kvs vs/\s.heap.DictOf (Zbt X.prog X.w) p vs:=I.hok p _ hx
   have hlen:kvs.length = vs.length:=Jeh r
   exact wpAny_truthy_dict hS m (by omega) ⟨H,I.tok _,by rw [Zjs r]; exact q⟩
 | _=>exact (show False from e).elim
theorem Zgk (ha:PE X a ta) (he:∀ whole,isTrue a X.env whole = (do let v <- whole; standAt a.pos; holding [v] (truthy v))):
  PT X a (fun σ H Q=>ta σ H fun x H'=>∃ k,TruV X.K x H' k/\Q k H'):=by
 intro pins s σ H Q I h
 exact isTrue_plain (thn (ha pins s σ H _ I h) fun v s1 ⟨x,H1,I1,r1,q1⟩=>tru_ok pins s1 σ H1 x v Q I1 r1 q1) (he _)
theorem Zhx {x:V} {us:List Value} (r:Vals [x] us):∃ u,us = [u]/\RelV x u:=by
 cases r with
 | cons r1 r2=>cases r2; exact ⟨_,rfl,r1⟩
theorem vals2 {x y:V} {us:List Value} (r:Vals [x,y] us):∃ u w',us = [u,w']/\RelV x u/\RelV y w':=by
 cases r with
 | cons r1 r2=>
  cases r2 with
  | cons r3 r4=>cases r4; exact ⟨_,_,rfl,r1,r3⟩
theorem Zmn (hc:X.calm = true):Zd8 X (.builtin "min") (fun xs H Q=>∃ i j,xs = [.int i,.int j]/\Q (.int (if j < i then j else i)) H):=by
 intro pins s σ H xs us Q I r h
 obtain ⟨i,j,rfl,q⟩:=h
 obtain ⟨u,w',rfl,⟨t,rfl⟩,⟨t',rfl⟩⟩:=vals2 r
 refine min_two_ints (I.ok.hd hc) fun h' tk k=>⟨_,H,I.kept k,?_,q⟩
 by_cases hj:j < i
 ·rw [if_pos hj,if_pos hj]; exact ⟨_,rfl⟩
 ·rw [if_neg hj,if_neg hj]; exact ⟨_,rfl⟩
end
structure ObjM (h:Heap) (x dx C:Addr) (mA:Str->Option Value):Prop where
 obj:h.get? x = some (PySem.W.instObj C dx)
 ns:h.Ns1 dx mA
 ne:dx ≠ x
theorem Zlk {h:Heap} {dx:Addr} {mA:Str->Option Value} (n:h.Ns1 dx mA):∃ od,h.get? dx = some od/\∀ name,PySem.W.lookIn name od = some (mA name):=by
 obtain ⟨o,es,ep,ho,hd,hk,_,hm⟩:=n
 refine ⟨o,ho,fun name=>?_⟩
 have e:=hm name
 unfold nsFind findBy at e
 rw [<- Array.find?_toList] at e
 unfold PySem.W.lookIn
 rw [hd]
 dsimp only
 split
 ·rename_i y q
  rw [q] at e
  exact Jdj some e
 ·rename_i q
  rw [q] at e
  have a:es.toList.any (·.refKey) = false:=by
   rw [List.any_eq_false]
   intro y hy
   obtain ⟨z,t,hkey⟩:=hk y (Array.mem_toList_iff.mp hy)
   simp [DictEntry.refKey,hkey]
  have a':¬ es.toList.any (·.refKey) = true:=by rw [a]; exact Jaj
  rw [if_neg a']
  exact Jdj some e
theorem ObjM.look {h:Heap} {x dx C:Addr} {mA:Str->Option Value} (I:ObjM h x dx C mA):∃ od,PySem.W.InstAt h x (PySem.W.instObj C dx) C (some od)/\∀ name,PySem.W.lookIn name od = some (mA name):=
 let ⟨od,ho,hl⟩:=Zlk I.ns
 ⟨od,⟨I.obj,rfl,rfl,ho⟩,hl⟩
section
variable {prog:Program} {w:World} {A:Around} {E:Value->Shared->Prop} {s:Shared} {K:PySem.W.Frag} {x dx C f:Addr} {mA:Str->Option Value} {name:Str} {v:Value}
theorem get_map {expr:Bool} {Q:Value->Shared->Prop} (X:K.In s.heap) (I:ObjM s.heap x dx C mA) (hg:PySem.W.plainGet K C name = true) (hh:PySem.W.hasDictIn K C = true)
  (ha:PySem.W.findIn K (.ref C) name = some none) (hv:mA name = some v) (hv':PySem.W.handedIn v = true) (h:Q v { s with toks:=s.toks + 1 }):
  wpAny (model prog w) A (getAttr (.ref x) name expr) Q E s:=by
 obtain ⟨od,J,hl⟩:=I.look
 exact PySem.W.get_value X J (Jdz hg).1 (PySem.W.findObj_own hh ha rfl (by rw [hl,hv])) hv' h
theorem Znz {pl:Sem Bool} {Q:Value × List Value->Shared->Prop} (X:K.In s.heap) (I:ObjM s.heap x dx C mA) (hg:PySem.W.plainGet K C name = true)
  (hf:PySem.W.findIn K (.ref C) name = some (some (.ref f))) (ht:PySem.W.isFn K (.ref f) = true) (hv:mA name = none) (h:Q (.ref f,[.ref x]) s):
  wpAny (model prog w) A (getMethod (.ref x) name pl) Q E s:=by
 obtain ⟨od,J,hl⟩:=I.look
 exact PySem.W.method_fn X J (Jdz hg).1 (Jdz hg).2 hf (Jbh.mp ht) (by show (PySem.W.lookIn name od).map (·.isSome) = some false; rw [hl,hv]; rfl) h
theorem set_map {ns:List Str} {Q:Unit->Shared->Prop} (X:K.In s.heap) (I:ObjM s.heap x dx C mA)
  (hs:PySem.W.findIn K (.ref C) "__setattr__" = some (some (.builtin "object.__setattr__"))) (hp:PySem.W.plainOver K C = true) (ht:PySem.W.takerIn K C name = some none) (hh:PySem.W.hasDictIn K C = true)
  (hw:PySem.Within mA ns) (hsz:ns.length<=sizeLine)
  (h:∀ h',ObjM h' x dx C (fun y=>if y = name then some v else mA y)->Heap.SameBut dx s.heap h'->Q () { s with heap:=h',toks:=s.toks + 2 }):
  wpAny (model prog w) A (setAttr (.ref x) name v) Q E s:=by
 obtain ⟨od,J,hl⟩:=I.look
 refine PySem.W.set_plain X J hs (PySem.W.osa_open (s:={ s with toks:=s.toks + 1 }) (r:=none) X J hp ht fun b=>?_)
 obtain ⟨cd,hc,hd'⟩:=PySem.W.any_some hh
 have hx:s.heap.get? x = some ⟨.ref C,some dx,.plain,#[]⟩:=I.obj
 refine Jac (Jap (Jac (Jac (wpAny_loadPart hx (Jac (PySem.W.Looks.here (s:={ s with toks:=s.toks + 1 }) (PySem.W.looks_clsIn X hc) ?_))))))
 rw [hd']
 refine Jap (a:=some dx) (Jac (Jap (Jac ?_)))
 refine wpAny_nsSet1 (s:={ s with toks:=s.toks + 1 }) I.ns fun h' hn2 hs2=>?_
 obtain ⟨oD,esD,epD,hoD,hdD,hcD⟩:=hn2.count (PySem.Within.cons name v hw)
 refine Jac (wpAny_lookBehind hoD (by rw [hdD]; exact pastItsLine_dict (Jba hcD (by rw [Jbm]; omega))) ?_)
 exact Jap (h _ ⟨(hs2.2 _ (Jc9 I.ne)).trans I.obj,hn2,I.ne⟩ hs2)
theorem Znt {R:Result->Shared->Prop} {vs:List Value} {kw:List (Str × Value)} (X:K.In s.heap) (hm:PySem.W.makesIn K C = true)
  (hi:PySem.W.findIn K (.ref C) "__init__" = some (some (.ref f))) (hf:PySem.W.typeIn K (.ref f) = some (.type "function"))
  (h:codeAny (model prog w) (A.under (.builtin "type.__call__" ⟨.ref C :: vs,kw⟩)) (.call (.ref f) ⟨.ref (s.heap.objs.size + 1) :: vs,kw⟩) (PySem.W.InitBack (s.heap.objs.size + 1) R)
   { s with heap:=(s.heap.push PySem.W.emptyDict).push (PySem.W.instObj C s.heap.objs.size) }):
  codeAny (model prog w) A (.call (.ref C) ⟨vs,kw⟩) R s:=by
 obtain ⟨hh,g,d,t,os⟩:=s
 exact PySem.W.make_core (PySem.W.makes_of X hm) (PySem.W.looks_findIn X hi) (fun self=>PySem.W.bind_fn X self hf) (.inl rfl) h
end
def Zgj (f:Str) (v:V):List (Str × V)->List (Str × V)
 | []=>[(f,v)]
 | (g,x) :: r=>if g = f then (g,v) :: r else (g,x) :: Zgj f v r
theorem Zcj (f g:Str) (v:V):∀ fs:List (Str × V),(Zgj f v fs).lookup g = if g = f then some v else fs.lookup g
 | []=>by
  show List.lookup g [(f,v)] = _
  by_cases h:g = f
  ·have hb:(g == f) = true:=Jbh.mpr h
   simp only [List.lookup,hb,if_pos h]
  ·have hb:(g == f) = false:=Jcq.mpr h
   simp only [List.lookup,hb,if_neg h]
 | (k,x) :: r=>by
  have ih:=Zcj f g v r
  rw [show Zgj f v ((k,x) :: r) = (if k = f then (k,v) :: r else (k,x) :: Zgj f v r) from rfl]
  by_cases hk:k = f
  ·rw [if_pos hk]
   by_cases h:g = k
   ·have hb:(g == k) = true:=Jbh.mpr h
    simp only [List.lookup,hb,if_pos (h.trans hk)]
   ·have hb:(g == k) = false:=Jcq.mpr h
    simp only [List.lookup,hb,if_neg (fun e:g = f=>h (e.trans hk.symm))]
  ·rw [if_neg hk]
   by_cases h:g = k
   ·have hb:(g == k) = true:=Jbh.mpr h
    simp only [List.lookup,hb,if_neg (fun e:g = f=>hk (h.symm.trans e))]
   ·have hb:(g == k) = false:=Jcq.mpr h
    simp only [List.lookup,hb]
    exact ih
theorem Zfi (f:Str) (v:V):∀ fs:List (Str × V),f ∈ (Zgj f v fs).map (·.1)/\∀ g,g ∈ fs.map (·.1)->g ∈ (Zgj f v fs).map (·.1)
 | []=>⟨by simp [Zgj],fun g h=>by simp at h⟩
 | (k,x) :: r=>by
  obtain ⟨i1,i2⟩:=Zfi f v r
  rw [show Zgj f v ((k,x) :: r) = (if k = f then (k,v) :: r else (k,x) :: Zgj f v r) from rfl]
  by_cases hk:k = f
  ·rw [if_pos hk]
   subst hk
   exact ⟨by simp,fun g h=>by simpa using h⟩
  ·rw [if_neg hk]
   refine ⟨?_,fun g h=>?_⟩
   ·rw [Ja1]
    exact Ja7 _ i1
   ·rw [Ja1] at h ⊢
    rcases Jam.mp h with e | e
    ·exact Jam.mpr (.inl e)
    ·exact Ja7 _ (i2 g e)
theorem Zdx (f:Str) (v:V):∀ fs:List (Str × V),(Zgj f v fs).length<=fs.length + 1
 | []=>by simp [Zgj]
 | (k,x) :: r=>by
  have ih:=Zdx f v r
  rw [show Zgj f v ((k,x) :: r) = (if k = f then (k,v) :: r else (k,x) :: Zgj f v r) from rfl]
  by_cases hk:k = f
  ·rw [if_pos hk,Jbm,Jbm]; omega
  ·rw [if_neg hk,Jbm,Jbm]; omega
theorem RelO.some_of {v:V} {o:Option Value} (r:RelO (some v) o):∃ u,o = some u/\RelV v u:=by
 cases o with
 | none=>exact (show False from r).elim
 | some u=>exact ⟨u,rfl,r⟩
theorem RelO.none_of {o:Option Value} (r:RelO none o):o = none:=by
 cases o with
 | none=>rfl
 | some u=>exact (show False from r).elim
theorem Zl2 {v:V} {u:Value} (r:RelV v u):PySem.W.handedIn u = true:=by
 cases v with
 | non=>cases (show u = Value.none from r); rfl
 | bl b=>cases (show u = Value.bool b from r); rfl
 | int i=>obtain ⟨t,e⟩:=(show ∃ t,u = Value.int i t from r); cases e; rfl
 | str x=>obtain ⟨t,e⟩:=(show ∃ t,u = Value.str x t from r); cases e; rfl
 | byt b=>obtain ⟨t,e⟩:=(show ∃ t,u = Value.bytes b t from r); cases e; rfl
 | flt b=>obtain ⟨t,e⟩:=(show ∃ t,u = Value.float b t from r); cases e; rfl
 | ref a=>cases (show u = Value.ref a from r); rfl
 | ty n=>cases (show u = Value.type n from r); rfl
section
variable {P:Program} {w:World} {H H':Hp} {h h':Heap} {a C dx:Addr} {fs fs':List (Str × V)}
theorem Zgv (hok:HOk P w H h) (e:H a = some (.ins C dx fs)):∃ mA,ObjM h a dx C mA/\(∀ f,RelO (fs.lookup f) (mA f))/\PySem.Within mA (fs.map (·.1))/\fs.length<=1000/\H dx = some (.own a):=by
 obtain ⟨d,z,ne,ob,mA,n,r,q⟩:=(show ObjOk P w H h a (.ins C dx fs) from hok a _ e)
 exact ⟨mA,⟨ob,n,ne⟩,r,q,z,d⟩
end
structure Cls (K:PySem.W.Frag) (C:Addr):Prop where
 pg:PySem.W.plainGet K C Str.empty = true
 hd:PySem.W.hasDictIn K C = true
 po:PySem.W.plainOver K C = true
 sa:PySem.W.findIn K (.ref C) "__setattr__" = some (some (.builtin "object.__setattr__"))
theorem Cls.get {K:PySem.W.Frag} {C:Addr} (c:Cls K C) (f:Str):PySem.W.plainGet K C f = true:=c.pg
def NoAttr (K:PySem.W.Frag) (C:Addr) (f:Str):Prop:=PySem.W.findIn K (.ref C) f = some none
theorem NoAttr.taker {K:PySem.W.Frag} {C:Addr} {f:Str} (n:NoAttr K C f):PySem.W.takerIn K C f = some none:=by
 unfold PySem.W.takerIn
 rw [show PySem.W.findIn K (.ref C) f = some none from n]
 rfl
structure Con (K:PySem.W.Frag) (C:Addr) (f:Str) (v:V) (u:Value):Prop where
 at_:PySem.W.findIn K (.ref C) f = some (some u)
 rel:RelV v u
 get:PySem.W.specialIn K u "__get__" = some none
 cp:PySem.W.copiedNames.contains f = false
structure Meth (K:PySem.W.Frag) (C:Addr) (m:Str) (f:Addr):Prop where
 at_:PySem.W.findIn K (.ref C) m = some (some (.ref f))
 fn:PySem.W.isFn K (.ref f) = true
 kp:PySem.W.keepIn K (.ref f) = true
section
variable {X:Cx} {pins:List (Addr × Obj)} {σ:St} {H:Hp} {s:Shared} {a C dx:Addr} {fs:List (Str × V)} {f:Str} {v:V} {A:Around} {E:Value->Shared->Prop}
theorem Zjt {b:Bool} {Q:Value->Shared->Prop} (I:Inv X pins σ H s) (e:H a = some (.ins C dx fs)) (c:Cls X.K C) (n:NoAttr X.K C f) (l:fs.lookup f = some v)
  (h:∀ u s',Inv X pins σ H s'->RelV v u->Q u s'):wpAny (model X.prog X.w) A (getAttr (.ref a) f b) Q E s:=by
 obtain ⟨mA,O,r,_,_,_⟩:=Zgv I.hok e
 obtain ⟨u,hu,ru⟩:=RelO.some_of (v:=v) (o:=mA f) (by rw [<- l]; exact r f)
 exact get_map I.kIn O (c.get f) c.hd n hu (Zl2 ru) (h u _ (I.tok _) ru)
theorem Zf6 {m:Str} {g:Addr} {pl:Sem Bool} {Q:Value × List Value->Shared->Prop} (I:Inv X pins σ H s) (e:H a = some (.ins C dx fs)) (c:Cls X.K C) (k:Meth X.K C m g) (l:fs.lookup m = none)
  (h:Q (.ref g,[.ref a]) s):wpAny (model X.prog X.w) A (getMethod (.ref a) m pl) Q E s:=by
 obtain ⟨mA,O,r,_,_,_⟩:=Zgv I.hok e
 have hn:mA m = none:=RelO.none_of (by rw [<- l]; exact r m)
 exact Znz I.kIn O (c.get m) k.at_ k.fn hn h
theorem Zjh {y:V} {u:Value} {Q:Unit->Shared->Prop} (I:Inv X pins σ H s) (e:H a = some (.ins C dx fs)) (c:Cls X.K C) (n:NoAttr X.K C f) (hl:fs.length < 1000) (ry:RelV y u)
  (h:∀ s',Inv X pins σ (upd H a (.ins C dx (Zgj f y fs))) s'->Q () s'):wpAny (model X.prog X.w) A (setAttr (.ref a) f u) Q E s:=by
 obtain ⟨mA,O,r,wi,_,ho⟩:=Zgv I.hok e
 have hz:(fs.map (·.1)).length<=sizeLine:=by rw [Jaa,sizeLine_eq]; omega
 refine set_map I.kIn O c.sa c.po n.taker c.hd wi hz fun h' O' sb=>h _ ?_
 have hd:∃ o,h'.get? dx = some o:=let ⟨o,_,_,e',_⟩:=O'.ns; ⟨o,e'⟩
 refine I.write (x:=a) (e:=dx) (by rw [e]; exact True.intro) (.inr ho) (fun b q hb z=>(sb.2 b hb).trans z) hd ?_
 refine ⟨by rw [Zaf O.ne]; exact ho,?_,O.ne,O'.obj,_,O'.ns,fun g=>?_,fun g hg=>?_⟩
 ·have:=Zdx f y fs; omega
 ·show RelO ((Zgj f y fs).lookup g) (if g = f then some u else mA g)
  rw [Zcj]
  by_cases q:g = f
  ·rw [if_pos q,if_pos q]; exact ry
  ·rw [if_neg q,if_neg q]; exact r g
 ·by_cases q:g = f
  ·rw [q]; exact (Zfi f y fs).1
  ·refine (Zfi f y fs).2 g (wi g fun z=>hg ?_)
   show (if g = f then some u else mA g) = none
   rw [if_neg q]; exact z
theorem Inv.made (I:Inv X pins σ H s):Inv X pins σ (upd (upd H s.heap.objs.size (.own (s.heap.objs.size + 1))) (s.heap.objs.size + 1) (.ins C s.heap.objs.size []))
  { s with heap:=(s.heap.push PySem.W.emptyDict).push (PySem.W.instObj C s.heap.objs.size) }:=by
 have e1:(s.heap.push PySem.W.emptyDict).get? s.heap.objs.size = some PySem.W.emptyDict:=Jas s.heap rfl
 have e2:((s.heap.push PySem.W.emptyDict).push (PySem.W.instObj C s.heap.objs.size)).get? (s.heap.objs.size + 1) = some (PySem.W.instObj C s.heap.objs.size):=by
  have:=Jas (s.heap.push PySem.W.emptyDict) (o:=PySem.W.instObj C s.heap.objs.size) rfl
  rwa [Jcc] at this
 have e3:(s.heap.push PySem.W.emptyDict).Ns s.heap.objs.size (fun _=>none):=⟨PySem.W.emptyDict,#[],_,e1,rfl,(fun e he=>absurd he (by simp)),fun _=>rfl⟩
 have I1:=I.laid (a:=s.heap.objs.size) (o:=.own (s.heap.objs.size + 1)) (h':=s.heap.push PySem.W.emptyDict) (t':=s.toks) (fun b u q=>Jad _ q) (Jae _) ⟨_,e1⟩
 refine I1.laid (a:=s.heap.objs.size + 1) (o:=.ins C s.heap.objs.size []) (t':=s.toks) (fun b u q=>Jad _ q) (Nat.le_of_eq (Jcc _ _)) ?_
 have ne:s.heap.objs.size ≠ s.heap.objs.size + 1:=Jay (Jdp _)
 refine ⟨by rw [Zaf ne,Zac],Jb1 _,ne,e2,fun _=>none,(Heap.Ns1.of_empty e3).at fun o q=>Jad _ q,fun _=>True.intro,fun y hy=>absurd rfl hy⟩
theorem attr_of {prog:Program} {w:World} {env:Env} {e:Expr} {f:Str} {pos:Pos} {s:Shared} {Q:Value->Shared->Prop} (hb:attributeBase e f env (eval e env) = eval e env)
  (h:wpAny (model prog w) A (eval e env) (fun o s₁=>wpAny (model prog w) A (getAttr o f true) Q E s₁) E s):wpAny (model prog w) A (eval (.Attribute e f pos) env) Q E s:=
 Attribute_any_ h (by rw [arm_eval_Attribute,hb])
end
def tFld (K:PySem.W.Frag) (ta:TE) (f:Str):TE:=fun σ H Q=>ta σ H fun x H1=>∃ a C dx fs v,x = .ref a/\H1 a = some (.ins C dx fs)/\Cls K C/\NoAttr K C f/\fs.lookup f = some v/\Q v H1
def sFld (K:PySem.W.Frag) (ta tv:TE) (f:Str):TS:=fun D σ H=>tv σ H fun y H1=>ta σ H1 fun x H2=>∃ a C dx fs,x = .ref a/\H2 a = some (.ins C dx fs)/\Cls K C/\NoAttr K C f/\fs.length < 1000 /\
 D.nx σ (upd H2 a (.ins C dx (Zgj f y fs)))
section
variable {X:Cx} {o e value:Expr} {f:Str} {pos pos' tpos:Pos} {ta tv:TE}
theorem Zdb (he:PE X e ta) (hb:attributeBase e f X.env (eval e X.env) = eval e X.env):PE X (.Attribute e f pos) (tFld X.K ta f):=by
 intro pins s σ H Q I h
 refine attr_of hb (thn (he pins s σ H _ I h) fun u s1 ⟨x,H1,I1,rx,a,C,dx,fs,v,ex,ea,c,n,l,q⟩=>?_)
 subst ex
 obtain rfl:u = Value.ref a:=rx
 exact Zjt I1 ea c n l fun u' s2 I2 ru=>⟨v,H1,I2,ru,q⟩
theorem Zog (ha:PE X o ta) (hv:PE X value tv) (hs:swapsWith value (some (.Attribute o f pos')) pos.line X.env = pure false):PS X (.Assign [.Attribute o f pos'] value pos) (sFld X.K ta tv f):=by
 intro pins s σ H D I h
 refine plainObj_wpAny_Assign_Attribute (thn (hv pins s σ H _ I h) fun u s1 ⟨y,H1,I1,ry,q⟩=>thn (ha pins s1 σ H1 _ I1 q) fun ov s2 ⟨x,H2,I2,rx,a,C,dx,fs,ex,ea,c,n,l,q2⟩=>?_) hs
 subst ex
 obtain rfl:ov = Value.ref a:=rx
 exact Zjh I2 ea c n l ry fun s3 I3=>⟨σ,_,I3,q2⟩
theorem methcall_of {pl:Sem Bool} {m:Str} {apos:Pos} {args:List Expr} {pins:List (Addr × Obj)} {s:Shared} {σ:St} {H:Hp} {Q:Value->Shared->Prop} {te:TE} (he:PE X e te) (I:Inv X pins σ H s)
  (h:te σ H fun x H1=>∃ a C dx fs g,x = .ref a/\H1 a = some (.ins C dx fs)/\Cls X.K C/\Meth X.K C m g/\fs.lookup m = none /\
   ∀ s1,Inv X pins σ H1 s1->wpAny (model X.prog X.w) X.A (callWith pos (.ref g) [.ref a] (backTo pos (starEach args X.env)) (backToKw pos (keywordEach [] X.env))) Q X.xe s1)
  (ht:eval (.Call (.Attribute e m apos) args [] pos) X.env = (do
   let ov <- eval e X.env
   standAt apos.atName
   let (f,first) <- holding [ov] (getMethod ov m pl)
   callWith pos f first (backTo pos (starEach args X.env)) (backToKw pos (keywordEach [] X.env)))):
  wpAny (model X.prog X.w) X.A (eval (.Call (.Attribute e m apos) args [] pos) X.env) Q X.xe s:=by
 refine PySem.W.methodCall_KW (pl:=pl) (thn (he pins s σ H _ I h) fun u s1 ⟨x,H1,I1,rx,a,C,dx,fs,g,ex,ea,c,k,l,q⟩=>?_) ht
 subst ex
 obtain rfl:u = Value.ref a:=rx
 exact Zf6 I1 ea c k l (q s1 I1)
end
section
variable {X:Cx} {pins:List (Addr × Obj)} {σ:St} {H:Hp} {s:Shared} {A:Around} {E:Value->Shared->Prop} {Q:Value->Shared->Prop} {c:Value} {b:Bool}
inductive TyOf (K:PySem.W.Frag) (H:Hp):V->Value->Prop where
 | non:TyOf K H .non (.type "NoneType")
 | bl (x:Bool):TyOf K H (.bl x) (.type "bool")
 | int (i:Int):TyOf K H (.int i) (.type "int")
 | str (x:Str):TyOf K H (.str x) (.type "str")
 | flt (x:UInt64):TyOf K H (.flt x) (.type "float")
 | lst {a:Addr} {xs:List V} (e:H a = some (.lst xs)):TyOf K H (.ref a) (.type "list")
 | frz {a:Addr} {o:Obj} {xs:List V} (e:H a = some (.frz o (.lst xs))):TyOf K H (.ref a) (.type "list")
 | tup {a:Addr} {xs:List V} (e:H a = some (.tup xs)):TyOf K H (.ref a) (.type "tuple")
 | dK {a:Addr} {kvs:List (Key × V)} (e:H a = some (.dK kvs)):TyOf K H (.ref a) (.type "dict")
 | dT {a:Addr} {kvs:List (List Key × V)} (e:H a = some (.dT kvs)):TyOf K H (.ref a) (.type "dict")
 | ins {a C dx:Addr} {fs:List (Str × V)} (e:H a = some (.ins C dx fs)) (cl:Cls K C) (ha:PySem.W.findIn K (.ref C) "__class__" = some (some (.builtin "object.__class__")))
   (hn:PySem.W.specialIn K (.builtin "object.__class__") "__get__" = some (some (.builtin "getset_descriptor.__get__"))) (htk:PySem.W.takesIn K (.builtin "object.__class__") = some true)
   (hm:PySem.W.mroIn K C (.type "object") = some true):TyOf K H (.ref a) (.ref C)
theorem Zlv {x:V} {u t:Value} (I:Inv X pins σ H s) (rx:RelV x u) (ty:TyOf X.K H x t) (e:PySem.W.kitOne X.K t c = some b) (h:∀ tk,Q (.bool b) { s with toks:=tk }):
  wpAny (model X.prog X.w) A (call (.builtin "isinstance") [u,c]) Q E s:=by
 cases ty with
 | non=>cases (show u = Value.none from rx); exact Jbz PySem.W.kitx_none I.kIn True.intro e (fun z=>nomatch z) h
 | bl y=>cases (show u = Value.bool y from rx); exact Jbz PySem.W.kitx_bool I.kIn True.intro e (fun z=>nomatch z) h
 | int i=>obtain ⟨t,q⟩:=(show ∃ t,u = Value.int i t from rx); cases q; exact Jbz PySem.W.kitx_int I.kIn True.intro e (fun z=>nomatch z) h
 | str y=>obtain ⟨t,q⟩:=(show ∃ t,u = Value.str y t from rx); cases q; exact Jbz PySem.W.kitx_str I.kIn True.intro e (fun z=>nomatch z) h
 | flt y=>obtain ⟨t,q⟩:=(show ∃ t,u = Value.float y t from rx); cases q; exact Jbz PySem.W.kitx_float I.kIn True.intro e (fun z=>nomatch z) h
 | @lst a xs ea=>
  cases (show u = Value.ref a from rx)
  obtain ⟨_,_,n,_,h1⟩:=(show ObjOk X.prog X.w H s.heap a (.lst xs) from I.hok a _ ea)
  exact Jbz PySem.W.kitx_list I.kIn ⟨_,h1,rfl⟩ e (fun z=>nomatch z) h
 | @frz a ob xs ea=>
  cases (show u = Value.ref a from rx)
  obtain ⟨_,_,_,n,_,h1⟩:=(show ObjOk X.prog X.w H s.heap a (.frz ob (.lst xs)) from I.hok a _ ea)
  exact Jbz PySem.W.kitx_list I.kIn ⟨_,h1,rfl⟩ e (fun z=>nomatch z) h
 | @tup a xs ea=>
  cases (show u = Value.ref a from rx)
  obtain ⟨_,_,_,p⟩:=(show ObjOk X.prog X.w H s.heap a (.tup xs) from I.hok a _ ea)
  obtain ⟨o,h1,h2,_⟩:=p
  exact Jbz PySem.W.kitx_tuple I.kIn ⟨o,h1,h2⟩ e (fun z=>nomatch z) h
 | @dK a kvs ea=>
  cases (show u = Value.ref a from rx)
  obtain ⟨_,_,vs,_,p⟩:=(show ObjOk X.prog X.w H s.heap a (.dK kvs) from I.hok a _ ea)
  obtain ⟨o,es,ep,h1,h2,_⟩:=p
  exact Jbz PySem.W.kitx_dict I.kIn ⟨o,h1,h2.1⟩ e (fun z=>nomatch z) h
 | @dT a kvs ea=>
  cases (show u = Value.ref a from rx)
  obtain ⟨_,_,xs,_,o,es,ep,h1,h2,_⟩:=(show ObjOk X.prog X.w H s.heap a (.dT kvs) from I.hok a _ ea)
  exact Jbz PySem.W.kitx_dict I.kIn ⟨o,h1,h2.1⟩ e (fun z=>nomatch z) h
 | @ins a C dx fs ea cl ha hn htk hm=>
  cases (show u = Value.ref a from rx)
  obtain ⟨mA,O,_⟩:=Zgv I.hok ea
  obtain ⟨od,J,_⟩:=O.look
  exact Jbz (PySem.W.kitx_own (cl.get _) cl.hd ha hn htk hm) I.kIn J e (fun z=>nomatch z) h
end
structure Room (k:Nat) (A:Around):Prop where
 hd:A.handled = none
 dp:A.depth + 3 * k + 205 < recursionLimit
 un:A.units + 16 * k + 200 < cLine
theorem Room.mono {j k:Nat} {A:Around} (r:Room k A) (h:j<=k):Room j A:=⟨r.hd,by have:=r.dp; omega,by have:=r.un; omega⟩
theorem Room.m {j k:Nat} {A:Around} (r:Room k A) (h:j<=k:=by decide):Room j A:=r.mono h
theorem Room.deeper {k:Nat} {A:Around} (r:Room (k + 1) A) (env:Env):Room k (A.deeper env):=
 ⟨r.hd,by have:=r.dp; show A.depth + 1 + 3 * k + 205 < _; omega,by have:=r.un; show A.units + 3 + 16 * k + 200 < _; omega⟩
theorem Room.in1 {k:Nat} {A:Around} (r:Room (k + 1) A):Room k A.in1:=
 ⟨r.hd,by have:=r.dp; show A.depth + 3 * k + 205 < _; omega,by have:=r.un; show A.units + 1 + 16 * k + 200 < _; omega⟩
theorem Zjp {A:Around} {C:Addr} {us:List Value} {kw:List (Str × Value)}:(A.under (.builtin "type.__call__" ⟨.ref C :: us,kw⟩)).depth = A.depth + 1:=by
 first | rfl | simp [Around.under,Code.weight,Code.isCreation,Code.isGuard,Code.isCaller,Code.frames,Code.isFrame,guardIds]
theorem Zjo {A:Around} {C:Addr} {us:List Value} {kw:List (Str × Value)}:(A.under (.builtin "type.__call__" ⟨.ref C :: us,kw⟩)).units = A.units + 1:=by
 first | rfl | simp [Around.under,Code.cUnits,Code.frames,Code.isFrame]
theorem Room.make {k:Nat} {A:Around} (r:Room (k + 1) A) (C:Addr) (us:List Value) (kw:List (Str × Value)):Room k (A.under (.builtin "type.__call__" ⟨.ref C :: us,kw⟩)):=
 ⟨r.hd,by have:=r.dp; rw [Zjp]; omega,by have:=r.un; rw [Zjo]; omega⟩
theorem Room.depth {k:Nat} {A:Around} (r:Room k A):A.depth < recursionLimit:=by have:=r.dp; omega
theorem Room.units {k:Nat} {A:Around} (r:Room k A):A.units + 64 < cLine:=by have:=r.un; omega
def Zj5:TA:=fun _ H Q=>Q [] H
def Zea (ta:TE) (tr:TA):TA:=fun σ H Q=>ta σ H fun x H1=>tr σ H1 fun xs H2=>Q (x :: xs) H2
section
variable {X:Cx} {e:Expr} {es:List Expr} {te:TE} {t:TA} {pos:Pos}
theorem Zab:PA X [] Zj5:=fun _ _ _ _ H Q I h=>Calls.spliced_nil ⟨[],H,I,.nil,h⟩
theorem pa_cons (ha:PE X e te) (hr:PA X es t) (hs:starEach (e :: es) X.env = (false,eval e X.env) :: starEach es X.env:=by rfl):PA X (e :: es) (Zea te t):=by
 intro pos pins s σ H Q I h
 rw [hs]
 show wpAny _ _ (spliced ((false,eval e X.env) :: backTo pos (starEach es X.env))) _ _ s
 refine Calls.spliced_cons (thn (ha pins s σ H _ I h) fun u s1 ⟨x,H1,I1,r1,q1⟩=>?_)
 exact thn (hr pos pins s1 σ H1 _ I1 q1) fun us s2 ⟨xs,H2,I2,r2,q2⟩=>⟨x :: xs,H2,I2,.cons r1 r2,q2⟩
def tTup (t:TA):TE:=fun σ H Q=>t σ H fun xs H1=>xs.length<=sizeLine/\∀ p,H1 p = none->Q (.ref p) (upd H1 p (.tup xs))
def tLst (t:TA):TE:=fun σ H Q=>t σ H fun xs H1=>xs.length<=sizeLine/\∀ p,H1 p = none->Q (.ref p) (upd H1 p (.lst xs))
theorem Zak {x1} (h:PA X es t):PE X (.Tuple es x1 pos) (tTup t):=by
 intro pins s σ H Q I hq
 refine wpAny_Tuple_spliced (thn (h pos pins s σ H _ I hq) fun us s1 ⟨xs,H1,I1,r,z,q⟩=>⟨by rw [<- r.length]; exact z,?_⟩)
 have hf:H1 s1.heap.objs.size = none:=I1.hok.fresh (Jae _)
 refine ⟨.ref s1.heap.objs.size,upd H1 s1.heap.objs.size (.tup xs),I1.laid (t':=s1.toks) (fun b u e=>Jad _ e) (Jae _) ?_,rfl,q _ hf⟩
 exact ⟨z,us,r,⟨_,Jas _ rfl,rfl,_,rfl⟩⟩
theorem Zbn (h:PA X es t):PE X (.List es pos) (tLst t):=by
 intro pins s σ H Q I hq
 refine wpAny_List_spliced (thn (h pos pins s σ H _ I hq) fun us s1 ⟨xs,H1,I1,r,z,q⟩=>⟨by rw [<- r.length]; exact z,?_⟩)
 have hf:H1 s1.heap.objs.size = none:=I1.hok.fresh (Jae _)
 refine ⟨.ref s1.heap.objs.size,upd H1 s1.heap.objs.size (.lst xs),I1.laid (t':=s1.toks) (fun b u e=>Jad _ e) (Jae _) ?_,rfl,q _ hf⟩
 exact ⟨z,us,0,r,Jas _ rfl⟩
end
abbrev Sp:=List V->Hp->VK->XK->Prop
abbrev CXT:=List Env->Hp->Shared->XK->Value->Shared->Prop
structure Env0 (P:Program) (w:World) (K:PySem.W.Frag) (mg:Str->Option Value) (base:Heap) (A:Around) (outer:List Env) (s:Shared) (H:Hp):Prop where
 frames:A.frames = some outer
 mod:Mod K mg base
 bs:∀ b o,base.get? b = some o->s.heap.get? b = some o/\H b = none
 bsz:base.objs.size<=s.heap.objs.size
 funs:s.heap.FunFrames base outer
 frf:∀ b ∈ frs outer,H b = none
 hok:HOk P w H s.heap
 bare:AllBare s.gens
def CE (outer:List Env) (P:Program) (w:World) (H:Hp) (s:Shared) (Q:VK) (u:Value) (s':Shared):Prop:=
 ∃ v H',s'.os = s.os/\AllBare s'.gens/\Un (frs outer) [] H H' s.heap s'.heap/\HOk P w H' s'.heap/\RelV v u/\Q v H'
def CR (CX:CXT) (outer:List Env) (P:Program) (w:World) (H:Hp) (s:Shared) (Q:VK) (E:XK) (r:Result) (s':Shared):Prop:=
 match r with
 | .ok (.ret u)=>CE outer P w H s Q u s'
 | .ok _=>False
 | .error e=>CX outer H s E e s'
structure FnOk (P:Program) (w:World) (K:PySem.W.Frag) (mg:Str->Option Value) (base:Heap) (CX:CXT) (k:Nat) (f:Addr) (fd:FuncData) (ps:List Str) (sp:Sp):Prop where
 len:∀ vs H Q E,sp vs H Q E->vs.length = ps.length
 run:∀ (A:Around) (outer:List Env) (s:Shared) (H:Hp) (args:Args) (us:List Value) (vs:List V) (Q:VK) (E:XK),Room k A->Env0 P w K mg base A outer s H->BindsTo s fd args (ps.zip us)->Vals vs us->sp vs H Q E->
  codeAny (model P w) A (.call (.ref f) args) (CR CX outer P w H s Q E) s
theorem Env0.make {P:Program} {w:World} {K:PySem.W.Frag} {mg:Str->Option Value} {base:Heap} {A:Around} {outer:List Env} {s:Shared} {H:Hp} (e:Env0 P w K mg base A outer s H) (C:Addr) (us:List Value) (kw:List (Str × Value)):
  Env0 P w K mg base (A.under (.builtin "type.__call__" ⟨.ref C :: us,kw⟩)) outer s H:=⟨by first | exact e.frames | (simpa [Around.under,Code.envs,Code.isFrame,pushEnvs] using e.frames),e.mod,e.bs,e.bsz,e.funs,e.frf,e.hok,e.bare⟩
section
variable {X:Cx} {pins:List (Addr × Obj)} {σ:St} {H:Hp} {s s':Shared}
theorem Inv.env0 (I:Inv X pins σ H s):Env0 X.prog X.w X.K X.mg X.base X.A X.stack s H:=
 ⟨I.ok.frames,I.ok.mod,I.bs,Jba I.ok.bsz I.sz,I.stack,I.stkFree,I.hok,I.bare⟩
theorem Inv.after {Q:VK} {u:Value} (I:Inv X pins σ H s) (h:CE X.stack X.prog X.w H s Q u s'):EP X pins σ Q u s':=by
 obtain ⟨v,H',os,bare,un,hok,r,q⟩:=h
 obtain ⟨hh,g,d,t,os'⟩:=s'
 obtain rfl:os' = s.os:=os
 exact ⟨v,H',I.call (h':=hh) (g':=g) (d':=d) (t':=t) (ch:=[]) un hok bare (fun b z=>absurd z (by simp)),r,q⟩
end
def Zj7 (sp:Sp) (dvs:List V) (E:XK) (t:TA):TE:=fun σ H Q=>t σ H fun vs H1=>sp (vs ++ dvs) H1 Q E
def tMeth (C:Addr) (m:Str) (sp:Sp) (dvs:List V) (E:XK) (ta:TE) (t:TA):TE:=fun σ H Q=>ta σ H fun x H1=>∃ a dx fs,x = .ref a/\H1 a = some (.ins C dx fs)/\fs.lookup m = none /\
 t σ H1 fun vs H2=>sp (x :: (vs ++ dvs)) H2 Q E
def Zmw (C:Addr) (sp:Sp) (dvs:List V) (E:XK) (t:TA):TE:=fun σ H Q=>t σ H fun vs H1=>∀ x dx,H1 x = none->H1 dx = none->dx ≠ x->
 sp (.ref x :: (vs ++ dvs)) (upd (upd H1 dx (.own x)) x (.ins C dx [])) (fun v H2=>v = .non/\Q (.ref x) H2) E
def Binds (K:PySem.W.Frag) (fd:FuncData) (ps:List Str) (ds:List Value):Prop:=
 ∀ (s:Shared) (us:List Value),K.In s.heap->(us ++ ds).length = ps.length->BindsTo s fd ⟨us,[]⟩ (ps.zip (us ++ ds))
theorem Binds.all {K:PySem.W.Frag} {fd:FuncData} {ps:List Str} (h:∀ us:List Value,us.length = ps.length->bindArgs fd ⟨us,[]⟩ = pure (ps.zip us)):Binds K fd ps []:=fun s us _ hl=>by
 rw [Jd0] at hl ⊢
 exact .of_eq (h us hl)
def Zf9 (CX:CXT) (X:Cx) (E:XK):Prop:=∀ (pins:List (Addr × Obj)) (σ:St) (H:Hp) (s:Shared) (e:Value) (s':Shared),Inv X pins σ H s->CX X.stack H s E e s'->X.xe e s'
section
variable {X:Cx} {CX:CXT} {k:Nat} {f C:Addr} {fd:FuncData} {ps:List Str} {sp:Sp} {dvs:List V} {ds:List Value} {E:XK} {x m:Str} {p pos apos:Pos} {e o:Expr} {es:List Expr} {ta:TE} {t:TA}
theorem Zoe {pins:List (Addr × Obj)} {σ:St} {H:Hp} {s:Shared} {Q:VK} {us:List Value} {vs:List V} (F:FnOk X.prog X.w X.K X.mg X.base CX k f fd ps sp) (hr:Room k X.A) (hb:Binds X.K fd ps ds) (hd:Vals dvs ds) (hx:Zf9 CX X E)
  (I:Inv X pins σ H s) (r:Vals vs us) (h:sp (vs ++ dvs) H Q E):wpAny (model X.prog X.w) X.A (call (.ref f) us) (EP X pins σ Q) X.xe s:=by
 have r2:Vals (vs ++ dvs) (us ++ ds):=r.append hd
 have hl:(us ++ ds).length = ps.length:=by rw [<- r2.length]; exact F.len _ _ _ _ h
 refine wpAny_call (Jd8 (F.run X.A X.stack s H ⟨us,[]⟩ (us ++ ds) (vs ++ dvs) Q E hr I.env0 (hb s us I.kIn hl) r2 h) fun r s' hq=>?_)
 cases r with
 | error e=>exact hx pins σ H s e s' I hq
 | ok fl=>
  cases fl with
  | ret u=>exact I.after hq
  | next=>exact False.elim hq
  | brk=>exact False.elim hq
  | cont=>exact False.elim hq
theorem pe_call (F:FnOk X.prog X.w X.K X.mg X.base CX k f fd ps sp) (hr:Room k X.A) (hg:Gl X x) (hm:X.mg x = some (.ref f)) (hk:PySem.W.keepIn X.K (.ref f) = true) (hb:Binds X.K fd ps ds) (hd:Vals dvs ds) (hx:Zf9 CX X E)
  (ha:PA X (e :: es) t) (hdb:(x == ("__debug__" : Str)) = false:=by decide) (he:starEach (e :: es) X.env = (false,eval e X.env) :: starEach es X.env:=by rfl) (hpl:(backTo pos (starEach es X.env)).any (·.1) = false:=by rfl):
  PE X (.Call (.Name x p) (e :: es) [] pos) (Zj7 sp dvs E t):=by
 intro pins s σ H Q I h
 refine Jcx (Zib I hg hm ?_ hdb)
 refine PySem.W.callWith_K (h₀:=X.base) I.ok.mod.kin hk (thn (ha pos pins s σ H _ I h) fun us s1 ⟨vs,H1,I1,r,q⟩=>⟨I1.kIn,?_⟩) he hpl
 exact Zoe F hr hb hd hx I1 r q
theorem Zm9 {pl:Sem Bool} (he:PE X o ta) (c:Cls X.K C) (hm:Meth X.K C m f) (F:FnOk X.prog X.w X.K X.mg X.base CX k f fd ps sp) (hr:Room k X.A) (hb:Binds X.K fd ps ds) (hd:Vals dvs ds) (hx:Zf9 CX X E)
  (ht:eval (.Call (.Attribute o m apos) [] [] pos) X.env = (do
   let ov <- eval o X.env
   standAt apos.atName
   let (f,first) <- holding [ov] (getMethod ov m pl)
   callWith pos f first (backTo pos (starEach [] X.env)) (backToKw pos (keywordEach [] X.env))):=by rfl):
  PE X (.Call (.Attribute o m apos) [] [] pos) (tMeth C m sp dvs E ta Zj5):=by
 intro pins s σ H Q I h
 refine PySem.W.methodCall_KW (pl:=pl) (thn (he pins s σ H _ I h) fun u s1 ⟨x,H1,I1,rx,a,dx,fs,ex,ea,l,q⟩=>?_) ht
 subst ex
 obtain rfl:u = Value.ref a:=rx
 refine Zf6 I1 ea c hm l ?_
 exact PySem.W.callWith_K0 (first:=[.ref a]) I1.kIn hm.kp (Zoe (us:=[.ref a]) (vs:=[.ref a]) F hr hb hd hx I1 (.cons rfl .nil) q)
structure Mk (K:PySem.W.Frag) (C f:Addr):Prop where
 makes:PySem.W.makesIn K C = true
 init:PySem.W.findIn K (.ref C) "__init__" = some (some (.ref f))
 fn:PySem.W.isFn K (.ref f) = true
 kp:PySem.W.keepIn K (.ref C) = true
theorem Zm0 {pins:List (Addr × Obj)} {σ:St} {H:Hp} {s:Shared} {Q:VK} {us:List Value} {vs:List V} (M:Mk X.K C f) (F:FnOk X.prog X.w X.K X.mg X.base CX k f fd ps sp) (hr:Room (k + 1) X.A) (hb:Binds X.K fd ps ds) (hd:Vals dvs ds)
  (hx:Zf9 CX X E) (I:Inv X pins σ H s) (r:Vals vs us)
  (h:∀ x dx,H x = none->H dx = none->dx ≠ x->sp (.ref x :: (vs ++ dvs)) (upd (upd H dx (.own x)) x (.ins C dx [])) (fun v H2=>v = .non/\Q (.ref x) H2) E):
  wpAny (model X.prog X.w) X.A (call (.ref C) us) (EP X pins σ Q) X.xe s:=by
 have hq:=h (s.heap.objs.size + 1) s.heap.objs.size (I.hok.fresh (Jd1 _)) (I.hok.fresh (Jae _)) (Jay (Jdp _))
 have I2:=Inv.made (C:=C) I
 have r2:Vals (V.ref (s.heap.objs.size + 1) :: (vs ++ dvs)) (Value.ref (s.heap.objs.size + 1) :: (us ++ ds)):=.cons rfl (r.append hd)
 have hl:(Value.ref (s.heap.objs.size + 1) :: us ++ ds).length = ps.length:=by
  have e:=r2.length
  rw [F.len _ _ _ _ hq] at e
  exact e.symm
 refine wpAny_call (Znt (f:=f) I.kIn M.makes M.init (Jbh.mp M.fn) (Jd8 (F.run _ X.stack _ _ ⟨Value.ref (s.heap.objs.size + 1) :: us,[]⟩ (Value.ref (s.heap.objs.size + 1) :: (us ++ ds)) _ _ E (hr.make C us [])
  (I2.env0.make C us []) (hb _ (Value.ref (s.heap.objs.size + 1) :: us) I2.kIn hl) r2 hq) fun r s' hq'=>?_))
 cases r with
 | error e=>exact hx pins σ _ _ e s' I2 hq'
 | ok fl=>
  cases fl with
  | ret u=>
   obtain ⟨v,H',I3,rv,ev,q3⟩:=I2.after hq'
   subst ev
   exact ⟨rv,⟨V.ref (s.heap.objs.size + 1),H',I3,rfl,q3⟩⟩
  | next=>exact False.elim hq'
  | brk=>exact False.elim hq'
  | cont=>exact False.elim hq'
theorem pe_make (M:Mk X.K C f) (F:FnOk X.prog X.w X.K X.mg X.base CX k f fd ps sp) (hr:Room (k + 1) X.A) (hg:Gl X x) (hm:X.mg x = some (.ref C)) (hb:Binds X.K fd ps ds) (hd:Vals dvs ds) (hx:Zf9 CX X E)
  (ha:PA X (e :: es) t) (hdb:(x == ("__debug__" : Str)) = false:=by decide) (he:starEach (e :: es) X.env = (false,eval e X.env) :: starEach es X.env:=by rfl) (hpl:(backTo pos (starEach es X.env)).any (·.1) = false:=by rfl):
  PE X (.Call (.Name x p) (e :: es) [] pos) (Zmw C sp dvs E t):=by
 intro pins s σ H Q I h
 refine Jcx (Zib I hg hm ?_ hdb)
 refine PySem.W.callWith_K (h₀:=X.base) I.ok.mod.kin M.kp (thn (ha pos pins s σ H _ I h) fun us s1 ⟨vs,H1,I1,r,q⟩=>⟨I1.kIn,?_⟩) he hpl
 exact Zm0 M F hr hb hd hx I1 r q
end
section
variable {X:Cx} {CX:CXT} {k:Nat} {f C:Addr} {fd:FuncData} {ps ks:List Str} {sp:Sp} {E:XK} {x m:Str} {p pos apos kpos:Pos} {e o:Expr} {es:List Expr} {kws:List Keyword} {te ta:TE} {t tk:TA} {nm:Option Str}
structure KBinds (K:PySem.W.Frag) (fd:FuncData) (ps ks:List Str) (g:List Value->List Value->List Value) (gV:List V->List V->List V):Prop where
 to:∀ (s:Shared) (us ws:List Value),K.In s.heap->(g us ws).length = ps.length->BindsTo s fd ⟨us,ks.zip ws⟩ (ps.zip (g us ws))
 rel:∀ {vs:List V} {us:List Value} {zs:List V} {ws:List Value},Vals vs us->Vals zs ws->Vals (gV vs zs) (g us ws)
variable {g:List Value->List Value->List Value} {gV:List V->List V->List V}
end
structure FnScope (N P:List Str) (sc:Scope):Prop where
 kind:sc.kind = .function
 co:sc.isCoroutine = false
 gen:sc.isGenerator = false
 nd:N.Nodup
 pre:N.take P.length = P
 par:∀ x ∈ P,sc.names.lookup x = some .local\/sc.names.lookup x = some .cell
 nofree:∀ y ∈ sc.names,y.2 ≠ .free
theorem Zhp {kindOf:Str->Option NameKind} {x:Str}:∀ {binds:List (Str × Value)} {m:Str->Option Value},(∀ v,(x,v) ∉ binds)->bindL kindOf binds m x = m x
 | [],_,_=>rfl
 | (n,v) :: r,m,h=>by
  unfold bindL
  rw [Zhp fun w hw=>h w (Ja7 _ hw)]
  split
  ·have:x ≠ n:=by rintro rfl; exact h v Jb9
   simp [this]
  ·rfl
theorem Zhr {kindOf:Str->Option NameKind} {x:Str}:∀ {binds:List (Str × Value)} {m:Str->Option Value},(∀ v,(x,v) ∉ binds)->bindC kindOf binds m x = m x
 | [],_,_=>rfl
 | (n,v) :: r,m,h=>by
  unfold bindC
  rw [Zhr fun w hw=>h w (Ja7 _ hw)]
  split
  ·rfl
  ·have:x ≠ n:=by rintro rfl; exact h v Jb9
   simp [this]
theorem Zhq {kindOf:Str->Option NameKind} {x:Str} {v:Value}:∀ {P:List Str} {vs:List Value} {i:Nat} {m:Str->Option Value},P.Nodup->P[i]? = some x->vs[i]? = some v->kindOf x = some .local->
  bindL kindOf (P.zip vs) m x = some v
 | [],_,_,_,_,h,_,_=>by simp at h
 | _ :: _,[],_,_,_,_,h,_=>by simp at h
 | p :: P,w :: vs,0,m,nd,h1,h2,hk=>by
  simp at h1 h2; subst h1; subst h2
  show bindL kindOf ((p,w) :: P.zip vs) m p = _
  unfold bindL
  rw [Zhp fun v hv=>(Jbl.mp nd).1 (List.of_mem_zip hv).1,if_pos hk]
  simp
 | p :: P,w :: vs,i + 1,m,nd,h1,h2,hk=>by
  show bindL kindOf ((p,w) :: P.zip vs) m x = _
  unfold bindL
  exact Zhq (i:=i) (Jbl.mp nd).2 (by simpa using h1) (by simpa using h2) hk
theorem Zhs {kindOf:Str->Option NameKind} {x:Str} {v:Value}:∀ {P:List Str} {vs:List Value} {i:Nat} {m:Str->Option Value},P.Nodup->P[i]? = some x->vs[i]? = some v->kindOf x ≠ some .local->
  bindC kindOf (P.zip vs) m x = some v
 | [],_,_,_,_,h,_,_=>by simp at h
 | _ :: _,[],_,_,_,_,h,_=>by simp at h
 | p :: P,w :: vs,0,m,nd,h1,h2,hk=>by
  simp at h1 h2; subst h1; subst h2
  show bindC kindOf ((p,w) :: P.zip vs) m p = _
  unfold bindC
  rw [Zhr fun v hv=>(Jbl.mp nd).1 (List.of_mem_zip hv).1,if_neg hk]
  simp
 | p :: P,w :: vs,i + 1,m,nd,h1,h2,hk=>by
  show bindC kindOf ((p,w) :: P.zip vs) m x = _
  unfold bindC
  exact Zhs (i:=i) (Jbl.mp nd).2 (by simpa using h1) (by simpa using h2) hk
def start (N:List Str) (vs:List V):St:=vs.map some ++ List.replicate (N.length - vs.length) none
def Zox (CX:CXT) (P:Program) (w:World) (K:PySem.W.Frag) (mg:Str->Option Value) (base:Heap) (N:List Str) (qual:Str) (scope:Scope) (f:Addr) (cd:Value) (A:Around) (outer:List Env) (s:Shared) (H:Hp) (E:XK):Cx where
 prog:=P
 w:=w
 K:=K
 mg:=mg
 base:=base
 A:=A.deeper (envOfC qual scope s.heap.objs.size f cd)
 N:=N
 s₀:=s
 H₀:=H
 env:=envOfC qual scope s.heap.objs.size f cd
 outer:=outer
 stack:=envOfC qual scope s.heap.objs.size f cd :: outer
 ex:=[]
 calm:=true
 fn:=fun _=>true
 pn:=[]
 xe:=fun e s'=>wpAny (model P w) (A.deeper (envOfC qual scope s.heap.objs.size f cd)) (leaving (envOfC qual scope s.heap.objs.size f cd) e) (fun _ s''=>CX outer H s E e s'') (fun e' s''=>CX outer H s E e' s'') s'
theorem Zi8 {sc:Scope} {n:Nat} {x:Str} (h:sc.names.lookup x = some .cell):∃ c,(cellsFrom n sc.names []).lookup x = some c:=by
 have q:=Jcv sc.names n [] (.inl h)
 exact Jcm.mp q
theorem Zlw {CX:CXT} {P:Program} {w:World} {K:PySem.W.Frag} {mg:Str->Option Value} {base:Heap} {N ps:List Str} {qual:Str} {scope:Scope} {f:Addr} {cd:Value} {A:Around} {outer:List Env} {s s1:Shared} {H:Hp} {E:XK} {us:List Value} {vs:List V}
  (S:FnScope N ps scope) (hd:A.handled = none) (e0:Env0 P w K mg base A outer s H) (hl:vs.length = ps.length) (r:Vals vs us)
  (x:InCallC s s.heap.objs.size (bindL (envOfC qual scope s.heap.objs.size f cd).kindOf (ps.zip us) fun _=>none) (cellsFrom (s.heap.objs.size + 1) scope.names []) (bindC (envOfC qual scope s.heap.objs.size f cd).kindOf (ps.zip us) fun _=>none) s1):
  Inv (Zox CX P w K mg base N qual scope f cd A outer s H E) [] (start N vs) H s1:=by
 have hpl:ps.length<=N.length:=by have:=Jdj List.length S.pre; rw [Ja8] at this; omega
 obtain ⟨h1,tk,rfl,hk⟩:=x.done
 have noA:∀ b:Addr,b ∉ (Zox CX P w K mg base N qual scope f cd A outer s H E).ex:=fun b z=>absurd (show b ∈ ([]:List Addr) from z) (by simp)
 refine ⟨⟨e0.mod,S.kind,rfl,rfl,Jae _,fun y z c h1 h2=>?_,fun y hy=>?_,fun y c _ h=>?_,fun _=>hd,Around.frames_deeper e0.frames,.inr ⟨rfl,rfl⟩,fun b z=>absurd z (noA b),e0.bs,e0.bsz,fun b _ _=>noA b,fun b z=>absurd z (noA b),e0.funs,e0.frf,⟨_,_,rfl,S.gen,S.co,rfl,rfl⟩⟩,
  rfl,e0.bare,Un.kept hk,⟨_,x.toInCall.ns,fun i y v h1 h2 h3=>?_⟩,fun y c h=>⟨_,x.cell y c h⟩,e0.hok.fresh (Jae _),fun y c h=>?_,fun p hp=>absurd (show p ∈ ([]:List (Addr × Obj)) from hp) (by simp),e0.hok.kept hk,?_⟩
 ·exact name_of_addr x.apart (Ja9 h1) (Ja9 h2)
 ·have hy:scope.names.lookup y = some .cell\/scope.names.lookup y = some .free:=hy
  rcases hy with hy | hy
  ·exact Zi8 hy
  ·exact absurd rfl (S.nofree _ (Ja9 hy))
 ·exact Jbo (x.above y c (Ja9 h))
 ·have hi:i < vs.length:=by
   unfold start at h2
   by_cases hi:i < vs.length
   ·exact hi
   ·rw [Jbb (by simpa using hi)] at h2
    rw [Jcr] at h2
    split at h2 <;> cases h2
  have ha:vs[i]? = some v:=by
   unfold start at h2
   rw [Jbk (by simpa using hi),Ja6] at h2
   cases e:vs[i]? with
   | none=>rw [e] at h2; cases h2
   | some a=>rw [e] at h2; cases h2; rfl
  obtain ⟨u,hu,rv⟩:=r.get ha
  have hp:ps[i]? = some y:=by
   rw [<- S.pre,List.getElem?_take_of_lt (by omega)]; exact h1
  have ndP:ps.Nodup:=by rw [<- S.pre]; exact S.nd.sublist (Jed _ _)
  refine ⟨u,rv,?_⟩
  rcases S.par y (Jar hp) with k | k
  ·exact .inl ⟨k,Zhq ndP hp hu k⟩
  ·obtain ⟨c,e⟩:=Zi8 (n:=s.heap.objs.size + 1) k
   refine .inr ⟨.inl k,c,e,?_⟩
   have q:=x.cell y c e
   rw [Zhs ndP hp hu (by show scope.names.lookup y ≠ _; rw [k]; decide)] at q
   exact q
 ·exact e0.hok.fresh (Jbo (x.above y c (Ja9 h)))
 ·unfold start
  show _ = N.length
  rw [Jak,Jaa,Jbj]
  omega
theorem fn_of {CX:CXT} {P:Program} {w:World} {K:PySem.W.Frag} {mg:Str->Option Value} {base:Heap} {k:Nat} {f:Addr} {name qual:Str} {params:Arguments} {body:List Stmt} {scope:Scope} {dV kV doc pm cdv ct oc:Value} {an od:Option Addr}
  {osl:Array (Option Value)} {N ps:List Str} {sp:Sp} (lk:K.lookup f = some ⟨oc,od,.func (PySem.W.fnOf name qual params body scope dV kV doc pm an cdv ct),osl⟩) (hcd:PySem.W.codeIn K cdv qual = true) (S:FnScope N ps scope)
  (len:∀ vs H Q E,sp vs H Q E->vs.length = ps.length)
  (hbody:∀ (A:Around) (outer:List Env) (s:Shared) (H:Hp) (vs:List V) (Q:VK) (E:XK),Room k (A.deeper (envOfC qual scope s.heap.objs.size f cdv))->sp vs H Q E->
   ∃ t,PSs (Zox CX P w K mg base N qual scope f cdv A outer s H E) body t/\t { nx:=fun _ H'=>Q .non H',rt:=Q } (start N vs) H):
  FnOk P w K mg base CX (k + 1) f (PySem.W.fnOf name qual params body scope dV kV doc pm an cdv ct) ps sp:=by
 refine ⟨len,fun A outer s H args us vs Q E hr e0 hb r hsp=>?_⟩
 have hl:=len _ _ _ _ hsp
 have KX:K.In s.heap:=e0.mod.kin.keeps fun b o e=>(e0.bs b o e).1
 have lim:s.heap.NoLimit:=e0.mod.nolimit.keeps fun b o e=>(e0.bs b o e).1
 have hkind:∀ y ∈ ps.zip us,scope.names.lookup y.1 = some .local\/(scope.names.lookup y.1 = some .cell/\((cellsFrom (s.heap.objs.size + 1) scope.names []).lookup y.1).isSome = true):=fun ⟨n,v⟩ hy=>by
  rcases S.par n (List.of_mem_zip hy).1 with q | q
  ·exact .inl q
  ·exact .inr ⟨q,Jcv _ _ _ (.inl q)⟩
 refine codeAny_call_function hr.depth (KX _ _ lk) rfl S.co S.gen rfl (PySem.W.codeRec_of KX hcd) (hb _ _ _ _ ?_)
 refine wpAny_newFunctionEnv_cells S.kind hkind fun env he s1 x=>?_
 subst he
 refine ⟨lim.keeps x.toInCall.keep,codeAny_func ?_⟩
 obtain ⟨t,ht,hq⟩:=hbody A outer s H vs Q E (hr.deeper _) hsp
 have I:Inv (Zox CX P w K mg base N qual scope f cdv A outer s H E) [] (start N vs) H s1:=Zlw S hr.hd e0 hl r x
 refine Ja5 (ht [] s1 (start N vs) H _ I hq) (fun fl s' hs=>?_) fun e s' hs=>hs
 have fin:∀ {σ':St} {H':Hp} {v:V} {u:Value},Inv (Zox CX P w K mg base N qual scope f cdv A outer s H E) [] σ' H' s'->RelV v u->Q v H'->CE outer P w H s Q u s':=
  fun {σ' H' v u} J rv q=>⟨v,H',J.os,J.bare,J.base,J.hok,rv,q⟩
 cases fl with
 | ret u=>
  obtain ⟨v,σ',H',J,rv,q⟩:=hs
  exact fin J rv q
 | next=>
  obtain ⟨σ',H',J,q⟩:=hs
  exact fin (v:=V.non) (u:=Value.none) J rfl q
 | brk=>
  obtain ⟨_,_,_,q⟩:=hs
  exact False.elim q
 | cont=>
  obtain ⟨_,_,_,q⟩:=hs
  exact False.elim q
section
variable {X:Cx} {x:Str} {p pos:Pos} {e:Expr} {es:List Expr} {t:TA} {id T:String} {r:List V->Hp->VK->Prop}
def tCB (r:List V->Hp->VK->Prop) (t:TA):TE:=fun σ H Q=>t σ H fun vs H1=>r vs H1 Q
theorem Znd (hc:Zd8 X (.builtin id) r) (hg:Gl X x) (hm:X.mg x = none) (hv:bootBuiltins x = some (.builtin id)) (ha:PA X (e :: es) t) (hn:x ≠ "__name__" := by decide) (hdb:(x == ("__debug__" : Str)) = false:=by decide)
  (he:starEach (e :: es) X.env = (false,eval e X.env) :: starEach es X.env:=by rfl) (hpl:(backTo pos (starEach es X.env)).any (·.1) = false:=by rfl):PE X (.Call (.Name x p) (e :: es) [] pos) (tCB r t):=by
 intro pins s σ H Q I h
 refine Jcx (Zfh I hg hm hv ?_ hn hdb)
 exact PyProof.Rows.callWith_builtin1 (thn (ha pos pins s σ H _ I h) fun us s1 ⟨vs,H1,I1,r1,q1⟩=>hc pins s1 σ H1 vs us Q I1 r1 q1) he hpl
theorem Zk5 (hc:Zd8 X (.type T) r) (hg:Gl X x) (hm:X.mg x = none) (hv:bootBuiltins x = some (.type T)) (ha:PA X (e :: es) t) (hn:x ≠ "__name__" := by decide) (hdb:(x == ("__debug__" : Str)) = false:=by decide)
  (he:starEach (e :: es) X.env = (false,eval e X.env) :: starEach es X.env:=by rfl) (hpl:(backTo pos (starEach es X.env)).any (·.1) = false:=by rfl):PE X (.Call (.Name x p) (e :: es) [] pos) (tCB r t):=by
 intro pins s σ H Q I h
 refine Jcx (Zfh I hg hm hv ?_ hn hdb)
 exact Jcf (thn (ha pos pins s σ H _ I h) fun us s1 ⟨vs,H1,I1,r1,q1⟩=>hc pins s1 σ H1 vs us Q I1 r1 q1) he hpl
end
end L2
namespace HT
open PySem PyProof.Rows
section
open PySem.SeqAt
open PySem.AutoSeq1 (wpAny_loadPart')
open PySem.MeetsSeq PySem.MeetsSeq2 PySem.MeetsSeq3
end
section
variable {prog:Program} {w:World} {A:Around} {E:Value->Shared->Prop} {s:Shared}
def sIx (n d:Nat):Option Int->Nat
 | none=>d
 | some v=>if v < 0 then (v + (n:Int)).toNat else min v.toNat n
end
end HT
namespace L2
open PySem PySem.Spec PyProof.Rows
abbrev TO:=St->Hp->(Option Int->Hp->Prop)->Prop
def PO (X:Cx) (e:Option Expr) (t:TO):Prop:=
 ∀ (pins:List (Addr × Obj)) (s:Shared) (σ:St) (H:Hp) (Q:Option Int->Hp->Prop),Inv X pins σ H s->t σ H Q->
  wpAny (model X.prog X.w) X.A (evalPart e X.env) (fun u s'=>∃ o H',Inv X pins σ H' s'/\IsPart u o/\Q o H') X.xe s
def Zj4:TO:=fun _ H Q=>Q none H
def tPart (t:TE):TO:=fun σ H Q=>t σ H fun x H1=>∃ i,x = .int i/\Q (some i) H1
section
variable {X:Cx} {e:Expr} {te:TE} {lo hi:Option Expr} {tl th:TO} {pos p2:Pos}
theorem Zc4:PO X none Zj4:=by
 intro pins s σ H Q I h
 rw [evalPart_none]
 exact Jap ⟨none,H,I,.none,h⟩
theorem Zc3 (h:PE X e te):PO X (some e) (tPart te):=by
 intro pins s σ H Q I hw
 rw [evalPart_some]
 refine thn (h pins s σ H _ I hw) fun u s1 ⟨x,H1,I1,r1,q1⟩=>?_
 obtain ⟨i,rfl,q⟩:=q1
 obtain ⟨t,rfl⟩:=r1
 exact ⟨some i,H1,I1,.int i t,q⟩
def SlR (X:Cx) (r:V->Option Int->Option Int->Hp->VK->Prop):Prop:=
 ∀ (pins:List (Addr × Obj)) (s:Shared) (σ:St) (H:Hp) (x:V) (v vl vu:Value) (lo hi:Option Int) (sl:Addr) (Q:VK),Inv X pins σ H s->RelV x v->s.heap.IsSliceOf sl vl vu .none->IsPart vl lo->IsPart vu hi->r x lo hi H Q->
  ∃ T id,typeLookup (.type T) "__getitem__" = pure (some (.builtin id))/\s.TypeIs v T/\wpAny (model X.prog X.w) X.A (getItem v (.ref sl)) (EP X pins σ Q) X.xe s
def tSl (r:V->Option Int->Option Int->Hp->VK->Prop) (te:TE) (tl th:TO):TE:=fun σ H Q=>te σ H fun x H1=>tl σ H1 fun l H2=>th σ H2 fun u H3=>r x l u H3 Q
theorem Zb9 {r:V->Option Int->Option Int->Hp->VK->Prop} (hr:SlR X r) (he:PE X e te) (hl:PO X lo tl) (hu:PO X hi th):PE X (.Subscript e (.Slice lo hi none p2) pos) (tSl r te tl th):=by
 intro pins s σ H Q I h
 refine Subscript_ (thn (he pins s σ H _ I h) fun v s1 ⟨x,H1,I1,r1,q1⟩=>?_)
 refine wpAny_Slice (thn (hl pins s1 σ H1 _ I1 q1) fun vl s2 ⟨l,H2,I2,pl,q2⟩=>thn (hu pins s2 σ H2 _ I2 q2) fun vu s3 ⟨u,H3,I3,pu,q3⟩=>?_)
 rw [evalPart_none]
 refine Jap ?_
 have I4:Inv X pins σ H3 { s3 with heap:=s3.heap.push { cls:=.type "slice",data:=.fields #[vl,vu,.none] } }:=I3.kept (t':=s3.toks) fun b ob q=>Jad _ q
 obtain ⟨T,id,hT,ht,hg⟩:=hr pins { s3 with heap:=s3.heap.push { cls:=.type "slice",data:=.fields #[vl,vu,.none] } } σ H3 x v vl vu l u s3.heap.objs.size Q I4 r1 (Heap.IsSliceOf.new ..) pl pu q3
 show wpAny (model X.prog X.w) X.A (subscriptTail e (.Slice lo hi none p2) v (.ref s3.heap.objs.size)) (EP X pins σ Q) X.xe { s3 with heap:=s3.heap.push { cls:=.type "slice",data:=.fields #[vl,vu,.none] } }
 exact tail_any (ops:=[.ref s3.heap.objs.size,v]) ht hT hg (by with_unfolding_all rfl)
def Zeh (xs:List V) (lo hi:Option Int):List V:=(xs.drop (HT.sIx xs.length 0 lo)).take (HT.sIx xs.length xs.length hi - HT.sIx xs.length 0 lo)
theorem Zcl (xs:List V) (lo hi:Option Int):(Zeh xs lo hi).length<=xs.length:=by
 unfold Zeh
 rw [Ja8,Jct]
 omega
end
def ixN (n:Nat) (i:Int):Option Nat:=if 0<=i then (if i < n then some i.toNat else none) else if -(n:Int)<=i then some (i + n).toNat else none
def atI {α:Type} (xs:List α) (i:Int):Option α:=(ixN xs.length i).bind fun j=>xs[j]?
theorem Zlu {n:Nat} {i:Int} {j:Nat} (h:ixN n i = some j):seqIndex? i n = some j/\j < n/\-(n:Int)<=i/\i < n:=by
 unfold ixN at h
 by_cases h0:0<=i
 ·rw [if_pos h0] at h
  by_cases h1:i < n
  ·rw [if_pos h1] at h
   have e:i.toNat = j:=Ja4 h
   exact ⟨by rw [seqIndex_of h0 h1,e],by omega,by omega,h1⟩
  ·rw [if_neg h1] at h; cases h
 ·rw [if_neg h0] at h
  by_cases h1:-(n:Int)<=i
  ·rw [if_pos h1] at h
   have e:(i + n).toNat = j:=Ja4 h
   exact ⟨by rw [seqIndex_neg (by omega) h1,e],by omega,h1,by omega⟩
  ·rw [if_neg h1] at h; cases h
theorem Zmo {α:Type} {xs:List α} {i:Int} {v:α} (h:atI xs i = some v):∃ j,seqIndex? i xs.length = some j/\xs[j]? = some v/\j < xs.length/\-(xs.length:Int)<=i/\i < xs.length:=by
 unfold atI at h
 cases e:ixN xs.length i with
 | none=>rw [e] at h; cases h
 | some j=>
  rw [e] at h
  obtain ⟨h1,h2,h3,h4⟩:=Zlu e
  exact ⟨j,h1,h,h2,h3,h4⟩
theorem atI_nat {α:Type} {xs:List α} {j:Nat} {v:α} (h:xs[j]? = some v):atI xs (j:Int) = some v:=by
 have hj:j < xs.length:=(Ja0.mp h).1
 have e:ixN xs.length (j:Int) = some j:=by
  unfold ixN
  rw [if_pos (by omega),if_pos (by omega)]; simp
 unfold atI; rw [e]; exact h
def PlainIx (b:Expr):Prop:=∀ o i,subscripted b false o i = operate [o,i] (getItem o i)
def IxR (X:Cx) (r:R2):Prop:=
 ∀ (value slice:Expr) (pins:List (Addr × Obj)) (s:Shared) (σ:St) (H:Hp) (x y:V) (v u:Value) (Q:VK),Inv X pins σ H s->RelV x v->RelV y u->r x y H Q->
  subscripted slice false v u = operate [v,u] (getItem v u)->wpAny (model X.prog X.w) X.A (subscriptTail value slice v u) (EP X pins σ Q) X.xe s
def MtR (X:Cx) (id:String) (r:V->List V->Hp->VK->Prop):Prop:=
 ∀ (pins:List (Addr × Obj)) (s:Shared) (σ:St) (H:Hp) (x:V) (xs:List V) (v:Value) (us:List Value) (Q:VK),Inv X pins σ H s->RelV x v->Vals xs us->r x xs H Q->
  wpAny (model X.prog X.w) X.A (call (.builtin id) (v :: us)) (EP X pins σ Q) X.xe s
section
variable {X:Cx} {a b:Expr} {ta tb:TE} {pos:Pos}
theorem pe_ix {r:R2} (hr:IxR X r) (ha:PE X a ta) (hb:PE X b tb) (hs:PlainIx b):PE X (.Subscript a b pos) (tOp r ta tb):=by
 intro pins s σ H Q I h
 exact Subscript_ (binT ha hb I h fun v u s2 x y H2 I2 rx ry q=>hr a b pins s2 σ H2 x y v u Q I2 rx ry q (hs _ _))
def rIxL (K:PySem.W.Frag):R2:=fun x y H Q=>∃ p xs i v,x = .ref p/\y = .int i/\SqL K H p xs/\atI xs i = some v/\Q v H
def rIxT (K:PySem.W.Frag):R2:=fun x y H Q=>∃ p xs i v,x = .ref p/\y = .int i/\SqT K H p xs/\atI xs i = some v/\Q v H
theorem Zav:IxR X (rIxL X.K):=by
 intro value slice pins s σ H x y v u Q I rx ry h hs
 obtain ⟨p,xs,i,z,rfl,rfl,hq,he,q⟩:=h
 cases rx
 obtain ⟨t,rfl⟩:=ry
 obtain ⟨its,r,pl,hz⟩:=I.list hq
 obtain ⟨j,h1,h2,h3,h4,h5⟩:=Zmo he
 obtain ⟨w,ew,rw'⟩:=r.get h2
 have hl:=r.length
 have hn:=Zhf
 have fin:EP X pins σ Q w s:=⟨z,H,I,rw',q⟩
 by_cases h0:0<=i
 ·have hj:i.toNat = j:=by
   rw [seqIndex_of h0 h5] at h1
   exact Ja4 h1
  exact item_listR pl.isList h0 (by omega) (by rw [hj]; simpa using ew) fin hs
 ·have hj:(i + (its.toArray.size:Int)).toNat = j:=by
   rw [seqIndex_neg (by omega) h4] at h1
   rw [Jai,<- hl]
   exact Ja4 h1
  exact subscriptTail_builtinR (x:=w) pl.isList.typeIs slot_list_getitem.lookup
   (wpAny_getItem_list_neg (Q:=fun r s'=>r = w/\EP X pins σ Q r s') pl.isList (by omega) (by rw [Jai] <;> omega) (by omega) (by rw [hj]; simpa using ew) ⟨rfl,fin⟩) hs
theorem Zoo:IxR X (rIxT X.K):=by
 intro value slice pins s σ H x y v u Q I rx ry h hs
 obtain ⟨p,xs,i,z,rfl,rfl,hq,he,q⟩:=h
 cases rx
 obtain ⟨t,rfl⟩:=ry
 obtain ⟨its,r,pl,hz⟩:=I.tuple hq
 obtain ⟨j,h1,h2,h3,h4,h5⟩:=Zmo he
 obtain ⟨w,ew,rw'⟩:=r.get h2
 have hl:=r.length
 have hn:=Zhf
 have fin:EP X pins σ Q w s:=⟨z,H,I,rw',q⟩
 exact subscriptTail_builtinR (x:=w) pl.typeIs slot_tuple_getitem.lookup
  (getItem_tuple (j:=j) (Q:=fun r s'=>r = w/\EP X pins σ Q r s') pl (by omega) (by omega) (by rw [Jai,<- hl]; exact h1) (by simpa using ew) ⟨rfl,fin⟩) hs
theorem Zjn (its:List Value) (n j:Nat) (u:Value):Obj.mapSeq (·.setIfInBounds j u) { cls:=.type "list",data:=.seq its.toArray n } = { cls:=.type "list",data:=.seq (its.set j u).toArray n }:=by
 simp [Obj.mapSeq]
theorem Inv.lst {pins:List (Addr × Obj)} {σ:St} {H:Hp} {s:Shared} {p:Addr} {xs:List V} (I:Inv X pins σ H s) (h:H p = some (.lst xs)):
  ∃ (its:List Value) (n:Nat),Vals xs its/\s.heap.get? p = some { cls:=.type "list",data:=.seq its.toArray n }/\xs.length<=sizeLine:=by
 obtain ⟨z,its,n,r,e⟩:=I.hok p _ h
 exact ⟨its,n,r,e,z⟩
theorem Inv.lstUpd {pins:List (Addr × Obj)} {σ:St} {H:Hp} {s:Shared} {p:Addr} {xs ys:List V} {its its':List Value} {n n':Nat} {f:Obj->Obj} (I:Inv X pins σ H s) (h:H p = some (.lst xs))
  (ho:s.heap.get? p = some { cls:=.type "list",data:=.seq its.toArray n }) (hf:f { cls:=.type "list",data:=.seq its.toArray n } = { cls:=.type "list",data:=.seq its'.toArray n' }) (r:Vals ys its') (hz:ys.length<=sizeLine) (t:Nat):
  Inv X pins σ (upd H p (.lst ys)) { s with heap:=s.heap.update p f,toks:=t }:=by
 have e:(s.heap.update p f).get? p = some { cls:=.type "list",data:=.seq its'.toArray n' }:=by
  rw [Heap.get?_update_self f ho (by rw [hf] <;> rfl),hf]
 refine I.write (x:=p) (e:=p) (by rw [h]; trivial) (.inl rfl) (fun b u hb q=>(Heap.get?_update_other _ _ (Jc9 hb)).trans q) ⟨_,e⟩ ?_
 exact ⟨hz,its',n',r,e⟩
def rSetL:V->V->V->Hp->(Hp->Prop)->Prop:=fun o i v H Q=>∃ p xs k j,o = .ref p/\i = .int k/\H p = some (.lst xs)/\ixN xs.length k = some j/\Q (upd H p (.lst (xs.set j v)))
theorem Zge:PSet X rSetL:=by
 intro pins s σ H o i v ov iv u Q I ro ri rv h
 obtain ⟨p,xs,k,j,rfl,rfl,hp,hj,q⟩:=h
 cases ro
 obtain ⟨t,rfl⟩:=ri
 obtain ⟨its,n,r,ho,hz⟩:=I.lst hp
 obtain ⟨h1,h2,h3,h4⟩:=Zlu hj
 have hl:=r.length
 have hn:=Zhf
 have I':Inv X pins σ (upd H p (.lst (xs.set j v))) { s with heap:=s.heap.update p (Obj.mapSeq (·.setIfInBounds j u)) }:=
  I.lstUpd hp ho (Zjn its n j u) (r.set rv j) (by rw [Jcy]; exact hz) s.toks
 by_cases h0:0<=k
 ·have hk:k.toNat = j:=by
   rw [seqIndex_of h0 h4] at h1
   exact Ja4 h1
  exact PySem.W.ki_setAt ho h0 (by omega) (by rw [Jai,<- hl]; exact h4) (by rw [hk]; exact ⟨_,I',q⟩)
 ·have hk:(k + (its.toArray.size:Int)).toNat = j:=by
   rw [seqIndex_neg (by omega) h3] at h1
   rw [Jai,<- hl]
   exact Ja4 h1
  exact PySem.W.ki_setBack ho (by omega) (by rw [Jai,<- hl]; exact h3) (by omega) (by rw [hk]; exact ⟨_,I',q⟩)
theorem Zg7 (lo hi:Option Int) (n:Nat):(sliceBounds lo hi none n).1 = ((HT.sIx n 0 lo:Nat):Int)/\(sliceBounds lo hi none n).2.1 = ((HT.sIx n n hi:Nat):Int)/\(sliceBounds lo hi none n).2.2 = 1:=by
 refine ⟨?_,?_,rfl⟩
 ·cases lo with
  | none=>simp [sliceBounds,HT.sIx]
  | some i=>
   simp only [sliceBounds,HT.sIx,Option.getD_none,show (1:Int) > 0 by decide,Jcw]
   by_cases h:i < 0
   ·simp only [h,Jcw] <;> omega
   ·simp only [h,Jei] <;> omega
 ·cases hi with
  | none=>simp [sliceBounds,HT.sIx]
  | some i=>
   simp only [sliceBounds,HT.sIx,Option.getD_none,show (1:Int) > 0 by decide,Jcw]
   by_cases h:i < 0
   ·simp only [h,Jcw] <;> omega
   ·simp only [h,Jei] <;> omega
theorem Zgd (its:List Value) (lo hi:Option Int):slicePick its.toArray lo hi none = ((its.drop (HT.sIx its.length 0 lo)).take (HT.sIx its.length its.length hi - HT.sIx its.length 0 lo)).toArray:=by
 obtain ⟨h1,h2,h3⟩:=Zg7 lo hi its.toArray.size
 unfold slicePick
 rw [h1,h2,h3]
 simp only [sliceRange_one,pick_run,Jai] <;> rfl
def rSlL (K:PySem.W.Frag):V->Option Int->Option Int->Hp->VK->Prop:=fun x lo hi H Q=>∃ a xs,x = .ref a/\SqL K H a xs/\∀ p,H p = none->Q (.ref p) (upd H p (.lst (Zeh xs lo hi)))
theorem Zc1:SlR X (rSlL X.K):=by
 intro pins s σ H x v vl vu lo hi sl Q I rx hs pl pu h
 obtain ⟨a,xs,rfl,hx,q⟩:=h
 cases rx
 obtain ⟨its,r,ht,hz⟩:=I.list hx
 have hlen:=r.length
 refine ⟨"list",_,slot_list_getitem.lookup,ht.isList.typeIs,?_⟩
 refine wpAny_getItem_list_slice ht.isList hs pl pu .none (by simp) ?_ (by rw [Jai] <;> omega)
 rw [Zgd,<- hlen]
 refine ⟨.ref s.heap.objs.size,_,I.laid (t':=s.toks) (o:=.lst (Zeh xs lo hi)) (fun b ob q=>Jad _ q) (Jae _) ?_,rfl,q _ (I.hok.fresh (Jae _))⟩
 exact ⟨Jba (Zcl xs lo hi) hz,_,0,(r.drop (HT.sIx xs.length 0 lo)).take (HT.sIx xs.length xs.length hi - HT.sIx xs.length 0 lo),Jas _ rfl⟩
def Zfl:V->Bool
 | .non=>true
 | .bl _=>true
 | .int _=>true
 | .str _=>true
 | _=>false
def eqV:V->V->Bool
 | .non,.non=>true
 | .bl a,.bl b=>a == b
 | .bl a,.int b=>(if a then 1 else 0) == b
 | .int a,.bl b=>a == (if b then 1 else 0)
 | .int a,.int b=>a == b
 | .str a,.str b=>a == b
 | _,_=>false
theorem Zos {A:Around} {s:Shared} {y x:V} {u v:Value} (ry:RelV y u) (rx:RelV x v) (fy:Zfl y = true) (fx:Zfl x = true):SeqAt.EqAt A s u v (eqV y x):=by
 cases y with
 | non=>
  cases ry
  cases x with
  | non=>cases rx; exact SeqAt.EqAt.same _
  | bl b=>cases rx; exact SeqAt.EqAt.none_bool b
  | int b=>obtain ⟨t,rfl⟩:=rx; exact SeqAt.EqAt.none_int b t
  | str b=>obtain ⟨t,rfl⟩:=rx; exact SeqAt.EqAt.none_str b t
  | _=>exact absurd (show false = true from fx) Jaj
 | bl a=>
  cases ry
  cases x with
  | non=>cases rx; exact SeqAt.EqAt.bool_none a
  | bl b=>cases rx; exact SeqAt.EqAt.bool_bool a b
  | int b=>obtain ⟨t,rfl⟩:=rx; exact SeqAt.EqAt.bool_int a b t
  | str b=>obtain ⟨t,rfl⟩:=rx; exact SeqAt.EqAt.bool_str a b t
  | _=>exact absurd (show false = true from fx) Jaj
 | int a=>
  obtain ⟨t',rfl⟩:=ry
  cases x with
  | non=>cases rx; exact SeqAt.EqAt.int_none a t'
  | bl b=>cases rx; exact SeqAt.EqAt.int_bool a t' b
  | int b=>obtain ⟨t,rfl⟩:=rx; exact SeqAt.EqAt.int_int a t' b t
  | str b=>obtain ⟨t,rfl⟩:=rx; exact SeqAt.EqAt.int_str a t' b t
  | _=>exact absurd (show false = true from fx) Jaj
 | str a=>
  obtain ⟨t',rfl⟩:=ry
  cases x with
  | non=>cases rx; exact SeqAt.EqAt.str_none a t'
  | bl b=>cases rx; exact SeqAt.EqAt.str_bool a t' b
  | int b=>obtain ⟨t,rfl⟩:=rx; exact SeqAt.EqAt.str_int a t' b t
  | str b=>obtain ⟨t,rfl⟩:=rx; exact SeqAt.EqAt.str_str a t' b t
  | _=>exact absurd (show false = true from fx) Jaj
 | _=>exact absurd (show false = true from fy) Jaj
def eqU (x:V) (u:Value):Bool:=match u with
 | .none=>eqV .non x
 | .bool b=>eqV (.bl b) x
 | .int i _=>eqV (.int i) x
 | .str z _=>eqV (.str z) x
 | _=>false
theorem Zoq {x y:V} {u:Value} (r:RelV y u) (f:Zfl y = true):eqU x u = eqV y x:=by
 cases y with
 | non=>cases r; rfl
 | bl b=>cases r; rfl
 | int i=>obtain ⟨t,rfl⟩:=r; rfl
 | str z=>obtain ⟨t,rfl⟩:=r; rfl
 | _=>exact absurd (show false = true from f) Jaj
theorem Zfo {x:V}:∀ {xs:List V} {us:List Value},Vals xs us->xs.all Zfl = true->us.any (eqU x) = xs.any fun y=>eqV y x
 | _,_,.nil,_=>rfl
 | y :: xs,u :: us,.cons r t,f=>by
  rw [Jej,Jb3] at f
  rw [Jc1,Jc1,Zoq r f.1,Zfo t f.2]
theorem Zd6 {A:Around} {s:Shared} {x:V} {v:Value} (rx:RelV x v) (fx:Zfl x = true):∀ {xs:List V} {us:List Value},Vals xs us->xs.all Zfl = true->∀ u ∈ us,SeqAt.EqAt A s u v (eqU x u)
 | _,_,.nil,_=>fun u hu=>by cases hu
 | y :: xs,u :: us,.cons r t,f=>fun u' hu=>by
  rw [Jej,Jb3] at f
  rcases Jam.mp hu with rfl | hu
  ·rw [Zoq r f.1]; exact Zos r rx f.1 fx
  ·exact Zd6 rx fx t f.2 u' hu
def inV (x:V) (xs:List V):Bool:=xs.any fun y=>eqV y x
def rIn (K:PySem.W.Frag) (neg:Bool):R2:=fun x y H Q=>∃ p xs,y = .ref p/\(SqL K H p xs\/SqT K H p xs)/\Zfl x = true/\xs.all Zfl = true/\Q (.bl (if neg then !inV x xs else inV x xs)) H
theorem Zhd:OpR X (compareOp .In) (rIn X.K false):=by
 intro pins s σ H x y v u Q I rx ry h
 obtain ⟨p,xs,rfl,hq,fx,fs,q⟩:=h
 cases ry
 rcases hq with hq | hq
 ·obtain ⟨its,r,pl,hz⟩:=I.list hq
  refine SeqAt.in_listAt (eqU x) pl.isList (fun w hw=>Zd6 rx fx r fs w (by simpa using hw)) ⟨.bl _,H,I,rfl,?_⟩
  rw [show its.toArray.any (eqU x) = its.any (eqU x) by simp,Zfo r fs]
  exact q
 ·obtain ⟨its,r,pl,hz⟩:=I.tuple hq
  refine SeqAt.in_tupleAt (eqU x) pl (fun w hw=>Zd6 rx fx r fs w (by simpa using hw)) ⟨.bl _,H,I,rfl,?_⟩
  rw [show its.toArray.any (eqU x) = its.any (eqU x) by simp,Zfo r fs]
  exact q
theorem Zhc:OpR X (compareOp .NotIn) (rIn X.K true):=by
 intro pins s σ H x y v u Q I rx ry h
 obtain ⟨p,xs,rfl,hq,fx,fs,q⟩:=h
 cases ry
 rcases hq with hq | hq
 ·obtain ⟨its,r,pl,hz⟩:=I.list hq
  refine SeqAt.notIn_listAt (eqU x) pl.isList (fun w hw=>Zd6 rx fx r fs w (by simpa using hw)) ⟨.bl _,H,I,rfl,?_⟩
  rw [show its.toArray.any (eqU x) = its.any (eqU x) by simp,Zfo r fs]
  exact q
 ·obtain ⟨its,r,pl,hz⟩:=I.tuple hq
  refine SeqAt.notIn_tupleAt (eqU x) pl (fun w hw=>Zd6 rx fx r fs w (by simpa using hw)) ⟨.bl _,H,I,rfl,?_⟩
  rw [show its.toArray.any (eqU x) = its.any (eqU x) by simp,Zfo r fs]
  exact q
theorem Zao:Zd8 X (.builtin "len") (fun xs H Q=>∃ p ys,xs = [.ref p]/\(SqL X.K H p ys\/SqT X.K H p ys)/\Q (.int ys.length) H):=by
 intro pins s σ H xs us Q I r h
 obtain ⟨p,ys,rfl,hq,q⟩:=h
 obtain ⟨u,rfl,rx⟩:=Zhx r
 cases rx
 have hn:=Zhf
 rcases hq with hq | hq
 ·obtain ⟨its,r',pl,hz⟩:=I.list hq
  have hlen:=r'.length
  exact Calls.call_len_list pl.isList (by simp only [Jai] <;> omega) ⟨.int ys.length,H,I.tok _,⟨s.toks + 1,by rw [Jai,hlen]⟩,q⟩
 ·obtain ⟨its,r',pl,hz⟩:=I.tuple hq
  have hlen:=r'.length
  exact len_tuple pl (by simp only [Jai] <;> omega) ⟨.int ys.length,H,I.tok _,⟨s.toks + 1,by rw [Jai,hlen]⟩,q⟩
theorem Zb7:Zd8 X (.type "list") (fun xs H Q=>∃ p ys,xs = [.ref p]/\(SqL X.K H p ys\/SqT X.K H p ys)/\∀ l,H l = none->Q (.ref l) (upd H l (.lst ys))):=by
 intro pins s σ H xs us Q I r h
 obtain ⟨p,ys,rfl,hq,q⟩:=h
 obtain ⟨u,rfl,rx⟩:=Zhx r
 cases rx
 have fin:∀ (its:List Value),Vals ys its->ys.length<=sizeLine->∀ (h':Heap) (c':Nat),(∀ b o',s.heap.get? b = some o'->h'.get? b = some o')->
   h'.get? s.heap.objs.size = some { cls:=.type "list",dict:=none,data:=.seq its.toArray c',slots:=#[] }->EP X pins σ Q (.ref s.heap.objs.size) { s with heap:=h' }:=fun its r' hz h' c' kp e=>
  ⟨.ref s.heap.objs.size,_,I.laid (t':=s.toks) kp (Jae _) (show ObjOk X.prog X.w _ h' _ (.lst ys) from ⟨hz,its,c',r',e⟩),rfl,q _ (I.hok.fresh (Jae _))⟩
 rcases hq with hq | hq
 ·obtain ⟨its,r',pl,hz⟩:=I.list hq
  have hlen:=r'.length
  obtain ⟨o,ho,hc,n,hd⟩:=pl.isList
  exact call_list_seq p (.inl rfl) ho hc hd (fun h' c' kp e=>fin its r' hz h' c' kp e) (by simp only [Jai] <;> omega)
 ·obtain ⟨its,r',pl,hz⟩:=I.tuple hq
  have hlen:=r'.length
  obtain ⟨o,ho,hc,n,hd⟩:=pl
  exact call_list_seq p (.inr rfl) ho hc hd (fun h' c' kp e=>fin its r' hz h' c' kp e) (by simp only [Jai] <;> omega)
def tyV (K:PySem.W.Frag) (T:String) (x:V) (H:Hp):Prop:=match x with
 | .str _=>T = "str"
 | .int _=>T = "int"
 | .ref p=>(T = "list" /\ ∃ xs,SqL K H p xs)\/(T = "tuple" /\ ∃ o,K.lookup p = some o/\o.cls = .type "tuple" /\ o.dict = none) \/
   (T = "dict" /\ ((∃ kvs,H p = some (.dK kvs))\/∃ kvs,H p = some (.dT kvs)))\/(T = "set" /\ ∃ S n,H p = some (.set S n))
 | _=>False
theorem tyV_is {pins:List (Addr × Obj)} {σ:St} {H:Hp} {s:Shared} {T:String} {x:V} {v:Value} (I:Inv X pins σ H s) (r:RelV x v) (ty:tyV X.K T x H):
  s.TypeIs v T/\∀ a,v = .ref a->∃ ob,s.heap.get? a = some ob/\ob.dict = none:=by
 cases x with
 | str z=>
  obtain ⟨t,rfl⟩:=r
  cases (show T = "str" from ty)
  exact ⟨typeIs_str s z t,fun _ e=>nomatch e⟩
 | int i=>
  obtain ⟨t,rfl⟩:=r
  cases (show T = "int" from ty)
  exact ⟨typeIs_int s i t,fun _ e=>nomatch e⟩
 | ref p=>
  cases r
  rcases ty with ⟨rfl,xs,hq⟩ | ⟨rfl,o,hk,hc,hd⟩ | ⟨rfl,hk⟩ | ⟨rfl,S,n,hk⟩
  ·obtain ⟨its,_,pl,_⟩:=I.list hq
   refine ⟨pl.isList.typeIs,fun a e=>?_⟩
   cases e
   obtain ⟨o,n,e,c,hd,_⟩:=pl
   exact ⟨o,e,hd⟩
  ·refine ⟨⟨o,I.kIn p o hk,hc⟩,fun a e=>?_⟩
   cases e
   exact ⟨o,I.kIn _ o hk,hd⟩
  ·have z:∃ o,s.heap.get? p = some o/\o.ExactDict:=by
    rcases hk with ⟨kvs,hk⟩ | ⟨kvs,hk⟩
    ·obtain ⟨_,_,_,_,o,_,_,e,ex,_⟩:=I.hok p _ hk
     exact ⟨o,e,ex⟩
    ·obtain ⟨_,_,_,_,o,_,_,e,ex,_⟩:=I.hok p _ hk
     exact ⟨o,e,ex⟩
   obtain ⟨o,e,ex⟩:=z
   refine ⟨⟨o,e,ex.1⟩,fun a e2=>?_⟩
   cases e2
   exact ⟨o,e,ex.2.1⟩
  ·obtain ⟨o,_,_,_,e,ex,_⟩:=I.hok p _ hk
   refine ⟨⟨o,e,ex.1⟩,fun a e2=>?_⟩
   cases e2
   exact ⟨o,e,ex.2.1⟩
 | _=>exact False.elim ty
def tBM0 (K:PySem.W.Frag) (T:String) (r:V->List V->Hp->VK->Prop) (to:TE):TE:=fun σ H Q=>to σ H fun x H1=>tyV K T x H1/\r x [] H1 Q
def tBM (K:PySem.W.Frag) (T:String) (r:V->List V->Hp->VK->Prop) (to:TE) (t:TA):TE:=fun σ H Q=>to σ H fun x H1=>tyV K T x H1/\t σ H1 fun xs H2=>r x xs H2 Q
variable {o e:Expr} {es:List Expr} {to:TE} {t:TA} {name:Str} {apos cpos:Pos} {T id:String} {r:V->List V->Hp->VK->Prop}
theorem Zfq (pa:PlainAttrs T) (slot:Slot T name id) (hty:typeOf (.builtin id) = pure (.type "method_descriptor")) (hm:MtR X id r) (ho:PE X o to) (ha:PA X (e :: es) t)
  (hbase:attributeBase o name X.env (eval o X.env) = eval o X.env:=by rfl)
  (hfew:((backTo cpos (starEach (e :: es) X.env)).all (fun x=>!x.1) && (backToKw cpos (keywordEach [] X.env)).all (fun x=>x.1.isSome)
   && decide ((e :: es).length + ([]:List Keyword).length + (if ([]:List Keyword).isEmpty then 0 else 1) < 30)) = true:=by rfl)
  (hline:(apos.endLine == cpos.line) = true:=by rfl) (hs:starEach (e :: es) X.env = (false,eval e X.env) :: starEach es X.env:=by rfl) (hplain:(backTo cpos (starEach es X.env)).any (·.1) = false:=by rfl):
  PE X (.Call (.Attribute o name apos) (e :: es) [] cpos) (tBM X.K T r to t):=by
 intro pins s σ H Q I h
 refine wpAny_Call_method_late hbase hfew hline rfl (thn (ho pins s σ H _ I h) fun v s1 ⟨x,H1,I1,r1,ty,q1⟩=>?_)
 obtain ⟨h1,h2⟩:=tyV_is I1 r1 ty
 refine ⟨T,id,pa,slot,hty,h1,h2,?_⟩
 have hA:=ha cpos pins s1 σ H1 _ I1 q1
 rw [hs] at hA ⊢
 refine Calls.callWith_builtin (by show (false || (backTo cpos (starEach es X.env)).any (·.1)) = false; rw [hplain] <;> rfl) (Calls.evalArgs_plain ?_)
 exact thn hA fun us s2 ⟨vs,H2,I2,r2,q2⟩=>hm pins s2 σ H2 x vs v us Q I2 r1 r2 q2
end
def MtM (X:Cx) (id:String) (r:V->List V->Hp->VK->Prop):Prop:=
 ∀ (pins:List (Addr × Obj)) (s:Shared) (σ:St) (H:Hp) (x:V) (xs:List V) (v:Value) (us:List Value) (Q:VK),Inv X pins σ H s->RelV x v->Vals xs us->r x xs H Q->
  wpAny (model X.prog X.w) X.A (call (.builtin id) (v :: us)) (EP X pins σ Q) X.xe s
theorem Vals.one:∀ {x:V} {us:List Value},Vals [x] us->∃ u,us = [u]/\RelV x u
 | _,_,.cons r .nil=>⟨_,rfl,r⟩
theorem Vals.eraseIdx:∀ {xs:List V} {us:List Value} (i:Nat),Vals xs us->Vals (xs.eraseIdx i) (us.eraseIdx i)
 | _,_,_,.nil=>.nil
 | _,_,0,.cons _ t=>t
 | _,_,i + 1,.cons r t=>.cons r (Vals.eraseIdx i t)
theorem Vals.rep {xs:List V} {us:List Value} (h:Vals xs us):∀ k:Nat,Vals (List.replicate k xs).flatten (List.replicate k us).flatten
 | 0=>.nil
 | k + 1=>by
  rw [Jcs,Jcs,Jc2,Jc2]
  exact Vals.append h (Vals.rep h k)
theorem Zhh {α:Type}:∀ (l:List α) (i:Nat),(l.eraseIdx i).length<=l.length
 | [],_=>Jae _
 | _ :: _,0=>Jd1 _
 | _ :: r,i + 1=>Nat.succ_le_succ (Zhh r i)
theorem Zhj (its:List Value):∀ (k:Nat) (acc:List Value),
  List.foldl (fun x1 x2=>x1 ++ x2) acc.toArray (List.replicate k its.toArray) = (acc ++ (List.replicate k its).flatten).toArray
 | 0,acc=>by simp
 | k + 1,acc=>by
  have e:acc.toArray ++ its.toArray = (acc ++ its).toArray:=by simp
  have e2:(acc ++ its) ++ (List.replicate k its).flatten = acc ++ (List.replicate (k + 1) its).flatten:=by
   rw [Jcs,Jc2,Jee]
  rw [<- e2,<- Zhj its k (acc ++ its),<- e,Jcs,List.foldl_cons]
section
variable {X:Cx} {pins:List (Addr × Obj)} {σ:St} {H:Hp} {s:Shared} {l b:Addr} {xs ys zs:List V}
theorem Inv.lset {its its':List Value} {n:Nat} {f:Array Value->Array Value} {t':Nat} (I:Inv X pins σ H s) (hH:H l = some (.lst xs))
  (e:s.heap.get? l = some { cls:=.type "list",data:=.seq its.toArray n }) (hf:f its.toArray = its'.toArray) (hv:Vals ys its') (hz:ys.length<=sizeLine):
  Inv X pins σ (upd H l (.lst ys)) { s with heap:=s.heap.update l (Obj.mapSeq f),toks:=t' }:=by
 have q:=PySem.IsL.update e f
 rw [hf] at q
 refine I.write (x:=l) (e:=l) (by rw [hH]; exact trivial) (.inl rfl) (fun b' u hb hu=>(Heap.get?_update_other s.heap (Obj.mapSeq f) (Jc9 hb)).trans hu) ⟨_,q⟩ ?_
 exact ⟨hz,its',_,hv,q⟩
theorem Inv.lnew {its:List Value} {t':Nat} (I:Inv X pins σ H s) (hv:Vals ys its) (hz:ys.length<=sizeLine):
  Inv X pins σ (upd H s.heap.objs.size (.lst ys)) { s with heap:=s.heap.push { cls:=.type "list",data:=.seq its.toArray },toks:=t' }:=
 I.laid (fun _ _ q=>Jad _ q) (Jae _) ⟨hz,its,0,hv,Jas _ rfl⟩
theorem Inv.fresh (I:Inv X pins σ H s):H s.heap.objs.size = none:=I.hok.fresh (Jae _)
theorem Inv.lstM (I:Inv X pins σ H s) (hH:H l = some (.lst xs)):xs.length<=sizeLine/\∃ (its:List Value) (n:Nat),Vals xs its/\xs.length = its.length/\s.heap.get? l = some { cls:=.type "list",data:=.seq its.toArray n }:=by
 obtain ⟨z,its,n,r,e⟩:=I.hok l _ hH
 exact ⟨z,its,n,r,r.length,e⟩
theorem Zi0 {n:Nat} (h:n<=sizeLine):Builtin.List.listTooLong n = false:=by
 unfold Builtin.List.listTooLong
 exact Jb6 (by omega)
end
section
variable {X:Cx}
def Zks:V->List V->Hp->VK->Prop:=fun x vs H Q=>∃ l xs y,x = .ref l/\vs = [y]/\H l = some (.lst xs)/\xs.length < sizeLine/\Q .non (upd H l (.lst (xs ++ [y])))
theorem Zbs:MtM X "list.append" Zks:=by
 intro pins s σ H x vs v us Q I rx rv h
 obtain ⟨l,xs,y,rfl,rfl,hH,hz,q⟩:=h
 cases rx
 obtain ⟨u,rfl,ru⟩:=rv.one
 obtain ⟨z,its,n,r,hl,e⟩:=I.lstM hH
 refine Jef F.slot_list_append ⟨_,e,rfl⟩ F.entry_list_append (F.args_list_append_2 _ _) (PySem.list_append l its.toArray n u (by rw [Jai]; omega)) ⟨e,?_⟩
 refine ⟨.non,_,I.lset (its':=its ++ [u]) hH e (by simp) (r.append (.cons ru .nil)) ?_,rfl,q⟩
 rw [Jak,List.length_singleton]
 omega
def rExtend:V->List V->Hp->VK->Prop:=fun x vs H Q=>∃ l b xs zs,x = .ref l/\vs = [.ref b]/\H l = some (.lst xs)/\H b = some (.lst zs)/\xs.length + zs.length<=sizeLine/\Q .non (upd H l (.lst (xs ++ zs)))
theorem mt_extend:MtM X "list.extend" rExtend:=by
 intro pins s σ H x vs v us Q I rx rv h
 obtain ⟨l,b,xs,zs,rfl,rfl,hH,hB,hz,q⟩:=h
 cases rx
 obtain ⟨u,rfl,ru⟩:=rv.one
 cases ru
 obtain ⟨z,its,n,r,hl,e⟩:=I.lstM hH
 obtain ⟨z2,its2,n2,r2,hl2,e2⟩:=I.lstM hB
 have hsz:its.toArray.size + its2.toArray.size<=sizeLine:=by rw [Jai,Jai]; omega
 have hlong:¬ (!its.toArray.isEmpty && Builtin.List.listTooLong (its.toArray.size + its2.toArray.size)) = true:=by
  rw [Zi0 hsz,Bool.and_false]
  exact Jaj
 refine Jef F.slot_list_extend ⟨_,e,rfl⟩ F.entry_list_extend (F.args_list_extend_2 _ _)
  (AutoSeq1.list_extend_list_list_0 l its.toArray n b its2.toArray n2 hlong (by rw [Jai]; omega) (by omega)) ⟨e,e2,?_⟩
 refine ⟨.non,_,I.lset (its':=its ++ its2) hH e (by simp) (r.append r2) ?_,rfl,q⟩
 rw [Jak]
 omega
def rCat:R2:=fun x y H Q=>∃ l b xs zs,x = .ref l/\y = .ref b/\H l = some (.lst xs)/\H b = some (.lst zs)/\xs.length + zs.length<=sizeLine/\∀ p,H p = none->Q (.ref p) (upd H p (.lst (xs ++ zs)))
theorem Zfg:OpR X (binaryOp .Add) rCat:=by
 intro pins s σ H x y v u Q I rx ry h
 obtain ⟨l,b,xs,zs,rfl,rfl,hH,hB,hz,q⟩:=h
 cases rx
 cases ry
 obtain ⟨z,its,n,r,hl,e⟩:=I.lstM hH
 obtain ⟨z2,its2,n2,r2,hl2,e2⟩:=I.lstM hB
 refine PySem.P.add_list e e2 ?_ (by rw [Jai,Jai]; omega)
 have ea:its.toArray ++ its2.toArray = (its ++ its2).toArray:=by simp
 rw [ea]
 exact ⟨.ref _,_,I.lnew (t':=s.toks) (r.append r2) (by rw [Jak]; omega),rfl,q _ I.fresh⟩
def rRep:R2:=fun x y H Q=>∃ l k xs,x = .ref l/\y = .int k/\H l = some (.lst xs)/\-(2 ^ 63)<=k/\k < 2 ^ 63/\xs.length * k.toNat<=sizeLine /\
 ∀ p,H p = none->Q (.ref p) (upd H p (.lst (List.replicate k.toNat xs).flatten))
theorem len_rep {α:Type} (xs:List α) (k:Nat):(List.replicate k xs).flatten.length = k * xs.length:=by
 induction k with
 | zero=>simp
 | succ k ih=>rw [Jcs,Jc2,Jak,ih,Nat.succ_mul,Nat.add_comm]
theorem op_rep:OpR X (binaryOp .Mult) rRep:=by
 intro pins s σ H x y v u Q I rx ry h
 obtain ⟨l,k,xs,rfl,rfl,hH,h1,h2,hz,q⟩:=h
 cases rx
 obtain ⟨t,rfl⟩:=ry
 obtain ⟨z,its,n,r,hl,e⟩:=I.lstM hH
 have hlen:its.toArray.size * k.toNat<=sizeLine:=by rw [Jai,<- hl]; exact hz
 have hcap:¬ its.toArray.size * k.toNat > (2 ^ 63 - 1) / 8:=by
  have:(sizeLine:Nat)<=(2 ^ 63 - 1) / 8:=by decide
  omega
 have hfit:¬ (!Builtin.List.listFitsIndex k) = true:=by
  rw [fitsIndex_both h1 h2]
  exact Jaj
 have hlong:¬ Builtin.List.listTooLong (its.toArray.size * k.toNat) = true:=by
  rw [Zi0 hlen]
  exact Jaj
 have hnew:List.foldl (fun x1 x2=>x1 ++ x2) #[] (List.replicate (if its.toArray.isEmpty = true then 0 else k.toNat) its.toArray) = (List.replicate k.toNat its).flatten.toArray:=by
  have f0:∀ m:Nat,List.foldl (fun x1 x2=>x1 ++ x2) #[] (List.replicate m its.toArray) = (List.replicate m its).flatten.toArray:=fun m=>by
   have:=Zhj its m []
   rw [List.nil_append] at this
   exact this
  rw [f0]
  cases its with
  | nil=>simp
  | cons a r'=>rw [if_neg (by simp)]
 refine wpAny_binaryOp_repeat_ref (T:="list") (U:="int") (by decide) ⟨_,e,rfl⟩ (fun s'=>typeIs_int s' k t) noFill_list_mul F.fills_int_mul F.slot_int_rmul repeat_list F.slot_int_index.lookup
  (Jef F.slot_int_rmul (typeIs_int s k t) F.entry_int_rmul (F.args_int_rmul_2 _ _) (int___rmul___int_list k t l its.toArray n)
   ⟨e,rfl,⟨_,e,rfl⟩,Jef F.slot_list_mul ⟨_,e,rfl⟩ F.entry_list_mul (F.args_list_mul_2 _ _) (AutoListH.list___mul___list_int_3 l its.toArray n k t hfit hcap hlong) ⟨e,?_⟩⟩)
 rw [hnew]
 exact ⟨.ref _,_,I.lnew (t':=s.toks) (r.rep k.toNat) (by rw [len_rep,Nat.mul_comm]; exact hz),rfl,q _ I.fresh⟩
end
section
variable {prog:Program} {w:World} {A:Around} {E:Value->Shared->Prop} {s:Shared}
end
section
variable {X:Cx}
end
end L2
namespace Att
open PySem PySem.W PySem.Calls PyProof.Rows
theorem Zfk {P:Params} {h:Heap}:∀ (ns:List Int) (vs:List Value),WellAll P h vs (ns.map WData.int)->IntsAre vs ns:=by
 intro ns
 induction ns with
 | nil=>
  intro vs w
  rw [Jd9] at w
  cases w
  exact .nil
 | cons n ns ih=>
  intro vs w
  rw [Ja1] at w
  cases w with
  | cons a b=>
   cases a
   exact .cons _ _ (ih _ b)
theorem Zkf {l:OpenLaw} {n:Nat} (hn:l.most = some n) {P:Params} {h:Heap} {args:List WData} {vals:List Value}
  (hpre:l.row.toRowW.claim.pre args = true) (hwl:WellAll P h vals args):
  ∃ a vs ns,vals = [Value.ref a]/\args = [WData.list (ns.map WData.int)]/\h.get? a = some { cls:=.type "list",data:=.seq vs.toArray }/\IntsAre vs ns/\ns.length<=n:=by
 have hsh:WShape.hasAll [] args [.list .int] = true:=(pre_splitW hpre).1
 have hc:l.pre.holds [] { args:=args } = true:=(pre_splitW hpre).2
 obtain ⟨d,r,rfl,h1,h2⟩:=hasAllW_cons hsh
 obtain rfl:=hasAllW_nil h2
 obtain ⟨xs,rfl,h3⟩:=hasW_list h1
 obtain ⟨ns,rfl⟩:=items_int h3
 have hlen:ns.length<=n:=by
  unfold OpenLaw.pre at hc
  have h4:(WTm.not (.lt (.lit (.int (n:Int))) (.len (.arg 0)))).holds [] { args:=[.list (ns.map .int)] } = true:=by
   have h4:=(holds_andW hc).1
   rw [hn] at h4
   exact h4
  have h5:=condW_of h4 (w_not (w_lt w_lit (w_len_list (w_arg rfl))))
  rw [Jaa] at h5
  refine Nat.le_of_not_lt fun q=>?_
  have q':(n:Int) < ((ns.length:Nat):Int):=by omega
  first
   | (rw [Ja3 q'] at h5; exact absurd h5 (by decide))
   | (simp at h5; omega)
 cases hwl with
 | cons w1 w2=>
  cases w2
  cases w1 with
  | list ho hall=>exact ⟨_,_,ns,rfl,rfl,ho,Zfk ns _ hall,hlen⟩
theorem Zkw (l:OpenLaw) (args:List WData):l.row.toRowW.claim.post args (.bool true) args = true:=
 postW_of (r:=l.row.toRowW) (X:=(true == true))
  (show WShape.has [] (.bool true) .bool = true by first | rfl | decide | simp [WShape.has,WShape.arms,WShape.armsAll])
  (show (WTm.eq .res (.lit (.bool true))).value [] { args:=args,res:=some (.bool true),after:=args } = some (.bool (true == true)) from w_eq_bool (w_res rfl) w_lit) rfl
theorem attach_call {l:OpenLaw} {n:Nat} {q:Program} {loose:List Str} {XP:(Str->Option Value)->Heap->Prop} {YP:World->Heap->Prop} {d:DefRec}
  (hn:l.most = some n) (hdf:d.params.defaults = [])
  (call:∀ (w:World) (s₀ s₁:Shared) (mg mb:Str->Option Value) (fa:Addr) (o:Obj) (pm cd doc:Value) (a:Addr) (vs:List Value) (ns:List Int),
   Ground q loose [] XP w s₀ mg mb s₁.heap->YP w s₁.heap->
   s₁.heap.get? fa = some o->o.data = .func (docDef d.name d.params d.body d.scope pm cd doc)->s₁.heap.CodeRec cd d.name->mg d.name = some (.ref fa)->
   s₁.heap.get? a = some { cls:=.type "list",data:=.seq vs.toArray }->IntsAre vs ns->ns.length<=n->s₁.gens = #[]->
   codeAny (model l.prog w) callerA (.call (.ref fa) ⟨[.ref a],[]⟩) (fun r s'=>r = .ok (.ret (.bool true))/\OldK s₁.heap s'.heap/\s'.os = s₁.os/\AllBare s'.gens) s₁):
  WalkO q loose XP YP l.row.toRowW d [] (fun f vs=>PySem.call f vs):=by
 intro w s₀ s₁ mg mb G Y fa o pm cd doc dV kV ho hd hcd hD hmg hg args vals as hpre hlay hrd hwl hlo
 obtain rfl:dV = .none:=Dflts.none hD hdf
 obtain rfl:kV = .none:=Dflts.noKw hD
 obtain ⟨a,vs,ns,rfl,rfl,hobj,hints,hlen⟩:=Zkf hn hpre hwl
 refine enter_call (Jd8 (call w s₀ s₁ mg mb fa o pm cd doc a vs ns G Y ho (fd_plain hd) hcd hmg hobj hints hlen hg) fun r s' hq=>?_)
 obtain ⟨rfl,h2,h3,h4⟩:=hq
 exact ⟨.inl ⟨.bool true,.bool true,[],rfl,fun _=>rfl,.bool true,Zkw l _,fun _=>⟨List.Pairwise.nil,fun _ hm=>(nomatch hm)⟩⟩,h2,h3,h4⟩
section
variable {prog:Program} {w:World} {A:Around} {E:Value->Shared->Prop} {s:Shared} {K:Frag}
end
end Att
namespace L2
open PySem PySem.Spec PyProof.Rows
theorem Zg1:∀ {vs:List Value} {ns:List Int},IntsAre vs ns->Vals (ns.map V.int) vs
 | _,_,.nil=>.nil
 | _,_,.cons n t h=>.cons ⟨t,rfl⟩ (Zg1 h)
end L2
namespace L2
open PySem PySem.Spec PyProof.Rows
def Zie (s:Stmt) (j:Nat):Stmt:=match s with
 | .ClassDef _ _ _ body _ _ _ _ _ _ _=>body.getD j (.Pass ⟨0,0,0,0⟩)
 | _=>.Pass ⟨0,0,0,0⟩
def Zal (s:Stmt):Arguments:=match s with
 | .FunctionDef _ a _ _ _ _ _ _ _ _=>a
 | _=>{ posonlyargs:=[],args:=[],vararg:=none,kwonlyargs:=[],kw_defaults:=[],kwarg:=none,defaults:=[] }
def Zaj (s:Stmt):List Stmt:=match s with
 | .FunctionDef _ _ b _ _ _ _ _ _ _=>b
 | _=>[]
def Zad (s:Stmt):Scope:=match s with
 | .FunctionDef _ _ _ _ _ _ sc _ _ _=>sc
 | _=>{ kind:=.function,names:=[],isGenerator:=false,isCoroutine:=false }
abbrev CX0:CXT:=fun _ _ _ _ _ _=>False
abbrev E0:XK:=fun _ _ _=>False
theorem pass0 {X:Cx}:Zf9 CX0 X E0:=fun _ _ _ _ _ _ _ h=>h.elim
structure Fun (K:PySem.W.Frag) (x qual:Str) (st:Stmt) (f:Addr) (fd:FuncData):Prop where
 ex:∃ (oc:Value) (od:Option Addr) (kV doc pm:Value) (an:Option Addr) (cdv ct:Value) (osl:Array (Option Value)),
  fd = PySem.W.fnOf x qual (Zal st) (Zaj st) (Zad st) .none kV doc pm an cdv ct/\K.lookup f = some ⟨oc,od,.func fd,osl⟩/\PySem.W.codeIn K cdv qual = true
 kp:PySem.W.keepIn K (.ref f) = true
section
variable {P:Program} {w:World} {K:PySem.W.Frag} {mg:Str->Option Value} {base:Heap}
theorem Fun.ok {x qual:Str} {st:Stmt} {f:Addr} {fd:FuncData} {N ps:List Str} {k:Nat} {sp:Sp} (F:Fun K x qual st f fd) (S:FnScope N ps (Zad st)) (len:∀ vs H Q E,sp vs H Q E->vs.length = ps.length)
  (hbody:∀ (cdv:Value) (A:Around) (outer:List Env) (s:Shared) (H:Hp) (vs:List V) (Q:VK) (E:XK),Room k (A.deeper (envOfC qual (Zad st) s.heap.objs.size f cdv))->sp vs H Q E->
   ∃ t,PSs (Zox CX0 P w K mg base N qual (Zad st) f cdv A outer s H E).nox (Zaj st) t/\t { nx:=fun _ H'=>Q .non H',rt:=Q } (start N vs) H):FnOk P w K mg base CX0 (k + 1) f fd ps sp:=by
 obtain ⟨oc,od,kV,doc,pm,an,cdv,ct,osl,rfl,lk,hcd⟩:=F.ex
 refine fn_of lk hcd S len fun A outer s H vs Q E hr hsp=>?_
 obtain ⟨t,h,q⟩:=hbody cdv A outer s H vs Q E hr hsp
 exact ⟨t,h.nox,q⟩
theorem Fun.binds {x qual:Str} {st:Stmt} {f:Addr} {fd:FuncData} {ps:List Str} (F:Fun K x qual st f fd)
  (h:∀ (kV doc pm:Value) (an:Option Addr) (cdv ct:Value) (us:List Value),us.length = ps.length->bindArgs (PySem.W.fnOf x qual (Zal st) (Zaj st) (Zad st) .none kV doc pm an cdv ct) ⟨us,[]⟩ = pure (ps.zip us)):Binds K fd ps []:=by
 obtain ⟨oc,od,kV,doc,pm,an,cdv,ct,osl,rfl,lk,hcd⟩:=F.ex
 exact .all (h kV doc pm an cdv ct)
theorem Za2 {x qual:Str} {st:Stmt} {f:Addr} {oc:Value} {od an:Option Addr} {osl:Array (Option Value)} {kV doc pm cdv ct:Value} (l:K.lookup f = some ⟨oc,od,.func (PySem.W.fnOf x qual (Zal st) (Zaj st) (Zad st) .none kV doc pm an cdv ct),osl⟩)
  (c:PySem.W.codeIn K cdv qual = true) (k:PySem.W.keepIn K (.ref f) = true):Fun K x qual st f (PySem.W.fnOf x qual (Zal st) (Zaj st) (Zad st) .none kV doc pm an cdv ct):=⟨⟨oc,od,kV,doc,pm,an,cdv,ct,osl,rfl,l,c⟩,k⟩
end
theorem Zah {n:Nat} (h:n<=1000):n < sizeLine:=Nat.lt_of_le_of_lt h (by decide)
section
variable {X:Cx}
theorem pv (i:Nat) {x:Str} {pos:Pos} (hN:X.N[i]? = some x:=by rfl) (hv:Vis X.env.scope x:=by first | exact Or.inl rfl | exact Or.inr (Or.inl rfl) | exact Or.inr (Or.inr rfl)) (hd:(x == ("__debug__" : Str)) = false:=by decide)
  (hcd:(x == ("__classdict__" : Str)) = false:=by decide):PE X (.Name x pos) (Zje i):=pe_var hN hv hd hcd
end
theorem iteF {A B:Prop} (h:B):if false = true then A else B:=by
 rw [if_neg Jaj]
 exact h
theorem iteT {A B:Prop} (h:A):if true = true then A else B:=by
 rw [if_pos rfl]
 exact h
theorem Zdu {c A B:Prop} [Decidable c] (h1:c->A) (h2:¬ c->B):if c then A else B:=by
 by_cases h:c
 ·rw [if_pos h]
  exact h1 h
 ·rw [if_neg h]
  exact h2 h
def Same (H H':Hp):Prop:=∀ b o,H b = some o->H' b = some o
theorem Same.refl (H:Hp):Same H H:=fun _ _ h=>h
theorem Same.trans {H H1 H2:Hp} (a:Same H H1) (b:Same H1 H2):Same H H2:=fun c o h=>b c o (a c o h)
theorem Same.free {H H':Hp} (e:Same H H') {l:Addr} (h:H' l = Option.none):H l = Option.none:=by
 cases q:H l with
 | none=>rfl
 | some o=>
  rw [e l o q] at h
  cases h
theorem Same.seq {K:PySem.W.Frag} {H H':Hp} {a:Addr} {xs:List V} (e:Same H H') (h:SqL K H a xs):SqL K H' a xs:=by
 rcases h with (h | ⟨o,h⟩) | h
 ·exact .inl (.inl (e _ _ h))
 ·exact .inl (.inr ⟨o,e _ _ h⟩)
 ·exact .inr h
theorem Zn8 {x:Str} {c:Addr}:∀ (names:List (Str × NameKind)) (n:Nat) (acc:List (Str × Addr)),(cellsFrom n names acc).lookup x = some c->n<=c\/acc.lookup x = some c
 | [],_,_,h=>.inr h
 | (y,k) :: r,n,acc,h=>by
  unfold cellsFrom at h
  split at h
  ·rcases Zn8 r (n + 1) _ h with z | z
   ·exact .inl (Jce z)
   ·rw [Jat] at z
    cases e:x == y with
    | true=>rw [e] at z; cases z; exact .inl (Jae _)
    | false=>rw [e] at z; exact .inr z
  ·exact Zn8 r n acc h
theorem Zmk {x:Str} {c:Addr}:∀ (names:List (Str × NameKind)) (n:Nat) (acc:List (Str × Addr)),(x,NameKind.cell) ∈ names->(cellsFrom n names acc).lookup x = some c->n<=c
 | [],_,_,m,_=>nomatch m
 | (y,k) :: r,n,acc,m,h=>by
  unfold cellsFrom at h
  split at h
  ·by_cases m':(x,NameKind.cell) ∈ r
   ·exact Jce (Zmk r (n + 1) _ m' h)
   ·have e:(x,NameKind.cell) = (y,k):=(Jam.mp m).resolve_right m'
    cases e
    rcases Zn8 r (n + 1) _ h with z | z
    ·exact Jce z
    ·rw [Jat,beq_self_eq_true] at z
     cases z
     exact Jae _
  ·rename_i hk
   have m':(x,NameKind.cell) ∈ r:=by
    rcases Jam.mp m with e | m'
    ·cases e; exact absurd rfl hk
    ·exact m'
   exact Zmk r n acc m' h
theorem Zml {x:Str}:∀ {names:List (Str × NameKind)} {n:Nat} {acc:List (Str × Addr)},(x,NameKind.cell) ∉ names->(cellsFrom n names acc).lookup x = acc.lookup x
 | [],_,_,_=>rfl
 | (y,k) :: r,n,acc,h=>by
  unfold cellsFrom
  have hr:(x,NameKind.cell) ∉ r:=fun m=>h (Ja7 _ m)
  split
  ·rename_i hk
   have hy:(x == y) = false:=by
    cases e:x == y with
    | false=>rfl
    | true=>
     exfalso
     refine h ?_
     rw [Jbh.mp e,Jbh.mp hk]
     exact Jb9
   rw [Zml hr,Jat,hy]
  ·exact Zml hr
theorem Zmm:∀ (names:List (Str × NameKind)) (n:Nat) (acc:List (Str × Addr)),(∀ x c,acc.lookup x = some c->c < n)->(∀ x y c,acc.lookup x = some c->acc.lookup y = some c->x = y)->
  ∀ x y c,(cellsFrom n names acc).lookup x = some c->(cellsFrom n names acc).lookup y = some c->x = y
 | [],_,_,_,hi=>hi
 | (z,k) :: r,n,acc,hl,hi=>by
  unfold cellsFrom
  split
  ·refine Zmm r (n + 1) _ (fun x c h=>?_) (fun x y c h1 h2=>?_)
   ·rw [Jat] at h
    cases e:x == z with
    | true=>rw [e] at h; cases h; exact Jdp _
    | false=>rw [e] at h; exact Jdh (hl x c h)
   ·rw [Jat] at h1 h2
    cases e1:x == z with
    | true=>
     rw [e1] at h1
     cases h1
     cases e2:y == z with
     | true=>rw [Jbh.mp e1,Jbh.mp e2]
     | false=>rw [e2] at h2; exact absurd (hl y _ h2) (Jbp _)
    | false=>
     rw [e1] at h1
     cases e2:y == z with
     | true=>rw [e2] at h2; cases h2; exact absurd (hl x _ h1) (Jbp _)
     | false=>rw [e2] at h2; exact hi x y c h1 h2
  ·exact Zmm r n acc hl hi
theorem Zik {x:Str} {c:Addr}:∀ (names:List (Str × NameKind)) (h:Heap) (acc:List (Str × Addr)),(cellsFrom h.objs.size names acc).lookup x = some c->(pushCells h names).IsCell c none\/acc.lookup x = some c
 | [],_,_,z=>.inr z
 | (y,k) :: r,h,acc,z=>by
  unfold cellsFrom at z
  unfold pushCells
  split at z
  ·rename_i hk
   rw [if_pos hk]
   have z':(cellsFrom (h.push { cls:=.type "cell",data:=.cell none }).objs.size r ((y,h.objs.size) :: acc)).lookup x = some c:=by rw [Jcc]; exact z
   rcases Zik r _ _ z' with q | q
   ·exact .inl q
   ·rw [Jat] at q
    cases e:x == y with
    | true=>
     rw [e] at q
     cases q
     exact .inl ⟨_,pushCells_keeps _ _ _ _ (Jas _ rfl),rfl⟩
    | false=>rw [e] at q; exact .inr q
  ·rename_i hk
   rw [if_neg hk]
   exact Zik r h acc z
theorem Zij {env:Env} (f:Str × NameKind->List (Str × Addr)->Sem (ForInStep (List (Str × Addr))))
  (hf:∀ name kind cs,f (name,kind) cs = if kind == .free then (do let a <- cellOf env name; pure (.yield ((name,a) :: cs))) else pure (.yield cs)):
  ∀ (names:List (Str × NameKind)) (acc:List (Str × Addr)),(∀ y ∈ names,y.2 = .free->∃ c,env.cells.lookup y.1 = some c)->(∀ x c,acc.lookup x = some c->env.cells.lookup x = some c)->
  ∃ cl,forIn names acc f = pure cl/\(∀ x c,cl.lookup x = some c->env.cells.lookup x = some c)/\(∀ y ∈ names,y.2 = .free->∃ c,cl.lookup y.1 = some c)/\∀ x c,acc.lookup x = some c->∃ c',cl.lookup x = some c'
 | [],acc,_,ha=>⟨acc,rfl,ha,(fun _ m=>nomatch m),fun x c e=>⟨c,e⟩⟩
 | (y,k) :: r,acc,h,ha=>by
  rw [List.forIn_cons,hf]
  have hr:∀ y ∈ r,y.2 = NameKind.free->∃ c,env.cells.lookup y.1 = some c:=fun z m=>h z (Ja7 _ m)
  by_cases hk:(k == NameKind.free) = true
  ·obtain ⟨c,hc⟩:=h (y,k) Jb9 (Jbh.mp hk)
   have e:cellOf env y = pure c:=by unfold cellOf; rw [hc]
   rw [if_pos hk,e,pure_bind,pure_bind]
   have ha':∀ x d,((y,c) :: acc).lookup x = some d->env.cells.lookup x = some d:=fun x d e=>by
    rw [Jat] at e
    cases e1:x == y with
    | true=>rw [e1] at e; cases e; rw [Jbh.mp e1]; exact hc
    | false=>rw [e1] at e; exact ha x d e
   obtain ⟨cl,q1,q2,q3,q4⟩:=Zij f hf r ((y,c) :: acc) hr ha'
   refine ⟨cl,q1,q2,fun z m hz=>?_,fun x d e=>?_⟩
   ·rcases Jam.mp m with e | m
    ·subst e
     exact q4 y c (by rw [Jat,beq_self_eq_true])
    ·exact q3 z m hz
   ·by_cases e1:(x == y) = true
    ·exact q4 x c (by rw [Jat,e1])
    ·exact q4 x d (by rw [Jat]; simp only [e1]; exact e)
  ·rw [if_neg hk,pure_bind]
   obtain ⟨cl,q1,q2,q3,q4⟩:=Zij f hf r acc hr ha
   refine ⟨cl,q1,q2,fun z m hz=>?_,q4⟩
   rcases Jam.mp m with e | m
   ·subst e; exact absurd (Jbh.mpr hz) hk
   ·exact q3 z m hz
theorem Zfm {scope:Scope} {env:Env} (h:∀ y ∈ scope.names,y.2 = .free->∃ c,env.cells.lookup y.1 = some c):
  ∃ cl,closureFor scope env = pure cl/\(∀ x c,cl.lookup x = some c->env.cells.lookup x = some c)/\∀ y ∈ scope.names,y.2 = .free->∃ c,cl.lookup y.1 = some c:=by
 obtain ⟨cl,q1,q2,q3,_⟩:=Zij (env:=env) (fun x cs=>if x.2 == .free then (do let a <- cellOf env x.1; pure (.yield ((x.1,a) :: cs))) else pure (.yield cs)) (fun _ _ _=>rfl) scope.names [] h (fun _ _ e=>nomatch e)
 refine ⟨cl,?_,q2,q3⟩
 unfold closureFor
 have e:(fun (x:Str × NameKind) (r:List (Str × Addr))=>(match x with
   | (name,kind)=>if (kind == NameKind.free) = true then (do let __do_lift <- cellOf env name; pure (ForInStep.yield ((name,__do_lift) :: r))) else pure (ForInStep.yield r):Sem (ForInStep (List (Str × Addr))))) =
   fun x cs=>if x.2 == .free then (do let a <- cellOf env x.1; pure (.yield ((x.1,a) :: cs))) else pure (.yield cs):=by
  funext x cs
  rfl
 have q:(forIn scope.names ([]:List (Str × Addr)) fun (x:Str × NameKind) (r:List (Str × Addr))=>(match x with
   | (name,kind)=>if (kind == NameKind.free) = true then (do let __do_lift <- cellOf env name; pure (ForInStep.yield ((name,__do_lift) :: r))) else pure (ForInStep.yield r):Sem (ForInStep (List (Str × Addr))))) = pure cl:=by
  rw [e]; exact q1
 simpa using q
theorem Zdk {M:Model} {A:Around} {E:Value->Shared->Prop} {s:Shared} {scope:Scope} {globals:Addr} {cl:List (Str × Addr)} {qual:Str} {env:Env} {Q:Env->Shared->Prop}
  (hQ:∀ h',h'.Ns s.heap.objs.size (fun _=>none)->(∀ b o,s.heap.get? b = some o->h'.get? b = some o)->
   (∀ x c,(cellsFrom (s.heap.objs.size + 1) scope.names cl).lookup x = some c->h'.IsCell c none\/cl.lookup x = some c)->
   Q { scope,locals:=s.heap.objs.size,globals,cells:=cellsFrom (s.heap.objs.size + 1) scope.names cl,qual,func:=none,code:=env.code,frame:=env.frame,builtins:=env.builtins } { s with heap:=h' }):
  wpAny M A (newFunctionEnv scope globals cl [] qual none .none (some env)) Q E s:=by
 simp only [newFunctionEnv,Option.isSome_some,Jcw]
 refine Jac (wpAny_alloc ?_)
 refine Jac (wpAny_layCells _ (fun name kind cells=>by cases hkc:kind == NameKind.cell <;> simp [hkc]) _ _ _ _ ?_)
 have hsz:(s.heap.push { cls:=.type "dict",data:=.dict #[] }).objs.size = s.heap.objs.size + 1:=Jcc ..
 have q:=hQ (pushCells (s.heap.push { cls:=.type "dict",data:=.dict #[] }) scope.names) ((Heap.Ns.new s.heap (.type "dict")).keeps (pushCells_keeps _ _)) (fun b o e=>pushCells_keeps _ _ b o (Jad _ e))
  (fun x c e=>Zik scope.names (s.heap.push { cls:=.type "dict",data:=.dict #[] }) cl (by rw [hsz]; exact e))
 show wpAny _ _ _ _ _ _
 rw [show ({ s with heap:=s.heap.push { cls:=.type "dict",data:=.dict #[] } }:Shared).heap.objs.size = s.heap.objs.size + 1 from hsz]
 exact Jac (Jap (Jap q))
theorem Zep {env:Env} {x:Str}:∀ {names:List (Str × NameKind)},names.lookup x = some .free->
  (names.map fun (n,k)=>if (k == NameKind.free && env.scope.kind == .function && env.kindOf n == some .cell) then (n,NameKind.cell) else (n,k)).lookup x = some .cell \/
  (names.map fun (n,k)=>if (k == NameKind.free && env.scope.kind == .function && env.kindOf n == some .cell) then (n,NameKind.cell) else (n,k)).lookup x = some .free
 | [],h=>by simp at h
 | (n,k) :: r,h=>by
  have ih:=@Zep env x r
  show List.lookup x ((if (k == NameKind.free && env.scope.kind == .function && env.kindOf n == some .cell) = true then (n,NameKind.cell) else (n,k)) :: _) = _\/List.lookup x ((if (k == NameKind.free && env.scope.kind == .function && env.kindOf n == some .cell) = true then (n,NameKind.cell) else (n,k)) :: _) = _
  cases hx:x == n with
  | true=>
   simp only [Jat,hx] at h
   cases h
   split <;> simp [Jat,hx]
  | false=>
   simp only [Jat,hx] at h
   split <;> (simp only [Jat,hx]; exact ih h)
theorem Zdg {env:Env} {x:Str} {kd:NameKind}:∀ {names:List (Str × NameKind)},
  (names.map fun (n,k)=>if (k == NameKind.free && env.scope.kind == .function && env.kindOf n == some .cell) then (n,NameKind.cell) else (n,k)).lookup x = some kd->
  names.lookup x = some kd\/names.lookup x = some .free
 | [],h=>by simp at h
 | (n,k) :: r,h=>by
  have ih:=@Zdg env x kd r
  have h':List.lookup x ((if (k == NameKind.free && env.scope.kind == .function && env.kindOf n == some .cell) = true then (n,NameKind.cell) else (n,k)) :: (r.map fun (n,k)=>if (k == NameKind.free && env.scope.kind == .function && env.kindOf n == some .cell) then (n,NameKind.cell) else (n,k))) = some kd:=h
  cases hx:x == n with
  | true=>
   by_cases hc:(k == NameKind.free && env.scope.kind == .function && env.kindOf n == some .cell) = true
   ·have hk:k = .free:=by
     have:=(Jb3 _ _ ▸ (Jb3 _ _ ▸ hc).1).1
     exact Jbh.mp this
    subst hk
    exact .inr (by simp [Jat,hx])
   ·rw [if_neg hc] at h'
    simp only [Jat,hx] at h'
    cases h'
    exact .inl (by simp [Jat,hx])
  | false=>
   have h2:List.lookup x (r.map fun (n,k)=>if (k == NameKind.free && env.scope.kind == .function && env.kindOf n == some .cell) then (n,NameKind.cell) else (n,k)) = some kd:=by
    split at h' <;> simpa only [Jat,hx] using h'
   rcases ih h2 with z | z
   ·exact .inl (by simp only [Jat,hx]; exact z)
   ·exact .inr (by simp only [Jat,hx]; exact z)
def Zbw (X:Cx) (N:List Str) (scope:Scope) (cl:List (Str × Addr)) (s:Shared) (H:Hp) (fp:List Addr):Cx where
 prog:=X.prog
 w:=X.w
 K:=X.K
 mg:=X.mg
 base:=X.base
 A:=X.A
 N:=N
 s₀:=s
 H₀:=H
 env:={ scope:=relabel scope X.env,locals:=s.heap.objs.size,globals:=X.env.globals,cells:=cellsFrom (s.heap.objs.size + 1) scope.names cl,qual:=X.env.qual,func:=none,code:=X.env.code,frame:=X.env.frame,builtins:=X.env.builtins }
 outer:=X.stack
 stack:=X.stack
 ex:=fp
 fn:=fun x=>scope.names.lookup x == some .cell
 calm:=X.calm
 pn:=[]
 xe:=fun _ _=>False
structure BlScope (X:Cx) (scope:Scope) (own:List Str) (fr:List (Str × Nat)):Prop where
 kind:scope.kind = .function
 free:∀ y ∈ scope.names,y.2 = .free->X.env.scope.names.lookup y.1 = some .cell\/X.env.scope.names.lookup y.1 = some .free
 loc:∀ y ∈ scope.names,y.2 = .local->scope.names.lookup y.1 = some .local
 look:∀ y ∈ scope.names,scope.names.lookup y.1 = some y.2
 cap:∀ y ∈ fr,scope.names.lookup y.1 = some .free/\X.N[y.2]? = some y.1
def Zd9 (k:Nat) (fr:List (Str × Nat)) (σ:St):St:=List.replicate k none ++ fr.map fun y=>(σ[y.2]?).getD none
def Zbu (own:List Str) (fr:List (Str × Nat)):List Str:=own ++ fr.map (·.1)
section
variable {X:Cx} {pins:List (Addr × Obj)} {σ:St} {H:Hp} {s:Shared}
theorem Zfj {scope:Scope} {own:List Str} {fr:List (Str × Nat)} {cl:List (Str × Addr)} {fp:List Addr} {h':Heap} (I:Inv X pins σ H s) (B:BlScope X scope own fr)
  (hcl:∀ x c,cl.lookup x = some c->X.env.cells.lookup x = some c) (hcl2:∀ y ∈ scope.names,y.2 = .free->∃ c,cl.lookup y.1 = some c)
  (hfp:∀ b ∈ fp,FpOk X pins H b) (hfo:∀ b ∈ fp,∃ o,s.heap.get? b = some o)
  (hn:h'.Ns s.heap.objs.size (fun _=>none)) (hk:∀ b o,s.heap.get? b = some o->h'.get? b = some o)
  (hc:∀ x c,(cellsFrom (s.heap.objs.size + 1) scope.names cl).lookup x = some c->h'.IsCell c none\/cl.lookup x = some c):
  Inv (Zbw X (Zbu own fr) scope cl s H fp) [] (Zd9 own.length fr σ) H { s with heap:=h' }:=by
 have clt:∀ x c,cl.lookup x = some c->c < s.heap.objs.size:=fun x c e=>by
  obtain ⟨v,z⟩:=I.cell x c (hcl x c e)
  exact z.lt
 have ownC:∀ x c,(cellsFrom (s.heap.objs.size + 1) scope.names cl).lookup x = some c->s.heap.objs.size + 1<=c\/cl.lookup x = some c:=fun x c e=>Zn8 _ _ _ e
 have bsz:X.base.objs.size<=s.heap.objs.size:=Jba I.ok.bsz I.sz
 refine ⟨⟨I.ok.mod,B.kind,I.ok.glob,I.ok.blt,Jae _,?_,?_,?_,I.ok.hd,I.ok.frames,.inl rfl,?_,I.bs,bsz,?_,?_,I.stack,I.stkFree,I.ok.top⟩,rfl,I.bare,Un.kept hk,⟨_,hn,?_⟩,?_,I.hok.fresh (Jae _),?_,?_,I.hok.kept hk,?_⟩
 ·exact Zmm _ _ _ (fun x c e=>Jdh (clt x c e)) fun x y c e1 e2=>I.ok.inj x y c (hcl x c e1) (hcl y c e2)
 ·intro x hx
  have hx:(relabel scope X.env).names.lookup x = some .cell\/(relabel scope X.env).names.lookup x = some .free:=hx
  have q:scope.names.lookup x = some .cell\/scope.names.lookup x = some .free:=by
   rcases hx with z | z
   ·exact Zdg z
   ·exact (Zdg z).elim .inr .inr
  refine Jcm.mp (Jcv scope.names _ _ ?_)
  rcases q with z | z
  ·exact .inl z
  ·obtain ⟨c,e⟩:=hcl2 _ (Ja9 z) rfl
   exact .inr (by rw [e]; rfl)
 ·intro x c hf e
  have hf:(scope.names.lookup x == some .cell) = true:=hf
  exact Jce (Zmk _ _ _ (Ja9 (Jbh.mp hf)) e)
 ·intro b hb
  obtain ⟨o,ho⟩:=hfo b hb
  refine ⟨Jay (Jaf ho),fun x c e=>?_⟩
  rcases ownC x c e with z | z
  ·intro q
   subst q
   exact absurd (Jax (Jaf ho) (Jce z)) (Jbp _)
  ·exact (hfp b hb).2.2.2.2.1 x c (hcl x c z)
 ·intro b o e hb
  rcases (hfp b hb).2.2.2.1 with z | z
  ·exact I.ok.noex b o e z
  ·exact absurd (Jax (Jaf e) (Jba I.ok.bsz z)) (Jbp _)
 ·intro b hb z
  rcases Jam.mp (I.stkSub b z) with q | q
  ·exact (hfp b hb).2.1 q
  ·exact (hfp b hb).2.2.1 q
 ·intro i x v h1 h2 h3
  have h1:(Zbu own fr)[i]? = some x:=h1
  unfold Zbu at h1
  unfold Zd9 at h2
  by_cases hi:i < own.length
  ·rw [Jbk (by rw [Jbj]; exact hi),Jcr,if_pos hi] at h2
   cases h2
  ·have hi':own.length<=i:=Nat.le_of_not_lt hi
   rw [Jbb hi',Ja6] at h1
   rw [Jbb (by rw [Jbj]; exact hi'),Jbj,Ja6] at h2
   cases e:fr[i - own.length]? with
   | none=>rw [e] at h1; cases h1
   | some y=>
    rw [e] at h1 h2
    have hy1:y.1 = x:=Ja4 h1
    have hy2:(σ[y.2]?).getD none = some v:=Ja4 h2
    obtain ⟨c1,c2⟩:=B.cap y (Jar e)
    rw [hy1] at c1 c2
    have hs:σ[y.2]? = some (some v):=by
     cases e2:σ[y.2]? with
     | none=>rw [e2] at hy2; cases hy2
     | some o=>rw [e2] at hy2; cases o with
      | none=>cases hy2
      | some w=>cases hy2; rfl
    obtain ⟨m,hm,hl⟩:=I.loc
    have hfree:=B.free _ (Ja9 c1) rfl
    obtain ⟨u,r,l⟩:=hl y.2 x v c2 hs (hfree.elim (fun z=>.inr (.inl z)) fun z=>.inr (.inr z))
    refine ⟨u,r,?_⟩
    obtain ⟨k,c,e3,z⟩:(X.env.kindOf x = some .cell\/X.env.kindOf x = some .free)/\∃ c,X.env.cells.lookup x = some c/\s.heap.IsCell c (some u):=by
     rcases l with ⟨k,_⟩ | q
     ·have k:X.env.scope.names.lookup x = some .local:=k
      rcases hfree with z | z <;> (rw [z] at k; cases k)
     ·exact q
    obtain ⟨d,hd⟩:=hcl2 _ (Ja9 c1) rfl
    have hd':=hcl x d hd
    rw [e3] at hd'
    cases hd'
    obtain ⟨c',hc'⟩:∃ c',(cellsFrom (s.heap.objs.size + 1) scope.names cl).lookup x = some c':=Jcm.mp (Jcv scope.names _ _ (.inr (by rw [hd]; rfl)))
    have hcc:c' = c:=by
     rcases ownC x c' hc' with q | q
     ·-- an own cell of that name: it is free,so no
      exfalso
      have:(x,NameKind.cell) ∉ scope.names:=fun m=>by
       have:=B.look _ m
       rw [c1] at this
       cases this
      exact absurd hc' (by
       rw [Zml this]
       intro z
       rw [hd] at z
       cases z
       exact absurd (clt x _ hd) (Nat.not_lt.mpr (Jce q)))
     ·rw [hd] at q; cases q; rfl
    subst hcc
    refine .inr ⟨?_,c',hc',z.keeps hk⟩
    exact Zep c1
 ·intro x c e
  rcases hc x c e with z | z
  ·exact ⟨_,z⟩
  ·obtain ⟨v,q⟩:=I.cell x c (hcl x c z)
   exact ⟨v,q.keeps hk⟩
 ·intro x c e
  rcases ownC x c e with z | z
  ·exact I.hok.fresh (Jce z)
  ·exact I.freeC x c (hcl x c z)
 ·intro p hp
  exact absurd (show p ∈ ([]:List (Addr × Obj)) from hp) (by simp)
 ·show (Zd9 _ _ _).length = (Zbu _ _).length
  unfold Zd9 Zbu
  simp
end
def PTs (X:Cx) (ifs:List Expr) (t:TT):Prop:=
 ∀ (pins:List (Addr × Obj)) (s:Shared) (σ:St) (H:Hp) (Q:Bool->Hp->Prop),Inv X pins σ H s->t σ H Q->
  wpAny (model X.prog X.w) X.A (forIn ifs true fun c r=>if r = true then do let ok <- isTrue c X.env (eval c X.env); pure (ForInStep.yield ok) else pure (ForInStep.yield r)) (TP X pins σ Q) X.xe s
def Zg3:TT:=fun _ H Q=>Q true H
theorem Zbi {X:Cx}:PTs X [] Zg3:=fun pins s σ H Q I h=>wpAny_tests_nil ⟨H,I,h⟩
theorem Zed {X:Cx} {c:Expr} {t:TT} (hc:PT X c t):PTs X [c] t:=fun pins s σ H Q I h=>wpAny_tests_one (hc pins s σ H Q I h)
section
variable {prog:Program} {w:World} {A:Around} {R:Result->Shared->Prop} {s:Shared}
theorem Zhn {elt target iter:Expr} {ifs:List Expr} {scope:Scope} {pos:Pos} {it acc:Value} {env:Env} (I:Nat->Shared->Prop)
  (turn:∀ n s,I n s->wpAny (model prog w) A (pyNext it) (fun r s₁=>match r with
   | none=>R (.ok .next) s₁
   | some v=>wpAny (model prog w) A (letOwnedTupleGo target it v) (fun _ s₁=>wpAny (model prog w) A (assign target env v) (fun _ s₂=>
     wpAny (model prog w) A (forIn ifs true fun c r=>if r = true then do let ok <- isTrue c env (eval c env); pure (ForInStep.yield ok) else pure (ForInStep.yield r)) (fun ok s₃=>
      if ok = true then wpAny (model prog w) A (eval elt env) (fun x s₄=>
       wpAny (model prog w) A (call (.builtin "list.append") [acc,x]) (fun _ s₅=>∃ m,m < n/\I m s₅) (fun _ _=>False) s₄) (fun _ _=>False) s₃
      else ∃ m,m < n/\I m s₃) (fun _ _=>False) s₂) (fun _ _=>False) s₁) (fun _ _=>False) s₁) (fun _ _=>False) s)
  (n:Nat) (h:I n s):
  codeAny (model prog w) A (.compLoop (.ListComp elt [⟨target,iter,ifs,0⟩] scope pos) 0 it acc env) R s:=by
 refine codeAny_loop rfl I (fun n s hI=>?_) n h
 show wpAny _ A ((compTurn (.ListComp elt [⟨target,iter,ifs,0⟩] scope pos) 0 it acc env).onRaise (fun x=>do noteFrame x env; theTreesLotGoes x)) _ _ s
 refine wpAny_noted ?_
 rw [compTurn_list]
 refine Jac (Jb5 (Jac (Ja5 (turn n s hI) (fun r s₁ h₁=>?_) fun _ _ h'=>h'.elim)))
 cases r with
 | none=>exact Jap h₁
 | some v=>
  refine Jac (Ja5 h₁ (fun _ s₁' h₁'=>?_) fun _ _ h'=>h'.elim)
  refine Jac (Ja5 h₁' (fun _ s₂ h₂=>Jac (Ja5 h₂ (fun ok s₃ h₃=>?_) fun _ _ h'=>h'.elim)) fun _ _ h'=>h'.elim)
  cases ok with
  | false=>exact Jap ⟨rfl,h₃⟩
  | true=>
   exact Jac (Jac (Ja5 h₃ (fun x s₄ h₄=>Jac (Ja5 h₄ (fun _ s₅ h₅=>Jap (Jap ⟨rfl,h₅⟩)) fun _ _ h'=>h'.elim)) fun _ _ h'=>h'.elim))
end
def Zb5 (g:TG) (tt:TT) (te:TE) (J:It) (D:Addr) (σ0:St) (H1:Hp) (Q:VK):Prop:=
 ∃ W:Nat->Nat->St->Hp->Prop,(∃ m,W 0 m σ0 (upd H1 D (.lst [])))/\∀ i m σ' H2,W i m σ' H2->
  (J.stop i H2/\Q (.ref D) H2)\/(J.go i H2/\∀ x H3,J.yld i H2 x H3->g x σ' H3 fun σ4 H4=>tt σ4 H4 fun b H5=>
   if b = true then te σ4 H5 fun y H6=>∃ vs,H6 D = some (.lst vs)/\vs.length < sizeLine/\∃ m',m' < m/\W (i + 1) m' σ4 (upd H6 D (.lst (vs ++ [y])))
   else ∃ m',m' < m/\W (i + 1) m' σ4 H5)
def tComp (k:Nat) (fr:List (Str × Nat)) (wi:TI) (g:TG) (tt:TT) (te:TE):TE:=fun σ H Q=>wi σ H fun J H1=>∀ D,H1 D = none->Zb5 g tt te J D (Zd9 k fr σ) H1 Q
section
variable {X:Cx} {tg iter elt:Expr} {ifs:List Expr} {scope:Scope} {pos:Pos} {own:List Str} {fr:List (Str × Nat)} {wi:TI} {g:TG} {tt:TT} {te:TE}
theorem Zi7 {pins:List (Addr × Obj)} {s2:Shared} {σ:St} {H2:Hp} {it:Addr} {fp:List Addr} {tn:Nat->Heap->Prop} {J:It} {Q:VK} {cl:List (Str × Addr)} {RR:Value->Addr->Result->Shared->Prop} {E:Value->Shared->Prop}
  (hc:X.calm = true) (B:BlScope X scope own fr)
  (hb:∀ cl s H fp,PG (Zbw X (Zbu own fr) scope cl s H fp) tg g/\PTs (Zbw X (Zbu own fr) scope cl s H fp) ifs tt/\PE (Zbw X (Zbu own fr) scope cl s H fp) elt te)
  (hcl:∀ x c,cl.lookup x = some c->X.env.cells.lookup x = some c) (hcl2:∀ y ∈ scope.names,y.2 = .free->∃ c,cl.lookup y.1 = some c)
  (I2:Inv X pins σ H2 s2) (T:Turn X.prog X.w X.K tg J fp it tn) (st2:tn 0 s2.heap) (f2:∀ b ∈ fp,FpOk X pins H2 b) (q:∀ D,H2 D = none->Zb5 g tt te J D (Zd9 own.length fr σ) H2 Q)
  (hRR:∀ D C s' H',Inv X pins σ H' s'->Q (.ref D) H'->(∃ m,s'.heap.Ns C m)->C ≠ X.env.locals->(∀ x c,X.env.cells.lookup x = some c->c ≠ C)->(∀ p ∈ X.pn ++ pins,p.1 ≠ C)->X.s₀.heap.objs.size<=C->H' C = none->RR (.ref D) C (.ok .next) s'):
  wpAny (model X.prog X.w) X.A (newList []) (fun acc s₃=>wpAny (model X.prog X.w) X.A (newFunctionEnv scope X.env.globals cl [] X.env.qual none .none (some X.env)) (fun cenv s₄=>
   codeAny (model X.prog X.w) X.A (.compStart (.ListComp elt [⟨tg,iter,ifs,0⟩] scope pos) 0 (.ref it) acc { cenv with scope:=relabel scope X.env }) (RR acc cenv.locals) s₄) E s₃) E s2:=by
 refine Jdg ?_
 have fr0:H2 s2.heap.objs.size = none:=I2.hok.fresh (Jae _)
 have I3:=I2.lnew (its:=[]) (ys:=[]) (t':=s2.toks) .nil (Jb1 _)
 generalize hs3:({ s2 with heap:=s2.heap.push { cls:=.type "list",data:=.seq ([]:List Value).toArray } }:Shared) = s3 at *
 have k23:∀ b o,s2.heap.get? b = some o->s3.heap.get? b = some o:=fun b o e=>by rw [<- hs3]; exact Jad _ e
 have sz3:s3.heap.objs.size = s2.heap.objs.size + 1:=by rw [<- hs3]; exact Jcc ..
 have I3':Inv X pins σ (upd H2 s2.heap.objs.size (.lst [])) s3:=I3
 have fne:∀ b ∈ fp,b ≠ s2.heap.objs.size:=fun b hb z=>by
  obtain ⟨o,ho,_⟩:=T.obj 0 _ st2 b hb
  exact absurd (Jaf ho) (by rw [z]; exact Jbp _)
 have f3:∀ b ∈ fp,FpOk X pins (upd H2 s2.heap.objs.size (.lst [])) b:=fun b hb=>⟨by rw [Zaf (fne b hb)]; exact (f2 b hb).1,(f2 b hb).2⟩
 have st3:tn 0 s3.heap:=T.keep 0 _ _ st2 fun b _ o e=>k23 b o e
 have hfo:∀ b ∈ fp,∃ o,s3.heap.get? b = some o:=fun b hb=>let ⟨o,ho,_⟩:=T.obj 0 _ st3 b hb; ⟨o,ho⟩
 refine Zdk fun h' hn hk hce=>?_
 have I4:=Zfj (own:=own) I3' B hcl hcl2 f3 hfo hn hk hce
 obtain ⟨hg,ht,he⟩:=hb cl s3 (upd H2 s2.heap.objs.size (.lst [])) fp
 have st4:tn 0 h':=T.keep 0 _ _ st3 fun b _ o e=>hk b o e
 have stat:∀ {H':Hp},(∀ b ∈ fp,H' b = none)->∀ b ∈ fp,FpOk (Zbw X (Zbu own fr) scope cl s3 (upd H2 s2.heap.objs.size (.lst [])) fp) [] H' b:=fun {H'} hnn b hb=>
  ⟨hnn b hb,(I4.ok.exf b hb).1,I4.ok.exfs b hb,.inl hb,(I4.ok.exf b hb).2,fun p hp=>absurd (show p ∈ ([]:List (Addr × Obj)) from hp) (by simp)⟩
 obtain ⟨W,⟨m0,w0⟩,turn⟩:=q s2.heap.objs.size fr0
 have loop:codeAny (model X.prog X.w) X.A (.compLoop (.ListComp elt [⟨tg,iter,ifs,0⟩] scope pos) 0 (.ref it) (.ref s2.heap.objs.size) (Zbw X (Zbu own fr) scope cl s3 (upd H2 s2.heap.objs.size (.lst [])) fp).env)
   (RR (.ref s2.heap.objs.size) s3.heap.objs.size) { s3 with heap:=h' }:=by
  refine Zhn (fun n s'=>∃ i σ' H',Inv (Zbw X (Zbu own fr) scope cl s3 (upd H2 s2.heap.objs.size (.lst [])) fp) [] σ' H' s'/\tn i s'.heap/\(∀ b ∈ fp,H' b = none)/\W i n σ' H') ?_ m0
   ⟨0,_,_,I4,st4,fun b hb=>(f3 b hb).1,w0⟩
  rintro n s5 ⟨i,σ5,H5,I5,st5,fr5,w5⟩
  rcases turn i n σ5 H5 w5 with ⟨stop,qn⟩ | ⟨go,step⟩
  ·refine thn (T.done (Zbw X (Zbu own fr) scope cl s3 (upd H2 s2.heap.objs.size (.lst [])) fp) rfl rfl rfl hc i [] s5 σ5 H5 _ I5 (stat fr5) st5 stop) fun r s6 ⟨hr,I6⟩=>?_
   subst hr
   have I7:Inv X pins σ H5 s6:=I3'.call' (ch:=fp) I6.os I6.base I6.hok I6.bare fun b hb=>⟨(f3 b hb).2.2.2.1,(f3 b hb).2.1,(f3 b hb).2.2.2.2.1,(f3 b hb).2.2.2.2.2⟩
   obtain ⟨m6,hn6,_⟩:=I6.loc
   refine hRR _ _ s6 H5 I7 qn ⟨m6,hn6⟩ (Jdl I3'.lt) (fun x c e=>?_) (fun p hp=>?_) I3'.sz I6.free
   ·obtain ⟨v,z⟩:=I3'.cell x c e
    exact Jay z.lt
   ·exact Jay (Jaf (I3'.pin p hp).1)
  ·refine thn (T.item (Zbw X (Zbu own fr) scope cl s3 (upd H2 s2.heap.objs.size (.lst [])) fp) rfl rfl rfl hc i [] s5 σ5 H5 _ I5 (stat fr5) st5 go) fun r s6 ⟨u,hr,h6⟩=>?_
   subst hr
   refine thn h6 fun _ s7 ⟨x,H7,I7,r7,y7,st7,fr7⟩=>?_
   have I7':=I7.pinned (stat fr7) (T.obj _ _ st7)
   refine thn (hg _ s7 σ5 H7 x u _ I7' r7 (step x H7 y7)) fun _ s8 ⟨σ8,H8,I8,q8⟩=>?_
   refine thn (ht _ s8 σ8 H8 _ I8 q8) fun b s9 ⟨H9,I9,q9⟩=>?_
   have again:∀ {sA:Shared} {σA:St} {HA:Hp} {m':Nat},Inv (Zbw X (Zbu own fr) scope cl s3 (upd H2 s2.heap.objs.size (.lst [])) fp) ([] ++ Zd4 fp s7.heap) σA HA sA->m' < n->W (i + 1) m' σA HA->
     ∃ m,m < n/\∃ i σ' H',Inv (Zbw X (Zbu own fr) scope cl s3 (upd H2 s2.heap.objs.size (.lst [])) fp) [] σ' H' sA/\tn i sA.heap/\(∀ b ∈ fp,H' b = none)/\W i m σ' H':=fun {sA σA HA m'} IA hm wA=>by
    refine ⟨m',hm,i + 1,σA,HA,IA.unpinned,T.keep _ _ _ st7 fun b hb o e=>(IA.pin (b,o) (Jah _ (Jah _ (Za8 hb e)))).1,fun b hb=>?_,wA⟩
    obtain ⟨o,e,d⟩:=T.obj _ _ st7 b hb
    exact (IA.pin (b,o) (Jah _ (Jah _ (Za8 hb e)))).2.1
   cases b with
   | false=>
    obtain ⟨m',hm,w9⟩:=q9
    exact again I9 hm w9
   | true=>
    have q9:te σ8 H9 _:=q9
    show wpAny _ _ _ _ _ _
    refine thn (he _ s9 σ8 H9 _ I9 q9) fun y sA ⟨vy,HA,IA,rA,vs,hvs,hlen,m',hm,wA⟩=>?_
    refine thn (Zbs (X:=Zbw X (Zbu own fr) scope cl s3 (upd H2 s2.heap.objs.size (.lst [])) fp) _ sA σ8 HA (.ref s2.heap.objs.size) [vy] (.ref s2.heap.objs.size) [y] (fun _ HB=>W (i + 1) m' σ8 HB) IA rfl (.cons rA .nil) ⟨_,vs,vy,rfl,rfl,hvs,hlen,wA⟩) fun _ sB ⟨_,HB,IB,_,wB⟩=>?_
    exact again IB hm wB
 exact codeAny_compStart_list loop (T.self _ 0 _ _ _ st4 loop)
theorem SameBut.get {a:Addr} {h h':Heap} (x:Heap.SameBut a h h'):∀ b o,b ≠ a->h.get? b = some o->h'.get? b = some o:=fun b o n e=>(x.2 b n).trans e
theorem Zbc (hc:X.calm = true) (B:BlScope X scope own fr) (hi:PI X tg iter wi)
  (hb:∀ cl s H fp,PG (Zbw X (Zbu own fr) scope cl s H fp) tg g/\PTs (Zbw X (Zbu own fr) scope cl s H fp) ifs tt/\PE (Zbw X (Zbu own fr) scope cl s H fp) elt te)
  (hs:∀ x,foldedSetIterable iter X.env x = pure x:=by intro _; rfl):
  PE X (.ListComp elt [⟨tg,iter,ifs,0⟩] scope pos) (tComp own.length fr wi g tt te):=by
 intro pins s σ H Q I h
 obtain ⟨cl,hclos,hcl,hcl2⟩:=Zfm (scope:=scope) (env:=X.env) fun y hy hf=>I.ok.has y.1 (B.free y hy hf)
 rw [eval_ListComp]
 refine Jcn (use:=none) rfl hs hclos B.kind B.loc (thn (hi pins s σ H _ I h) fun v s1 h1=>thn h1 fun itv s2 h2=>?_)
 obtain ⟨it,fp,tn,J,H2,e,I2,T,st2,f2,q⟩:=h2
 subst e
 refine Zi7 (RR:=fun acc C=>compPost (model X.prog X.w) X.A X.xe none (EP X pins σ Q) acc C) (Q:=Q) hc B hb hcl hcl2 I2 T st2 f2 q ?_
 intro D C s' H' I' hq hn n1 n2 n3 n4 n5
 obtain ⟨m,hn⟩:=hn
 refine ⟨m,hn,fun h' hs'=>⟨.ref D,H',I'.turned (it:=C) (t':=s'.toks) (fun b o hb e=>SameBut.get hs' b o hb e) n5 (Jc9 (Jc9 n1)) (.inr n4) n2 n3,rfl,hq⟩⟩
theorem Zh6 {i:Nat} {x:Str} {pos' spos:Pos} (hc:X.calm = true) (B:BlScope X scope own fr) (hi:PI X tg iter wi)
  (hb:∀ cl s H fp,PG (Zbw X (Zbu own fr) scope cl s H fp) tg g/\PTs (Zbw X (Zbu own fr) scope cl s H fp) ifs tt/\PE (Zbw X (Zbu own fr) scope cl s H fp) elt te)
  (hN:X.N.Nodup) (hix:X.N[i]? = some x) (hx:X.env.scope.names.lookup x = some .local)
  (hsw:swapsWith (.ListComp elt [⟨tg,iter,ifs,0⟩] scope pos) (some (.Name x pos')) spos.line X.env = pure true)
  (hs:∀ x,foldedSetIterable iter X.env x = pure x:=by intro _; rfl):
  PS X (.Assign [.Name x pos'] (.ListComp elt [⟨tg,iter,ifs,0⟩] scope pos) spos) (tAsg (tComp own.length fr wi g tt te) (Zbd i)):=by
 intro pins s σ H D I h
 obtain ⟨cl,hclos,hcl,hcl2⟩:=Zfm (scope:=scope) (env:=X.env) fun y hy hf=>I.ok.has y.1 (B.free y hy hf)
 rw [exec_Assign_Name_used _ _ _ _ hsw]
 refine Jac (Jb5 (Jac ?_))
 show wpAny _ _ (do let _ <- comprehension (.ListComp elt [⟨tg,iter,ifs,0⟩] scope pos) scope X.env _ (newList []) false (eval iter X.env) (some (assign (.Name x pos') X.env))) _ _ s
 refine Jac (Ja5 (Jcn (use:=some (assign (.Name x pos') X.env)) (Q:=fun _ s'=>SP X pins D .next s') rfl hs hclos B.kind B.loc (thn (hi pins s σ H _ I h) fun v s1 h1=>thn h1 fun itv s2 h2=>?_))
  (fun _ s' hq=>Jap (Jap hq)) fun _ _ e=>e)
 obtain ⟨it,fp,tn,J,H2,e,I2,T,st2,f2,q⟩:=h2
 subst e
 refine Zi7 (RR:=fun acc C=>compPost (model X.prog X.w) X.A X.xe (some (assign (.Name x pos') X.env)) (fun _ s'=>SP X pins D .next s') acc C) (Q:=fun v H'=>Zbd i v σ H' D.nx) hc B hb hcl hcl2 I2 T st2 f2 q ?_
 intro DD C s' H' I' hq hn n1 n2 n3 n4 n5
 obtain ⟨m,hn⟩:=hn
 show wpAny _ _ (assign (.Name x pos') X.env (.ref DD)) _ _ s'
 refine wpAny_assign_Name (Zg4 I' hN hix (.inl hx) (v:=.ref DD) rfl (fun s3 I3 ⟨a,hsa,ha⟩=>?_) (.inr hx))
 have hCa:C ≠ a:=by
  rcases ha with z | z
  ·rw [z]; exact n1
  ·exact (n2 x a z).symm
 refine ⟨m,hn.sameBut hsa hCa,fun h' hs'=>⟨σ.set i (some (.ref DD)),H',I3.turned (it:=C) (t':=s3.toks) (fun b o hb e=>SameBut.get hs' b o hb e) n5 n1 (.inr n4) n2 n3,hq⟩⟩
end
section
variable {X:Cx}
theorem Zff:OpR X (binaryOp .Mult) (rI IntMulOk fun i j=>.int (i * j)):=
 opI fun i j t u s Q E c h=>PyProof.Rows.mul_int h c
def cV:V->Option Value
 | .ty n=>some (.type n)
 | .ref a=>some (.ref a)
 | _=>none
theorem Zcm:Zd8 X (.builtin "isinstance") (fun xs H Q=>∃ x y c t b,xs = [x,y]/\cV y = some c/\TyOf X.K H x t/\PySem.W.kitOne X.K t c = some b/\Q (.bl b) H):=by
 intro pins s σ H xs us Q I r h
 obtain ⟨x,y,c,t,b,rfl,hc,ty,e,q⟩:=h
 obtain ⟨u,v,rfl,rx,ry⟩:=vals2 r
 have hv:v = c:=by
  cases y <;> first | (cases hc; done) | (cases hc; cases ry; rfl)
 subst hv
 exact Zlv I rx ty e fun tk=>⟨.bl b,H,I.tok _,rfl,q⟩
theorem Zdn (bs:List Bool):(List.range bs.length).all (fun i=>(bs[i]?).getD true) = bs.all id:=by
 rw [Jbu,Jci,Jci]
 constructor
 ·intro h b hb
  obtain ⟨i,hi,rfl⟩:=Jbw.mp hb
  have:=h i (Jc3.mpr hi)
  rw [Jab hi] at this
  exact this
 ·intro h i hi
  have hi:=Jc3.mp hi
  rw [Jab hi]
  exact h _ (Jb0 hi)
theorem Zil {A:Around} {prog:Program} {w:World} {bs:List Bool} {its:List Value} (r:Vals (bs.map V.bl) its):TruthOf prog w A (fun i v=>its.toArray[i]? = some v) (fun i=>(bs[i]?).getD true):=by
 intro i v s Q E hP hQ
 have hP:its[i]? = some v:=by simpa using hP
 have hl:=r.length
 rw [Jaa] at hl
 have hi:i < bs.length:=by rw [hl]; exact (Ja0.mp hP).1
 obtain ⟨u,hu,rv⟩:=r.get (i:=i) (x:=.bl bs[i]) (by rw [Ja6,Jab hi]; rfl)
 rw [hP] at hu
 cases hu
 cases rv
 have hQ:Q ((bs[i]?).getD true) s:=hQ
 rw [Jab hi] at hQ
 exact Jbn hQ
theorem Zgy (hc:X.calm = true):Zd8 X (.builtin "all") (fun xs H Q=>∃ (p:Addr) (bs:List Bool),xs = [.ref p]/\SqL X.K H p (bs.map V.bl)/\Q (.bl (bs.all id)) H):=by
 intro pins s σ H xs us Q I r h
 obtain ⟨p,bs,rfl,hq,q⟩:=h
 obtain ⟨u,rfl,rx⟩:=Zhx r
 cases rx
 obtain ⟨its,rv,pl,hz⟩:=I.list hq
 have hl:=rv.length
 rw [Jaa] at hl
 refine call_all_walk (Jc0 pl.isList ?_)
 have hne:p ≠ s.heap.objs.size:=fun e=>by
  obtain ⟨o,n,ho,_⟩:=pl
  exact absurd (Jaf ho) (by rw [e]; exact Jbp _)
 refine ⟨s.heap.objs.size,_,_,_,_,_,fun i=>(bs[i]?).getD true,rfl,Walks.list (A:=X.A.in1) (I.ok.hd hc) _ p hne its.toArray,⟨⟨_,Jas _ rfl,rfl,rfl⟩,pl.isList.at fun o e=>Jad _ e⟩,Zil rv,fun h' tk kp=>?_⟩
 have e:(List.range its.toArray.size).all (fun i=>(bs[i]?).getD true) = bs.all id:=by
  rw [Jai,<- hl]; exact Zdn bs
 rw [e]
 have f:=I.fpOk (H':=H) (Jae s.heap.objs.size) (I.hok.fresh (Jae _))
 exact ⟨.bl _,H,(I.kept (h':=s.heap.push { cls:=.type "list_iterator",data:=.fields #[.ref p,.int 0 0] }) (t':=s.toks) fun b o e=>Jad _ e).turned (it:=s.heap.objs.size) (t':=tk) (fun b o hb e=>kp b o (by simpa using hb) e) f.1 f.2.1 f.2.2.2.1 f.2.2.2.2.1 f.2.2.2.2.2,rfl,q⟩
theorem Zho:Zd8 X (.type "range") (fun xs H Q=>∃ j,xs = [.int j]/\∀ p,H p = none->Q (.ref p) (upd H p (.rng 0 j))):=by
 intro pins s σ H xs us Q I r h
 obtain ⟨j,rfl,q⟩:=h
 obtain ⟨u,rfl,t,rfl⟩:=Zhx r
 refine call_range_1 ⟨.ref s.heap.objs.size,_,I.laid (a:=s.heap.objs.size) (o:=.rng 0 j) (fun b o e=>Jad _ e) (Jae _) ?_,rfl,q _ (I.hok.fresh (Jae _))⟩
 exact ⟨_,_,_,Jas _ rfl⟩
def Zmp (lo hi:Int):List V:=(List.range (hi - lo).toNat).map fun i=>V.int (lo + (i:Nat))
theorem Zd7 (hc:X.calm = true):Zd8 X (.type "list") (fun xs H Q=>∃ p lo hi,xs = [.ref p]/\H p = some (.rng lo hi)/\(-(2 ^ 62)<=lo/\lo < 2 ^ 62/\-(2 ^ 62)<=hi/\hi < 2 ^ 62)/\(hi - lo).toNat<=2 ^ 24 /\
  ∀ l,H l = none->Q (.ref l) (upd H l (.lst (Zmp lo hi)))):=by
 intro pins s σ H xs us Q I r h
 obtain ⟨p,lo,hi,rfl,hp,⟨h1,h2,h3,h4⟩,hz,q⟩:=h
 obtain ⟨u,rfl,rx⟩:=Zhx r
 cases rx
 obtain ⟨t,u,v,ho⟩:=(show ObjOk X.prog X.w H s.heap p (.rng lo hi) from I.hok p _ hp)
 have hn:Builtin.Range.rangeSize lo hi 1 = (((hi - lo).toNat:Nat):Int):=by rw [rangeSize_one]; split <;> omega
 refine call_list_range (I.ok.hd hc) (show IsRange s.heap p lo hi 1 t u v from ho) (small_one h1 h2 h3 h4) hn hz fun h' tk acc' c' kp e it=>?_
 refine ⟨.ref s.heap.objs.size,_,I.laid (a:=s.heap.objs.size) (o:=.lst (Zmp lo hi)) (t':=tk) kp (Jae _) ?_,rfl,q _ (I.hok.fresh (Jae _))⟩
 refine ⟨by unfold Zmp; rw [Jaa,Jb2]; exact hz,acc'.toList,c',?_,by simpa using e⟩
 have hlen:acc'.toList.length = (hi - lo).toNat:=by rw [Jdx]; exact it.1
 have gen:∀ (n:Nat) (k:Nat) (us:List Value),us.length = n->(∀ (i:Nat) w',us[i]? = some w'->∃ t,w' = Value.int (lo + ((k + i:Nat):Int)) t)->Vals ((List.range' k n).map fun (i:Nat)=>V.int (lo + (i:Nat))) us:=by
  intro n
  induction n with
  | zero=>intro k us hl _; cases us with | nil=>exact .nil | cons _ _=>cases hl
  | succ n ih=>
   intro k us hl hv
   cases us with
   | nil=>cases hl
   | cons x us=>
    refine .cons ?_ (ih (k + 1) us (by simpa using hl) fun i w' e=>?_)
    ·obtain ⟨t,e⟩:=hv 0 x rfl
     exact ⟨t,by simpa using e⟩
    ·obtain ⟨t,e'⟩:=hv (i + 1) w' (by simpa using e)
     exact ⟨t,by rw [e',show ((k + (i + 1):Nat):Int) = ((k + 1 + i:Nat):Int) by omega]⟩
 unfold Zmp
 rw [List.range_eq_range']
 refine gen _ 0 _ hlen fun i w' e'=>?_
 obtain ⟨t,e2⟩:=it.2 i w' (by simpa using e')
 exact ⟨t,by rw [e2]; congr 1 <;> simp⟩
end
inductive EqD (K:PySem.W.Frag) (H:Hp):Nat->V->V->Bool->Prop where
 | flat {n:Nat} {x y:V} (hx:Zfl x = true) (hy:Zfl y = true):EqD K H n x y (eqV x y)
 | same {n:Nat} {a:Addr}:EqD K H n (.ref a) (.ref a) true
 | list {n:Nat} {a c:Addr} {xs ys:List V} {bs:List Bool} (ne:a ≠ c) (ha:SqL K H a xs) (hc:SqL K H c ys) (hl:xs.length = ys.length) (hb:bs.length = xs.length)
   (he:∀ (j:Nat) x y b,xs[j]? = some x->ys[j]? = some y->bs[j]? = some b->EqD K H n x y b):EqD K H (n + 1) (.ref a) (.ref c) (bs.all id)
 | listL {n:Nat} {a c:Addr} {xs ys:List V} (ne:a ≠ c) (ha:SqL K H a xs) (hc:SqL K H c ys) (hl:xs.length ≠ ys.length):EqD K H (n + 1) (.ref a) (.ref c) false
 | tuple {n:Nat} {a c:Addr} {xs ys:List V} {bs:List Bool} (ne:a ≠ c) (ha:SqT K H a xs) (hc:SqT K H c ys) (hl:xs.length = ys.length) (hb:bs.length = xs.length)
   (he:∀ (j:Nat) x y b,xs[j]? = some x->ys[j]? = some y->bs[j]? = some b->EqD K H n x y b):EqD K H (n + 1) (.ref a) (.ref c) (bs.all id)
def Zg0 (K:PySem.W.Frag) (H:Hp) (n:Nat) (xs ys:List V) (bs:List Bool):Prop:=
 xs.length = ys.length/\bs.length = xs.length/\∀ (j:Nat) x y b,xs[j]? = some x->ys[j]? = some y->bs[j]? = some b->EqD K H n x y b
section
variable {X:Cx} {pins:List (Addr × Obj)} {σ:St} {H:Hp} {s:Shared}
theorem Zev {A:Around} {xs ys:List V} {us vs:List Value} {bs:List Bool} (rx:Vals xs us) (ry:Vals ys vs) (hl:xs.length = ys.length) (hb:bs.length = xs.length)
  (ih:∀ (j:Nat) x y b,xs[j]? = some x->ys[j]? = some y->bs[j]? = some b->∀ u v,RelV x u->RelV y v->SeqAt.EqAt A s u v b):
  ∀ j (h1:j < us.toArray.size) (h2:j < vs.toArray.size),SeqAt.EqAt A s us.toArray[j] vs.toArray[j] ((bs[j]?).getD true):=by
 intro j h1 h2
 have e1:=rx.length
 have e2:=ry.length
 have h1':j < us.length:=by simpa using h1
 have h2':j < vs.length:=by simpa using h2
 have g1:xs[j]? = some (xs[j]'(by omega)):=Jab _
 have g2:ys[j]? = some (ys[j]'(by omega)):=Jab _
 have g3:bs[j]? = some (bs[j]'(by omega)):=Jab _
 obtain ⟨u,hu,ru⟩:=rx.get g1
 obtain ⟨v,hv,rv⟩:=ry.get g2
 have eu:us.toArray[j] = u:=by
  rw [Jab h1'] at hu; simpa using hu
 have ev:vs.toArray[j] = v:=by
  rw [Jab h2'] at hv; simpa using hv
 rw [eu,ev,g3]
 exact ih j _ _ _ g1 g2 g3 u v ru rv
theorem EqD.at {n:Nat} {x y:V} {b:Bool} (I:Inv X pins σ H s) (e:EqD X.K H n x y b):∀ {A:Around} {u v:Value},A.units + n < cLine->RelV x u->RelV y v->SeqAt.EqAt A s u v b:=by
 induction e with
 | flat hx hy=>intro A u v _ ru rv; exact Zos ru rv hx hy
 | same=>intro A u v _ ru rv; cases ru; cases rv; exact SeqAt.EqAt.same _
 | @list n a c xs ys bs ne ha hc hl hb he ih=>
  intro A u v hA ru rv
  cases ru
  cases rv
  obtain ⟨its,r1,p1,_⟩:=I.list ha
  obtain ⟨its',r2,p2,_⟩:=I.list hc
  have e1:=r1.length
  have e2:=r2.length
  have q:=SeqAt.RcAt.lists (e:=fun j=>(bs[j]?).getD true) p1.isList p2.isList (by simp; omega) (by omega) (Zev (A:=A.in1) r1 r2 hl hb fun j x y b h1 h2 h3 u v ru rv=>ih j x y b h1 h2 h3 (show A.units + 1 + n < cLine by omega) ru rv)
  rw [show its.toArray.size = bs.length by simp; omega,Zdn] at q
  exact Jea ne q
 | @listL n a c xs ys ne ha hc hl=>
  intro A u v hA ru rv
  cases ru
  cases rv
  obtain ⟨its,r1,p1,_⟩:=I.list ha
  obtain ⟨its',r2,p2,_⟩:=I.list hc
  have e1:=r1.length
  have e2:=r2.length
  exact Jea ne (SeqAt.RcAt.lists_lengths p1.isList p2.isList (by simp; omega) (by omega))
 | @tuple n a c xs ys bs ne ha hc hl hb he ih=>
  intro A u v hA ru rv
  cases ru
  cases rv
  obtain ⟨its,r1,p1,_⟩:=I.tuple ha
  obtain ⟨its',r2,p2,_⟩:=I.tuple hc
  have e1:=r1.length
  have e2:=r2.length
  have q:=SeqAt.RcAt.tuples (e:=fun j=>(bs[j]?).getD true) p1 p2 (by omega) (Zev (A:=A.in1) r1 r2 hl hb fun j x y b h1 h2 h3 u v ru rv=>ih j x y b h1 h2 h3 (show A.units + 1 + n < cLine by omega) ru rv)
  rw [show min its.toArray.size its'.toArray.size = bs.length by simp; omega,Zdn,show (its.toArray.size == its'.toArray.size) = true by simp; omega,Bool.and_true] at q
  exact Jea ne q
def rEqL (K:PySem.W.Frag) (neg:Bool):R2:=fun x y H Q=>∃ a c xs ys,x = .ref a/\y = .ref c/\SqL K H a xs/\SqL K H c ys /\
 ((xs.length ≠ ys.length/\Q (.bl neg) H)\/∃ bs,Zg0 K H 6 xs ys bs/\Q (.bl (if neg then !bs.all id else bs.all id)) H)
def rEqT (K:PySem.W.Frag) (neg:Bool):R2:=fun x y H Q=>∃ a c xs ys bs,x = .ref a/\y = .ref c/\SqT K H a xs/\SqT K H c ys/\Zg0 K H 6 xs ys bs/\Q (.bl (if neg then !bs.all id else bs.all id)) H
theorem Zol (hu:X.A.units + 8 < cLine):OpR X (compareOp .Eq) (rEqL X.K false):=by
 intro pins s σ H x y v u Q I rx ry h
 obtain ⟨a,c,xs,ys,rfl,rfl,ha,hc,h⟩:=h
 cases rx
 cases ry
 obtain ⟨its,r1,p1,_⟩:=I.list ha
 obtain ⟨its',r2,p2,_⟩:=I.list hc
 have e1:=r1.length
 have e2:=r2.length
 rcases h with ⟨hne,q⟩ | ⟨bs,⟨hl,hb,he⟩,q⟩
 ·exact SeqAt.eq_list_lengthsAt p1.isList p2.isList (by simp; omega) (by omega) ⟨.bl false,H,I,rfl,q⟩
 ·refine SeqAt.eq_listAt (e:=fun j=>(bs[j]?).getD true) p1.isList p2.isList (by simp; omega) (by omega) (Zev (A:=X.A.in1) r1 r2 hl hb fun j x y b h1 h2 h3 u v ru rv=>(he j x y b h1 h2 h3).at I (show X.A.units + 1 + 6 < cLine by omega) ru rv) ?_
  rw [show its.toArray.size = bs.length by simp; omega,Zdn]
  exact ⟨.bl (bs.all id),H,I,rfl,q⟩
theorem op_neL (hu:X.A.units + 8 < cLine):OpR X (compareOp .NotEq) (rEqL X.K true):=by
 intro pins s σ H x y v u Q I rx ry h
 obtain ⟨a,c,xs,ys,rfl,rfl,ha,hc,h⟩:=h
 cases rx
 cases ry
 obtain ⟨its,r1,p1,_⟩:=I.list ha
 obtain ⟨its',r2,p2,_⟩:=I.list hc
 have e1:=r1.length
 have e2:=r2.length
 rcases h with ⟨hne,q⟩ | ⟨bs,⟨hl,hb,he⟩,q⟩
 ·exact SeqAt.RcNeAt.lists_lengths p1.isList p2.isList (by simp; omega) (by omega) _ _ _ _ ⟨.bl true,H,I,rfl,q⟩
 ·refine SeqAt.RcNeAt.lists (e:=fun j=>(bs[j]?).getD true) p1.isList p2.isList (by simp; omega) (by omega) (Zev (A:=X.A.in1) r1 r2 hl hb fun j x y b h1 h2 h3 u v ru rv=>(he j x y b h1 h2 h3).at I (show X.A.units + 1 + 6 < cLine by omega) ru rv) _ _ _ _ ?_
  rw [show its.toArray.size = bs.length by simp; omega,Zdn]
  exact ⟨.bl (!bs.all id),H,I,rfl,q⟩
end
theorem Zlt (K:PySem.W.Frag):PySem.W.kitOne K (.type "int") (.type "int") = some true:=by rfl
theorem Zjr (K:PySem.W.Frag):PySem.W.kitOne K (.type "int") (.type "bool") = some false:=by kernel_rfl
theorem Zid (K:PySem.W.Frag):PySem.W.kitOne K (.type "bool") (.type "bool") = some true:=by rfl
theorem Zls (K:PySem.W.Frag):PySem.W.kitOne K (.type "tuple") (.type "tuple") = some true:=by rfl
theorem Zic (K:PySem.W.Frag):PySem.W.kitOne K (.type "list") (.type "list") = some true:=by rfl
structure Cal (P:Program) (w:World) (K:PySem.W.Frag) (mg:Str->Option Value) (base:Heap) (x:Str) (k:Nat) (sp:Sp):Prop where
 ex:∃ (f:Addr) (fd:FuncData) (ps:List Str),FnOk P w K mg base CX0 k f fd ps sp/\mg x = some (.ref f)/\PySem.W.keepIn K (.ref f) = true/\Binds K fd ps []
theorem pe_cal {X:Cx} {x:Str} {k:Nat} {sp:Sp} {e:Expr} {es:List Expr} {t:TA} {p pos:Pos} (C:Cal X.prog X.w X.K X.mg X.base x k sp) (hr:Room k X.A) (hg:Gl X x) (ha:PA X (e :: es) t)
  (hdb:(x == ("__debug__" : Str)) = false:=by decide) (he:starEach (e :: es) X.env = (false,eval e X.env) :: starEach es X.env:=by rfl) (hpl:(backTo pos (starEach es X.env)).any (·.1) = false:=by rfl):
  PE X (.Call (.Name x p) (e :: es) [] pos) (Zj7 sp [] E0 t):=by
 obtain ⟨f,fd,ps,F,hm,hk,hb⟩:=C.ex
 exact pe_call F hr hg hm hk hb .nil pass0 ha hdb he hpl
structure CalM (P:Program) (w:World) (K:PySem.W.Frag) (mg:Str->Option Value) (base:Heap) (C:Addr) (m:Str) (k:Nat) (sp:Sp):Prop where
 ex:∃ (f:Addr) (fd:FuncData) (ps:List Str),FnOk P w K mg base CX0 k f fd ps sp/\Meth K C m f/\Binds K fd ps []
structure CalI (P:Program) (w:World) (K:PySem.W.Frag) (mg:Str->Option Value) (base:Heap) (x:Str) (C:Addr) (k:Nat) (sp:Sp):Prop where
 ex:∃ (f:Addr) (fd:FuncData) (ps:List Str),FnOk P w K mg base CX0 k f fd ps sp/\Mk K C f/\mg x = some (.ref C)/\Binds K fd ps []
theorem pe_new {X:Cx} {x:Str} {C:Addr} {k:Nat} {sp:Sp} {e:Expr} {es:List Expr} {t:TA} {p pos:Pos} (M:CalI X.prog X.w X.K X.mg X.base x C k sp) (hr:Room (k + 1) X.A) (hg:Gl X x) (ha:PA X (e :: es) t)
  (hdb:(x == ("__debug__" : Str)) = false:=by decide) (he:starEach (e :: es) X.env = (false,eval e X.env) :: starEach es X.env:=by rfl) (hpl:(backTo pos (starEach es X.env)).any (·.1) = false:=by rfl):
  PE X (.Call (.Name x p) (e :: es) [] pos) (Zmw C sp [] E0 t):=by
 obtain ⟨f,fd,ps,F,hm,hk,hb⟩:=M.ex
 exact pe_make hm F hr hg hk hb .nil pass0 ha hdb he hpl
def blOk (outer:List (Str × NameKind)) (N:List Str) (scope:Scope) (fr:List (Str × Nat)):Bool:=
 scope.kind == .function && scope.names.all (fun y=>y.2 != .free || outer.lookup y.1 == some .cell || outer.lookup y.1 == some .free) && scope.names.all (fun y=>scope.names.lookup y.1 == some y.2) &&
 fr.all fun y=>scope.names.lookup y.1 == some .free && N[y.2]? == some y.1
theorem Zcn {X:Cx} {scope:Scope} {own:List Str} {fr:List (Str × Nat)} (h:blOk X.env.scope.names X.N scope fr = true):BlScope X scope own fr:=by
 unfold blOk at h
 simp only [Jb3,Jci] at h
 obtain ⟨⟨⟨h1,h2⟩,h3⟩,h4⟩:=h
 refine ⟨?_,fun y hy hf=>?_,fun y hy hl=>?_,fun y hy=>?_,fun y hy=>?_⟩
 ·cases e:scope.kind <;> rw [e] at h1 <;> first | rfl | (exact absurd h1 (by decide))
 ·have:=h2 y hy
  rw [hf] at this
  simp only [Jd2,Jbh] at this
  rcases this with (q | q) | q
  ·exact absurd q (by decide)
  ·exact .inl q
  ·exact .inr q
 ·have:=h3 y hy
  rw [hl] at this
  exact Jbh.mp this
 ·exact Jbh.mp (h3 y hy)
 ·have:=h4 y hy
  exact ⟨Jbh.mp this.1,Jbh.mp this.2⟩
def Sh (k:Nat) (cap σ:St):Prop:=∃ o,o.length = k/\σ = o ++ cap
theorem Sh.mk1 {cap:St} {a:Option V}:Sh 1 cap (a :: cap):=⟨[a],rfl,rfl⟩
theorem Sh.mk2 {cap:St} {a b:Option V}:Sh 2 cap (a :: b :: cap):=⟨[a,b],rfl,rfl⟩
theorem Sh.one {cap σ:St} (h:Sh 1 cap σ):∃ a,σ = a :: cap:=by
 obtain ⟨o,h1,rfl⟩:=h
 match o,h1 with
 | [a],_=>exact ⟨a,rfl⟩
theorem Sh.two {cap σ:St} (h:Sh 2 cap σ):∃ a b,σ = a :: b :: cap:=by
 obtain ⟨o,h1,rfl⟩:=h
 match o,h1 with
 | [a,b],_=>exact ⟨a,b,rfl⟩
def Zb3 (fr:List (Str × Nat)) (σ:St):St:=fr.map fun y=>(σ[y.2]?).getD none
def Wv (n k:Nat) (cap:St) (Pv:Nat->List V->Hp->Prop):Nat->Nat->St->Hp->Prop:=fun i m σ H=>m = n - i/\i<=n/\Sh k cap σ/\∃ vs,Pv i vs H
def Lf (D:Addr) (n k:Nat) (cap:St) (Pv:Nat->List V->Hp->Prop) (i:Nat) (σ4:St) (y:V) (H6:Hp):Prop:=
 ∃ vs,H6 D = some (.lst vs)/\vs.length < sizeLine/\∃ m',m' < n - i/\Wv n k cap Pv (i + 1) m' σ4 (upd H6 D (.lst (vs ++ [y])))
def Lf0 (n k:Nat) (cap:St) (Pv:Nat->List V->Hp->Prop) (i:Nat) (σ4:St) (H5:Hp):Prop:=∃ m',m' < n - i/\Wv n k cap Pv (i + 1) m' σ4 H5
theorem leaf {D:Addr} {n k:Nat} {cap:St} {Pv:Nat->List V->Hp->Prop} {i:Nat} {σ4:St} {y:V} {H6:Hp} {vs ws:List V} (hi:i < n) (sh:Sh k cap σ4) (hD:H6 D = some (.lst vs)) (hl:vs.length < sizeLine)
  (p:Pv (i + 1) ws (upd H6 D (.lst (vs ++ [y])))):Lf D n k cap Pv i σ4 y H6:=⟨vs,hD,hl,n - (i + 1),by omega,rfl,hi,sh,ws,p⟩
theorem Zll {n k:Nat} {cap:St} {Pv:Nat->List V->Hp->Prop} {i:Nat} {σ4:St} {H5:Hp} {ws:List V} (hi:i < n) (sh:Sh k cap σ4) (p:Pv (i + 1) ws H5):Lf0 n k cap Pv i σ4 H5:=⟨n - (i + 1),by omega,rfl,hi,sh,ws,p⟩
def Zdq (g:TG) (tt:TT) (te:TE) (D:Addr) (n k:Nat) (cap:St) (Pv:Nat->List V->Hp->Prop) (i:Nat) (x:V) (σ':St) (H:Hp):Prop:=
 g x σ' H fun σ4 H4=>tt σ4 H4 fun b H5=>if b = true then te σ4 H5 fun y H6=>Lf D n k cap Pv i σ4 y H6 else Lf0 n k cap Pv i σ4 H5
section
variable {K:PySem.W.Frag} {a D:Addr} {xs:List V} {g:TG} {tt:TT} {te:TE} {k:Nat} {fr:List (Str × Nat)} {σ:St} {H1:Hp} {Q:VK}
theorem sh0:Sh k (Zb3 fr σ) (Zd9 k fr σ):=⟨List.replicate k none,Jbj,rfl⟩
theorem Zey {J:It} {n:Nat} (it:Nat->V->Prop) (Pv:Nat->List V->Hp->Prop) (h0:Pv 0 [] (upd H1 D (.lst [])))
  (go:∀ i vs H,i < n->Pv i vs H->J.go i H/\∀ x H',J.yld i H x H'->H' = H/\it i x) (stop:∀ vs H,Pv n vs H->J.stop n H)
  (hs:∀ i x vs σ' H,i < n->it i x->Sh k (Zb3 fr σ) σ'->Pv i vs H->Zdq g tt te D n k (Zb3 fr σ) Pv i x σ' H) (hd:∀ vs H,Pv n vs H->Q (.ref D) H):Zb5 g tt te J D (Zd9 k fr σ) H1 Q:=by
 refine ⟨Wv n k (Zb3 fr σ) Pv,⟨n,by simp,Jb1 _,sh0,[],h0⟩,?_⟩
 rintro i m σ' H2 ⟨rfl,hi,sh,vs,p⟩
 by_cases hlt:i < n
 ·obtain ⟨g1,g2⟩:=go i vs H2 hlt p
  refine .inr ⟨g1,fun x H3 y=>?_⟩
  obtain ⟨rfl,hx⟩:=g2 x H3 y
  exact hs i x vs σ' _ hlt hx sh p
 ·have e:i = n:=by omega
  subst e
  exact .inl ⟨stop vs H2 p,hd vs H2 p⟩
theorem Zca (Pv:Nat->List V->Hp->Prop) (h0:Pv 0 [] (upd H1 D (.lst []))) (hl:∀ i vs H,i<=xs.length->Pv i vs H->SqL K H a xs)
  (hs:∀ i x vs σ' H,i < xs.length->xs[i]? = some x->Sh k (Zb3 fr σ) σ'->Pv i vs H->Zdq g tt te D xs.length k (Zb3 fr σ) Pv i x σ' H) (hd:∀ vs H,Pv xs.length vs H->Q (.ref D) H):Zb5 g tt te (Itl K a) D (Zd9 k fr σ) H1 Q:=
 Zey (fun i x=>xs[i]? = some x) Pv h0 (fun i vs H hi p=>⟨⟨xs,xs[i],hl i vs H (Jbo hi) p,by simp [hi]⟩,fun x H' y=>⟨y.1,y.2 xs (hl i vs H (Jbo hi) p)⟩⟩)
  (fun vs H p=>⟨xs,hl _ vs H (Jae _) p,Jae _⟩) hs hd
theorem Zn6 (Pv:Nat->List V->Hp->Prop) (h0:Pv 0 [] (upd H1 D (.lst []))) (hl:∀ i vs H,i<=xs.length->Pv i vs H->SqT K H a xs)
  (hs:∀ i x vs σ' H,i < xs.length->xs[i]? = some x->Sh k (Zb3 fr σ) σ'->Pv i vs H->Zdq g tt te D xs.length k (Zb3 fr σ) Pv i x σ' H) (hd:∀ vs H,Pv xs.length vs H->Q (.ref D) H):Zb5 g tt te (Itt K a) D (Zd9 k fr σ) H1 Q:=
 Zey (fun i x=>xs[i]? = some x) Pv h0 (fun i vs H hi p=>⟨⟨xs,xs[i],hl i vs H (Jbo hi) p,by simp [hi]⟩,fun x H' y=>⟨y.1,y.2 xs (hl i vs H (Jbo hi) p)⟩⟩)
  (fun vs H p=>⟨xs,hl _ vs H (Jae _) p,Jae _⟩) hs hd
theorem Zn7 {lo:Int} {n:Nat} (Pv:Nat->List V->Hp->Prop) (h0:Pv 0 [] (upd H1 D (.lst [])))
  (hs:∀ i x vs σ' H,i < n->x = .int (lo + i)->Sh k (Zb3 fr σ) σ'->Pv i vs H->Zdq g tt te D n k (Zb3 fr σ) Pv i x σ' H) (hd:∀ vs H,Pv n vs H->Q (.ref D) H):Zb5 g tt te (Itr lo n) D (Zd9 k fr σ) H1 Q:=
 Zey (fun i x=>x = .int (lo + i)) Pv h0 (fun i vs H hi p=>⟨hi,fun x H' y=>y⟩) (fun vs H p=>Jae _) hs hd
end
def Ext (l:Addr) (H H':Hp):Prop:=∀ b o,b ≠ l->H b = some o->H' b = some o
theorem Ext.refl (l:Addr) (H:Hp):Ext l H H:=fun _ _ _ e=>e
theorem Ext.trans {l:Addr} {H H1 H2:Hp} (a:Ext l H H1) (b:Ext l H1 H2):Ext l H H2:=fun c o n e=>b c o n (a c o n e)
theorem Ext.new {l p:Addr} {H:Hp} {o:HO} (h:H p = none):Ext l H (upd H p o):=fun c u _ e=>by rw [Zaf (Zae e h)]; exact e
theorem Ext.set {l:Addr} {H:Hp} {o:HO}:Ext l H (upd H l o):=fun c u n e=>by rw [Zaf n]; exact e
theorem Same.ext {l:Addr} {H H':Hp} (s:Same H H'):Ext l H H':=fun c o _ e=>s c o e
theorem Same.new {p:Addr} {H:Hp} {o:HO} (h:H p = none):Same H (upd H p o):=fun c u e=>by rw [Zaf (Zae e h)]; exact e
theorem Same.upd {p:Addr} {H H':Hp} {o:HO} (s:Same H H') (h:H p = none):Same H (upd H' p o):=fun c u e=>by rw [Zaf (Zae e h)]; exact s c u e
theorem Ext.upd {l p:Addr} {H H':Hp} {o:HO} (s:Ext l H H') (h:H p = none):Ext l H (upd H' p o):=fun c u n e=>by rw [Zaf (Zae e h)]; exact s c u n e
theorem Ext.free {l p:Addr} {H H':Hp} (s:Ext l H H') (n:p ≠ l) (h:H' p = none):H p = none:=by
 cases e:H p with
 | none=>rfl
 | some o=>rw [s p o n e] at h; cases h
theorem cx_K {CX:CXT} {P:Program} {w:World} {K:PySem.W.Frag} {mg:Str->Option Value} {base:Heap} {N:List Str} {qual:Str} {scope:Scope} {f:Addr} {cd:Value} {A:Around} {outer:List Env} {s:Shared} {H:Hp} {E:XK}:(Zox CX P w K mg base N qual scope f cd A outer s H E).K = K:=rfl
theorem in_K {X:Cx} {N:List Str} {scope:Scope} {cl:List (Str × Addr)} {s:Shared} {H:Hp} {fp:List Addr}:(Zbw X N scope cl s H fp).K = X.K:=rfl
theorem wish_K {X:Cx} {E:Value->Shared->Prop}:(X.wish E).K = X.K:=rfl
theorem Ziy {X:Cx} {x:Str} {i:Int} {pos:Pos} (hg:Gl X x) (hm:∃ t,X.mg x = some (.int i t)) (hd:(x == ("__debug__" : Str)) = false:=by decide):PE X (.Name x pos) (tC (.int i)):=by
 obtain ⟨t,e⟩:=hm
 exact pe_glob hg e ⟨t,rfl⟩ hd
theorem Zbx {α:Type} {xs:List α} {i:Int} {v:α} (h0:0<=i) (h:xs[i.toNat]? = some v):atI xs i = some v:=by
 have e:((i.toNat:Nat):Int) = i:=Jb4 h0
 rw [<- e]
 exact atI_nat h
def Zbv:Expr->Bool
 | .Starred _ _=>true
 | _=>false
theorem Za0 {e:Expr} {es:List Expr} {env:Env} (h:Zbv e = false):starEach (e :: es) env = (false,eval e env) :: starEach es env:=by
 cases e <;> first | rfl | cases h
theorem Zd0 {pos:Pos} {env:Env}:∀ {es:List Expr},es.all (fun x=>!Zbv x) = true->(backTo pos (starEach es env)).any (·.1) = false
 | [],_=>rfl
 | e :: es,h=>by
  rw [Jej,Jb3] at h
  have h1:Zbv e = false:=by simpa using h.1
  rw [Za0 h1]
  show ((false,_).1 || (backTo pos (starEach es env)).any (·.1)) = false
  rw [Zd0 h.2]
  rfl
section
variable {X:Cx} {x:Str} {p pos:Pos} {e:Expr} {es:List Expr} {te:TE} {t:TA} {id T:String} {r:List V->Hp->VK->Prop}
theorem pa_c (ha:PE X e te) (hr:PA X es t) (h:Zbv e = false:=by rfl):PA X (e :: es) (Zea te t):=pa_cons ha hr (Za0 h)
theorem Zb6 (hc:Zd8 X (.builtin id) r) (hg:Gl X x) (hm:X.mg x = none) (hv:bootBuiltins x = some (.builtin id)) (ha:PA X (e :: es) t) (h:Zbv e = false:=by rfl) (h2:es.all (fun x=>!Zbv x) = true:=by rfl)
  (hn:x ≠ "__name__" := by decide) (hdb:(x == ("__debug__" : Str)) = false:=by decide):PE X (.Call (.Name x p) (e :: es) [] pos) (tCB r t):=Znd hc hg hm hv ha hn hdb (Za0 h) (Zd0 h2)
theorem Zgn (hc:Zd8 X (.type T) r) (hg:Gl X x) (hm:X.mg x = none) (hv:bootBuiltins x = some (.type T)) (ha:PA X (e :: es) t) (h:Zbv e = false:=by rfl) (h2:es.all (fun x=>!Zbv x) = true:=by rfl)
  (hn:x ≠ "__name__" := by decide) (hdb:(x == ("__debug__" : Str)) = false:=by decide):PE X (.Call (.Name x p) (e :: es) [] pos) (tCB r t):=Zk5 hc hg hm hv ha hn hdb (Za0 h) (Zd0 h2)
theorem Zb2 {k:Nat} {sp:Sp} (C:Cal X.prog X.w X.K X.mg X.base x k sp) (hr:Room k X.A) (hg:Gl X x) (ha:PA X (e :: es) t) (h:Zbv e = false:=by rfl) (h2:es.all (fun x=>!Zbv x) = true:=by rfl)
  (hdb:(x == ("__debug__" : Str)) = false:=by decide):PE X (.Call (.Name x p) (e :: es) [] pos) (Zj7 sp [] E0 t):=pe_cal C hr hg ha hdb (Za0 h) (Zd0 h2)
theorem pe_n {C:Addr} {k:Nat} {sp:Sp} (M:CalI X.prog X.w X.K X.mg X.base x C k sp) (hr:Room (k + 1) X.A) (hg:Gl X x) (ha:PA X (e :: es) t) (h:Zbv e = false:=by rfl) (h2:es.all (fun x=>!Zbv x) = true:=by rfl)
  (hdb:(x == ("__debug__" : Str)) = false:=by decide):PE X (.Call (.Name x p) (e :: es) [] pos) (Zmw C sp [] E0 t):=pe_new M hr hg ha hdb (Za0 h) (Zd0 h2)
theorem Zfc {tg a:Expr} {ta:TA} (hg:Gl X "range") (hm:X.mg "range" = none) (ha:PA X [a] ta) (h:Zbv a = false:=by rfl):PI X tg (.Call (.Name "range" p) [a] [] pos) (Zl0 ta):=Zky hg hm ha (Za0 h)
theorem Zjk {tg a b:Expr} {ta:TA} (hg:Gl X "range") (hm:X.mg "range" = none) (ha:PA X [a,b] ta) (h:Zbv a = false:=by rfl) (h2:Zbv b = false:=by rfl):PI X tg (.Call (.Name "range" p) [a,b] [] pos) (iRng2 ta):=
 Zkx hg hm ha (by rw [Za0 h,Za0 h2]; rfl) (Za0 h2)
end
theorem scal_ii {i j:Int}:scal (.int i) (.int j) = true:=rfl
theorem scal_bb {i j:Bool}:scal (.bl i) (.bl j) = true:=rfl
theorem scal_ss {i j:Str}:scal (.str i) (.str j) = true:=rfl
theorem Zk2 {X:Cx} {x:Str} {n:String} {pos:Pos} (hg:Gl X x) (hm:X.mg x = none) (hv:bootBuiltins x = some (.type n)) (hn:x ≠ "__name__" := by decide) (hd:(x == ("__debug__" : Str)) = false:=by decide):PE X (.Name x pos) (tC (.ty n)):=pe_bltn (v:=.ty n) hg hm hv rfl hn hd
section
variable {X:Cx} (K:PySem.W.Frag) (hK:X.K = K)
include hK
theorem Zkz {pos:Pos} {es:List Expr} {k:Nat} {t:TGs} {n:Nat} (hc:X.calm = true) (h:PGs X es t) (hn:(assignEach es X.env).length = n) (hst:(assignEach es X.env).findIdx? (·.1) = none):PG X (.Tuple es k pos) (gTup K n t):=by subst hK; exact Zf0 hc h hn hst
theorem Zgx:Zd8 X (.builtin "len") (fun xs H Q=>∃ p ys,xs = [.ref p]/\(SqL K H p ys\/SqT K H p ys)/\Q (.int ys.length) H):=by subst hK; exact Zao
theorem Zi4:IxR X (rIxL K):=by subst hK; exact Zav
theorem ix_tupK:IxR X (rIxT K):=by subst hK; exact Zoo
theorem pe_fldK {e:Expr} {f:Str} {pos:Pos} {ta:TE} (he:PE X e ta) (hb:attributeBase e f X.env (eval e X.env) = eval e X.env):PE X (.Attribute e f pos) (tFld K ta f):=by subst hK; exact Zdb he hb
theorem Zix {tg l:Expr} {tl:TE} (hl:PE X l tl):PI X tg l (iList K tl):=by subst hK; exact Zbe hl
theorem pi_tupK {tg l:Expr} {tl:TE} (hl:PE X l tl):PI X tg l (iTup K tl):=by subst hK; exact Zoi hl
theorem Zjl:OpR X (compareOp .In) (rIn K false):=by subst hK; exact Zhd
theorem Zgo:OpR X (compareOp .NotIn) (rIn K true):=by subst hK; exact Zhc
end
end L2
set_option maxHeartbeats 1000000
namespace HT
open PySem PySem.Spec PyProof.Rows
section
variable {prog:Program} {w:World} {A:Around} {E:Value->Shared->Prop} {s:Shared}
end
end HT
namespace L2
open PySem PySem.Spec PyProof.Rows
section
variable {X:Cx} {e es:Expr} {te ts:TE} {pos p2:Pos}
end
end L2
namespace L2
open PySem PySem.Spec PyProof.Rows
section
variable {X:Cx}
def rGetL (K:PySem.W.Frag):V->V->Hp->VK->Prop:=fun x y H Q=>∃ p xs i v,x = .ref p/\y = .int i/\0<=i/\SqL K H p xs/\xs[i.toNat]? = some v/\Q v H
end
def Big (x:Int):Prop:=-(100000000000000000000000000000000) < x/\x < 100000000000000000000000000000000
theorem Big.mul {x y:Int} (hx:Big x) (hy:Big y):IntMulOk x y:=by
 have e:(2:Nat) ^ 200 > 100000000000000000000000000000000:=by decide +kernel
 have b:∀ {z:Int},Big z->Builtin.Int.intBits z<=2 ^ 20:=fun {z} h=>by
  have hz:z.natAbs < 2 ^ 200:=by have:=h.1; have:=h.2; omega
  unfold Builtin.Int.intBits
  split
  ·exact Jb1 _
  ·rename_i h0
   have:z.natAbs.log2 < 200:=(Nat.log2_lt (by intro c; apply h0; simpa using c)).mpr hz
   have e2:(2:Nat) ^ 20 = 1048576:=by decide
   rw [e2]
   omega
 exact .of_bits (b hx) (b hy)
def atZ (ns:List Int) (i:Int):Int:=ns.getD i.toNat 0
theorem Zdl {ns:List Int} {i:Int} (h:i.toNat < ns.length):(ns.map V.int)[i.toNat]? = some (.int (atZ ns i)):=by
 rw [Ja6,Jab h]
 simp [atZ,h]
theorem Zin {ns:List Int} {i:Int} (h:i.toNat < ns.length):atZ ns i ∈ ns:=by
 unfold atZ
 rw [Jbc,Jab h]
 exact Jb0 h
theorem atZ_set {ns:List Int} {k i v:Int} (h:k.toNat < ns.length) (h0:0<=k) (hi:0<=i):atZ (ns.set k.toNat v) i = if i = k then v else atZ ns i:=by
 unfold atZ
 rw [Jbc,List.getElem?_set]
 by_cases e:i = k
 ·subst e
  simp [h]
 ·rw [if_neg e,if_neg (by omega),Jbc]
def arrZ (a b:List Int):List (Int × Int)->Int
 | []=>0
 | q :: ps=>arrZ a b ps + atZ a q.1 * atZ b q.2
def Zgz (a b:List Int) (ps:List (Int × Int)):Int:=arrZ a b ps.reverse
theorem Zf8 (a b:List Int) (ps:List (Int × Int)) (q:Int × Int):Zgz a b (ps ++ [q]) = Zgz a b ps + atZ a q.1 * atZ b q.2:=by
 unfold Zgz
 rw [List.reverse_append]
 rfl
def Zn2 (a b:List Int):Nat->Int
 | 0=>0
 | n + 1=>Zn2 a b n + atZ a n * atZ b n
def Zdc (ps:List (Int × Int)) (a b:List Int):Int:=Zn2 a b a.length - Zgz a b ps
def Med (x:Int):Prop:=-(1000000000000000000000000000000)<=x/\x<=1000000000000000000000000000000
theorem Med.big {x:Int} (h:Med x):Big x:=by unfold Med at h; unfold Big; omega
theorem Zdm {ns:List Int} (h:∀ n ∈ ns,Big n) {i:Int} (hi:i.toNat < ns.length):Big (atZ ns i):=h _ (Zin hi)
end L2
namespace L2
open PySem PySem.Spec PyProof.Rows
section
variable {X:Cx} {pins:List (Addr × Obj)} {σ:St} {H:Hp} {s:Shared} {h':Heap}
theorem Inv.turnedL {t':Nat} {fp:List Addr} (I:Inv X pins σ H s) (hf:∀ b ∈ fp,FpOk X pins H b) (k:∀ b o,b ∉ fp->s.heap.get? b = some o->h'.get? b = some o):Inv X pins σ H { s with heap:=h',toks:=t' }:=by
 have nit:∀ b u,H b = some u->b ∉ fp:=fun b u e z=>by rw [(hf b z).1] at e; cases e
 refine I.step (g':=s.gens) (d':=s.drawn) (ch:=fp) (fun b hb=>?_) (fun b o _ _ hc e _=>k b o hc e) (fun b o _ _ hc e _=>⟨o.slots,k b o hc e⟩) (fun _ _ _ _ n=>n)
  (fun b o hc e=>⟨o,k b o hc e⟩) (fun _ _ e=>e) (fun _ _ _ e=>e) (fun b ps e=>⟨#[],by rw [e]; simp⟩) (fun m hm=>?_) (fun b u e=>?_) I.bare
 ·obtain ⟨f0,f1,f2,f3,f4,f5⟩:=hf b hb
  exact ⟨f3,f1,f4,f5⟩
 ·obtain ⟨o,es,ep,ho,r⟩:=hm
  exact ⟨o,es,ep,k _ o (fun z=>(hf _ z).2.1 rfl) ho,r⟩
 ·refine (I.hok b u e).stay (fun c v hc q=>k c v ?_ q) (fun _ q=>q) (fun _ _ q=>q) fun _ _ _ q=>q
  rcases hc with z | z
  ·rw [z]; exact nit b u e
  ·exact nit c _ z
theorem Inv.turnedT {t':Nat} {fp:List Addr} {p:Addr} {o:HO} (I:Inv X pins σ H s) (hf:∀ b ∈ fp,FpOk X pins H b) (k:∀ b o,b ∉ fp->s.heap.get? b = some o->h'.get? b = some o) (hp:s.heap.objs.size<=p)
  (new:ObjOk X.prog X.w (upd H p o) h' p o):Inv X pins σ (upd H p o) { s with heap:=h',toks:=t' }:=by
 have hn:H p = none:=I.hok.fresh hp
 have nit:∀ b u,H b = some u->b ∉ fp:=fun b u e z=>by rw [(hf b z).1] at e; cases e
 have npp:∀ b u,s.heap.get? b = some u->b ≠ p:=fun b u e=>Jay (Jax (Jaf e) hp)
 refine I.step (g':=s.gens) (d':=s.drawn) (ch:=fp) (fun b hb=>?_) (fun b o _ _ hc e _=>k b o hc e) (fun b o _ _ hc e _=>⟨o.slots,k b o hc e⟩) (fun b o _ e n=>by rw [Zaf (npp b o e)]; exact n)
  (fun b o hc e=>⟨o,k b o hc e⟩) (fun b xs e=>by rw [Zaf (Zae e hn)]; exact e) (fun b u xs e=>by rw [Zaf (Zae e hn)]; exact e) (fun b ps e=>⟨#[],by rw [Zaf (Zae e hn),e]; simp⟩) (fun m hm=>?_) (fun b u e=>?_) I.bare
 ·obtain ⟨f0,f1,f2,f3,f4,f5⟩:=hf b hb
  exact ⟨f3,f1,f4,f5⟩
 ·obtain ⟨o,es,ep,ho,r⟩:=hm
  exact ⟨o,es,ep,k _ o (fun z=>(hf _ z).2.1 rfl) ho,r⟩
 ·by_cases hb:b = p
  ·subst hb; rw [Zac] at e; cases e; exact new
  ·rw [Zaf hb] at e
   refine (I.hok b u e).stay (fun c v hc q=>k c v ?_ q) (fun c q=>by rw [Zaf (Zae q hn)]; exact q) (fun c xs q=>by rw [Zaf (Zae q hn)]; exact q) fun c _ _ q=>by rw [Zaf (Zae q hn)]; exact q
   rcases hc with z | z
   ·rw [z]; exact nit b u e
   ·exact nit c _ z
end
def Itz (K:PySem.W.Frag) (a b:Addr):It:=
 ⟨fun i H=>∃ xs ys x y,SqL K H a xs/\SqL K H b ys/\xs[i]? = some x/\ys[i]? = some y,fun i H v H'=>∃ x y p,v = .ref p/\H p = none/\H' = upd H p (.tup [x,y])/\(∀ xs,SqL K H a xs->xs[i]? = some x)/\∀ ys,SqL K H b ys->ys[i]? = some y,fun i H=>∃ xs ys,SqL K H a xs/\SqL K H b ys/\(xs.length<=i\/ys.length<=i)⟩
theorem Zmv {P:Program} {w:World} {K:PySem.W.Frag} {elts:List Expr} {x1:Nat} {pos:Pos} {z TI TO i1 i2 a b:Addr} (D:ZipApart z TI TO i1 i2 a b):
  Turn P w K (.Tuple elts x1 pos) (Itz K a b) [z,TI,TO,i1,i2] z (fun i h=>IsZip h z TI TO .none/\IsPair h TI (.ref i1) (.ref i2)/\(∃ u v,IsPair h TO u v)/\h.IsListIter i1 a i/\h.IsListIter i2 b i) where
 mem:=by simp
 obj:=fun i h st c hc=>by
  obtain ⟨hz,hTI,⟨u,v,hTO⟩,⟨o1,e1,c1,d1⟩,⟨o2,e2,c2,d2⟩⟩:=st
  simp at hc
  rcases hc with rfl | rfl | rfl | rfl | rfl
  ·exact ⟨_,hz,fun v z=>by have z':Data.fields _ = Data.cell v:=z; cases z'⟩
  ·exact ⟨_,hTI,fun v z=>by have z':Data.seq _ _ = Data.cell v:=z; cases z'⟩
  ·exact ⟨_,hTO,fun v z=>by have z':Data.seq _ _ = Data.cell v:=z; cases z'⟩
  ·exact ⟨o1,e1,fun v z=>by rw [d1] at z; cases z⟩
  ·exact ⟨o2,e2,fun v z=>by rw [d2] at z; cases z⟩
 keep:=fun i h h' st k=>by
  obtain ⟨hz,hTI,⟨u,v,hTO⟩,h1,h2⟩:=st
  exact ⟨k z (by simp) _ hz,k TI (by simp) _ hTI,⟨u,v,k TO (by simp) _ hTO⟩,h1.at fun o e=>k i1 (by simp) o e,h2.at fun o e=>k i2 (by simp) o e⟩
 item:=by
  intro X hP hw hK hc i pins s σ H E I hf st hg
  subst hP hw hK
  obtain ⟨xs,ys,x,y,hqa,hqb,hx,hy⟩:=hg
  obtain ⟨its,rv,p,hz1⟩:=I.list hqa
  obtain ⟨its2,rv2,p2,hz2⟩:=I.list hqb
  obtain ⟨u,hu,ru⟩:=rv.get hx
  obtain ⟨u2,hu2,ru2⟩:=rv2.get hy
  obtain ⟨hz,hTI,⟨c,d,hTO⟩,h1,h2⟩:=st
  refine wpAny_pyNext_zip_item D hz hTI hTO h1 h2 p.isList p2.isList (by simpa using hu) (by simpa using hu2) fun h' a1 a2 a3 a4 a5 a6 a7=>?_
  refine ⟨_,rfl,wpAny_letOwnedTupleGo_zip a1 fun h'' b1 b2=>?_⟩
  have nz:s.heap.objs.size ≠ z:=Jdl (Jaf hz)
  have k2:∀ c o,c ∉ [z,TI,TO,i1,i2]->s.heap.get? c = some o->h''.get? c = some o:=fun c o hc e=>by
   simp at hc
   exact b2.extBut _ _ hc.1 (a7 c o hc.1 hc.2.2.1 hc.2.2.2.1 hc.2.2.2.2 e)
  have I2:Inv X pins σ (upd H s.heap.objs.size (.tup [x,y])) { s with heap:=h'' }:=I.turnedT (t':=s.toks) hf k2 (Jae _)
   ⟨by show 2<=sizeLine; decide,[u,u2],.cons ru (.cons ru2 .nil),_,b2.extBut _ _ nz a5,rfl,_,rfl⟩
  refine ⟨.ref s.heap.objs.size,_,I2,rfl,⟨x,y,_,rfl,I.hok.fresh (Jae _),rfl,fun xs' hq=>by rw [I.list_inj hq hqa]; exact hx,fun ys' hq=>by rw [I.list_inj hq hqb]; exact hy⟩,
   ⟨b1,b2.extBut _ _ D.TIz (a7 _ _ D.TIz D.TITO D.TIi1 D.TIi2 hTI),⟨_,_,b2.extBut _ _ D.TOz a2⟩,a3.extBut b2.extBut D.i1z,a4.extBut b2.extBut D.i2z⟩,fun c hc=>?_⟩
  have hlt:∀ c ∈ [z,TI,TO,i1,i2],c < s.heap.objs.size:=fun c hc=>by
   simp at hc
   obtain ⟨o1,e1,_⟩:=h1
   obtain ⟨o2,e2,_⟩:=h2
   rcases hc with rfl | rfl | rfl | rfl | rfl
   ·exact Jaf hz
   ·exact Jaf hTI
   ·exact Jaf hTO
   ·exact Jaf e1
   ·exact Jaf e2
  rw [Zaf (Jay (hlt c hc))]
  exact (hf c hc).1
 done:=by
  intro X hP hw hK hc i pins s σ H E I hf st hg
  subst hP hw hK
  obtain ⟨xs,ys,hqa,hqb,hx⟩:=hg
  obtain ⟨its,rv,p,hz1⟩:=I.list hqa
  obtain ⟨its2,rv2,p2,hz2⟩:=I.list hqb
  obtain ⟨hz,hTI,⟨c,d,hTO⟩,h1,h2⟩:=st
  have l1:=rv.length
  have l2:=rv2.length
  refine wpAny_pyNext_zip_end (I.ok.hd hc) D hz hTI hTO h1 h2 p.isList p2.isList ?_ fun h' kk=>⟨rfl,I.turnedL (t':=s.toks) hf fun c o hc e=>?_⟩
  ·rcases hx with hx | hx
   ·exact .inl (by simp; omega)
   ·exact .inr (by simp; omega)
  ·simp at hc
   exact kk c o hc.1 hc.2.2.1 hc.2.2.2.1 hc.2.2.2.2 e
 self:=fun _ _ _ _ _ st h=>wpAny_pyIter_zip st.1 h
section
variable {X:Cx}
def iZip (K:PySem.W.Frag) (ta:TA):TI:=fun σ H R=>ta σ H fun vs H1=>∃ a b,vs = [.ref a,.ref b]/\(∃ xs,SqL K H1 a xs)/\(∃ ys,SqL K H1 b ys)/\R (Itz K a b) H1
theorem pi_zip {elts:List Expr} {x1:Nat} {pt p pos:Pos} {a b:Expr} {ta:TA} (hg:Gl X "zip") (hm:X.mg "zip" = none) (ha:PA X [a,b] ta) (h:Zbv a = false:=by rfl) (h2:Zbv b = false:=by rfl):
  PI X (.Tuple elts x1 pt) (.Call (.Name "zip" p) [a,b] [] pos) (iZip X.K ta):=by
 intro pins s σ H R I hh
 refine Call_ (Zfh I hg hm boot_zip (Jcf (thn (ha pos pins s σ H _ I hh) fun us s1 ⟨vs,H1,I1,r1,q1⟩=>?_) (by rw [Za0 h,Za0 h2]) (by rw [Za0 h2]; rfl)))
 obtain ⟨c,d,e,⟨xs,hq1⟩,⟨ys,hq2⟩,q⟩:=q1
 subst e
 cases r1 with
 | cons r rr=>
  cases rr with
  | cons r' rr=>
   cases rr
   cases r
   cases r'
   obtain ⟨its,rv,p1,hz1⟩:=I1.list hq1
   obtain ⟨its2,rv2,p2,hz2⟩:=I1.list hq2
   have lt1:c < s1.heap.objs.size:=by obtain ⟨o,ho,_⟩:=p1.isList; exact Jaf ho
   have lt2:d < s1.heap.objs.size:=by obtain ⟨o,ho,_⟩:=p2.isList; exact Jaf ho
   refine call_zip_2 p1.isList p2.isList fun h' a1 a2 a3 a4 a5 a6 a7=>wpAny_pyIter_zip (s:={ s1 with heap:=h' }) a1 ?_
   refine ⟨_,_,_,_,H1,rfl,I1.kept (t':=s1.toks) a7,Zmv (zipApart_new lt1 lt2),⟨a1,a2,⟨_,_,a3⟩,a4,a5⟩,fun b hb=>?_,q⟩
   have hb':s1.heap.objs.size<=b:=by
    simp at hb
    rcases hb with rfl | rfl | rfl | rfl | rfl
    ·exact Jdq _ _
    ·exact Jdq _ _
    ·exact Jdq _ _
    ·exact Jae _
    ·exact Jdq _ _
   have:=(I1.fpOk (H':=H1) hb' (I1.hok.fresh hb'))
   exact this
theorem Zi9 (hc:X.calm = true):Zd8 X (.builtin "sum") (fun xs H Q=>∃ (p:Addr) (ns:List Int),xs = [.ref p]/\SqL X.K H p (ns.map V.int)/\Q (.int (preSum (fun i=>ns.getD i 0) ns.length)) H):=by
 intro pins s σ H xs us Q I r h
 obtain ⟨p,ns,rfl,hq,q⟩:=h
 obtain ⟨u,rfl,rx⟩:=Zhx r
 cases rx
 obtain ⟨its,rv,pl,hz⟩:=I.list hq
 have hl:=rv.length
 rw [Jaa] at hl
 refine call_sum_walkG (Jc0 pl.isList ?_)
 have hne:p ≠ s.heap.objs.size:=fun e=>by
  obtain ⟨o,n,ho,_⟩:=pl
  exact absurd (Jaf ho) (by rw [e]; exact Jbp _)
 refine ⟨s.heap.objs.size,_,_,_,_,_,fun i=>ns.getD i 0,rfl,Walks.list (A:=X.A.in1) (I.ok.hd hc) _ p hne its.toArray,⟨⟨_,Jas _ rfl,rfl,rfl⟩,pl.isList.at fun o e=>Jad _ e⟩,?_,?_,fun h' tk t' kp=>?_⟩
 ·intro b hb
  simp at hb
  rcases hb with rfl | rfl
  ·rw [Jcc]; exact Jdp _
  ·rw [Jcc]
   obtain ⟨o,ho,_⟩:=pl.isList
   exact Jdh (Jaf ho)
 ·intro i v hv
  have hv:its[i]? = some v:=by simpa using hv
  have hi:i < ns.length:=by rw [hl]; exact (Ja0.mp hv).1
  obtain ⟨u,hu,ru⟩:=rv.get (i:=i) (x:=.int ns[i]) (by rw [Ja6,Jab hi]; rfl)
  rw [hv] at hu
  cases hu
  obtain ⟨t,rfl⟩:=ru
  exact ⟨t,by simp [hi]⟩
 ·rw [Jai,<- hl]
  have f:=I.fpOk (H':=H) (Jae s.heap.objs.size) (I.hok.fresh (Jae _))
  exact ⟨.int _,H,(I.kept (h':=s.heap.push { cls:=.type "list_iterator",data:=.fields #[.ref p,.int 0 0] }) (t':=s.toks) fun b o e=>Jad _ e).turned (it:=s.heap.objs.size) (t':=tk) (fun b o hb e=>kp b o (by simpa using hb) e) f.1 f.2.1 f.2.2.2.1 f.2.2.2.2.1 f.2.2.2.2.2,⟨t',rfl⟩,q⟩
end
section
variable {K:PySem.W.Frag} {a b D:Addr} {xs ys:List V} {g:TG} {tt:TT} {te:TE} {k:Nat} {fr:List (Str × Nat)} {σ:St} {H1:Hp} {Q:VK}
theorem Zn5 (Pv:Nat->List V->Hp->Prop) (hlen:ys.length = xs.length) (h0:Pv 0 [] (upd H1 D (.lst []))) (hl:∀ i vs H,i<=xs.length->Pv i vs H->SqL K H a xs/\SqL K H b ys)
  (hs:∀ i x y p vs σ' H,i < xs.length->xs[i]? = some x->ys[i]? = some y->H p = none->Sh k (Zb3 fr σ) σ'->Pv i vs H->Zdq g tt te D xs.length k (Zb3 fr σ) Pv i (.ref p) σ' (upd H p (.tup [x,y]))) (hd:∀ vs H,Pv xs.length vs H->Q (.ref D) H):
  Zb5 g tt te (Itz K a b) D (Zd9 k fr σ) H1 Q:=by
 refine ⟨Wv xs.length k (Zb3 fr σ) Pv,⟨xs.length,by simp,Jb1 _,sh0,[],h0⟩,?_⟩
 rintro i m σ' H2 ⟨rfl,hi,sh,vs,p⟩
 obtain ⟨q1,q2⟩:=hl i vs H2 hi p
 by_cases hlt:i < xs.length
 ·refine .inr ⟨⟨xs,ys,xs[i],ys[i]'(by omega),q1,q2,by simp [hlt],by simp [hlen,hlt]⟩,fun x H3 y=>?_⟩
  obtain ⟨u,v,pp,rfl,hp,rfl,e1,e2⟩:=y
  exact hs i u v pp vs σ' _ hlt (e1 _ q1) (e2 _ q2) hp sh p
 ·have e:i = xs.length:=by omega
  subst e
  exact .inl ⟨⟨xs,ys,q1,q2,.inl (Jae _)⟩,hd vs H2 p⟩
end
section
variable {κ:Type} [DecidableEq κ]
def Zej (kvs:List (κ × V)) (k:κ):Option V:=(kvs.find? fun kv=>decide (kv.1 = k)).map (·.2)
def Zfp (kvs:List (κ × V)) (k:κ) (v:V):List (κ × V):=
 if (kvs.any fun kv=>decide (kv.1 = k)) = true then kvs.map (fun kv=>if kv.1 = k then (kv.1,v) else kv) else kvs ++ [(k,v)]
theorem Zbp {p:κ × V} {r:List (κ × V)} {k:κ} (e:p.1 = k):Zej (p :: r) k = some p.2:=by simp [Zej,Jcz,e]
theorem Zbq {p:κ × V} {r:List (κ × V)} {k:κ} (e:¬ p.1 = k):Zej (p :: r) k = Zej r k:=by simp [Zej,Jcz,e]
theorem Zdo (k:κ):∀ kvs:List (κ × V),(kvs.any fun kv=>decide (kv.1 = k)) = (Zej kvs k).isSome
 | []=>rfl
 | p :: r=>by
  rw [Jc1]
  by_cases e:p.1 = k
  ·simp only [Zbp e,Ja3 e,Bool.true_or,Option.isSome_some]
  ·rw [Zbq e,Jb6 e,Bool.false_or]; exact Zdo k r
theorem Zir (k j:κ) (y:V):∀ kvs:List (κ × V),Zej (kvs.map fun kv=>if kv.1 = k then (kv.1,y) else kv) j = (Zej kvs j).map fun x=>if j = k then y else x
 | []=>rfl
 | p :: r=>by
  have ih:=Zir k j y r
  rw [Ja1]
  by_cases h:p.1 = k
  ·rw [if_pos h]
   by_cases e:p.1 = j
   ·rw [Zbp (p:=(p.1,y)) e,Zbp e,Jd3,if_pos (e.symm.trans h)]
   ·rw [Zbq (p:=(p.1,y)) e,Zbq e,ih]
  ·rw [if_neg h]
   by_cases e:p.1 = j
   ·rw [Zbp (p:=p) e,Zbp e,Jd3,if_neg (fun z=>h (e.trans z))]
   ·rw [Zbq (p:=p) e,Zbq e,ih]
theorem Zg2 (k j:κ) (y:V):∀ kvs:List (κ × V),Zej kvs k = none->Zej (kvs ++ [(k,y)]) j = if j = k then some y else Zej kvs j
 | [],_=>by
  by_cases e:k = j
  ·rw [if_pos e.symm]; exact Zbp (p:=(k,y)) e
  ·rw [if_neg (fun z=>e z.symm)]; exact Zbq (p:=(k,y)) e
 | p :: r,hn=>by
  rw [List.cons_append]
  have hk:¬ p.1 = k:=fun z=>by rw [Zbp z] at hn; cases hn
  rw [Zbq hk] at hn
  have ih:=Zg2 k j y r hn
  by_cases e:p.1 = j
  ·rw [Zbp e,Zbp e,if_neg (fun z=>hk (e.trans z))]
  ·rw [Zbq e,Zbq e,ih]
theorem Ziq (kvs:List (κ × V)) (k j:κ) (y:V):Zej (Zfp kvs k y) j = if j = k then some y else Zej kvs j:=by
 unfold Zfp
 by_cases a:(kvs.any fun kv=>decide (kv.1 = k)) = true
 ·rw [if_pos a,Zir]
  rw [Zdo] at a
  by_cases e:j = k
  ·obtain ⟨x,hx⟩:=Jcm.mp a
   rw [if_pos e,e,hx,Jd3,if_pos rfl]
  ·rw [if_neg e]
   cases Zej kvs j with
   | none=>rfl
   | some x=>rw [Jd3,if_neg e]
 ·rw [if_neg a]
  refine Zg2 k j y kvs ?_
  rw [Zdo] at a
  cases q:Zej kvs k with
  | none=>rfl
  | some x=>rw [q] at a; exact (a rfl).elim
theorem Zdw (kvs:List (κ × V)) (k:κ) (v:V):(Zfp kvs k v).length<=kvs.length + 1:=by
 unfold Zfp
 split
 ·rw [Jaa]; omega
 ·rw [Jak,Jbm,List.length_nil]; omega
theorem Zm3 {kvs:List (κ × V)} {k:κ} (v:V) (h:Zej kvs k = none):Zfp kvs k v = kvs ++ [(k,v)]:=by
 unfold Zfp
 rw [Zdo,h]
 exact if_neg (by decide)
theorem RelO.isSome_eq {o:Option V} {u:Option Value} (r:RelO o u):o.isSome = u.isSome:=by
 cases o with
 | none=>cases u with
  | none=>rfl
  | some _=>exact (show False from r).elim
 | some _=>cases u with
  | none=>exact (show False from r).elim
  | some _=>rfl
theorem KV.val {kvs:List (κ × V)} {vs:List (κ × Value)} (r:KV kvs vs) (k:κ):RelO (Zej kvs k) (valueAt vs k):=by
 unfold KV at r
 induction r with
 | nil=>exact True.intro
 | @cons p q ps qs h t ih=>
  obtain ⟨h1,h2⟩:=h
  by_cases e:p.1 = k
  ·have e':q.1 = k:=h1.symm.trans e
   have b:valueAt (q :: qs) k = some q.2:=by simp [valueAt,Jcz,e']
   rw [Zbp e,b]; exact h2
  ·have e':¬ q.1 = k:=fun z=>e (h1.trans z)
   have b:valueAt (q :: qs) k = valueAt qs k:=by simp [valueAt,Jcz,e']
   rw [Zbq e,b]; exact ih
theorem KV.any {kvs:List (κ × V)} {vs:List (κ × Value)} (r:KV kvs vs) (k:κ):(kvs.any fun kv=>decide (kv.1 = k)) = vs.any fun kv=>decide (kv.1 = k):=by
 unfold KV at r
 induction r with
 | nil=>rfl
 | cons h t ih=>rw [Jc1,Jc1,ih,h.1]
theorem KV.repl {kvs:List (κ × V)} {vs:List (κ × Value)} (r:KV kvs vs) (k:κ) {y:V} {u:Value} (ry:RelV y u):
  KV (kvs.map fun kv=>if kv.1 = k then (kv.1,y) else kv) (vs.map fun kv=>if kv.1 = k then (kv.1,u) else kv):=by
 unfold KV at r ⊢
 induction r with
 | nil=>exact .nil
 | @cons p q ps qs h t ih=>
  rw [Ja1,Ja1]
  refine .cons ?_ ih
  obtain ⟨h1,h2⟩:=h
  by_cases e:p.1 = k
  ·rw [if_pos e,if_pos (h1.symm.trans e)]; exact ⟨h1,ry⟩
  ·rw [if_neg e,if_neg (fun z=>e (h1.trans z))]; exact ⟨h1,h2⟩
theorem KV.put {kvs:List (κ × V)} {vs:List (κ × Value)} (r:KV kvs vs) (k:κ) {y:V} {u:Value} (ry:RelV y u):KV (Zfp kvs k y) (stored vs k u):=by
 unfold Zfp stored
 rw [r.any k]
 by_cases e:(vs.any fun kv=>decide (kv.1 = k)) = true
 ·rw [if_pos e,if_pos e]; exact r.repl k ry
 ·rw [if_neg e,if_neg e]; exact Paired.snoc r ⟨rfl,ry⟩
theorem KV.length {kvs:List (κ × V)} {vs:List (κ × Value)} (r:KV kvs vs):kvs.length = vs.length:=Jeh r
end
theorem Znx {P:Program} {w:World} {k:Key} {u:Value} (r:RelV (kV k) u):(Zbt P w).is k u = true:=by
 cases k with
 | inl i=>obtain ⟨t,e⟩:=(show ∃ t,u = Value.int i t from r); subst e; exact Zia P w i t
 | inr x=>obtain ⟨t,e⟩:=(show ∃ t,u = Value.str x t from r); subst e; exact Zh9 P w x t
theorem Zhi {P:Program} {w:World}:∀ {ks:List Key} {us:List Value},Vals (ks.map kV) us->ItemsAre (Zbt P w) ks us
 | [],_,r=>by rw [Jd9] at r; cases r; exact .nil
 | k :: ks,_,r=>by
  rw [Ja1] at r
  cases r with
  | cons h t=>exact .cons (Znx h) (Zhi t)
abbrev KT (H:Hp):List (List Key × V)->List (List Key × Addr × Value)->Prop:=Paired fun p q=>p.1 = q.1/\H q.2.1 = some (.tup (p.1.map kV))/\RelV p.2 q.2.2
theorem KT.val {H:Hp} {kvs:List (List Key × V)} {xs:List (List Key × Addr × Value)} (r:KT H kvs xs) (k:List Key):RelO (Zej kvs k) ((atKey xs k).map (·.2)):=by
 induction r with
 | nil=>exact True.intro
 | @cons p q ps qs h t ih=>
  obtain ⟨h1,_,h2⟩:=h
  by_cases e:p.1 = k
  ·have e':q.1 = k:=h1.symm.trans e
   have b:atKey (q :: qs) k = some q.2:=by simp [atKey,Jcz,e']
   rw [Zbp e,b]; exact h2
  ·have e':¬ q.1 = k:=fun z=>e (h1.trans z)
   have b:atKey (q :: qs) k = atKey qs k:=by simp [atKey,Jcz,e']
   rw [Zbq e,b]; exact ih
theorem KT.repl {H:Hp} {kvs:List (List Key × V)} {xs:List (List Key × Addr × Value)} (r:KT H kvs xs) (k:List Key) {y:V} {u:Value} (ry:RelV y u):
  KT H (kvs.map fun kv=>if kv.1 = k then (kv.1,y) else kv) (xs.map (putAt k u)):=by
 induction r with
 | nil=>exact .nil
 | @cons p q ps qs h t ih=>
  rw [Ja1,Ja1]
  refine .cons ?_ ih
  obtain ⟨h1,h2,h3⟩:=h
  unfold putAt
  by_cases e:p.1 = k
  ·rw [if_pos e,if_pos (h1.symm.trans e)]; exact ⟨h1,h2,ry⟩
  ·rw [if_neg e,if_neg (fun z=>e (h1.trans z))]; exact ⟨h1,h2,h3⟩
theorem KT.put {H:Hp} {kvs:List (List Key × V)} {xs:List (List Key × Addr × Value)} (r:KT H kvs xs) (k:List Key) {b:Addr} {y:V} {u:Value} (hb:H b = some (.tup (k.map kV))) (ry:RelV y u):
  KT H (Zfp kvs k y) (storedH xs k b u):=by
 have e:(kvs.any fun kv=>decide (kv.1 = k)) = (atKey xs k).isSome:=by
  rw [Zdo,(r.val k).isSome_eq,Option.isSome_map]
 unfold Zfp storedH
 rw [e]
 by_cases q:(atKey xs k).isSome = true
 ·rw [if_pos q,if_pos q]; exact r.repl k ry
 ·rw [if_neg q,if_neg q]; exact Paired.snoc r ⟨rfl,hb,ry⟩
theorem KT.keeps {H H':Hp} {kvs:List (List Key × V)} {xs:List (List Key × Addr × Value)} (r:KT H kvs xs) (ht:∀ b ys,H b = some (.tup ys)->H' b = some (.tup ys)):KT H' kvs xs:=
 Paired.mapP r fun _ _ z=>⟨z.1,ht _ _ z.2.1,z.2.2⟩
section
variable {P:Program} {w:World} {H:Hp} {h:Heap} {a:Addr}
theorem rd_of {u:HO} (ok:HOk P w H h) (e:Rd H a u):ObjOk P w H h a u:=e.ok ok
theorem dk_rd {kvs:List (Key × V)} (ok:HOk P w H h) (e:Rd H a (.dK kvs)):kvs.length<=sizeLine/\(a == sysModules) = false/\∃ vs,KV kvs vs/\h.DictOf (Zbt P w) a vs:=
 show ObjOk P w H h a (.dK kvs) from rd_of ok e
theorem dk_of {kvs:List (Key × V)} (ok:HOk P w H h) (e:H a = some (.dK kvs)):kvs.length<=sizeLine/\(a == sysModules) = false/\∃ vs,KV kvs vs/\h.DictOf (Zbt P w) a vs:=dk_rd ok (.inl e)
theorem Zlp {ks:List Key} (ok:HOk P w H h) (e:H a = some (.tup (ks.map kV))):(tupleKind (Zbt P w)).is h ks a:=by
 obtain ⟨_,its,r,o,h1,h2,n,h3⟩:=(show ObjOk P w H h a (.tup (ks.map kV)) from ok a _ e)
 exact ⟨o,its.toArray,n,h1,h2,h3,by simpa using Zhi r⟩
theorem dt_rd {kvs:List (List Key × V)} (ok:HOk P w H h) (e:Rd H a (.dT kvs)):kvs.length<=sizeLine/\(a == sysModules) = false /\
  ∃ xs,KT H kvs xs/\h.DictOfH (tupleKind (Zbt P w)) a xs:=by
 obtain ⟨z,y,xs,r,o,es,ep,h1,h2,h3,h4,h5⟩:=(show ObjOk P w H h a (.dT kvs) from rd_of ok e)
 refine ⟨z,y,xs,r,o,es,ep,h1,h2,h3,h4,fun x hx=>?_,h5⟩
 have all:∀ {l:List (List Key × V)} {m:List (List Key × Addr × Value)},KT H l m->∀ x ∈ m,(tupleKind (Zbt P w)).is h x.1 x.2.1:=by
  intro l m q
  induction q with
  | nil=>intro x hx; exact nomatch hx
  | @cons p q ps qs hq t ih=>
   intro x hx
   rcases Jam.mp hx with e | hx
   ·subst e
    exact Zlp ok (by rw [<- hq.1]; exact hq.2.1)
   ·exact ih x hx
 exact all r x hx
theorem dt_of {kvs:List (List Key × V)} (ok:HOk P w H h) (e:H a = some (.dT kvs)):kvs.length<=sizeLine/\(a == sysModules) = false /\
  ∃ xs,KT H kvs xs/\h.DictOfH (tupleKind (Zbt P w)) a xs:=dt_rd ok (.inl e)
end
def DGet (H:Hp) (a:Addr) (y:V) (r:Option V):Prop:=
 (∃ kvs k,Rd H a (.dK kvs)/\y = kV k/\r = Zej kvs k)\/∃ kvs k b,Rd H a (.dT kvs)/\y = .ref b/\H b = some (.tup (k.map kV))/\r = Zej kvs k
def DPut (H:Hp) (a:Addr) (y v:V) (H':Hp):Prop:=
 (∃ kvs k,H a = some (.dK kvs)/\y = kV k/\kvs.length < sizeLine/\H' = upd H a (.dK (Zfp kvs k v))) \/
 ∃ kvs k b,H a = some (.dT kvs)/\y = .ref b/\H b = some (.tup (k.map kV))/\kvs.length < sizeLine/\H' = upd H a (.dT (Zfp kvs k v))
theorem DGet.k {H:Hp} {a:Addr} {kvs:List (Key × V)} {k:Key} (e:H a = some (.dK kvs)):DGet H a (kV k) (Zej kvs k):=.inl ⟨kvs,k,.inl e,rfl,rfl⟩
theorem DPut.k {H:Hp} {a:Addr} {kvs:List (Key × V)} {k:Key} {v:V} (e:H a = some (.dK kvs)) (hl:kvs.length < sizeLine):DPut H a (kV k) v (upd H a (.dK (Zfp kvs k v))):=.inl ⟨kvs,k,e,rfl,hl,rfl⟩
section
variable {X:Cx} {pins:List (Addr × Obj)} {σ:St} {H:Hp} {s:Shared} {a:Addr} {y v:V} {u r:Value} {o:Option V} {A:Around} {E:Value->Shared->Prop}
theorem Inv.big (I:Inv X pins σ H s):sysModules < s.heap.objs.size:=by
 have h:mainGlobals < s.heap.objs.size:=(I.mod.glob.keeps I.bk).lt
 exact Nat.lt_trans (by decide) h
theorem Zl9 {Q:Value->Shared->Prop} (hu:A.units + 1 < cLine) (I:Inv X pins σ H s) (g:DGet H a y (some v)) (ry:RelV y u) (h:∀ w' s',Inv X pins σ H s'->RelV v w'->Q w' s'):
  wpAny (model X.prog X.w) A (getItem (.ref a) u) Q E s:=by
 rcases g with ⟨kvs,k,e,ey,l⟩ | ⟨kvs,k,b,e,ey,eb,l⟩
 ·subst ey
  obtain ⟨z,hd,vs,rel,dd⟩:=dk_rd I.hok e
  obtain ⟨w',hw,rw'⟩:=RelO.some_of (v:=v) (o:=valueAt vs k) (by rw [l]; exact rel.val k)
  exact wpAny_getItem_of (Znx ry) dd.mapOf hw (h w' _ (I.tok _) rw')
 ·subst ey
  cases (show u = Value.ref b from ry)
  obtain ⟨z,hd,xs,rel,dd⟩:=dt_rd I.hok e
  obtain ⟨w',hw,rw'⟩:=RelO.some_of (v:=v) (o:=(atKey xs k).map (·.2)) (by rw [l]; exact rel.val k)
  obtain ⟨p,hp,hp2⟩:=Option.map_eq_some_iff.mp hw
  refine wpAny_getItem_heap (tupleKind_room_in1 hu) (Zlp I.hok eb) dd hp ?_
  rw [hp2]
  exact h w' _ (I.tok _) rw'
theorem Zig {h':Heap} {t':Nat} {ob:HO} (I:Inv X pins σ H s) (mu:Mut (H a)) (hs:Heap.SameBut a s.heap h') (he:∃ q,h'.get? a = some q) (new:ObjOk X.prog X.w (upd H a ob) h' a ob):
  Inv X pins σ (upd H a ob) { s with heap:=h',toks:=t' }:=
 I.write (x:=a) (e:=a) mu (.inl rfl) (fun b q hb z=>(hs.2 b hb).trans z) he new
theorem Zou {P:Program} {w:World} {H':Hp} {h':Heap} {kvs:List (Key × V)} {vs:List (Key × Value)} (z:kvs.length<=sizeLine) (hd:(a == sysModules) = false) (rel:KV kvs vs) (dd:h'.DictOf (Zbt P w) a vs):
  ObjOk P w H' h' a (.dK kvs):=⟨z,hd,vs,rel,dd⟩
theorem Zl8 {H':Hp} {Q:Unit->Shared->Prop} (hu:A.units + 1 < cLine) (I:Inv X pins σ H s) (g:DPut H a y v H') (ry:RelV y u) (rv:RelV v r) (h:∀ s',Inv X pins σ H' s'->Q () s'):
  wpAny (model X.prog X.w) A (setItem (.ref a) u r) Q E s:=by
 rcases g with ⟨kvs,k,e,ey,l,eH⟩ | ⟨kvs,k,b,e,ey,eb,l,eH⟩
 ·subst ey eH
  obtain ⟨z,hd,vs,rel,dd⟩:=dk_of I.hok e
  have hz:vs.length<=sizeLine:=by rw [<- rel.length]; exact z
  have hl:(Zfp kvs k v).length<=sizeLine:=by have:=Zdw kvs k v; omega
  refine wpAny_setItem_pairs (hsz:=hz) (Znx ry) dd fun h' dd' hs=>h _ ?_
  have he:∃ q,h'.get? a = some q:=let ⟨q,_,_,hq,_⟩:=dd'; ⟨q,hq⟩
  exact Zig I (by rw [e]; exact True.intro) hs he (Zou hl hd (rel.put k rv) dd')
 ·subst ey eH
  cases (show u = Value.ref b from ry)
  obtain ⟨z,hd,xs,rel,dd⟩:=dt_of I.hok e
  have hz:xs.length<=sizeLine:=by rw [<- Jeh rel]; exact z
  have hl:(Zfp kvs k v).length<=sizeLine:=by have:=Zdw kvs k v; omega
  refine wpAny_setItem_heap (hsz:=hz) (tupleKind_room_in1 hu) (Zlp I.hok eb) dd fun h' dd' hs=>h _ ?_
  obtain ⟨q,es,ep,hq,h2,h3,h4,_,h5⟩:=dd'
  refine Zig I (by rw [e]; exact True.intro) hs ⟨q,hq⟩ ⟨hl,hd,_,(rel.put k eb rv).keeps fun c ys ec=>?_,q,es,ep,hq,h2,h3,h4,h5⟩
  rw [Zaf (Zjm ec e (fun z=>nomatch z))]
  exact ec
end
section
variable {X:Cx} {pins:List (Addr × Obj)} {σ:St} {H:Hp} {s:Shared} {a:Addr} {kvs:List (Key × V)} {k:Key} {u:Value} {A:Around} {E:Value->Shared->Prop}
end
def NoSl (i:Expr):Prop:=∀ ov iv,subscripted i false ov iv = operate [ov,iv] (getItem ov iv)
theorem subD_of {prog:Program} {w:World} {A:Around} {E:Value->Shared->Prop} {s:Shared} {env:Env} {value slice:Expr} {pos:Pos} {T id:String} {Q:Value->Shared->Prop}
  (hl:typeLookup (.type T) "__getitem__" = pure (some (.builtin id))) (hs:NoSl slice)
  (h:wpAny (model prog w) A (eval value env) (fun o s₁=>wpAny (model prog w) A (eval slice env) (fun i s₂=>s₂.TypeIs o T/\wpAny (model prog w) A (getItem o i) Q E s₂) E s₁) E s):
  wpAny (model prog w) A (eval (.Subscript value slice pos) env) Q E s:=by
 refine Subscript_ (Ja5 h (fun o s₁ h₁=>Ja5 h₁ (fun i s₂ h₂=>?_) fun _ _ x=>x) fun _ _ x=>x)
 obtain ⟨hT,h₂⟩:=h₂
 unfold subscriptTail
 refine Jac ?_
 rw [getitemInPython_of_ne hT.not_modules]
 refine Jac (wpAny_specialOf hT hl ?_)
 have fin:wpAny (model prog w) A (subscripted slice false o i) (fun r s₃=>wpAny (model prog w) A (letTemporaryGo value o r >>= fun _=>pure r) Q E s₃) E s₂:=by
  rw [hs o i]
  exact wpAny_operating (Ja5 h₂ (fun r s₃ h₃=>Jac (wpAny_letTemporaryGo (Jap h₃))) fun _ _ x=>x)
 first
  | exact Jap (Jac fin)
  | exact Jac (Jap (Jac fin))
  | exact Jac fin
theorem Zif {X:Cx} {pins:List (Addr × Obj)} {σ:St} {H:Hp} {s:Shared} {a:Addr} {y:V} {o:Option V} (I:Inv X pins σ H s) (g:DGet H a y o):s.TypeIs (.ref a) "dict" := by
 rcases g with ⟨kvs,k,e,_,_⟩ | ⟨kvs,k,b,e,_,_,_⟩
 ·obtain ⟨_,_,vs,_,dd⟩:=dk_rd I.hok e
  exact dd.typeIs
 ·obtain ⟨_,_,xs,_,dd⟩:=dt_rd I.hok e
  exact dd.typeIs
def tDGet (td ty:TE):TE:=fun σ H Q=>td σ H fun x H1=>ty σ H1 fun y H2=>∃ a v,x = .ref a/\DGet H2 a y (some v)/\Q v H2
def sDPut (td ty tv:TE):TS:=fun D σ H=>tv σ H fun v H1=>td σ H1 fun x H2=>ty σ H2 fun y H3=>∃ a H4,x = .ref a/\DPut H3 a y v H4/\D.nx σ H4
section
variable {X:Cx} {o i e value:Expr} {pos pos' tpos:Pos} {td ty tv:TE}
theorem Zfd (hu:X.A.units + 1 < cLine) (ho:PE X o td) (hi:PE X i ty) (hs:NoSl i):PE X (.Subscript o i pos) (tDGet td ty):=by
 intro pins s σ H Q I h
 refine subD_of PySem.F.slot_dict_getitem.lookup hs (thn (ho pins s σ H _ I h) fun u s1 ⟨x,H1,I1,rx,q1⟩=>thn (hi pins s1 σ H1 _ I1 q1) fun iv s2 ⟨y,H2,I2,ry,a,v,ex,g,q2⟩=>?_)
 subst ex
 obtain rfl:u = Value.ref a:=rx
 exact ⟨Zif I2 g,Zl9 hu I2 g ry fun w' s3 I3 rw'=>⟨v,H2,I3,rw',q2⟩⟩
theorem ps_dput (hu:X.A.units + 1 < cLine) (ho:PE X o td) (hi:PE X i ty) (hv:PE X value tv) (hs:swapsWith value (some (.Subscript o i pos')) pos.line X.env = pure false):
  PS X (.Assign [.Subscript o i pos'] value pos) (sDPut td ty tv):=by
 intro pins s σ H D I h
 refine wpAny_Assign_Subscript (thn (hv pins s σ H _ I h) fun r s1 ⟨v,H1,I1,rv,q1⟩=>thn (ho pins s1 σ H1 _ I1 q1) fun u s2 ⟨x,H2,I2,rx,q2⟩=>thn (hi pins s2 σ H2 _ I2 q2) fun iv s3 ⟨y,H3,I3,ry,a,H4,ex,g,q3⟩=>?_) hs
 subst ex
 obtain rfl:u = Value.ref a:=rx
 exact Zl8 hu I3 g ry rv fun s4 I4=>⟨σ,H4,I4,q3⟩
end
theorem Zn3 {P:Program} {w:World} {H:Hp} (h:Heap) (hb:sysModules < h.objs.size):ObjOk P w H (h.push { cls:=.type "dict",data:=.dict #[] }) h.objs.size (.dK []):=
 ⟨Jb1 _,Jcq.mpr (Jc9 (Jay hb)),[],.nil,Heap.DictOf.new h⟩
section
variable {X:Cx} {pos:Pos}
end
structure M1 (X:Cx) (o:Expr) (m:Str) (apos:Pos) (e:Expr) (cpos:Pos):Prop where
 base:attributeBase o m X.env (eval o X.env) = eval o X.env
 few:((backTo cpos (starEach [e] X.env)).all (fun x=>!x.1) && (backToKw cpos (keywordEach [] X.env)).all (fun x=>x.1.isSome)
  && decide (([e]:List Expr).length + ([]:List Keyword).length + (if ([]:List Keyword).isEmpty then 0 else 1) < 30)) = true
 line:(apos.endLine == cpos.line) = true
 trees:backTo cpos (starEach [e] X.env) = [(false,eval e X.env)]
structure M2 (X:Cx) (o:Expr) (m:Str) (apos:Pos) (e f:Expr) (cpos:Pos):Prop where
 base:attributeBase o m X.env (eval o X.env) = eval o X.env
 few:((backTo cpos (starEach [e,f] X.env)).all (fun x=>!x.1) && (backToKw cpos (keywordEach [] X.env)).all (fun x=>x.1.isSome)
  && decide (([e,f]:List Expr).length + ([]:List Keyword).length + (if ([]:List Keyword).isEmpty then 0 else 1) < 30)) = true
 line:(apos.endLine == cpos.line) = true
 trees:backTo cpos (starEach [e,f] X.env) = [(false,eval e X.env),(false,eval f X.env)]
section
variable {X:Cx} {pins:List (Addr × Obj)} {σ:St} {H:Hp} {s:Shared} {a:Addr} {y d:V} {u r:Value} {o:Option V} {A:Around} {E:Value->Shared->Prop}
end
section
variable {X:Cx} {o e f:Expr} {apos cpos:Pos} {td ty tx:TE}
end
section
variable {X:Cx} {pins:List (Addr × Obj)} {σ:St} {H:Hp} {s:Shared} {a:Addr} {kvs:List (Key × V)} {A:Around} {E:Value->Shared->Prop}
end
section
variable {X:Cx} {pins:List (Addr × Obj)} {σ:St} {H:Hp} {s:Shared} {a:Addr} {y:V} {u:Value} {A:Around} {E:Value->Shared->Prop}
end
section
variable {κ:Type} [DecidableEq κ]
end
section
variable {prog:Program} {w:World} {A:Around} {R:Result->Shared->Prop} {s:Shared}
theorem Zgw {kx vx target iter:Expr} {ifs:List Expr} {scope:Scope} {pos:Pos} {it:Value} {D:Addr} {env:Env} (I:Nat->Shared->Prop)
  (turn:∀ n s,I n s->wpAny (model prog w) A (pyNext it) (fun r s₁=>match r with
   | none=>R (.ok .next) s₁
   | some v=>wpAny (model prog w) A (letOwnedTupleGo target it v) (fun _ s₁=>wpAny (model prog w) A (assign target env v) (fun _ s₂=>
     wpAny (model prog w) A (forIn ifs true fun c r=>if r = true then do let ok <- isTrue c env (eval c env); pure (ForInStep.yield ok) else pure (ForInStep.yield r)) (fun ok s₃=>
      if ok = true then wpAny (model prog w) A (eval kx env) (fun x s₄=>wpAny (model prog w) A (eval vx env) (fun y s₅=>
       wpAny (model prog w) A (dictSet D x y) (fun _ s₆=>∃ m,m < n/\I m s₆) (fun _ _=>False) s₅) (fun _ _=>False) s₄) (fun _ _=>False) s₃
      else ∃ m,m < n/\I m s₃) (fun _ _=>False) s₂) (fun _ _=>False) s₁) (fun _ _=>False) s₁) (fun _ _=>False) s)
  (n:Nat) (h:I n s):
  codeAny (model prog w) A (.compLoop (.DictComp kx vx [⟨target,iter,ifs,0⟩] scope pos) 0 it (.ref D) env) R s:=by
 refine codeAny_loop rfl I (fun n s hI=>?_) n h
 show wpAny _ A ((compTurn (.DictComp kx vx [⟨target,iter,ifs,0⟩] scope pos) 0 it (.ref D) env).onRaise (fun x=>do noteFrame x env; theTreesLotGoes x)) _ _ s
 refine wpAny_noted ?_
 rw [compTurn_dict]
 refine Jac (Jb5 (Jac (Ja5 (turn n s hI) (fun r s₁ h₁=>?_) fun _ _ h'=>h'.elim)))
 cases r with
 | none=>exact Jap h₁
 | some v=>
  refine Jac (Ja5 h₁ (fun _ s₁' h₁'=>?_) fun _ _ h'=>h'.elim)
  refine Jac (Ja5 h₁' (fun _ s₂ h₂=>Jac (Ja5 h₂ (fun ok s₃ h₃=>?_) fun _ _ h'=>h'.elim)) fun _ _ h'=>h'.elim)
  cases ok with
  | false=>exact Jap ⟨rfl,h₃⟩
  | true=>
   refine Jac (Jac (Ja5 h₃ (fun x s₄ h₄=>?_) fun _ _ h'=>h'.elim))
   refine Jac (Jbq (Ja5 h₄ (fun y s₅ h₅=>?_) fun _ _ h'=>h'.elim))
   exact Jac (Jb5 (Jbq (Ja5 h₅ (fun _ s₆ h₆=>Jap ⟨rfl,h₆⟩) fun _ _ h'=>h'.elim)))
end
def Zhy (g:TG) (tt:TT) (tk tv:TE) (J:It) (D:Addr) (σ0:St) (H1:Hp) (Q:VK):Prop:=
 ∃ W:Nat->Nat->St->Hp->Prop,(∃ m,W 0 m σ0 (upd H1 D (.dK [])))/\∀ i m σ' H2,W i m σ' H2->
  (J.stop i H2/\Q (.ref D) H2)\/(J.go i H2/\∀ x H3,J.yld i H2 x H3->g x σ' H3 fun σ4 H4=>tt σ4 H4 fun b H5=>
   if b = true then tk σ4 H5 fun x H6=>tv σ4 H6 fun y H7=>∃ kvs k,x = kV k/\H7 D = some (.dK kvs)/\kvs.length < sizeLine/\∃ m',m' < m/\W (i + 1) m' σ4 (upd H7 D (.dK (Zfp kvs k y)))
   else ∃ m',m' < m/\W (i + 1) m' σ4 H5)
def tCompD (k:Nat) (fr:List (Str × Nat)) (wi:TI) (g:TG) (tt:TT) (tk tv:TE):TE:=fun σ H Q=>wi σ H fun J H1=>∀ D,H1 D = none->Zhy g tt tk tv J D (Zd9 k fr σ) H1 Q
section
variable {X:Cx} {tg iter kx vx:Expr} {ifs:List Expr} {scope:Scope} {pos:Pos} {own:List Str} {fr:List (Str × Nat)} {wi:TI} {g:TG} {tt:TT} {tk tv:TE}
theorem Zme {pins:List (Addr × Obj)} {s2:Shared} {σ:St} {H2:Hp} {it:Addr} {fp:List Addr} {tn:Nat->Heap->Prop} {J:It} {Q:VK} {cl:List (Str × Addr)} {RR:Value->Addr->Result->Shared->Prop} {E:Value->Shared->Prop}
  (hc:X.calm = true) (B:BlScope X scope own fr)
  (hb:∀ cl s H fp,PG (Zbw X (Zbu own fr) scope cl s H fp) tg g/\PTs (Zbw X (Zbu own fr) scope cl s H fp) ifs tt/\PE (Zbw X (Zbu own fr) scope cl s H fp) kx tk/\PE (Zbw X (Zbu own fr) scope cl s H fp) vx tv)
  (hcl:∀ x c,cl.lookup x = some c->X.env.cells.lookup x = some c) (hcl2:∀ y ∈ scope.names,y.2 = .free->∃ c,cl.lookup y.1 = some c)
  (I2:Inv X pins σ H2 s2) (T:Turn X.prog X.w X.K tg J fp it tn) (st2:tn 0 s2.heap) (f2:∀ b ∈ fp,FpOk X pins H2 b) (q:∀ D,H2 D = none->Zhy g tt tk tv J D (Zd9 own.length fr σ) H2 Q)
  (hRR:∀ D C s' H',Inv X pins σ H' s'->Q (.ref D) H'->(∃ m,s'.heap.Ns C m)->C ≠ X.env.locals->(∀ x c,X.env.cells.lookup x = some c->c ≠ C)->(∀ p ∈ X.pn ++ pins,p.1 ≠ C)->X.s₀.heap.objs.size<=C->H' C = none->RR (.ref D) C (.ok .next) s'):
  wpAny (model X.prog X.w) X.A newDict (fun acc s₃=>wpAny (model X.prog X.w) X.A (newFunctionEnv scope X.env.globals cl [] X.env.qual none .none (some X.env)) (fun cenv s₄=>
   codeAny (model X.prog X.w) X.A (.compStart (.DictComp kx vx [⟨tg,iter,ifs,0⟩] scope pos) 0 (.ref it) acc { cenv with scope:=relabel scope X.env }) (RR acc cenv.locals) s₄) E s₃) E s2:=by
 refine Jdg ?_
 have fr0:H2 s2.heap.objs.size = none:=I2.hok.fresh (Jae _)
 have I3:=I2.laid (a:=s2.heap.objs.size) (o:=.dK []) (t':=s2.toks) (fun _ _ q=>Jad _ q) (Jae _) (Zn3 s2.heap I2.big)
 generalize hs3:({ s2 with heap:=s2.heap.push { cls:=.type "dict",data:=.dict #[] } }:Shared) = s3 at *
 have k23:∀ b o,s2.heap.get? b = some o->s3.heap.get? b = some o:=fun b o e=>by rw [<- hs3]; exact Jad _ e
 have sz3:s3.heap.objs.size = s2.heap.objs.size + 1:=by rw [<- hs3]; exact Jcc ..
 have I3':Inv X pins σ (upd H2 s2.heap.objs.size (.dK [])) s3:=I3
 have fne:∀ b ∈ fp,b ≠ s2.heap.objs.size:=fun b hb z=>by
  obtain ⟨o,ho,_⟩:=T.obj 0 _ st2 b hb
  exact absurd (Jaf ho) (by rw [z]; exact Jbp _)
 have f3:∀ b ∈ fp,FpOk X pins (upd H2 s2.heap.objs.size (.dK [])) b:=fun b hb=>⟨by rw [Zaf (fne b hb)]; exact (f2 b hb).1,(f2 b hb).2⟩
 have st3:tn 0 s3.heap:=T.keep 0 _ _ st2 fun b _ o e=>k23 b o e
 have hfo:∀ b ∈ fp,∃ o,s3.heap.get? b = some o:=fun b hb=>let ⟨o,ho,_⟩:=T.obj 0 _ st3 b hb; ⟨o,ho⟩
 refine Zdk fun h' hn hk hce=>?_
 have I4:=Zfj (own:=own) I3' B hcl hcl2 f3 hfo hn hk hce
 obtain ⟨hg,ht,hkx,hvx⟩:=hb cl s3 (upd H2 s2.heap.objs.size (.dK [])) fp
 have st4:tn 0 h':=T.keep 0 _ _ st3 fun b _ o e=>hk b o e
 have stat:∀ {H':Hp},(∀ b ∈ fp,H' b = none)->∀ b ∈ fp,FpOk (Zbw X (Zbu own fr) scope cl s3 (upd H2 s2.heap.objs.size (.dK [])) fp) [] H' b:=fun {H'} hnn b hb=>
  ⟨hnn b hb,(I4.ok.exf b hb).1,I4.ok.exfs b hb,.inl hb,(I4.ok.exf b hb).2,fun p hp=>absurd (show p ∈ ([]:List (Addr × Obj)) from hp) (by simp)⟩
 obtain ⟨W,⟨m0,w0⟩,turn⟩:=q s2.heap.objs.size fr0
 have loop:codeAny (model X.prog X.w) X.A (.compLoop (.DictComp kx vx [⟨tg,iter,ifs,0⟩] scope pos) 0 (.ref it) (.ref s2.heap.objs.size) (Zbw X (Zbu own fr) scope cl s3 (upd H2 s2.heap.objs.size (.dK [])) fp).env)
   (RR (.ref s2.heap.objs.size) s3.heap.objs.size) { s3 with heap:=h' }:=by
  refine Zgw (fun n s'=>∃ i σ' H',Inv (Zbw X (Zbu own fr) scope cl s3 (upd H2 s2.heap.objs.size (.dK [])) fp) [] σ' H' s'/\tn i s'.heap/\(∀ b ∈ fp,H' b = none)/\W i n σ' H') ?_ m0
   ⟨0,_,_,I4,st4,fun b hb=>(f3 b hb).1,w0⟩
  rintro n s5 ⟨i,σ5,H5,I5,st5,fr5,w5⟩
  rcases turn i n σ5 H5 w5 with ⟨stop,qn⟩ | ⟨go,step⟩
  ·refine thn (T.done (Zbw X (Zbu own fr) scope cl s3 (upd H2 s2.heap.objs.size (.dK [])) fp) rfl rfl rfl hc i [] s5 σ5 H5 _ I5 (stat fr5) st5 stop) fun r s6 ⟨hr,I6⟩=>?_
   subst hr
   have I7:Inv X pins σ H5 s6:=I3'.call' (ch:=fp) I6.os I6.base I6.hok I6.bare fun b hb=>⟨(f3 b hb).2.2.2.1,(f3 b hb).2.1,(f3 b hb).2.2.2.2.1,(f3 b hb).2.2.2.2.2⟩
   obtain ⟨m6,hn6,_⟩:=I6.loc
   refine hRR _ _ s6 H5 I7 qn ⟨m6,hn6⟩ (Jdl I3'.lt) (fun x c e=>?_) (fun p hp=>?_) I3'.sz I6.free
   ·obtain ⟨v,z⟩:=I3'.cell x c e
    exact Jay z.lt
   ·exact Jay (Jaf (I3'.pin p hp).1)
  ·refine thn (T.item (Zbw X (Zbu own fr) scope cl s3 (upd H2 s2.heap.objs.size (.dK [])) fp) rfl rfl rfl hc i [] s5 σ5 H5 _ I5 (stat fr5) st5 go) fun r s6 ⟨u,hr,h6⟩=>?_
   subst hr
   refine thn h6 fun _ s7 ⟨x,H7,I7,r7,y7,st7,fr7⟩=>?_
   have I7':=I7.pinned (stat fr7) (T.obj _ _ st7)
   refine thn (hg _ s7 σ5 H7 x u _ I7' r7 (step x H7 y7)) fun _ s8 ⟨σ8,H8,I8,q8⟩=>?_
   refine thn (ht _ s8 σ8 H8 _ I8 q8) fun b s9 ⟨H9,I9,q9⟩=>?_
   have again:∀ {sA:Shared} {σA:St} {HA:Hp} {m':Nat},Inv (Zbw X (Zbu own fr) scope cl s3 (upd H2 s2.heap.objs.size (.dK [])) fp) ([] ++ Zd4 fp s7.heap) σA HA sA->m' < n->W (i + 1) m' σA HA->
     ∃ m,m < n/\∃ i σ' H',Inv (Zbw X (Zbu own fr) scope cl s3 (upd H2 s2.heap.objs.size (.dK [])) fp) [] σ' H' sA/\tn i sA.heap/\(∀ b ∈ fp,H' b = none)/\W i m σ' H':=fun {sA σA HA m'} IA hm wA=>by
    refine ⟨m',hm,i + 1,σA,HA,IA.unpinned,T.keep _ _ _ st7 fun b hb o e=>(IA.pin (b,o) (Jah _ (Jah _ (Za8 hb e)))).1,fun b hb=>?_,wA⟩
    obtain ⟨o,e,d⟩:=T.obj _ _ st7 b hb
    exact (IA.pin (b,o) (Jah _ (Jah _ (Za8 hb e)))).2.1
   cases b with
   | false=>
    obtain ⟨m',hm,w9⟩:=q9
    exact again I9 hm w9
   | true=>
    have q9:tk σ8 H9 _:=q9
    show wpAny _ _ _ _ _ _
    refine thn (hkx _ s9 σ8 H9 _ I9 q9) fun x sA ⟨vx',HA,IA,rA,qA⟩=>?_
    refine thn (hvx _ sA σ8 HA _ IA qA) fun y sB ⟨vy,HB,IB,rB,kvs,k,ek,e,l,m',hm,wB⟩=>?_
    subst ek
    obtain ⟨z,hd,vs,rel,dd⟩:=dk_of IB.hok e
    have hz:vs.length<=sizeLine:=by rw [<- rel.length]; exact z
    have hl:(Zfp kvs k vy).length<=sizeLine:=by have:=Zdw kvs k vy; omega
    refine wpAny_dictSet_pairs (hsz:=hz) (Znx rA) dd fun h' dd' hs=>?_
    have he:∃ q,h'.get? s2.heap.objs.size = some q:=let ⟨q,_,_,hq,_⟩:=dd'; ⟨q,hq⟩
    exact again (Zig IB (by rw [e]; exact True.intro) hs he (Zou hl hd (rel.put k rB) dd')) hm wB
 exact codeAny_compStart_dict loop (T.self _ 0 _ _ _ st4 loop)
theorem Zna (hc:X.calm = true) (B:BlScope X scope own fr) (hi:PI X tg iter wi)
  (hb:∀ cl s H fp,PG (Zbw X (Zbu own fr) scope cl s H fp) tg g/\PTs (Zbw X (Zbu own fr) scope cl s H fp) ifs tt/\PE (Zbw X (Zbu own fr) scope cl s H fp) kx tk/\PE (Zbw X (Zbu own fr) scope cl s H fp) vx tv)
  (hs:∀ x,foldedSetIterable iter X.env x = pure x:=by intro _; rfl):
  PE X (.DictComp kx vx [⟨tg,iter,ifs,0⟩] scope pos) (tCompD own.length fr wi g tt tk tv):=by
 intro pins s σ H Q I h
 obtain ⟨cl,hclos,hcl,hcl2⟩:=Zfm (scope:=scope) (env:=X.env) fun y hy hf=>I.ok.has y.1 (B.free y hy hf)
 rw [arm_eval_DictComp]
 refine Jcn (use:=none) rfl hs hclos B.kind B.loc (thn (hi pins s σ H _ I h) fun v s1 h1=>thn h1 fun itv s2 h2=>?_)
 obtain ⟨it,fp,tn,J,H2,e,I2,T,st2,f2,q⟩:=h2
 subst e
 refine Zme (RR:=fun acc C=>compPost (model X.prog X.w) X.A X.xe none (EP X pins σ Q) acc C) (Q:=Q) hc B hb hcl hcl2 I2 T st2 f2 q ?_
 intro D C s' H' I' hq hn n1 n2 n3 n4 n5
 obtain ⟨m,hn⟩:=hn
 refine ⟨m,hn,fun h' hs'=>⟨.ref D,H',I'.turned (it:=C) (t':=s'.toks) (fun b o hb e=>SameBut.get hs' b o hb e) n5 (Jc9 (Jc9 n1)) (.inr n4) n2 n3,rfl,hq⟩⟩
end
end L2
namespace L2
open PySem PySem.Spec PyProof.Rows
theorem Zlx:∀ {ns:List Int} {us:List Value},Vals (ns.map V.int) us->IntsAre us ns
 | [],us,r=>by cases r; exact .nil
 | n :: ns,us,r=>by
  cases r with
  | cons r1 r2=>obtain ⟨t,rfl⟩:=r1; exact .cons n t (Zlx r2)
theorem Zj0:∀ {us:List Value} {ns:List Int},IntsAre us ns->Vals (ns.map V.int) us
 | _,_,.nil=>.nil
 | _,_,.cons n t h=>.cons ⟨t,rfl⟩ (Zj0 h)
section
variable {X:Cx}
theorem Zfn:Zd8 X (.builtin "sorted") (fun xs H Q=>∃ (p:Addr) (ns:List Int),xs = [.ref p]/\SqL X.K H p (ns.map V.int)/\ns.length < 64 /\
  ∀ (l:Addr) (ns':List Int),H l = none->ns'.Perm ns->ns'.Pairwise (·<=·)->Q (.ref l) (upd H l (.lst (ns'.map V.int)))):=by
 intro pins s σ H xs us Q I r h
 obtain ⟨p,ns,rfl,hq,h64,q⟩:=h
 obtain ⟨u,rfl,rx⟩:=Zhx r
 cases rx
 obtain ⟨its,rv,pl,hz⟩:=I.list hq
 have hl:=rv.length
 rw [Jaa] at hl
 refine PyProof.Rows.sorted_ints pl.isList (Zlx rv) (by rw [<- hl]; exact h64) fun out ns' hi hp hs=>?_
 obtain ⟨e,he⟩:=sortedAll_at s.heap its out
 have hlen:ns'.length < 64:=by rw [hp.length_eq]; exact h64
 refine ⟨.ref (s.heap.objs.size + 1),_,I.laid (a:=s.heap.objs.size + 1) (o:=.lst (ns'.map V.int)) (t':=s.toks) (fun b o z=>sortedAll_old z) (Jd1 _) ?_,rfl,q _ ns' (I.hok.fresh (Jd1 _)) hp hs⟩
 refine ⟨by rw [Jaa]; exact Jba (Jbo hlen) (by rw [sizeLine_eq]; omega),out.toList,e,Zj0 hi,?_⟩
 simpa [seqObj] using he
end
section
variable {prog:Program} {w:World} {A:Around} {E:Value->Shared->Prop} {s:Shared}
theorem Zhk {it t:Addr} {items:Array Value} (hne:t ≠ it):∀ (n i:Nat) (s:Shared) (Q:List Value->Shared->Prop),s.heap.IsListIter it t i->s.heap.IsList t items->i + n<=items.size->
  (∀ h',h'.IsListIter it t (i + n)->Heap.SameBut it s.heap h'->Q ((items.toList.drop i).take n) { s with heap:=h' })->wpAny (model prog w) A (draw (.ref it) n) Q E s
 | 0,i,s,Q,hit,_,_,hQ=>by
  show wpAny _ _ (pure []) Q E s
  exact Jap (by simpa using hQ s.heap hit (Heap.SameBut.refl ..))
 | n + 1,i,s,Q,hit,ht,hle,hQ=>by
  have hlt:i < items.size:=by omega
  show wpAny _ _ (pyNext (.ref it) >>= _) Q E s
  refine Jac (Jcu hit ht (x:=items[i]) (by simp [hlt]) fun h₁ hit₁ hs₁=>?_)
  refine Jac (Jbq (Zhk hne n (i + 1) _ _ hit₁ (ht.at fun o e=>(hs₁.2 t hne).trans e) (by omega) fun h₂ hit₂ hs₂=>Jap ?_))
  have hd:items.toList.drop i = items[i] :: items.toList.drop (i + 1):=by simp [Jc4,hlt]
  have:=hQ h₂ (by rw [show i + (n + 1) = i + 1 + n by omega]; exact hit₂) (hs₁.trans hs₂)
  rw [hd,Jc7] at this
  exact this
theorem Zer {t:Addr} {items:Array Value} {Q:List Value->Shared->Prop} (hh:A.handled = none) (ht:s.heap.IsList t items)
  (hQ:∀ h',Heap.ExtBut s.heap.objs.size s.heap h'->Q items.toList { s with heap:=h' }):wpAny (model prog w) A (unpackItems (.ref t) items.size none) Q E s:=by
 have hlt:t ≠ s.heap.objs.size:=by obtain ⟨o,ho,_⟩:=ht; exact Jay (Jaf ho)
 unfold unpackItems
 refine Jac ?_
 ·unfold notIterableAtAll
  refine Jac (wpAny_specialOf ht.typeIs slot_list_iter.lookup ?_)
  refine Jap ?_
  simp only [Jda,Jei]
  refine Jac (Jbq (Jc0 ht ?_))
  refine Jac (Jbq (Zhk hlt items.size 0 _ _ ⟨_,Jas _ rfl,rfl,rfl⟩ (ht.at fun o e=>Jad _ e) (by omega) fun h₁ hit₁ hs₁=>?_))
  have hall:List.take items.size (List.drop 0 items.toList) = items.toList:=by
   rw [Jdk]; exact List.take_of_length_le (by simp)
  rw [hall]
  rw [if_neg (by simp)]
  have ht₁:h₁.IsList t items:=(ht.at (h':=s.heap.push { cls:=.type "list_iterator",data:=.fields #[.ref t,.int 0 0] }) fun o e=>Jad _ e).at fun o e=>(hs₁.2 t hlt).trans e
  refine Jac (Jbq (Jdm hh hit₁ ht₁ (by simp) fun h₂ he₂=>?_))
  simp only [Option.isSome_none,Jda,Jei]
  refine Jap (hQ h₂ fun b o hb e=>he₂ b o hb (hs₁.extBut b o hb (Jad _ e)))
theorem Zei {env:Env} {elts:List Expr} {x1} {pos:Pos} {t:Addr} {items:Array Value} {Q:Unit->Shared->Prop} (hh:A.handled = none) (ht:s.heap.IsList t items)
  (hn:(assignEach elts env).length = items.size) (hstar:(assignEach elts env).findIdx? (·.1) = none)
  (h:∀ h',Heap.ExtBut s.heap.objs.size s.heap h'->wpAny (model prog w) A (assignInOrder ((assignEach elts env).map (·.2)) items.toList) Q E { s with heap:=h' }):
  wpAny (model prog w) A (assign (.Tuple elts x1 pos) env (.ref t)) Q E s:=by
 rw [PyProof.Rows.assign_Tuple]
 refine Jac (Jb5 ?_)
 unfold unpack
 rw [hn,hstar]
 exact Jac (Jbq (Zer hh ht h))
end
section
variable {X:Cx} {pos:Pos}
def gLst (K:PySem.W.Frag) (n:Nat) (t:TGs):TG:=fun v σ H Q=>∃ a xs,v = .ref a/\SqL K H a xs/\xs.length = n/\t xs σ H Q
theorem pg_lst {es:List Expr} {k:Nat} {t:TGs} {n:Nat} (hc:X.calm = true) (h:PGs X es t)
  (hn:(assignEach es X.env).length = n:=by rfl) (hst:(assignEach es X.env).findIdx? (·.1) = none:=by rfl):PG X (.Tuple es k pos) (gLst X.K n t):=by
 intro pins s σ H v u Q I r hw
 obtain ⟨a,xs,e1,hq,hl,hw⟩:=hw
 subst e1
 cases r
 obtain ⟨its,rv,ht,hz⟩:=I.list hq
 refine Zei (I.ok.hd hc) ht.isList (by simp [hn,<- hl,rv.length]) hst fun h' hx=>?_
 have I1:Inv X pins σ H { s with heap:=h' }:=I.kept (t':=s.toks) fun b o e=>hx b o (Jay (Jaf e)) e
 exact h pins _ σ H xs _ Q I1 (by simpa using rv) hw
end
theorem Zk4 {X:Cx} {m:Str} {C:Addr} {k:Nat} {sp:Sp} {o:Expr} {ta:TE} {apos pos:Pos} {pl:Sem Bool} (c:Cls X.K C) (M:CalM X.prog X.w X.K X.mg X.base C m k sp) (hr:Room k X.A) (ho:PE X o ta)
  (ht:eval (.Call (.Attribute o m apos) [] [] pos) X.env = (do
   let ov <- eval o X.env
   standAt apos.atName
   let (f,first) <- holding [ov] (getMethod ov m pl)
   callWith pos f first (backTo pos (starEach [] X.env)) (backToKw pos (keywordEach [] X.env))):=by rfl):
  PE X (.Call (.Attribute o m apos) [] [] pos) (tMeth C m sp [] E0 ta Zj5):=by
 obtain ⟨f,fd,ps,F,hm,hb⟩:=M.ex
 exact Zm9 ho c hm F hr hb .nil pass0 ht
end L2
namespace L3
theorem Zci {α:Type} [DecidableEq α]:∀ {l m:List α},l.Nodup->(∀ x ∈ l,x ∈ m)->m.length<=l.length->l.Perm m
 | [],m,_,_,h=>by
  have:m = []:=List.eq_nil_of_length_eq_zero (by simpa using h)
  rw [this]
 | a :: l,m,nd,hs,h=>by
  have ha:a ∈ m:=hs a (by simp)
  have nd':=Jbl.mp nd
  have p:=Jdt ha
  refine (List.Perm.cons a (Zci nd'.2 (fun x hx=>?_) ?_)).trans p.symm
  ·have hne:x ≠ a:=fun z=>nd'.1 (z ▸ hx)
   exact (List.mem_erase_of_ne hne).mpr (hs x (by simp [hx]))
  ·rw [Jc8 ha]
   rw [Jbm] at h
   omega
abbrev Ed:=Int × Int
def ce (d:Int->Nat) (q:Ed):Int:=if d q.2 + 1 = d q.1 then q.1 else q.2
def pe (d:Int->Nat) (q:Ed):Int:=if d q.2 + 1 = d q.1 then q.2 else q.1
structure Tr (S:List Int) (ps:List Ed) (f:Int) (d:Int->Nat):Prop where
 nd:S.Nodup
 fS:f ∈ S
 inS:∀ q ∈ ps,q.1 ∈ S/\q.2 ∈ S
 par:∀ x ∈ S,x ≠ f->∃ q ∈ ps,(q.1 = x/\d q.2 + 1 = d x)\/(q.2 = x/\d q.1 + 1 = d x)
 len:ps.length + 1 = S.length
section
variable {S:List Int} {ps:List Ed} {f:Int} {d:Int->Nat}
def oth (S:List Int) (f:Int):List Int:=S.filter fun x=>decide (x ≠ f)
theorem Za9 {x:Int}:x ∈ oth S f ↔ x ∈ S/\x ≠ f:=by unfold oth; simp [Jan]
theorem Ziz {q:Ed} {x:Int} (h:(q.1 = x/\d q.2 + 1 = d x)\/(q.2 = x/\d q.1 + 1 = d x)):ce d q = x/\d (pe d q) + 1 = d x:=by
 unfold ce pe
 rcases h with ⟨e,h⟩ | ⟨e,h⟩
 ·rw [<- e] at h ⊢
  rw [if_pos h,if_pos h]
  exact ⟨rfl,h⟩
 ·rw [<- e] at h ⊢
  rw [if_neg (by omega),if_neg (by omega)]
  exact ⟨rfl,h⟩
theorem Zh7 (nd:S.Nodup) (h:f ∈ S):(oth S f).length + 1 = S.length:=by
 have e:oth S f = S.erase f:=by
  unfold oth
  rw [List.Nodup.erase_eq_filter nd]
  congr 1
  funext x
  rw [Jbu]
  simp
 rw [e,Jc8 h]
 have:=List.length_pos_of_mem h
 omega
theorem Tr.perm (T:Tr S ps f d):(oth S f).Perm (ps.map (ce d)):=by
 refine Zci (Ja2 Jaw T.nd) (fun x hx=>?_) ?_
 ·obtain ⟨h1,h2⟩:=Za9.mp hx
  obtain ⟨q,hq,h⟩:=T.par x h1 h2
  exact Jao.mpr ⟨q,hq,(Ziz h).1⟩
 ·have:=Zh7 T.nd T.fS
  have:=T.len
  rw [Jaa]
  omega
theorem Tr.cend (T:Tr S ps f d):(ps.map (ce d)).Nodup:=T.perm.nodup_iff.mp (Ja2 Jaw T.nd)
theorem Tr.one (T:Tr S ps f d) {q q':Ed} (h:q ∈ ps) (h':q' ∈ ps) (e:ce d q = ce d q'):q = q':=by
 obtain ⟨i,hi,rfl⟩:=Jbw.mp h
 obtain ⟨j,hj,rfl⟩:=Jbw.mp h'
 have:=T.cend
 have hij:i = j:=(List.getElem_inj (h₀:=by rw [Jaa]; exact hi) (h₁:=by rw [Jaa]; exact hj) this).mp (by rw [List.getElem_map,List.getElem_map]; exact e)
 subst hij
 rfl
theorem Tr.prop (T:Tr S ps f d) {q:Ed} (h:q ∈ ps):ce d q ∈ S/\ce d q ≠ f/\pe d q ∈ S/\d (pe d q) + 1 = d (ce d q):=by
 have hm:ce d q ∈ oth S f:=T.perm.mem_iff.mpr (Jao.mpr ⟨q,h,rfl⟩)
 obtain ⟨h1,h2⟩:=Za9.mp hm
 obtain ⟨q',hq',hp⟩:=T.par _ h1 h2
 obtain ⟨e1,e2⟩:=Ziz hp
 have:=T.one hq' h e1
 subst this
 refine ⟨h1,h2,?_,e2⟩
 unfold pe
 split
 ·exact (T.inS _ h).2
 ·exact (T.inS _ h).1
theorem Tr.up (T:Tr S ps f d) {x:Int} (h:x ∈ S) (hf:x ≠ f):∃ q ∈ ps,ce d q = x:=by
 obtain ⟨q,hq,hp⟩:=T.par x h hf
 exact ⟨q,hq,(Ziz hp).1⟩
theorem Zdy (q:Ed):(q.1 = ce d q/\q.2 = pe d q)\/(q.1 = pe d q/\q.2 = ce d q):=by
 unfold ce pe
 split
 ·exact .inl ⟨rfl,rfl⟩
 ·exact .inr ⟨rfl,rfl⟩
def chn (d:Int->Nat) (ps:List Ed) (x:Int):Nat:=(ps.map (pe d)).count x
def deg (ps:List Ed) (x:Int):Nat:=ps.countP fun q=>decide (q.1 = x\/q.2 = x)
theorem Tr.ne (T:Tr S ps f d) {q:Ed} (h:q ∈ ps):q.1 ≠ q.2:=fun e=>by
 have:=(T.prop h).2.2.2
 rcases Zdy (d:=d) q with ⟨a,b⟩ | ⟨a,b⟩
 ·rw [<- a,<- b,e] at this
  omega
 ·rw [<- a,<- b,e] at this
  omega
theorem Zov (x:Int):∀ (l:List Ed),(∀ q ∈ l,ce d q ≠ pe d q)->l.countP (fun q=>decide (q.1 = x\/q.2 = x)) = (l.map (ce d)).count x + (l.map (pe d)).count x
 | [],_=>rfl
 | q :: l,h=>by
  have hq:=h q (by simp)
  have ih:=Zov x l fun q' h'=>h q' (by simp [h'])
  rw [List.countP_cons,ih,Ja1,Ja1,Jdb,Jdb]
  have e:(decide (q.1 = x\/q.2 = x)) = ((ce d q == x) || (pe d q == x)):=by
   rw [Jbu]
   simp only [Jbx,Jd2,Jbh]
   rcases Zdy (d:=d) q with ⟨a,b⟩ | ⟨a,b⟩
   ·rw [a,b]
   ·rw [a,b]; exact Or.comm
  rw [e]
  by_cases h1:ce d q = x
  ·have h2:pe d q ≠ x:=fun z=>hq (h1.trans z.symm)
   simp [h1,h2]
   omega
  ·by_cases h2:pe d q = x
   ·simp [h1,h2]
    omega
   ·simp [h1,h2]
theorem Tr.deg (T:Tr S ps f d) (x:Int):deg ps x = (ps.map (ce d)).count x + chn d ps x:=Zov x ps fun q h e=>by
 have:=(T.prop h).2.2.2
 rw [e] at this
 omega
theorem Tr.deg_f (T:Tr S ps f d):L3.deg ps f = chn d ps f:=by
 rw [T.deg,List.count_eq_zero.mpr (fun h=>?_),Nat.zero_add]
 obtain ⟨q,hq,e⟩:=Jao.mp h
 exact (T.prop hq).2.1 e
theorem Tr.deg_x (T:Tr S ps f d) {x:Int} (h:x ∈ S) (hf:x ≠ f):L3.deg ps x = 1 + chn d ps x:=by
 rw [T.deg]
 congr 1
 obtain ⟨q,hq,e⟩:=T.up h hf
 have h1:(ps.map (ce d)).count x<=1:=List.nodup_iff_count.mp T.cend x
 have h2:0 < (ps.map (ce d)).count x:=Jca.mpr (Jao.mpr ⟨q,hq,e⟩)
 omega
def up1 (d:Int->Nat) (ps:List Ed) (x:Int):Int:=((ps.find? fun q=>decide (ce d q = x)).map (pe d)).getD x
theorem Tr.up1_of (T:Tr S ps f d) {x:Int} (h:x ∈ S) (hf:x ≠ f):∃ q ∈ ps,ce d q = x/\up1 d ps x = pe d q:=by
 obtain ⟨q,hq,e⟩:=T.up h hf
 unfold up1
 cases hfd:ps.find? (fun q=>decide (ce d q = x)) with
 | none=>
  have:=List.find?_eq_none.mp hfd q hq
  exact absurd (Ja3 e) this
 | some q'=>exact ⟨q',List.mem_of_find?_eq_some hfd,Jaq (List.find?_some (p:=fun q=>decide (ce d q = x)) hfd),rfl⟩
theorem Tr.up1_prop (T:Tr S ps f d) {x:Int} (h:x ∈ S) (hf:x ≠ f):up1 d ps x ∈ S/\d (up1 d ps x) + 1 = d x:=by
 obtain ⟨q,hq,e,e'⟩:=T.up1_of h hf
 rw [e',<- e]
 exact ⟨(T.prop hq).2.2.1,(T.prop hq).2.2.2⟩
theorem Tr.up1_ce (T:Tr S ps f d) {q:Ed} (h:q ∈ ps):up1 d ps (ce d q) = pe d q:=by
 obtain ⟨q',hq',e,e'⟩:=T.up1_of (T.prop h).1 (T.prop h).2.1
 rw [e',T.one hq' h e]
def rt (d:Int->Nat) (ps:List Ed) (f:Int):Nat->Int->Int
 | 0,x=>x
 | k + 1,x=>if up1 d ps x = f then x else rt d ps f k (up1 d ps x)
def Zb8 (d:Int->Nat) (ps:List Ed) (f x:Int):Int:=rt d ps f (d x) x
theorem Tr.root_step (T:Tr S ps f d) {x:Int} (h:x ∈ S) (hf:x ≠ f) (hu:up1 d ps x ≠ f):Zb8 d ps f x = Zb8 d ps f (up1 d ps x):=by
 have:=(T.up1_prop h hf).2
 unfold Zb8
 rw [<- this]
 show (if up1 d ps x = f then x else rt d ps f (d (up1 d ps x)) (up1 d ps x)) = _
 rw [if_neg hu]
theorem Tr.root_base (T:Tr S ps f d) {x:Int} (h:x ∈ S) (hf:x ≠ f) (hu:up1 d ps x = f):Zb8 d ps f x = x:=by
 have:=(T.up1_prop h hf).2
 unfold Zb8
 rw [<- this]
 show (if up1 d ps x = f then x else rt d ps f (d (up1 d ps x)) (up1 d ps x)) = _
 rw [if_pos hu]
theorem Tr.pos (T:Tr S ps f d) {x:Int} (h:x ∈ S) (hf:x ≠ f):0 < d x:=by have:=(T.up1_prop h hf).2; omega
theorem Tr.root_ok (T:Tr S ps f d):∀ (k:Nat) {x:Int},d x<=k->x ∈ S->x ≠ f->Zb8 d ps f x ∈ S/\Zb8 d ps f x ≠ f/\up1 d ps (Zb8 d ps f x) = f
 | 0,x,hk,h,hf=>by have:=T.pos h hf; omega
 | k + 1,x,hk,h,hf=>by
  by_cases hu:up1 d ps x = f
  ·rw [T.root_base h hf hu]
   exact ⟨h,hf,hu⟩
  ·have:=T.up1_prop h hf
   rw [T.root_step h hf hu]
   exact T.root_ok k (by omega) this.1 hu
theorem Zhm {g:Ed->Int} {z:Int}:∀ {l:List Ed} {q q':Ed},q ∈ l->q' ∈ l->q ≠ q'->g q = z->g q' = z->2<=(l.map g).count z
 | a :: l,q,q',h,h',n,e,e'=>by
  rw [Ja1,Jdb]
  rcases Jam.mp h with h1 | h1
  ·rcases Jam.mp h' with h2 | h2
   ·exact absurd (h1.trans h2.symm) n
   ·have:0 < (l.map g).count z:=Jca.mpr (Jao.mpr ⟨q',h2,e'⟩)
    rw [if_pos (by rw [<- h1,e]; simp)]
    omega
  ·rcases Jam.mp h' with h2 | h2
   ·have:0 < (l.map g).count z:=Jca.mpr (Jao.mpr ⟨q,h1,e⟩)
    rw [if_pos (by rw [<- h2,e']; simp)]
    omega
   ·have:=Zhm h1 h2 n e e'
    omega
structure Fk (S:List Int) (ps:List Ed) (f:Int) (d:Int->Nat):Prop extends Tr S ps f d where
 d0:d f = 0
 few:∀ x ∈ S,x ≠ f->chn d ps x<=1
theorem Fk.zero (T:Fk S ps f d) {x:Int} (h:x ∈ S) (h0:d x = 0):x = f:=Jag fun z=>by have:=T.pos h z; omega
theorem Fk.inj (T:Fk S ps f d):∀ (k:Nat) {x y:Int},d x = k->d y = k->x ∈ S->x ≠ f->y ∈ S->y ≠ f->Zb8 d ps f x = Zb8 d ps f y->x = y
 | 0,x,y,hx,hy,h,hf,_,_,_=>by have:=T.pos h hf; omega
 | k + 1,x,y,hx,hy,h,hf,h',hf',e=>by
  have ux:=T.up1_prop h hf
  have uy:=T.up1_prop h' hf'
  by_cases hu:up1 d ps x = f
  ·have:d (up1 d ps y) = 0:=by rw [hu,T.d0] at ux; omega
   rw [T.root_base h hf hu,T.root_base h' hf' (T.zero uy.1 this)] at e
   exact e
  ·have hu':up1 d ps y ≠ f:=fun z=>by
    rw [z,T.d0] at uy
    exact hu (T.zero ux.1 (by omega))
   rw [T.root_step h hf hu,T.root_step h' hf' hu'] at e
   have ih:=T.inj k (by omega) (by omega) ux.1 hu uy.1 hu' e
   obtain ⟨q,hq,e1,e2⟩:=T.up1_of h hf
   obtain ⟨q',hq',e1',e2'⟩:=T.up1_of h' hf'
   by_cases hqq:q = q'
   ·rw [<- e1,<- e1',hqq]
   ·have:=Zhm (g:=pe d) hq hq' hqq (e2.symm.trans ih) e2'.symm
    have h1:=T.few _ uy.1 hu'
    unfold chn at h1
    omega
def cls (S:List Int) (d:Int->Nat) (ps:List Ed) (f a:Int):List Int:=(oth S f).filter fun x=>decide (Zb8 d ps f x = a)
theorem Zc5 {a x:Int}:x ∈ cls S d ps f a ↔ (x ∈ S/\x ≠ f)/\Zb8 d ps f x = a:=by unfold cls; rw [Jan,Za9]; simp
theorem Fk.desc (T:Fk S ps f d) {a:Int}:∀ (j:Nat) {y:Int} {k:Nat},y ∈ cls S d ps f a->1<=k->k + j = d y->∃ z ∈ cls S d ps f a,d z = k
 | 0,y,k,hy,h1,e=>⟨y,hy,by omega⟩
 | j + 1,y,k,hy,h1,e=>by
  obtain ⟨⟨h,hf⟩,hr⟩:=Zc5.mp hy
  have u:=T.up1_prop h hf
  have hu:up1 d ps y ≠ f:=fun z=>by rw [z,T.d0] at u; omega
  exact T.desc j (y:=up1 d ps y) (Zc5.mpr ⟨⟨u.1,hu⟩,by rw [<- T.root_step h hf hu]; exact hr⟩) h1 (by omega)
theorem Zbg {α:Type} [DecidableEq α]:∀ {l m:List α},l.Nodup->(∀ x ∈ l,x ∈ m)->l.length<=m.length
 | [],m,_,_=>Jb1 _
 | a :: l,m,nd,hs=>by
  have ha:a ∈ m:=hs a (by simp)
  have nd':=Jbl.mp nd
  have:=Zbg (l:=l) (m:=m.erase a) nd'.2 fun x hx=>(List.mem_erase_of_ne (show x ≠ a from fun z=>nd'.1 (z ▸ hx))).mpr (hs x (by simp [hx]))
  rw [Jc8 ha] at this
  have:=List.length_pos_of_mem ha
  rw [Jbm]
  omega
theorem Zbo {α β:Type} {g:α->β}:∀ {l:List α},l.Nodup->(∀ x ∈ l,∀ y ∈ l,g x = g y->x = y)->(l.map g).Nodup
 | [],_,_=>List.nodup_nil
 | a :: l,nd,h=>by
  have nd':=Jbl.mp nd
  rw [Ja1,Jbl]
  refine ⟨fun z=>?_,Zbo nd'.2 fun x hx y hy=>h x (by simp [hx]) y (by simp [hy])⟩
  obtain ⟨y,hy,e⟩:=Jao.mp z
  have:=h y (by simp [hy]) a (by simp) e
  exact nd'.1 (this ▸ hy)
theorem Fk.size (T:Fk S ps f d) {x:Int} (h:x ∈ S) (hf:x ≠ f) (h0:chn d ps x = 0):(cls S d ps f (Zb8 d ps f x)).length = d x:=by
 have hx:x ∈ cls S d ps f (Zb8 d ps f x):=Zc5.mpr ⟨⟨h,hf⟩,rfl⟩
 have top:∀ y ∈ cls S d ps f (Zb8 d ps f x),d y<=d x:=fun y hy=>Jag fun z=>by
  obtain ⟨y',hy',e'⟩:=T.desc (d y - (d x + 1)) hy (k:=d x + 1) (by omega) (by omega)
  obtain ⟨⟨h1,h2⟩,h3⟩:=Zc5.mp hy'
  have u:=T.up1_prop h1 h2
  have hu:up1 d ps y' ≠ f:=fun w=>by
   rw [w,T.d0] at u
   have:=T.pos h hf
   omega
  have e2:up1 d ps y' = x:=T.inj (d x) (by omega) rfl u.1 hu h hf (by rw [<- T.root_step h1 h2 hu]; exact h3)
  obtain ⟨q,hq,e3,e4⟩:=T.up1_of h1 h2
  have:0 < chn d ps x:=Jca.mpr (Jao.mpr ⟨q,hq,e4.symm.trans e2⟩)
  omega
 have ndc:(cls S d ps f (Zb8 d ps f x)).Nodup:=Ja2 (Jaw.trans Jaw) T.nd
 have ndm:((cls S d ps f (Zb8 d ps f x)).map d).Nodup:=Zbo ndc fun y hy z hz e=>by
  obtain ⟨⟨a1,a2⟩,a3⟩:=Zc5.mp hy
  obtain ⟨⟨b1,b2⟩,b3⟩:=Zc5.mp hz
  exact T.inj (d z) e rfl a1 a2 b1 b2 (a3.trans b3.symm)
 have l1:=Zbg (m:=List.range' 1 (d x)) ndm fun k hk=>by
  obtain ⟨y,hy,rfl⟩:=Jao.mp hk
  have:=top y hy
  obtain ⟨⟨a1,a2⟩,a3⟩:=Zc5.mp hy
  have:=T.pos a1 a2
  rw [Jeg]
  omega
 have l2:=Zbg (l:=List.range' 1 (d x)) (m:=(cls S d ps f (Zb8 d ps f x)).map d) (List.nodup_range' ..) fun k hk=>by
  rw [Jeg] at hk
  obtain ⟨z,hz,e⟩:=T.desc (d x - k) hx (k:=k) (by omega) (by omega)
  exact Jao.mpr ⟨z,hz,e⟩
 rw [Jaa,List.length_range'] at l1 l2
 omega
theorem Fk.leaf_one (T:Fk S ps f d) {x y:Int} (h:x ∈ S) (hf:x ≠ f) (h0:chn d ps x = 0) (h':y ∈ S) (hf':y ≠ f) (h0':chn d ps y = 0) (e:Zb8 d ps f x = Zb8 d ps f y):x = y:=by
 have a:=T.size h hf h0
 have b:=T.size h' hf' h0'
 rw [e] at a
 exact T.inj (d y) (by omega) rfl h hf h' hf' e
theorem Zja (d:Int->Nat):∀ (S:List Int),∃ B,∀ x ∈ S,d x<=B
 | []=>⟨0,by simp⟩
 | a :: S=>by
  obtain ⟨B,h⟩:=Zja d S
  refine ⟨max (d a) B,fun x hx=>?_⟩
  rcases Jam.mp hx with rfl | hx
  ·omega
  ·have:=h x hx
   omega
theorem Fk.leaf_go (T:Fk S ps f d) {B:Nat} (hB:∀ x ∈ S,d x<=B):∀ (k:Nat) {x:Int},B - d x<=k->x ∈ S->x ≠ f->∃ z ∈ S,z ≠ f/\chn d ps z = 0/\Zb8 d ps f z = Zb8 d ps f x
 | k,x,hk,h,hf=>by
  by_cases h0:chn d ps x = 0
  ·exact ⟨x,h,hf,h0,rfl⟩
  ·obtain ⟨q,hq,e⟩:=Jao.mp (Jca.mp (Nat.pos_of_ne_zero h0))
   obtain ⟨p1,p2,p3,p4⟩:=T.prop hq
   rw [e] at p4
   have b:=hB _ p1
   have u:up1 d ps (ce d q) = x:=(T.up1_ce hq).trans e
   have r:Zb8 d ps f (ce d q) = Zb8 d ps f x:=by rw [T.root_step p1 p2 (by rw [u]; exact hf),u]
   match k with
   | 0=>omega
   | k + 1=>
    obtain ⟨z,z1,z2,z3,z4⟩:=T.leaf_go hB k (x:=ce d q) (by omega) p1 p2
    exact ⟨z,z1,z2,z3,z4.trans r⟩
theorem Fk.leaf (T:Fk S ps f d) {x:Int} (h:x ∈ S) (hf:x ≠ f):∃ z ∈ S,z ≠ f/\chn d ps z = 0/\Zb8 d ps f z = Zb8 d ps f x:=by
 obtain ⟨B,hB⟩:=Zja d S
 exact T.leaf_go hB (B - d x) (Jae _) h hf
def lvs (S:List Int) (ps:List Ed):List Int:=S.filter fun x=>decide (deg ps x = 1)
theorem Fk.arms (T:Fk S ps f d) (hf3:deg ps f ≠ 1) {R:List Int} (nR:R.Nodup) (hR:∀ r ∈ R,r ∈ S/\r ≠ f) (hone:∀ r ∈ R,∀ r' ∈ R,Zb8 d ps f r = Zb8 d ps f r'->r = r') (hall:∀ x ∈ S,x ≠ f->∃ r ∈ R,Zb8 d ps f r = Zb8 d ps f x):
  (R.map fun r=>(cls S d ps f (Zb8 d ps f r)).length).Perm ((lvs S ps).map d):=by
 have ml:∀ x,x ∈ lvs S ps ↔ x ∈ S/\x ≠ f/\chn d ps x = 0:=fun x=>by
  unfold lvs
  rw [Jan,Jbx]
  constructor
  ·rintro ⟨h,e⟩
   have hf:x ≠ f:=fun z=>hf3 (z ▸ e)
   have:=T.deg_x h hf
   exact ⟨h,hf,by omega⟩
  ·rintro ⟨h,hf,e⟩
   exact ⟨h,by have:=T.deg_x h hf; omega⟩
 have nL:(lvs S ps).Nodup:=Ja2 Jaw T.nd
 have n1:(R.map (Zb8 d ps f)).Nodup:=Zbo nR hone
 have n2:((lvs S ps).map (Zb8 d ps f)).Nodup:=Zbo nL fun x hx y hy e=>by
  obtain ⟨a1,a2,a3⟩:=(ml x).mp hx
  obtain ⟨b1,b2,b3⟩:=(ml y).mp hy
  exact T.leaf_one a1 a2 a3 b1 b2 b3 e
 have s1:∀ a ∈ R.map (Zb8 d ps f),a ∈ (lvs S ps).map (Zb8 d ps f):=fun a ha=>by
  obtain ⟨r,hr,rfl⟩:=Jao.mp ha
  obtain ⟨z,z1,z2,z3,z4⟩:=T.leaf (hR r hr).1 (hR r hr).2
  exact Jao.mpr ⟨z,(ml z).mpr ⟨z1,z2,z3⟩,z4⟩
 have s2:∀ a ∈ (lvs S ps).map (Zb8 d ps f),a ∈ R.map (Zb8 d ps f):=fun a ha=>by
  obtain ⟨x,hx,rfl⟩:=Jao.mp ha
  obtain ⟨a1,a2,_⟩:=(ml x).mp hx
  obtain ⟨r,hr,e⟩:=hall x a1 a2
  exact Jao.mpr ⟨r,hr,e⟩
 have p:=(Zci n1 s1 (Zbg n2 s2)).map fun a=>(cls S d ps f a).length
 rw [Jcd,Jcd] at p
 refine p.trans (List.Perm.of_eq (Jcg fun x hx=>?_))
 obtain ⟨a1,a2,a3⟩:=(ml x).mp hx
 exact T.size a1 a2 a3
def Conn (S:List Int) (es:List Ed):Prop:=∀ h:Int->Int,(∀ q ∈ es,h q.1 = h q.2)->∀ x ∈ S,∀ y ∈ S,h x = h y
def Zob (A:List Int) (es:List Ed) (f:Int) (d:Int->Nat):Prop:=∀ x ∈ A,x ≠ f->∃ q ∈ es,(q.1 = x/\q.2 ∈ A/\d q.2 + 1 = d x)\/(q.2 = x/\q.1 ∈ A/\d q.1 + 1 = d x)
theorem Zmd {es:List Ed} (hc:Conn S es) (hin:∀ q ∈ es,q.1 ∈ S/\q.2 ∈ S) {A:List Int} {d:Int->Nat} (hA:∀ x ∈ A,x ∈ S) (hf:f ∈ A) (hne:∃ y ∈ S,y ∉ A) (d0:d f = 0) (hp:Zob A es f d):
  ∃ v ∈ S,v ∉ A/\∃ d',d' f = 0/\Zob (v :: A) es f d':=by
 have cross:∃ q ∈ es,¬ (q.1 ∈ A ↔ q.2 ∈ A):=Jag fun z=>by
  obtain ⟨y,hy,ny⟩:=hne
  have:=hc (fun x=>if x ∈ A then 1 else 0) (fun q hq=>by
   have:q.1 ∈ A ↔ q.2 ∈ A:=Jag fun w=>z ⟨q,hq,w⟩
   by_cases h:q.1 ∈ A
   ·rw [if_pos h,if_pos (this.mp h)]
   ·rw [if_neg h,if_neg (fun w=>h (this.mpr w))]) f (hA f hf) y hy
  rw [if_pos hf,if_neg ny] at this
  exact absurd this (by decide)
 obtain ⟨q,hq,hx⟩:=cross
 have go:∀ u v,u ∈ A->v ∈ S->v ∉ A->((q.1 = v/\q.2 = u)\/(q.2 = v/\q.1 = u))->∃ v ∈ S,v ∉ A/\∃ d',d' f = 0/\Zob (v :: A) es f d':=fun u v hu hv nv hq2=>by
  have nf:f ≠ v:=fun z=>nv (z ▸ hf)
  refine ⟨v,hv,nv,fun x=>if x = v then d u + 1 else d x,by simp only; rw [if_neg nf]; exact d0,fun x hx xf=>?_⟩
  rcases Jam.mp hx with rfl | hxA
  ·refine ⟨q,hq,?_⟩
   have nu:u ≠ x:=fun z=>nv (z ▸ hu)
   rcases hq2 with ⟨e1,e2⟩ | ⟨e1,e2⟩
   ·exact .inl ⟨e1,by rw [e2]; simp [hu],by rw [e2]; simp [nu]⟩
   ·exact .inr ⟨e1,by rw [e2]; simp [hu],by rw [e2]; simp [nu]⟩
  ·have nx:x ≠ v:=fun z=>nv (z ▸ hxA)
   obtain ⟨q',hq',h⟩:=hp x hxA xf
   refine ⟨q',hq',?_⟩
   rcases h with ⟨e1,e2,e3⟩ | ⟨e1,e2,e3⟩
   ·have n2:q'.2 ≠ v:=fun z=>nv (z ▸ e2)
    exact .inl ⟨e1,by simp [e2],by simp only; rw [if_neg n2,if_neg nx]; exact e3⟩
   ·have n2:q'.1 ≠ v:=fun z=>nv (z ▸ e2)
    exact .inr ⟨e1,by simp [e2],by simp only; rw [if_neg n2,if_neg nx]; exact e3⟩
 obtain ⟨i1,i2⟩:=hin q hq
 by_cases h1:q.1 ∈ A
 ·have h2:q.2 ∉ A:=fun w=>hx ⟨fun _=>w,fun _=>h1⟩
  exact go q.1 q.2 h1 i2 h2 (.inr ⟨rfl,rfl⟩)
 ·have h2:q.2 ∈ A:=Jag fun w=>hx ⟨fun z=>absurd z h1,fun z=>absurd z w⟩
  exact go q.2 q.1 h2 i1 h1 (.inl ⟨rfl,rfl⟩)
theorem Zih {es:List Ed} (hc:Conn S es) (hin:∀ q ∈ es,q.1 ∈ S/\q.2 ∈ S) (nS:S.Nodup):∀ (k:Nat) {A:List Int} {d:Int->Nat},S.length - A.length<=k->A.Nodup->(∀ x ∈ A,x ∈ S)->f ∈ A->d f = 0->Zob A es f d->
  ∃ d':Int->Nat,d' f = 0/\∀ x ∈ S,x ≠ f->∃ q ∈ es,(q.1 = x/\d' q.2 + 1 = d' x)\/(q.2 = x/\d' q.1 + 1 = d' x)
 | k,A,d,hk,nA,hA,hf,d0,hp=>by
  by_cases hall:∀ y ∈ S,y ∈ A
  ·refine ⟨d,d0,fun x hx xf=>?_⟩
   obtain ⟨q,hq,h⟩:=hp x (hall x hx) xf
   exact ⟨q,hq,h.imp (fun z=>⟨z.1,z.2.2⟩) (fun z=>⟨z.1,z.2.2⟩)⟩
  ·have hne:∃ y ∈ S,y ∉ A:=Jag fun z=>hall fun y hy=>Jag fun w=>z ⟨y,hy,w⟩
   obtain ⟨v,hv,nv,d',e0,hp'⟩:=Zmd hc hin hA hf hne d0 hp
   have nvA:(v :: A).Nodup:=Jbl.mpr ⟨nv,nA⟩
   have sub:∀ x ∈ v :: A,x ∈ S:=fun x hx=>by
    rcases Jam.mp hx with rfl | hx
    ·exact hv
    ·exact hA x hx
   have:=Zbg nvA sub
   rw [Jbm] at this
   match k with
   | 0=>omega
   | k + 1=>exact Zih hc hin nS k (A:=v :: A) (by rw [Jbm]; omega) nvA sub (by simp [hf]) e0 hp'
theorem Zmc {es:List Ed} (hc:Conn S es) (hin:∀ q ∈ es,q.1 ∈ S/\q.2 ∈ S) (nS:S.Nodup) (hf:f ∈ S) (hl:es.length + 1 = S.length):∃ d:Int->Nat,d f = 0/\Tr S es f d:=by
 obtain ⟨d,e0,hp⟩:=Zih (f:=f) hc hin nS S.length (A:=[f]) (d:=fun _=>0) (by omega) (by simp) (fun x hx=>by rw [Jbg.mp hx]; exact hf) (by simp) rfl (fun x hx xf=>absurd (Jbg.mp hx) xf)
 exact ⟨d,e0,nS,hf,hin,hp,hl⟩
end
end L3
namespace L3
def sI {α:Type} (g:α->Int):List α->Int
 | []=>0
 | x :: l=>g x + sI g l
section
variable {α β:Type}
theorem Zkl {g:α->Int}:∀ {l m:List α},sI g (l ++ m) = sI g l + sI g m
 | [],m=>by simp [sI]
 | x :: l,m=>by
  have:=Zkl (g:=g) (l:=l) (m:=m)
  simp only [List.cons_append,sI]
  omega
theorem Ze6 {g:α->Int} {l m:List α} (p:l.Perm m):sI g l = sI g m:=by
 induction p with
 | nil=>rfl
 | cons x _ ih=>simp only [sI]; omega
 | swap x y l=>simp only [sI]; omega
 | trans _ _ h1 h2=>exact h1.trans h2
theorem Zap {g h:α->Int}:∀ {l:List α},(∀ x ∈ l,g x = h x)->sI g l = sI h l
 | [],_=>rfl
 | x :: l,e=>by simp only [sI]; rw [e x (by simp),Zap fun y hy=>e y (by simp [hy])]
theorem Zki {f:β->α} {g:α->Int}:∀ {l:List β},sI g (l.map f) = sI (fun x=>g (f x)) l
 | []=>rfl
 | x :: l=>by simp only [Ja1,sI]; rw [Zki]
theorem Zeo {g h:α->Int}:∀ {l:List α},sI (fun x=>g x + h x) l = sI g l + sI h l
 | []=>rfl
 | x :: l=>by have:=Zeo (g:=g) (h:=h) (l:=l); simp only [sI]; omega
theorem Zds {g h:α->Int}:∀ {l:List α},sI (fun x=>g x - h x) l = sI g l - sI h l
 | []=>rfl
 | x :: l=>by have:=Zds (g:=g) (h:=h) (l:=l); simp only [sI]; omega
theorem Ze7 {c:Int} {g:α->Int}:∀ {l:List α},sI (fun x=>c * g x) l = c * sI g l
 | []=>by simp [sI]
 | x :: l=>by have:=Ze7 (c:=c) (g:=g) (l:=l); simp only [sI]; rw [this,Int.mul_add]
theorem Zbr {c:Int}:∀ {l:List α},sI (fun _=>c) l = c * (l.length:Nat)
 | []=>by simp [sI]
 | x :: l=>by
  have:=Zbr (c:=c) (l:=l)
  simp only [sI,Jbm]
  rw [this,Int.natCast_add,Int.mul_add]
  omega
theorem Zg9 {g h:α->Int}:∀ {l:List α},(∀ x ∈ l,g x<=h x)->sI g l<=sI h l
 | [],_=>Int.le_refl _
 | x :: l,e=>by have:=Zg9 (l:=l) fun y hy=>e y (by simp [hy]); have:=e x (by simp); simp only [sI]; omega
theorem Zmz {g:α->Int} {l:List α} (h:∀ x ∈ l,0<=g x):0<=sI g l:=by
 have:=Zg9 (g:=fun _=>0) (h:=g) (l:=l) h
 rw [Zbr] at this
 omega
theorem Zcs {g:α->Int} {l:List α} (h:∀ x ∈ l,g x = 0):sI g l = 0:=by
 rw [Zap (h:=fun _=>0) h,Zbr]
 omega
theorem Zd1 {g:α->Int}:∀ {l:List α} {x:α},x ∈ l->(∀ y ∈ l,0<=g y)->g x<=sI g l
 | y :: l,x,hx,h=>by
  have h1:=h y (by simp)
  have h2:=Zmz (g:=g) (l:=l) fun z hz=>h z (by simp [hz])
  simp only [sI]
  rcases Jam.mp hx with rfl | hx
  ·omega
  ·have:=Zd1 hx fun z hz=>h z (by simp [hz])
   omega
theorem Zkh {g:α->Int}:∀ {l:List α} {x y:α},x ∈ l->y ∈ l->x ≠ y->(∀ z ∈ l,0<=g z)->g x + g y<=sI g l
 | a :: l,x,y,hx,hy,n,h=>by
  have h1:=h a (by simp)
  have h':=fun z (hz:z ∈ l)=>h z (Ja7 _ hz)
  simp only [sI]
  rcases Jam.mp hx with e | hx
  ·rcases Jam.mp hy with e' | hy
   ·exact absurd (e.trans e'.symm) n
   ·have:=Zd1 hy h'
    subst e
    omega
  ·rcases Jam.mp hy with e' | hy
   ·have:=Zd1 hx h'
    subst e'
    omega
   ·have:=Zkh hx hy n h'
    omega
theorem Zfy {g:α->Int} {l m:List α} (s:l.Sublist m) (h:∀ x ∈ m,0<=g x):sI g l<=sI g m:=by
 induction s with
 | slnil=>exact Int.le_refl _
 | cons a _ ih=>have:=ih fun x hx=>h x (by simp [hx]); have:=h a (by simp); simp only [sI]; omega
 | cons_cons a _ ih=>have:=ih fun x hx=>h x (by simp [hx]); simp only [sI]; omega
theorem Ze8 {g:α->Int} {p:α->Bool}:∀ {l:List α},(∀ x ∈ l,p x = false->g x = 0)->sI g l = sI g (l.filter p)
 | [],_=>rfl
 | x :: l,h=>by
  have ih:=Ze8 (g:=g) (p:=p) (l:=l) fun y hy=>h y (by simp [hy])
  cases e:p x with
  | true=>rw [List.filter_cons_of_pos e]; simp only [sI]; omega
  | false=>
   rw [List.filter_cons_of_neg (by simp [e])]
   have:=h x (by simp) e
   simp only [sI]
   omega
theorem Zkk {g:α->Int}:∀ {L:List (List α)},sI g L.flatten = sI (fun l=>sI g l) L
 | []=>rfl
 | l :: L=>by have:=Zkk (g:=g) (L:=L); simp only [Jc2,Zkl,sI]; omega
theorem Zkj {g:α->Int} (lab:α->Int):∀ {R:List Int} {l:List α},R.Nodup->(∀ x ∈ l,lab x ∈ R)->sI g l = sI (fun k=>sI g (l.filter fun x=>decide (lab x = k))) R
 | [],[],_,_=>rfl
 | [],x :: l,_,h=>absurd (h x (by simp)) (by simp)
 | r :: R,l,nd,h=>by
  have nd':=Jbl.mp nd
  have ih:=Zkj (g:=g) lab (R:=R) (l:=l.filter fun x=>!decide (lab x = r)) nd'.2 fun x hx=>by
   obtain ⟨h1,h2⟩:=Jan.mp hx
   rcases Jam.mp (h x h1) with e | e
   ·simp [e] at h2
   ·exact e
  have e:sI (fun k=>sI g ((l.filter fun x=>!decide (lab x = r)).filter fun x=>decide (lab x = k))) R = sI (fun k=>sI g (l.filter fun x=>decide (lab x = k))) R:=Zap fun k hk=>by
   rw [List.filter_filter]
   congr 1
   refine Jdi fun x _=>?_
   by_cases z:lab x = k
   ·have:lab x ≠ r:=fun u=>nd'.1 (by rw [<- u,z]; exact hk)
    simp [z]
    rw [<- z]
    exact this
   ·simp [z]
  rw [e] at ih
  have sp:∀ l:List α,sI g l = sI g (l.filter fun x=>decide (lab x = r)) + sI g (l.filter fun x=>!decide (lab x = r)):=fun l=>by
   induction l with
   | nil=>rfl
   | cons x l ih=>
    by_cases z:lab x = r
    ·simp [z,sI]; omega
    ·simp [z,sI]; omega
  have:=sp l
  simp only [sI]
  omega
end
section
variable {pts:List Int} {ps:List Ed}
def qf (pts:List Int) (ps:List Ed) (x:Int->Int):Int:=sI (fun p=>x p * x p) pts - sI (fun e=>x e.1 * x e.2) ps
def nb (ps:List Ed) (x:Int->Int) (p:Int):Int:=sI (fun e=>(if e.1 = p then x e.2 else 0) + (if e.2 = p then x e.1 else 0)) ps
def bf (ps:List Ed) (x:Int->Int) (p:Int):Int:=2 * x p - nb ps x p
def Ins (pts:List Int) (ps:List Ed):Prop:=∀ e ∈ ps,e.1 ∈ pts/\e.2 ∈ pts
theorem Zoh {y:Int->Int} {a c:Int}:∀ {l:List Int},l.Nodup->a ∈ l->sI (fun p=>y p * (if a = p then c else 0)) l = y a * c
 | p :: l,nd,ha=>by
  have nd':=Jbl.mp nd
  simp only [sI]
  rcases Jam.mp ha with e | h
  ·subst e
   rw [if_pos rfl,Zcs fun q hq=>by rw [if_neg (show ¬ a = q from fun z=>nd'.1 (z ▸ hq)),Jdn]]
   omega
  ·rw [if_neg (show ¬ a = p from fun z=>nd'.1 (z ▸ h)),Zoh nd'.2 h]
   omega
theorem dbl {x y:Int->Int} (nd:pts.Nodup):∀ {ps:List Ed},Ins pts ps->sI (fun p=>y p * nb ps x p) pts = sI (fun e=>y e.1 * x e.2 + y e.2 * x e.1) ps
 | [],_=>by
  unfold nb
  exact Zcs fun p _=>by simp [sI]
 | e :: ps,h=>by
  have ih:=dbl (x:=x) (y:=y) nd (ps:=ps) fun q hq=>h q (by simp [hq])
  have he:=h e (by simp)
  have e1:∀ p,y p * nb (e :: ps) x p = (y p * (if e.1 = p then x e.2 else 0) + y p * (if e.2 = p then x e.1 else 0)) + y p * nb ps x p:=fun p=>by
   unfold nb
   simp only [sI]
   rw [Int.mul_add,Int.mul_add]
  rw [Zap fun p _=>e1 p,Zeo,Zeo,ih,Zoh nd he.1,Zoh nd he.2]
  rfl
theorem bil {x y:Int->Int} (nd:pts.Nodup) (h:Ins pts ps):sI (fun p=>y p * bf ps x p) pts = 2 * sI (fun p=>y p * x p) pts - sI (fun e=>y e.1 * x e.2 + y e.2 * x e.1) ps:=by
 rw [<- dbl nd h,<- Ze7,<- Zds]
 refine Zap fun p _=>?_
 unfold bf
 grind
theorem two_q {x:Int->Int} (nd:pts.Nodup) (h:Ins pts ps):sI (fun p=>x p * bf ps x p) pts = 2 * qf pts ps x:=by
 rw [bil nd h]
 unfold qf
 have:sI (fun e=>x e.1 * x e.2 + x e.2 * x e.1) ps = 2 * sI (fun e:Ed=>x e.1 * x e.2) ps:=by
  rw [<- Ze7]
  refine Zap fun e _=>?_
  grind
 rw [this]
 omega
theorem bf_sym {x y:Int->Int} (nd:pts.Nodup) (h:Ins pts ps):sI (fun p=>y p * bf ps x p) pts = sI (fun p=>x p * bf ps y p) pts:=by
 rw [bil nd h,bil nd h]
 have e1:sI (fun p=>y p * x p) pts = sI (fun p=>x p * y p) pts:=Zap fun p _=>Int.mul_comm _ _
 have e2:sI (fun e=>y e.1 * x e.2 + y e.2 * x e.1) ps = sI (fun e:Ed=>x e.1 * y e.2 + x e.2 * y e.1) ps:=Zap fun e _=>by grind
 rw [e1,e2]
def rs (x:Int->Int) (p:Int):Int->Int:=fun r=>if r = p then x p + 1 else x r
def Zet (ps:List Ed) (p:Int):Int:=sI (fun e=>if e.1 = p/\e.2 = p then 1 else 0) ps
theorem q_rs {x:Int->Int} {p:Int} (nd:pts.Nodup) (hp:p ∈ pts):qf pts ps (rs x p) = qf pts ps x + 1 + bf ps x p - Zet ps p:=by
 have e1:sI (fun r=>rs x p r * rs x p r) pts = sI (fun r=>x r * x r) pts + (2 * x p + 1):=by
  have:∀ r ∈ pts,rs x p r * rs x p r = x r * x r + 1 * (if p = r then 2 * x p + 1 else 0):=fun r _=>by
   unfold rs
   by_cases z:r = p
   ·subst z
    rw [if_pos rfl,if_pos rfl]
    grind
   ·rw [if_neg z,if_neg (fun u=>z u.symm)]
    omega
  rw [Zap this,Zeo,Zoh (y:=fun _=>1) nd hp]
  omega
 have e2:sI (fun e:Ed=>rs x p e.1 * rs x p e.2) ps = sI (fun e:Ed=>x e.1 * x e.2) ps + (nb ps x p + Zet ps p):=by
  unfold nb Zet
  rw [<- Zeo,<- Zeo]
  refine Zap fun e _=>?_
  unfold rs
  by_cases z:e.1 = p
  ·by_cases u:e.2 = p
   ·simp [z,u]; grind
   ·simp [z,u]; grind
  ·by_cases u:e.2 = p
   ·simp [z,u]; grind
   ·simp [z,u]
 unfold qf bf
 rw [e1,e2]
 omega
theorem Zgr {p:Int}:0<=Zet ps p:=Zmz fun e _=>by split <;> omega
end
end L3
namespace L3
section
variable {pts:List Int} {ps K:List Ed}
def Low (pts:List Int) (ps:List Ed) (x:Int->Int):Prop:=(∀ p ∈ pts,0<=x p)/\(∃ p ∈ pts,x p ≠ 0)/\qf pts ps x<=0
def PosN (pts:List Int) (ps:List Ed):Prop:=∀ x:Int->Int,(∀ p ∈ pts,0<=x p)->(∃ p ∈ pts,x p ≠ 0)->0 < qf pts ps x
theorem Zgi {x y:Int->Int} (h:Ins pts ps) (e:∀ p ∈ pts,x p = y p):qf pts ps x = qf pts ps y:=by
 have e1:sI (fun p=>x p * x p) pts = sI (fun p=>y p * y p) pts:=Zap fun p hp=>by rw [e p hp]
 have e2:sI (fun q:Ed=>x q.1 * x q.2) ps = sI (fun q:Ed=>y q.1 * y q.2) ps:=Zap fun q hq=>by rw [e _ (h q hq).1,e _ (h q hq).2]
 unfold qf
 rw [e1,e2]
theorem PosN.sub {ps':List Ed} (h:PosN pts ps) (hi:Ins pts ps) (s:ps'.Sublist ps):PosN pts ps':=fun x h0 h1=>by
 have:=h x h0 h1
 have:=Zfy (g:=fun e:Ed=>x e.1 * x e.2) s fun e he=>Jcj (h0 _ (hi e he).1) (h0 _ (hi e he).2)
 unfold qf at *
 omega
theorem Zlh:∀ N:Nat,(∃ x,Low pts ps x/\sI x pts<=N)->∃ δ,Low pts ps δ/\sI δ pts<=N/\∀ y,Low pts ps y->sI δ pts<=sI y pts
 | 0,⟨x,hx,hs⟩=>⟨x,hx,hs,fun y hy=>by have:=Zmz hy.1; omega⟩
 | N + 1,⟨x,hx,hs⟩=>by
  by_cases h:∃ y,Low pts ps y/\sI y pts<=N
  ·obtain ⟨δ,h1,h2,h3⟩:=Zlh N h
   exact ⟨δ,h1,by omega,h3⟩
  ·refine ⟨x,hx,hs,fun y hy=>?_⟩
   have:¬ sI y pts<=N:=fun z=>h ⟨y,hy,z⟩
   omega
def ds (x:Int->Int) (p:Int):Int->Int:=fun r=>if r = p then x p - 1 else x r
theorem nb_ds {x:Int->Int} {p:Int}:nb ps (ds x p) p = nb ps x p - 2 * Zet ps p:=by
 unfold nb Zet
 rw [<- Ze7,<- Zds]
 refine Zap fun e _=>?_
 unfold ds
 by_cases z:e.1 = p
 ·by_cases u:e.2 = p
  ·simp [z,u]; omega
  ·simp [z,u]
 ·by_cases u:e.2 = p
  ·simp [z,u]
  ·simp [z,u]
theorem q_ds {x:Int->Int} {p:Int} (nd:pts.Nodup) (hp:p ∈ pts):qf pts ps (ds x p) = qf pts ps x + 1 - bf ps x p - Zet ps p:=by
 have e:rs (ds x p) p = x:=funext fun r=>by
  unfold rs ds
  by_cases z:r = p
  ·subst z; simp
  ·simp [z]
 have:=q_rs (ps:=ps) (x:=ds x p) nd hp
 rw [e] at this
 unfold bf at *
 rw [nb_ds] at this
 have:ds x p p = x p - 1:=by unfold ds; simp
 omega
theorem sI_ds {x:Int->Int} {p:Int} (nd:pts.Nodup) (hp:p ∈ pts):sI (ds x p) pts = sI x pts - 1:=by
 have:∀ r ∈ pts,ds x p r = x r - 1 * (if p = r then 1 else 0):=fun r _=>by
  unfold ds
  by_cases z:r = p
  ·subst z; simp
  ·rw [if_neg z,if_neg (fun u=>z u.symm)]; omega
 rw [Zap this,Zds,Zoh (y:=fun _=>1) nd hp]
 omega
theorem q_er {a:Ed} {x:Int->Int} (h:a ∈ K):qf pts K x = qf pts (K.erase a) x - x a.1 * x a.2:=by
 unfold qf
 rw [Ze6 (Jdt h)]
 simp only [sI]
 omega
def z0:Int->Int:=fun _=>0
theorem z0_at (p:Int):z0 p = 0:=rfl
theorem q_unit {p:Int} (nd:pts.Nodup) (hp:p ∈ pts):qf pts ps (rs z0 p) = 1 - Zet ps p:=by
 rw [q_rs nd hp]
 have e1:qf pts ps z0 = 0:=by
  have h1:sI (fun p=>z0 p * z0 p) pts = 0:=Zcs fun _ _=>rfl
  have h2:sI (fun e:Ed=>z0 e.1 * z0 e.2) ps = 0:=Zcs fun _ _=>rfl
  unfold qf
  omega
 have e2:nb ps z0 p = 0:=Zcs fun e _=>by simp [z0]
 unfold bf
 have:=z0_at p
 omega
theorem Zla {g:Int->Int}:∀ {l:List Int},(∀ p ∈ l,g p<=0)->sI g l = 0->∀ p ∈ l,g p = 0
 | a :: l,h,e,p,hp=>by
  simp only [sI] at e
  have h1:=h a (by simp)
  have h2:sI g l<=0:=by
   have:=Zg9 (g:=g) (h:=fun _=>0) (l:=l) fun y hy=>h y (by simp [hy])
   rw [Zbr] at this
   omega
  rcases Jam.mp hp with rfl | hp
  ·omega
  ·exact Zla (fun y hy=>h y (by simp [hy])) (by omega) p hp
def Flat (pts:List Int) (K:List Ed) (δ:Int->Int):Prop:=∀ p ∈ pts,bf K δ p = 0/\Zet K p = 0
theorem flat_of {δ:Int->Int} {a:Ed} (nd:pts.Nodup) (ins:Ins pts K) (hl:Low pts K δ) (mnδ:∀ y,Low pts K y->sI δ pts<=sI y pts) (ends:∀ e ∈ K,1 - qf pts K δ<=δ e.1 * δ e.2) (ha:a ∈ K) (hq:0 < qf pts K (rs z0 a.1)) (one:∀ e ∈ K,1<=δ e.1/\1<=δ e.2):Flat pts K δ:=by
 obtain ⟨h0,_,h2⟩:=hl
 obtain ⟨i1,i2⟩:=ins a ha
 rw [q_unit nd i1] at hq
 have ne:a.1 ≠ a.2:=fun z=>by
  have:(1:Int)<=Zet K a.1:=by
   have:(if a.1 = a.1/\a.2 = a.1 then (1:Int) else 0)<=_:=Zd1 (g:=fun e:Ed=>if e.1 = a.1/\e.2 = a.1 then (1:Int) else 0) ha fun e _=>by split <;> omega
   rw [if_pos ⟨rfl,z.symm⟩] at this
   exact this
  omega
 obtain ⟨o1,o2⟩:=one a ha
 have gr:∀ p ∈ pts,1<=δ p->bf K δ p + Zet K p<=qf pts K δ:=fun p hp d1=>by
  have nz:∃ r ∈ pts,ds δ p r ≠ 0:=by
   by_cases z:a.1 = p
   ·exact ⟨a.2,i2,by unfold ds; rw [if_neg (fun u=>ne (z.trans u.symm))]; omega⟩
   ·exact ⟨a.1,i1,by unfold ds; rw [if_neg z]; omega⟩
  have nn:∀ r ∈ pts,0<=ds δ p r:=fun r hr=>by
   unfold ds
   split
   ·omega
   ·exact h0 r hr
  have:0 < qf pts K (ds δ p):=Jag fun z=>by
   have:=mnδ (ds δ p) ⟨nn,nz,by omega⟩
   rw [sI_ds nd hp] at this
   omega
  rw [q_ds nd hp] at this
  omega
 have two:=two_q (x:=δ) nd ins
 have S2:=Zkh i1 i2 ne h0
 have q0:qf pts K δ = 0:=Jag fun z=>by
  have hle:sI (fun p=>δ p * bf K δ p) pts<=sI (fun p=>qf pts K δ * δ p) pts:=Zg9 fun p hp=>by
   by_cases d0:1<=δ p
   ·have:=gr p hp d0
    have:=Zgr (ps:=K) (p:=p)
    rw [Int.mul_comm (qf pts K δ)]
    exact Int.mul_le_mul_of_nonneg_left (by omega) (h0 p hp)
   ·have:=h0 p hp
    have:δ p = 0:=by omega
    rw [this]
    omega
  rw [Ze7,two] at hle
  have hS:sI δ pts<=2:=Jag fun u=>by
   have:=Int.mul_le_mul_of_nonpos_left (show qf pts K δ<=0 from h2) (show 3<=sI δ pts by omega)
   omega
  have e1:δ a.1 = 1:=by omega
  have e2:δ a.2 = 1:=by omega
  have:=ends a ha
  rw [e1,e2] at this
  omega
 have tz:=Zla (g:=fun p=>δ p * bf K δ p) (l:=pts) (fun p hp=>by
  by_cases d0:1<=δ p
  ·have:=gr p hp d0
   have:=Zgr (ps:=K) (p:=p)
   exact Int.mul_nonpos_of_nonneg_of_nonpos (h0 p hp) (by omega)
  ·have:=h0 p hp
   have:δ p = 0:=by omega
   show δ p * _<=0
   rw [this]
   omega) (by omega)
 intro p hp
 by_cases d0:1<=δ p
 ·have h3:=gr p hp d0
  have h4:=Zgr (ps:=K) (p:=p)
  have h5:δ p * bf K δ p = 0:=tz p hp
  rcases Int.mul_eq_zero.mp h5 with z | z <;> omega
 ·have dz:δ p = 0:=by have:=h0 p hp; omega
  have no:∀ e ∈ K,e.1 ≠ p/\e.2 ≠ p:=fun e he=>by
   obtain ⟨u1,u2⟩:=one e he
   exact ⟨fun z=>by rw [z] at u1; omega,fun z=>by rw [z] at u2; omega⟩
  have e1:nb K δ p = 0:=Zcs fun e he=>by rw [if_neg (no e he).1,if_neg (no e he).2]; rfl
  have e2:Zet K p = 0:=Zcs fun e he=>by rw [if_neg fun z=>(no e he).1 z.1]
  unfold bf
  omega
theorem nb_nn {y:Int->Int} {p:Int} (ins:Ins pts K) (h:∀ r ∈ pts,0<=y r):0<=nb K y p:=Zmz fun e he=>by
 have h1:=h _ (ins e he).1
 have h2:=h _ (ins e he).2
 split <;> split <;> omega
theorem nb_sub {x y:Int->Int} {p:Int}:nb K (fun r=>x r - y r) p = nb K x p - nb K y p:=by
 unfold nb
 rw [<- Zds]
 refine Zap fun e _=>?_
 dsimp only
 split <;> split <;> omega
theorem Zjy {δ x:Int->Int} {p:Int} (nd:pts.Nodup) (ins:Ins pts K) (fl:Flat pts K δ) (hx:∀ r ∈ pts,0<=x r/\x r<=δ r) (hq:0 < qf pts K x) (hp:p ∈ pts) (mn:∀ r ∈ pts,qf pts K (rs x p)<=qf pts K (rs x r)):x p + 1<=δ p:=by
 have neg:∃ r ∈ pts,bf K x r < 0:=Jag fun z=>by
  have nn:∀ r ∈ pts,0<=bf K x r:=fun r hr=>Jag fun u=>z ⟨r,hr,by omega⟩
  have e0:sI (fun r=>δ r * bf K x r) pts = 0:=by
   rw [bf_sym nd ins]
   exact Zcs fun r hr=>by rw [(fl r hr).1,Jdn]
  have le:sI (fun r=>x r * bf K x r) pts<=sI (fun r=>δ r * bf K x r) pts:=Zg9 fun r hr=>Int.mul_le_mul_of_nonneg_right (hx r hr).2 (nn r hr)
  rw [two_q nd ins] at le
  omega
 obtain ⟨r,hr,hn⟩:=neg
 have h1:=mn r hr
 rw [q_rs nd hp,q_rs nd hr,(fl p hp).2,(fl r hr).2] at h1
 have h2:=(hx p hp).2
 refine Jag fun z=>?_
 have hy:=nb_nn (K:=K) (y:=fun r=>δ r - x r) (p:=p) ins fun r hr=>by have:=(hx r hr).2; omega
 rw [nb_sub] at hy
 have h3:=(fl p hp).1
 unfold bf at *
 omega
theorem climb {N:Nat} (nd:pts.Nodup) (ins:Ins pts K) (low:∃ x,Low pts K x/\sI x pts<=N) (mn:∀ a ∈ K,PosN pts (K.erase a)):
  ∃ a K',K = a :: K'/\∃ J:(Int->Int)->Prop,J (rs z0 a.1)/\(∀ x,J x->(∀ p ∈ pts,0<=x p)/\sI x pts<=N/\∃ p ∈ pts,x p ≠ 0) /\
   ∀ x p,J x->0 < qf pts K x->p ∈ pts->(∀ r ∈ pts,qf pts K (rs x p)<=qf pts K (rs x r))->J (rs x p):=by
 obtain ⟨δ,hl,hN,mnδ⟩:=Zlh N low
 have ends:∀ e ∈ K,1 - qf pts K δ<=δ e.1 * δ e.2:=fun e he=>by
  have:=mn e he δ hl.1 hl.2.1
  rw [q_er he]
  omega
 have one:∀ e ∈ K,1<=δ e.1/\1<=δ e.2:=fun e he=>by
  have h1:=ends e he
  have h2:=hl.2.2
  have n1:=hl.1 _ (ins e he).1
  have n2:=hl.1 _ (ins e he).2
  constructor
  ·refine Jag fun z=>?_
   have:δ e.1 = 0:=by omega
   rw [this] at h1
   omega
  ·refine Jag fun z=>?_
   have:δ e.2 = 0:=by omega
   rw [this,Jdn] at h1
   omega
 match K,ins,mn,mnδ,hl,ends,one with
 | [],_,_,_,hl,_,_=>
  obtain ⟨h0,⟨p,hp,hz⟩,h2⟩:=hl
  unfold qf at h2
  have:=Zd1 (g:=fun p=>δ p * δ p) hp fun r hr=>Jcj (h0 r hr) (h0 r hr)
  have h3:0 < δ p * δ p:=by
   have:=h0 p hp
   exact Int.mul_pos (by omega) (by omega)
  simp only [sI] at h2 this
  omega
 | a :: K',ins,mn,mnδ,hl,ends,one=>
  have ia:=ins a (by simp)
  refine ⟨a,K',rfl,fun x=>(∀ p ∈ pts,0<=x p/\x p<=δ p)/\(∃ p ∈ pts,x p ≠ 0)/\(qf pts (a :: K') x<=0\/Flat pts (a :: K') δ),⟨fun p hp=>?_,⟨a.1,ia.1,by unfold rs; simp [z0]⟩,?_⟩,fun x hx=>⟨fun p hp=>(hx.1 p hp).1,?_,hx.2.1⟩,fun x p hx hq hp hm=>?_⟩
  ·unfold rs
   have:=(one a (by simp)).1
   have:=hl.1 p hp
   have:=z0_at p
   have:=z0_at a.1
   by_cases z:p = a.1
   ·rw [if_pos z,z]; omega
   ·rw [if_neg z]; omega
  ·by_cases z:qf pts (a :: K') (rs z0 a.1)<=0
   ·exact .inl z
   ·exact .inr (flat_of nd ins hl mnδ ends (a:=a) (by simp) (by omega) one)
  ·have:=Zg9 fun p hp=>(hx.1 p hp).2
   omega
  ·obtain ⟨hb,hz,hf⟩:=hx
   have fl:Flat pts (a :: K') δ:=by
    rcases hf with h | h
    ·omega
    ·exact h
   have up:=Zjy nd ins fl hb hq hp hm
   refine ⟨fun r hr=>?_,⟨p,hp,by unfold rs; simp; have:=(hb p hp).1; omega⟩,.inr fl⟩
   unfold rs
   by_cases z:r = p
   ·rw [if_pos z,z]; have:=(hb p hp).1; omega
   ·rw [if_neg z]; exact hb r hr
end
end L3
namespace L3
section
variable {S:List Int} {ps:List Ed} {f:Int} {d:Int->Nat}
def upsA (d:Int->Nat) (ps:List Ed):Nat->Int->List Int->List Int
 | 0,_,acc=>acc
 | k + 1,x,acc=>upsA d ps k (up1 d ps x) (x :: acc)
def Ch (u:Int->Int):Int->List Int->Prop
 | _,[]=>True
 | f,p :: l=>u p = f/\Ch u p l
theorem Fk.ups (T:Fk S ps f d):∀ (k:Nat) {x:Int} {acc:List Int},d x = k->x ∈ S->Ch (up1 d ps) x acc->Ch (up1 d ps) f (upsA d ps k x acc)/\(upsA d ps k x acc).map d = List.range' 1 k ++ acc.map d/\∀ y ∈ upsA d ps k x acc,y ∈ acc\/(y ∈ S/\y ≠ f/\Zb8 d ps f y = Zb8 d ps f x)
 | 0,x,acc,hk,hx,c=>by
  have:=T.zero hx hk
  subst this
  exact ⟨c,rfl,fun y hy=>.inl hy⟩
 | k + 1,x,acc,hk,hx,c=>by
  have xf:x ≠ f:=fun z=>by rw [z,T.d0] at hk; omega
  have u:=T.up1_prop hx xf
  obtain ⟨h1,h2,h3⟩:=T.ups k (x:=up1 d ps x) (acc:=x :: acc) (by omega) u.1 ⟨rfl,c⟩
  refine ⟨h1,?_,fun y hy=>?_⟩
  ·show (upsA d ps k (up1 d ps x) (x :: acc)).map d = _
   rw [h2,List.range'_concat,Ja1,hk,Jee]
   simp
   omega
  ·have hy:y ∈ upsA d ps k (up1 d ps x) (x :: acc):=hy
   by_cases hu:up1 d ps x = f
   ·have:k = 0:=by rw [hu,T.d0] at u; omega
    subst this
    rcases Jam.mp hy with rfl | hy
    ·exact .inr ⟨hx,xf,rfl⟩
    ·exact .inl hy
   ·rcases h3 y hy with h | ⟨a,b,e⟩
    ·rcases Jam.mp h with rfl | h
     ·exact .inr ⟨hx,xf,rfl⟩
     ·exact .inl h
    ·exact .inr ⟨a,b,e.trans (T.root_step hx xf hu).symm⟩
def arm (d:Int->Nat) (ps:List Ed) (z:Int):List Int:=upsA d ps (d z) z []
theorem Fk.arm_ok (T:Fk S ps f d) {z:Int} (h:z ∈ S):Ch (up1 d ps) f (arm d ps z)/\(arm d ps z).map d = List.range' 1 (d z)/\(arm d ps z).length = d z/\(arm d ps z).Nodup/\∀ y ∈ arm d ps z,y ∈ S/\y ≠ f/\Zb8 d ps f y = Zb8 d ps f z:=by
 obtain ⟨h1,h2,h3⟩:=T.ups (d z) (x:=z) (acc:=[]) rfl h True.intro
 rw [Jd9,Jd0] at h2
 refine ⟨h1,h2,?_,?_,fun y hy=>?_⟩
 ·have:=Jdj List.length h2
  rw [Jaa,List.length_range'] at this
  exact this
 ·have n:((arm d ps z).map d).Nodup:=by unfold arm; rw [h2]; exact List.nodup_range' ..
  exact List.Pairwise.of_map d (fun a b hab e=>hab (by rw [e])) n
 ·rcases h3 y hy with h | h
  ·simp at h
  ·exact h
theorem Fk.arm_perm (T:Fk S ps f d) {z:Int} (h:z ∈ S) (hf:z ≠ f) (h0:chn d ps z = 0):(arm d ps z).Perm (cls S d ps f (Zb8 d ps f z)):=by
 obtain ⟨_,_,hl,nd,hm⟩:=T.arm_ok h
 refine Zci nd (fun y hy=>?_) (by rw [T.size h hf h0,hl]; exact Jae _)
 obtain ⟨a,b,c⟩:=hm y hy
 exact Zc5.mpr ⟨⟨a,b⟩,c⟩
def Lvs (S:List Int) (ps:List Ed) (f:Int) (d:Int->Nat) (L:List Int):Prop:=L.Nodup/\∀ z,z ∈ L ↔ (z ∈ S/\z ≠ f/\chn d ps z = 0)
theorem Fk.all (T:Fk S ps f d) {L:List Int} (hL:Lvs S ps f d L):((L.map (arm d ps)).flatten).Perm (oth S f):=by
 obtain ⟨nL,mL⟩:=hL
 have nd:((L.map (arm d ps)).flatten).Nodup:=by
  refine List.pairwise_flatten.mpr ⟨fun l hl=>?_,?_⟩
  ·obtain ⟨z,hz,rfl⟩:=Jao.mp hl
   exact (T.arm_ok ((mL z).mp hz).1).2.2.2.1
  ·rw [List.pairwise_map]
   refine List.Pairwise.imp_of_mem ?_ nL
   intro a b ha hb hab x hx y hy e
   obtain ⟨a1,a2,a3⟩:=(mL a).mp ha
   obtain ⟨b1,b2,b3⟩:=(mL b).mp hb
   have r1:=((T.arm_ok a1).2.2.2.2 x hx).2.2
   have r2:=((T.arm_ok b1).2.2.2.2 y hy).2.2
   rw [e] at r1
   exact hab (T.leaf_one a1 a2 a3 b1 b2 b3 (r1.symm.trans r2))
 have s1:∀ x ∈ (L.map (arm d ps)).flatten,x ∈ oth S f:=fun x hx=>by
  obtain ⟨l,hl,hx⟩:=Jdr.mp hx
  obtain ⟨z,hz,rfl⟩:=Jao.mp hl
  obtain ⟨a,b,_⟩:=(T.arm_ok ((mL z).mp hz).1).2.2.2.2 x hx
  exact Za9.mpr ⟨a,b⟩
 refine Zci nd s1 (Zbg (Ja2 Jaw T.nd) fun x hx=>?_)
 obtain ⟨h,hf⟩:=Za9.mp hx
 obtain ⟨z,z1,z2,z3,z4⟩:=T.leaf h hf
 exact Jdr.mpr ⟨_,Jao.mpr ⟨z,(mL z).mpr ⟨z1,z2,z3⟩,rfl⟩,(T.arm_perm z1 z2 z3).mem_iff.mpr (Zc5.mpr ⟨⟨h,hf⟩,z4.symm⟩)⟩
def pqL:Int->List Int->Int
 | _,[]=>0
 | v,a :: l=>a * a - v * a + pqL a l
theorem Ch.sum {u:Int->Int} (X:Int->Int):∀ {l:List Int} {f:Int},Ch u f l->sI (fun p=>X p * X p - X p * X (u p)) l = pqL (X f) (l.map X)
 | [],_,_=>rfl
 | p :: l,f,h=>by
  have ih:=Ch.sum X (l:=l) (f:=p) h.2
  simp only [sI,Ja1,pqL]
  rw [ih,h.1,Int.mul_comm (X f)]
theorem Zne (nd:S.Nodup) (h:f ∈ S):S.Perm (f :: oth S f):=by
 have e:oth S f = S.erase f:=by
  unfold oth
  rw [List.Nodup.erase_eq_filter nd]
  congr 1
  funext x
  rw [Jbu]
  simp
 rw [e]
 exact Jdt h
theorem Fk.q_eq (T:Fk S ps f d) {L:List Int} (hL:Lvs S ps f d L) (X:Int->Int):qf S ps X = X f * X f + sI (fun z=>pqL (X f) ((arm d ps z).map X)) L:=by
 have e1:sI (fun e:Ed=>X e.1 * X e.2) ps = sI (fun p=>X p * X (up1 d ps p)) (oth S f):=by
  rw [Ze6 T.perm,Zki]
  refine Zap fun e he=>?_
  rw [T.up1_ce he]
  rcases Zdy (d:=d) e with ⟨a,b⟩ | ⟨a,b⟩
  ·rw [a,b]
  ·rw [a,b,Int.mul_comm]
 have e2:sI (fun p=>X p * X p) S = X f * X f + sI (fun p=>X p * X p) (oth S f):=by
  rw [Ze6 (Zne T.nd T.fS)]
  rfl
 have e3:sI (fun p=>X p * X p - X p * X (up1 d ps p)) (oth S f) = sI (fun z=>pqL (X f) ((arm d ps z).map X)) L:=by
  rw [<- Ze6 (T.all hL),Zkk,Zki]
  exact Zap fun z hz=>(T.arm_ok ((hL.2 z).mp hz).1).1.sum X
 rw [Zds] at e3
 unfold qf
 omega
theorem pq_id (a v m P:Int):(m + 1) * (2 * (m + 1 + 1) * (a * a - v * a + P) + (m + 1) * (v * v)) = (m + 2) * (2 * (m + 1) * P + m * (a * a)) + ((m + 2) * a - (m + 1) * v) * ((m + 2) * a - (m + 1) * v):=by grind
theorem Zmx (a:Int):0<=a * a:=by
 rcases Int.le_total 0 a with h | h
 ·exact Jcj h h
 ·exact Int.mul_nonneg_of_nonpos_of_nonpos h h
theorem Zkv:∀ (l:List Int) (v:Int),0<=2 * ((l.length:Int) + 1) * pqL v l + l.length * (v * v)
 | [],v=>by simp [pqL]
 | a :: l,v=>by
  have ih:=Zkv l a
  have hm:(0:Int)<=l.length:=by omega
  simp only [pqL,Jbm,Int.natCast_add,Int.natCast_one]
  generalize (l.length:Int) = m at *
  generalize pqL a l = P at *
  have e:=pq_id a v m P
  have h1:=Jcj (show 0<=m + 2 by omega) ih
  have h2:=Zmx ((m + 2) * a - (m + 1) * v)
  refine Int.nonneg_of_mul_nonneg_right (a:=m + 1) ?_ (by omega)
  omega
theorem pq_z:∀ (l:List Int),pqL 0 l<=0->∀ a ∈ l,a = 0
 | [],_,a,ha=>by simp at ha
 | b :: l,h,a,ha=>by
  have ih:=Zkv l b
  have hm:(0:Int)<=l.length:=by omega
  simp only [pqL,Int.zero_mul,Int.sub_zero] at h
  have e:=pq_id b 0 l.length (pqL b l)
  have hb:b = 0:=Jag fun z=>by
   have h1:=Jcj (show 0<=(l.length:Int) + 2 by omega) ih
   have h2:0 < (((l.length:Int) + 2) * b) * (((l.length:Int) + 2) * b):=by
    have:((l.length:Int) + 2) * b ≠ 0:=Jd4 (by omega) z
    have:=Zmx (((l.length:Int) + 2) * b)
    have h3:((l.length:Int) + 2) * b * (((l.length:Int) + 2) * b) ≠ 0:=Jd4 (by assumption) (by assumption)
    omega
   simp only [Int.zero_mul,Jdn,Int.sub_zero,Int.add_zero] at e
   have h4:=Jcj (show 0<=((l.length:Int) + 1) * (2 * ((l.length:Int) + 1 + 1)) from Jcj (by omega) (by omega)) (show 0<=-(b * b + pqL b l) by omega)
   rw [Int.mul_neg,Int.mul_assoc] at h4
   omega
  subst hb
  rcases Jam.mp ha with rfl | ha
  ·rfl
  ·exact pq_z l (by omega) a ha
theorem Zgm {l:List Int} {v:Int} (h:v ≠ 0):-(v * v) < 2 * pqL v l:=by
 have h1:=Zkv l v
 have h2:0 < v * v:=by
  have:=Zmx v
  have:=Jd4 h h
  omega
 have hm:(0:Int)<=l.length:=by omega
 generalize (l.length:Int) = m at *
 generalize v * v = u at *
 generalize pqL v l = P at *
 refine Jag fun z=>?_
 have h3:=Int.mul_le_mul_of_nonneg_left (show 2 * P<=-u by omega) (show 0<=m + 1 by omega)
 have e1:2 * (m + 1) * P = (m + 1) * (2 * P):=by grind
 have e2:(m + 1) * -u = -(m * u) - u:=by grind
 omega
theorem pq_nn {l:List Int}:0<=pqL 0 l:=by
 have h1:=Zkv l 0
 rw [Jdn,Jdn,Int.add_zero] at h1
 exact Int.nonneg_of_mul_nonneg_right h1 (by omega)
def DPos (S:List Int) (ps:List Ed):Prop:=∀ X:Int->Int,(∃ p ∈ S,X p ≠ 0)->0 < qf S ps X
theorem Fk.dpos (T:Fk S ps f d) {L:List Int} (hL:Lvs S ps f d L) (h:∀ X:Int->Int,X f ≠ 0->0 < X f * X f + sI (fun z=>pqL (X f) ((arm d ps z).map X)) L):DPos S ps:=fun X hX=>by
 rw [T.q_eq hL]
 by_cases z:X f = 0
 ·refine Jag fun w=>?_
  rw [z] at w
  have nn:∀ y ∈ L,0<=pqL 0 ((arm d ps y).map X):=fun y _=>pq_nn
  obtain ⟨p,hp,hz⟩:=hX
  have pf:p ≠ f:=fun e=>hz (e ▸ z)
  obtain ⟨l,hl,hpl⟩:=Jdr.mp ((T.all hL).mem_iff.mpr (Za9.mpr ⟨hp,pf⟩))
  obtain ⟨y,hy,rfl⟩:=Jao.mp hl
  have:=Zd1 hy nn
  exact hz (pq_z _ (by omega) _ (Jao.mpr ⟨p,hpl,rfl⟩))
 ·exact h X z
theorem Zkb {a:Int} (h:a ≠ 0):0 < a * a:=by
 have:=Zmx a
 have:=Jd4 h h
 omega
theorem Fk.posA (T:Fk S ps f d) {L:List Int} (hL:Lvs S ps f d L) (h2:L.length<=2):DPos S ps:=T.dpos hL fun X hz=>by
 have hu:=Zkb hz
 match L,h2 with
 | [],_=>simpa [sI] using hu
 | [a],_=>
  have:=Zgm (l:=(arm d ps a).map X) hz
  simp only [sI]
  omega
 | [a,b],_=>
  have:=Zgm (l:=(arm d ps a).map X) hz
  have:=Zgm (l:=(arm d ps b).map X) hz
  simp only [sI]
  omega
theorem Fk.arm_lo (T:Fk S ps f d) (X:Int->Int) {z:Int} (h:z ∈ S):0<=2 * ((d z:Int) + 1) * pqL (X f) ((arm d ps z).map X) + d z * (X f * X f):=by
 have:=Zkv ((arm d ps z).map X) (X f)
 rw [Jaa,(T.arm_ok h).2.2.1] at this
 exact this
theorem Fk.posD (T:Fk S ps f d) {a b c:Int} (hL:Lvs S ps f d [a,b,c]) (ha:d a = 1) (hb:d b = 1):DPos S ps:=T.dpos hL fun X hz=>by
 have hu:=Zkb hz
 have h1:=T.arm_lo X ((hL.2 a).mp (by simp)).1
 have h2:=T.arm_lo X ((hL.2 b).mp (by simp)).1
 have h3:=Zgm (l:=(arm d ps c).map X) hz
 rw [ha] at h1
 rw [hb] at h2
 simp only [sI]
 omega
theorem Fk.posE (T:Fk S ps f d) {a b c:Int} (hL:Lvs S ps f d [a,b,c]) (ha:d a = 1) (hb:d b = 2) (hc:d c<=4):DPos S ps:=T.dpos hL fun X hz=>by
 have hu:=Zkb hz
 have h1:=T.arm_lo X ((hL.2 a).mp (by simp)).1
 have h2:=T.arm_lo X ((hL.2 b).mp (by simp)).1
 have h3:=T.arm_lo X ((hL.2 c).mp (by simp)).1
 rw [ha] at h1
 rw [hb] at h2
 simp only [sI]
 have:d c = 0\/d c = 1\/d c = 2\/d c = 3\/d c = 4:=by omega
 rcases this with e | e | e | e | e
 all_goals
  rw [e] at h3
  omega
theorem Fk.few_ends (T:Fk S ps f d) {L:List Int} (hL:Lvs S ps f d L):L.length<=deg ps f:=by
 rw [T.deg_f]
 have lc:((ps.filter fun q=>decide (pe d q = f)).map (ce d)).length = chn d ps f:=by
  unfold chn
  rw [Jaa,List.count,List.countP_map,List.countP_eq_length_filter]
  rfl
 rw [<- lc,<- Jaa (f:=Zb8 d ps f) (as:=L)]
 refine Zbg (Zbo hL.1 fun x hx y hy e=>?_) fun r hr=>?_
 ·obtain ⟨a1,a2,a3⟩:=(hL.2 x).mp hx
  obtain ⟨b1,b2,b3⟩:=(hL.2 y).mp hy
  exact T.leaf_one a1 a2 a3 b1 b2 b3 e
 ·obtain ⟨z,hz,rfl⟩:=Jao.mp hr
  obtain ⟨a1,a2,a3⟩:=(hL.2 z).mp hz
  obtain ⟨r1,r2,r3⟩:=T.root_ok (d z) (Jae _) a1 a2
  obtain ⟨q,hq,e1,e2⟩:=T.up1_of r1 r2
  exact Jao.mpr ⟨q,Jan.mpr ⟨hq,Ja3 (e2.symm.trans r3)⟩,e1⟩
theorem Fk.d_le (T:Fk S ps f d) {L:List Int} (hL:Lvs S ps f d L) {p:Int} {N:Nat} (hp:p ∈ S) (h:∀ z ∈ L,d z<=N):d p<=N:=by
 by_cases hf:p = f
 ·rw [hf,T.d0]; exact Jb1 _
 ·obtain ⟨l,hl,hpl⟩:=Jdr.mp ((T.all hL).mem_iff.mpr (Za9.mpr ⟨hp,hf⟩))
  obtain ⟨z,hz,rfl⟩:=Jao.mp hl
  have:d p ∈ (arm d ps z).map d:=Jao.mpr ⟨p,hpl,rfl⟩
  rw [(T.arm_ok ((hL.2 z).mp hz).1).2.1,Jeg] at this
  have:=h z hz
  omega
theorem Zk1 {α β:Type} {g:α->β} {m1 m2:List β} (p:m1.Perm m2):∀ l:List α,l.map g = m2->∃ l':List α,l'.Perm l/\l'.map g = m1:=by
 induction p with
 | nil=>exact fun l e=>⟨l,List.Perm.refl _,e⟩
 | cons x _ ih=>
  intro l e
  match l,e with
  | y :: l,e=>
   rw [Ja1,Jb8] at e
   obtain ⟨l',h1,h2⟩:=ih l e.2
   exact ⟨y :: l',h1.cons y,by rw [Ja1,e.1,h2]⟩
 | swap x y m=>
  intro l e
  match l,e with
  | a :: b :: l,e=>
   rw [Ja1,Ja1,Jb8,Jb8] at e
   exact ⟨b :: a :: l,List.Perm.swap ..,by rw [Ja1,Ja1,e.1,e.2.1,e.2.2]⟩
 | trans _ _ ih1 ih2=>
  intro l e
  obtain ⟨l2,h1,h2⟩:=ih2 l e
  obtain ⟨l1,h3,h4⟩:=ih1 l2 h2
  exact ⟨l1,h3.trans h1,h4⟩
theorem Lvs.perm {L L':List Int} (h:Lvs S ps f d L) (p:L'.Perm L):Lvs S ps f d L':=⟨p.nodup_iff.mpr h.1,fun z=>by rw [p.mem_iff]; exact h.2 z⟩
theorem Fk.lvs_is (T:Fk S ps f d) (h:deg ps f ≠ 1):Lvs S ps f d (lvs S ps):=⟨Ja2 Jaw T.nd,fun x=>by
 unfold lvs
 rw [Jan,Jbx]
 constructor
 ·rintro ⟨h1,e⟩
  have hf:x ≠ f:=fun z=>h (z ▸ e)
  have:=T.deg_x h1 hf
  exact ⟨h1,hf,by omega⟩
 ·rintro ⟨h1,hf,e⟩
  exact ⟨h1,by have:=T.deg_x h1 hf; omega⟩⟩
theorem Fk.ends_is (T:Fk S ps f d):Lvs S ps f d ((oth S f).filter fun x=>decide (chn d ps x = 0)):=⟨Ja2 (Jaw.trans Jaw) T.nd,fun x=>by
 rw [Jan,Jbx,Za9,and_assoc]⟩
theorem Zom {l:List Int} {g:Int->Int} {k:Nat} (e:l.map d = List.range' 1 k) (r:Nat->Int) (hg:∀ p ∈ l,g p = r (d p)):l.map g = (List.range' 1 k).map r:=by
 rw [<- e,Jcd]
 exact Jcg hg
theorem Fk.low6 (T:Fk S ps f d) {a b c:Int} (hL:Lvs S ps f d [a,b,c]) (ha:d a = 2) (hb:d b = 2) (hc:d c = 2\/d c = 3):qf S ps (fun p=>if p ∈ S then (3:Int) - d p else 0) = 0:=by
 rw [T.q_eq hL]
 have ar:∀ z ∈ [a,b,c],(arm d ps z).map (fun p=>if p ∈ S then (3:Int) - d p else 0) = (List.range' 1 (d z)).map fun k:Nat=>(3:Int) - (k:Nat):=fun z hz=>by
  have hz:=((hL.2 z).mp hz).1
  refine Zom (T.arm_ok hz).2.1 _ fun p hp=>?_
  rw [if_pos ((T.arm_ok hz).2.2.2.2 p hp).1]
 simp only [sI]
 rw [ar a (by simp),ar b (by simp),ar c (by simp),if_pos T.fS,T.d0,ha,hb]
 rcases hc with e | e
 ·rw [e]; rfl
 ·rw [e]; rfl
theorem Fk.low7 (T:Fk S ps f d) {a b c:Int} (hL:Lvs S ps f d [a,b,c]) (ha:d a = 1) (hb:d b = 3) (hc:d c = 3):qf S ps (fun p=>if p ∈ S then (if p = a then (2:Int) else 4 - d p) else 0) = 0:=by
 rw [T.q_eq hL]
 have nL:=hL.1
 have ha':=(hL.2 a).mp (by simp)
 have ar:∀ z ∈ [b,c],(arm d ps z).map (fun p=>if p ∈ S then (if p = a then (2:Int) else 4 - d p) else 0) = (List.range' 1 (d z)).map fun k:Nat=>(4:Int) - (k:Nat):=fun z hz=>by
  have hz':=(hL.2 z).mp (Ja7 _ hz)
  have nz:z ≠ a:=fun e=>(Jbl.mp nL).1 (e ▸ hz)
  refine Zom (T.arm_ok hz'.1).2.1 _ fun p hp=>?_
  obtain ⟨h1,h2,h3⟩:=(T.arm_ok hz'.1).2.2.2.2 p hp
  rw [if_pos h1,if_neg]
  intro e
  rw [e] at h3
  exact nz (T.leaf_one hz'.1 hz'.2.1 hz'.2.2 ha'.1 ha'.2.1 ha'.2.2 h3.symm)
 have a1:arm d ps a = [a]:=by
  unfold arm
  rw [ha]
  rfl
 simp only [sI]
 rw [ar b (by simp),ar c (by simp),a1,if_pos T.fS,if_neg (fun e=>ha'.2.1 e.symm),T.d0,hb,hc]
 simp only [Ja1,Jd9,if_pos ha'.1,Jcw]
 rfl
end
end L3
namespace L2
open PySem PySem.Spec PyProof.Rows
section
variable {X:Cx} {o e:Expr} {es:List Expr} {to:TE} {t:TA} {name:Str} {apos cpos:Pos} {T id:String} {r:V->List V->Hp->VK->Prop}
theorem pe_bmK (K:PySem.W.Frag) (hK:X.K = K) (pa:PlainAttrs T) (slot:Slot T name id) (hty:typeOf (.builtin id) = pure (.type "method_descriptor")) (hm:MtR X id r) (ho:PE X o to) (ha:PA X (e :: es) t)
  (hbase:attributeBase o name X.env (eval o X.env) = eval o X.env:=by rfl)
  (hfew:((backTo cpos (starEach (e :: es) X.env)).all (fun x=>!x.1) && (backToKw cpos (keywordEach [] X.env)).all (fun x=>x.1.isSome)
   && decide ((e :: es).length + ([]:List Keyword).length + (if ([]:List Keyword).isEmpty then 0 else 1) < 30)) = true:=by rfl)
  (hline:(apos.endLine == cpos.line) = true:=by rfl) (hs:starEach (e :: es) X.env = (false,eval e X.env) :: starEach es X.env:=by rfl) (hplain:(backTo cpos (starEach es X.env)).any (·.1) = false:=by rfl):
  PE X (.Call (.Attribute o name apos) (e :: es) [] cpos) (tBM K T r to t):=by
 subst hK
 exact Zfq pa slot hty hm ho ha hbase hfew hline hs hplain
end
end L2
namespace L2
open PySem PySem.Spec PyProof.Rows
abbrev two (elt t1 i1 t2 i2:Expr) (scope:Scope) (pos:Pos):Expr:=.ListComp elt [⟨t1,i1,[],0⟩,⟨t2,i2,[],0⟩] scope pos
section
variable {prog:Program} {w:World} {A:Around} {R:Result->Shared->Prop} {s:Shared} {elt t1 i1 t2 i2:Expr} {scope:Scope} {pos:Pos} {it acc:Value} {env:Env}
theorem Zka (h0:codeAny (model prog w) A (.compLoop (two elt t1 i1 t2 i2 scope pos) 1 it acc env) R s)
  (h:wpAny (model prog w) A (pyIter it) (fun it' s'=>codeAny (model prog w) A (.compLoop (two elt t1 i1 t2 i2 scope pos) 1 it' acc env) R s') (notedBy (model prog w) A env fun x s'=>R (.error x) s') s):
  codeAny (model prog w) A (.compStart (two elt t1 i1 t2 i2 scope pos) 1 it acc env) R s:=by
 refine codeAny_of_tree ?_
 refine wpAny_notedAt ?_
 unfold compStart
 refine Jac (wpAny_askSetting (wpAny_ite ?_))
 split
 ·exact Jac (Jap (Jap ⟨rfl,h0⟩))
 ·refine Jac (wpAny_rule (Jac (Jb5 (Jac ?_))))
  exact Ja5 h (fun it' s' h'=>Jap ⟨rfl,h'⟩) fun x x_1 x_2=>x_2
theorem Zj1:compTurn (two elt t1 i1 t2 i2 scope pos) 1 it acc env = (do
  standAt i2.pos
  let r <- pyNext it
  match r with
  | none=>pure (Fin.done Flow.next)
  | some v=>do
   letOwnedTupleGo t2 it v
   assign t2 env v
   ((eval elt env >>= fun x=>call (.builtin "list.append") [acc,x] >>= fun _=>(pure ():Sem Unit)) >>= fun _=>again (.compLoop (two elt t1 i1 t2 i2 scope pos) 1 it acc env))):=by
 rfl
theorem Zj2:compTurn (two elt t1 i1 t2 i2 scope pos) 0 it acc env = (do
  standAt i1.pos
  let r <- pyNext it
  match r with
  | none=>pure (Fin.done Flow.next)
  | some v=>do
   letOwnedTupleGo t1 it v
   assign t1 env v
   let x <- eval i2 env
   standAt i2.pos
   let x <- foldedSetIterable i2 env x
   let j <- holding [x] (pyIter x)
   let _ <- runOwn (.compStart (two elt t1 i1 t2 i2 scope pos) 1 j acc env) env
   again (.compLoop (two elt t1 i1 t2 i2 scope pos) 0 it acc env)):=by
 rfl
theorem Zli (I:Nat->Shared->Prop)
  (turn:∀ n s,I n s->wpAny (model prog w) A (pyNext it) (fun r s₁=>match r with
   | none=>R (.ok .next) s₁
   | some v=>wpAny (model prog w) A (letOwnedTupleGo t2 it v) (fun _ s₁'=>wpAny (model prog w) A (assign t2 env v) (fun _ s₂=>wpAny (model prog w) A (eval elt env) (fun x s₄=>wpAny (model prog w) A (call (.builtin "list.append") [acc,x]) (fun _ s₅=>∃ m,m < n/\I m s₅) (fun _ _=>False) s₄) (fun _ _=>False) s₂) (fun _ _=>False) s₁') (fun _ _=>False) s₁) (fun _ _=>False) s)
  (n:Nat) (h:I n s):codeAny (model prog w) A (.compLoop (two elt t1 i1 t2 i2 scope pos) 1 it acc env) R s:=by
 refine codeAny_loop rfl I (fun n s hI=>?_) n h
 show wpAny _ A ((compTurn (two elt t1 i1 t2 i2 scope pos) 1 it acc env).onRaise (fun x=>do noteFrame x env; theTreesLotGoes x)) _ _ s
 refine wpAny_noted ?_
 rw [Zj1]
 refine Jac (Jb5 (Jac (Ja5 (turn n s hI) (fun r s₁ h₁=>?_) fun _ _ h'=>h'.elim)))
 cases r with
 | none=>exact Jap h₁
 | some v=>
  refine Jac (Ja5 h₁ (fun _ s₁' h₁'=>?_) fun _ _ h'=>h'.elim)
  refine Jac (Ja5 h₁' (fun _ s₂ h₂=>?_) fun _ _ h'=>h'.elim)
  exact Jac (Jac (Ja5 h₂ (fun x s₄ h₄=>Jac (Ja5 h₄ (fun _ s₅ h₅=>Jap (Jap ⟨rfl,h₅⟩)) fun _ _ h'=>h'.elim)) fun _ _ h'=>h'.elim))
theorem Zlj (hs:∀ x,foldedSetIterable i2 env x = pure x) (I:Nat->Shared->Prop)
  (turn:∀ n s,I n s->wpAny (model prog w) A (pyNext it) (fun r s₁=>match r with
   | none=>R (.ok .next) s₁
   | some v=>wpAny (model prog w) A (letOwnedTupleGo t1 it v) (fun _ s₁'=>wpAny (model prog w) A (assign t1 env v) (fun _ s₂=>wpAny (model prog w) A (eval i2 env) (fun x s₄=>wpAny (model prog w) A (pyIter x) (fun j s₅=>codeAny (model prog w) A (.compStart (two elt t1 i1 t2 i2 scope pos) 1 j acc env) (fun r s₆=>r = .ok .next/\∃ m,m < n/\I m s₆) s₅) (fun _ _=>False) s₄) (fun _ _=>False) s₂) (fun _ _=>False) s₁') (fun _ _=>False) s₁) (fun _ _=>False) s)
  (n:Nat) (h:I n s):codeAny (model prog w) A (.compLoop (two elt t1 i1 t2 i2 scope pos) 0 it acc env) R s:=by
 refine codeAny_loop rfl I (fun n s hI=>?_) n h
 show wpAny _ A ((compTurn (two elt t1 i1 t2 i2 scope pos) 0 it acc env).onRaise (fun x=>do noteFrame x env; theTreesLotGoes x)) _ _ s
 refine wpAny_noted ?_
 rw [Zj2]
 refine Jac (Jb5 (Jac (Ja5 (turn n s hI) (fun r s₁ h₁=>?_) fun _ _ h'=>h'.elim)))
 cases r with
 | none=>exact Jap h₁
 | some v=>
  refine Jac (Ja5 h₁ (fun _ s₁' h₁'=>?_) fun _ _ h'=>h'.elim)
  refine Jac (Ja5 h₁' (fun _ s₂ h₂=>?_) fun _ _ h'=>h'.elim)
  refine Jac (Ja5 h₂ (fun x s₄ h₄=>?_) fun _ _ h'=>h'.elim)
  refine Jac (Jb5 (Jac (wpAny_of_eq (hs x) ?_)))
  refine Jac (Jbq (Ja5 h₄ (fun j s₅ h₅=>?_) fun _ _ h'=>h'.elim))
  refine Jac (wpAny_runOwn (Jd8 h₅ fun r s₆ h₆=>?_))
  obtain ⟨rfl,h6⟩:=h₆
  exact Jap ⟨rfl,h6⟩
end
def Zhz (g:TG) (wi2:TI) (g2:TG) (te:TE) (J:It) (D:Addr) (σ0:St) (H1:Hp) (Q:VK):Prop:=
 ∃ W:Nat->Nat->St->Hp->Prop,(∃ m,W 0 m σ0 (upd H1 D (.lst [])))/\∀ i m σ' H2,W i m σ' H2->
  (J.stop i H2/\Q (.ref D) H2)\/(J.go i H2/\∀ x H3,J.yld i H2 x H3->g x σ' H3 fun σ4 H4=>wi2 σ4 H4 fun J2 H5=>
   ∃ W2:Nat->Nat->St->Hp->Prop,(∃ m2,W2 0 m2 σ4 H5)/\∀ j m2 σ5 H6,W2 j m2 σ5 H6->
    (J2.stop j H6/\∃ m',m' < m/\W (i + 1) m' σ5 H6)\/(J2.go j H6/\∀ y H7,J2.yld j H6 y H7->g2 y σ5 H7 fun σ8 H8=>te σ8 H8 fun z H9=>
     ∃ vs,H9 D = some (.lst vs)/\vs.length < sizeLine/\∃ m2',m2' < m2/\W2 (j + 1) m2' σ8 (upd H9 D (.lst (vs ++ [z])))))
def tComp2 (k:Nat) (fr:List (Str × Nat)) (wi:TI) (g:TG) (wi2:TI) (g2:TG) (te:TE):TE:=fun σ H Q=>wi σ H fun J H1=>∀ D,H1 D = none->Zhz g wi2 g2 te J D (Zd9 k fr σ) H1 Q
section
variable {X:Cx} {tg iter t2 i2 elt:Expr} {scope:Scope} {pos:Pos} {own:List Str} {fr:List (Str × Nat)} {wi wi2:TI} {g g2:TG} {te:TE}
theorem Zmf {pins:List (Addr × Obj)} {s2:Shared} {σ:St} {H2:Hp} {it:Addr} {fp:List Addr} {tn:Nat->Heap->Prop} {J:It} {Q:VK} {cl:List (Str × Addr)} {RR:Value->Addr->Result->Shared->Prop} {E:Value->Shared->Prop}
  (hc:X.calm = true) (B:BlScope X scope own fr)
  (hs:∀ env x,foldedSetIterable i2 env x = pure x)
  (hb:∀ cl s H fp,PG (Zbw X (Zbu own fr) scope cl s H fp) tg g/\PI (Zbw X (Zbu own fr) scope cl s H fp) t2 i2 wi2/\PG (Zbw X (Zbu own fr) scope cl s H fp) t2 g2/\PE (Zbw X (Zbu own fr) scope cl s H fp) elt te)
  (hcl:∀ x c,cl.lookup x = some c->X.env.cells.lookup x = some c) (hcl2:∀ y ∈ scope.names,y.2 = .free->∃ c,cl.lookup y.1 = some c)
  (I2:Inv X pins σ H2 s2) (T:Turn X.prog X.w X.K tg J fp it tn) (st2:tn 0 s2.heap) (f2:∀ b ∈ fp,FpOk X pins H2 b) (q:∀ D,H2 D = none->Zhz g wi2 g2 te J D (Zd9 own.length fr σ) H2 Q)
  (hRR:∀ D C s' H',Inv X pins σ H' s'->Q (.ref D) H'->(∃ m,s'.heap.Ns C m)->C ≠ X.env.locals->(∀ x c,X.env.cells.lookup x = some c->c ≠ C)->(∀ p ∈ X.pn ++ pins,p.1 ≠ C)->X.s₀.heap.objs.size<=C->H' C = none->RR (.ref D) C (.ok .next) s'):
  wpAny (model X.prog X.w) X.A (newList []) (fun acc s₃=>wpAny (model X.prog X.w) X.A (newFunctionEnv scope X.env.globals cl [] X.env.qual none .none (some X.env)) (fun cenv s₄=>
   codeAny (model X.prog X.w) X.A (.compStart (two elt tg iter t2 i2 scope pos) 0 (.ref it) acc { cenv with scope:=relabel scope X.env }) (RR acc cenv.locals) s₄) E s₃) E s2:=by
 refine Jdg ?_
 have fr0:H2 s2.heap.objs.size = none:=I2.hok.fresh (Jae _)
 have I3:=I2.lnew (its:=[]) (ys:=[]) (t':=s2.toks) .nil (Jb1 _)
 generalize hs3:({ s2 with heap:=s2.heap.push { cls:=.type "list",data:=.seq ([]:List Value).toArray } }:Shared) = s3 at *
 have k23:∀ b o,s2.heap.get? b = some o->s3.heap.get? b = some o:=fun b o e=>by rw [<- hs3]; exact Jad _ e
 have sz3:s3.heap.objs.size = s2.heap.objs.size + 1:=by rw [<- hs3]; exact Jcc ..
 have I3':Inv X pins σ (upd H2 s2.heap.objs.size (.lst [])) s3:=I3
 have fne:∀ b ∈ fp,b ≠ s2.heap.objs.size:=fun b hb z=>by
  obtain ⟨o,ho,_⟩:=T.obj 0 _ st2 b hb
  exact absurd (Jaf ho) (by rw [z]; exact Jbp _)
 have f3:∀ b ∈ fp,FpOk X pins (upd H2 s2.heap.objs.size (.lst [])) b:=fun b hb=>⟨by rw [Zaf (fne b hb)]; exact (f2 b hb).1,(f2 b hb).2⟩
 have st3:tn 0 s3.heap:=T.keep 0 _ _ st2 fun b _ o e=>k23 b o e
 have hfo:∀ b ∈ fp,∃ o,s3.heap.get? b = some o:=fun b hb=>let ⟨o,ho,_⟩:=T.obj 0 _ st3 b hb; ⟨o,ho⟩
 refine Zdk fun h' hn hk hce=>?_
 have I4:=Zfj (own:=own) I3' B hcl hcl2 f3 hfo hn hk hce
 obtain ⟨hg,hi2,hg2,he⟩:=hb cl s3 (upd H2 s2.heap.objs.size (.lst [])) fp
 have st4:tn 0 h':=T.keep 0 _ _ st3 fun b _ o e=>hk b o e
 have stat:∀ {H':Hp},(∀ b ∈ fp,H' b = none)->∀ b ∈ fp,FpOk (Zbw X (Zbu own fr) scope cl s3 (upd H2 s2.heap.objs.size (.lst [])) fp) [] H' b:=fun {H'} hnn b hb=>
  ⟨hnn b hb,(I4.ok.exf b hb).1,I4.ok.exfs b hb,.inl hb,(I4.ok.exf b hb).2,fun p hp=>absurd (show p ∈ ([]:List (Addr × Obj)) from hp) (by simp)⟩
 obtain ⟨W,⟨m0,w0⟩,turn⟩:=q s2.heap.objs.size fr0
 have loop:codeAny (model X.prog X.w) X.A (.compLoop (two elt tg iter t2 i2 scope pos) 0 (.ref it) (.ref s2.heap.objs.size) (Zbw X (Zbu own fr) scope cl s3 (upd H2 s2.heap.objs.size (.lst [])) fp).env)
   (RR (.ref s2.heap.objs.size) s3.heap.objs.size) { s3 with heap:=h' }:=by
  refine Zlj (fun x=>hs _ x) (fun n s'=>∃ i σ' H',Inv (Zbw X (Zbu own fr) scope cl s3 (upd H2 s2.heap.objs.size (.lst [])) fp) [] σ' H' s'/\tn i s'.heap/\(∀ b ∈ fp,H' b = none)/\W i n σ' H') ?_ m0
   ⟨0,_,_,I4,st4,fun b hb=>(f3 b hb).1,w0⟩
  rintro n s5 ⟨i,σ5,H5,I5,st5,fr5,w5⟩
  rcases turn i n σ5 H5 w5 with ⟨stop,qn⟩ | ⟨go,step⟩
  ·refine thn (T.done (Zbw X (Zbu own fr) scope cl s3 (upd H2 s2.heap.objs.size (.lst [])) fp) rfl rfl rfl hc i [] s5 σ5 H5 _ I5 (stat fr5) st5 stop) fun r s6 ⟨hr,I6⟩=>?_
   subst hr
   have I7:Inv X pins σ H5 s6:=I3'.call' (ch:=fp) I6.os I6.base I6.hok I6.bare fun b hb=>⟨(f3 b hb).2.2.2.1,(f3 b hb).2.1,(f3 b hb).2.2.2.2.1,(f3 b hb).2.2.2.2.2⟩
   obtain ⟨m6,hn6,_⟩:=I6.loc
   refine hRR _ _ s6 H5 I7 qn ⟨m6,hn6⟩ (Jdl I3'.lt) (fun x c e=>?_) (fun p hp=>?_) I3'.sz I6.free
   ·obtain ⟨v,z⟩:=I3'.cell x c e
    exact Jay z.lt
   ·exact Jay (Jaf (I3'.pin p hp).1)
  ·refine thn (T.item (Zbw X (Zbu own fr) scope cl s3 (upd H2 s2.heap.objs.size (.lst [])) fp) rfl rfl rfl hc i [] s5 σ5 H5 _ I5 (stat fr5) st5 go) fun r s6 ⟨u,hr,h6⟩=>?_
   subst hr
   refine thn h6 fun _ s7 ⟨x,H7,I7,r7,y7,st7,fr7⟩=>?_
   have I7':=I7.pinned (stat fr7) (T.obj _ _ st7)
   refine thn (hg _ s7 σ5 H7 x u _ I7' r7 (step x H7 y7)) fun _ s8 ⟨σ8,H8,I8,q8⟩=>?_
   have again:∀ {sA:Shared} {σA:St} {HA:Hp} {m':Nat},Inv (Zbw X (Zbu own fr) scope cl s3 (upd H2 s2.heap.objs.size (.lst [])) fp) ([] ++ Zd4 fp s7.heap) σA HA sA->m' < n->W (i + 1) m' σA HA->
     ∃ m,m < n/\∃ i σ' H',Inv (Zbw X (Zbu own fr) scope cl s3 (upd H2 s2.heap.objs.size (.lst [])) fp) [] σ' H' sA/\tn i sA.heap/\(∀ b ∈ fp,H' b = none)/\W i m σ' H':=fun {sA σA HA m'} IA hm wA=>by
    refine ⟨m',hm,i + 1,σA,HA,IA.unpinned,T.keep _ _ _ st7 fun b hb o e=>(IA.pin (b,o) (Jah _ (Jah _ (Za8 hb e)))).1,fun b hb=>?_,wA⟩
    obtain ⟨o,e,d⟩:=T.obj _ _ st7 b hb
    exact (IA.pin (b,o) (Jah _ (Jah _ (Za8 hb e)))).2.1
   refine thn (hi2 _ s8 σ8 H8 _ I8 q8) fun v s9 h9=>thn h9 fun itv s10 h10=>?_
   obtain ⟨it2,fp2,tn2,J2,H10,e,I10,T2,st10,f10,W2,⟨m2,w2⟩,turn2⟩:=h10
   subst e
   have stat2:∀ {H':Hp},(∀ b ∈ fp2,H' b = none)->∀ b ∈ fp2,FpOk (Zbw X (Zbu own fr) scope cl s3 (upd H2 s2.heap.objs.size (.lst [])) fp) ([] ++ Zd4 fp s7.heap) H' b:=fun hn b hb=>⟨hn b hb,(f10 b hb).2⟩
   have loop2:codeAny (model X.prog X.w) X.A (.compLoop (two elt tg iter t2 i2 scope pos) 1 (.ref it2) (.ref s2.heap.objs.size) (Zbw X (Zbu own fr) scope cl s3 (upd H2 s2.heap.objs.size (.lst [])) fp).env)
     (fun r s₆=>r = .ok .next/\∃ m,m < n/\∃ i σ' H',Inv (Zbw X (Zbu own fr) scope cl s3 (upd H2 s2.heap.objs.size (.lst [])) fp) [] σ' H' s₆/\tn i s₆.heap/\(∀ b ∈ fp,H' b = none)/\W i m σ' H') s10:=by
    refine Zli (fun n2 s'=>∃ j σ' H',Inv (Zbw X (Zbu own fr) scope cl s3 (upd H2 s2.heap.objs.size (.lst [])) fp) ([] ++ Zd4 fp s7.heap) σ' H' s'/\tn2 j s'.heap/\(∀ b ∈ fp2,H' b = none)/\W2 j n2 σ' H') ?_ m2 ⟨0,σ8,H10,I10,st10,fun b hb=>(f10 b hb).1,w2⟩
    rintro n2 s11 ⟨j,σ11,H11,I11,st11,fr11,w11⟩
    rcases turn2 j n2 σ11 H11 w11 with ⟨stop,m',hm,wn⟩ | ⟨go,step2⟩
    ·refine thn (T2.done (Zbw X (Zbu own fr) scope cl s3 (upd H2 s2.heap.objs.size (.lst [])) fp) rfl rfl rfl hc j _ s11 σ11 H11 _ I11 (stat2 fr11) st11 stop) fun r s12 ⟨hr,I12⟩=>?_
     subst hr
     exact ⟨rfl,again I12 hm wn⟩
    ·refine thn (T2.item (Zbw X (Zbu own fr) scope cl s3 (upd H2 s2.heap.objs.size (.lst [])) fp) rfl rfl rfl hc j _ s11 σ11 H11 _ I11 (stat2 fr11) st11 go) fun r s12 ⟨u2,hr,h12⟩=>?_
     subst hr
     refine thn h12 fun _ s13 ⟨y,H13,I13,r13,y13,st13,fr13⟩=>?_
     have I13':=I13.pinned (stat2 fr13) (T2.obj _ _ st13)
     refine thn (hg2 _ s13 σ11 H13 y u2 _ I13' r13 (step2 y H13 y13)) fun _ s14 ⟨σ14,H14,I14,q14⟩=>?_
     refine thn (he _ s14 σ14 H14 _ I14 q14) fun z s15 ⟨vz,H15,I15,r15,vs,hvs,hlen,m2',hm2,w15⟩=>?_
     refine thn (Zbs (X:=Zbw X (Zbu own fr) scope cl s3 (upd H2 s2.heap.objs.size (.lst [])) fp) _ s15 σ14 H15 (.ref s2.heap.objs.size) [vz] (.ref s2.heap.objs.size) [z] (fun _ HB=>W2 (j + 1) m2' σ14 HB) I15 rfl (.cons r15 .nil) ⟨_,vs,vz,rfl,rfl,hvs,hlen,w15⟩) fun _ s16 ⟨_,H16,I16,_,w16⟩=>?_
     refine ⟨m2',hm2,j + 1,σ14,H16,I16.unpinned,T2.keep _ _ _ st13 fun b hb o e=>(I16.pin (b,o) (Jah _ (Jah _ (Za8 hb e)))).1,fun b hb=>?_,w16⟩
     obtain ⟨o,e,d⟩:=T2.obj _ _ st13 b hb
     exact (I16.pin (b,o) (Jah _ (Jah _ (Za8 hb e)))).2.1
   exact Zka loop2 (T2.self _ 0 _ _ _ st10 loop2)
 exact codeAny_compStart_list loop (T.self _ 0 _ _ _ st4 loop)
theorem Znb (hc:X.calm = true) (B:BlScope X scope own fr) (hi:PI X tg iter wi)
  (hb:∀ cl s H fp,PG (Zbw X (Zbu own fr) scope cl s H fp) tg g/\PI (Zbw X (Zbu own fr) scope cl s H fp) t2 i2 wi2/\PG (Zbw X (Zbu own fr) scope cl s H fp) t2 g2/\PE (Zbw X (Zbu own fr) scope cl s H fp) elt te)
  (hs2:∀ env x,foldedSetIterable i2 env x = pure x:=by intro _ _; rfl)
  (hs:∀ x,foldedSetIterable iter X.env x = pure x:=by intro _; rfl):
  PE X (two elt tg iter t2 i2 scope pos) (tComp2 own.length fr wi g wi2 g2 te):=by
 intro pins s σ H Q I h
 obtain ⟨cl,hclos,hcl,hcl2⟩:=Zfm (scope:=scope) (env:=X.env) fun y hy hf=>I.ok.has y.1 (B.free y hy hf)
 rw [eval_ListComp]
 refine Jcn (use:=none) rfl hs hclos B.kind B.loc (thn (hi pins s σ H _ I h) fun v s1 h1=>thn h1 fun itv s2 h2=>?_)
 obtain ⟨it,fp,tn,J,H2,e,I2,T,st2,f2,q⟩:=h2
 subst e
 refine Zmf (RR:=fun acc C=>compPost (model X.prog X.w) X.A X.xe none (EP X pins σ Q) acc C) (Q:=Q) hc B hs2 hb hcl hcl2 I2 T st2 f2 q ?_
 intro D C s' H' I' hq hn n1 n2 n3 n4 n5
 obtain ⟨m,hn⟩:=hn
 refine ⟨m,hn,fun h' hs'=>⟨.ref D,H',I'.turned (it:=C) (t':=s'.toks) (fun b o hb e=>SameBut.get hs' b o hb e) n5 (Jc9 (Jc9 n1)) (.inr n4) n2 n3,rfl,hq⟩⟩
end
def Zkr:V->List V->Hp->VK->Prop:=fun x vs H Q=>∃ (l:Addr) (ns:List Int) (k:Int),x = .ref l/\vs = [.int k]/\H l = some (.lst (ns.map V.int))/\Q (.int ((ns.count k:Nat):Int)) H
def intU (k:Int):Value->Bool
 | .int i _=>i == k
 | _=>false
theorem Zee (k:Int):∀ {ns:List Int} {its:List Value},Vals (ns.map V.int) its->its.countP (intU k) = ns.count k
 | [],_,.nil=>rfl
 | n :: ns,_,.cons r rs=>by
  obtain ⟨t,rfl⟩:=r
  rw [List.countP_cons,Zee k rs,Jdb]
  rfl
theorem Zi2 {A:Around} {s:Shared} (k:Int) (t':Tok):∀ {ns:List Int} {its:List Value},Vals (ns.map V.int) its->∀ y ∈ its,SeqAt.EqAt A s y (.int k t') (intU k y)
 | [],_,.nil=>fun y hy=>by cases hy
 | n :: ns,_,.cons r rs=>fun y hy=>by
  obtain ⟨t,rfl⟩:=r
  rcases Jam.mp hy with rfl | hy
  ·exact SeqAt.EqAt.int_int n t k t'
  ·exact Zi2 k t' rs y hy
theorem Zhe {X:Cx}:MtM X "list.count" Zkr:=by
 intro pins s σ H x vs v us Q I rx rv h
 obtain ⟨l,ns,k,rfl,rfl,hH,q⟩:=h
 cases rx
 obtain ⟨u,rfl,⟨t,rfl⟩⟩:=rv.one
 obtain ⟨z,its,n,r,hl,e⟩:=I.lstM hH
 refine Jef F.slot_list_count ⟨_,e,rfl⟩ F.entry_list_count (F.args_list_count_2 _ _) (SeqAt.list_countAt l its.toArray n _ _ (.int k t) (intU k)) ⟨e,fun y hy=>?_,?_⟩
 ·exact Zi2 k t r y (by simpa using hy)
 ·refine ⟨.int _,H,I.tok _,⟨_,rfl⟩,?_⟩
  have ec:List.countP (intU k) its.toArray.toList = ns.count k:=by
   rw [show its.toArray.toList = its by simp]
   exact Zee k r
  first | (rw [ec]; exact q) | (rw [Zee k r]; exact q)
end L2
namespace L2
open PySem PySem.Spec PyProof.Rows
theorem Zm2 (l:Addr) (items:Array Value) (n:Nat) (x:Value) (j:Nat) (hj:j < items.size) (hs1:items.size<=sizeLine) (k:Nat):
  ∀ i:Nat,j - i = k->i<=j->Meets (Builtin.«list.remove.loop» ⟨[.ref l,x,rawInt i],[]⟩)
   (fun A R s=>s.heap.get? l = some { cls:=.type "list",dict:=none,data:=.seq items n,slots:=#[] }/\(∀ m (hm:m < items.size),m<=j->SeqAt.EqAt A.in1 s items[m] x (decide (m = j)))/\R (.ok (.ret .none)) { s with heap:=s.heap.update l (Obj.mapSeq fun xs=>xs.eraseIdxIfInBounds j) }):=by
 induction k with
 | zero=>
  intro i hk hij prog w A R s h
  obtain ⟨hp,g,d,tk,os⟩:=s; obtain ⟨hl,he,h⟩:=h
  have hij':i = j:=by omega
  subst hij'
  wp_walk using Jco hl
  have hi:items[((i:Nat):Int).toNat]? = some items[i]:=by simp [hj]
  rw [hi]
  refine Jac (he i hj (Jae _) prog w _ _ ?_)
  rw [Ja3 rfl]
  have hz':(items.eraseIdxIfInBounds i).size<=sizeLine + 1:=Jba (MeetsSeq.size_erased items _) (Nat.le_succ_of_le hs1)
  wp_walk using (Jd5 hl rfl (hz:=hs1) (_hz':=hz')),Jco hl
  simpa using h
 | succ k ih=>
  intro i hk hij prog w A R s h
  obtain ⟨hp,g,d,tk,os⟩:=s; obtain ⟨hl,he,h⟩:=h
  have hlt:i < items.size:=by omega
  wp_walk using Jco hl
  have hi:items[((i:Nat):Int).toNat]? = some items[i]:=by simp [hlt]
  have hc:((i:Int) + 1) = ((i + 1:Nat):Int):=by push_cast; rfl
  rw [hi]
  refine Jac (he i hlt (by omega) prog w _ _ ?_)
  rw [Jb6 (by omega)]
  wp_walk
  rw [hc]
  exact ⟨Jdc Jch _,Jdd MeetsSeq.entry_remove_loop (by
   rw [Jck Jch _]
   exact ih (i + 1) (by omega) (by omega) prog w A R _ ⟨hl,he,h⟩)⟩
theorem rem_at (l:Addr) (items:Array Value) (n:Nat) (x:Value) (j:Nat) (hj:j < items.size) (hs1:items.size<=sizeLine):
  Meets (Builtin.«list.remove» ⟨[.ref l,x],[]⟩)
   (fun A R s=>s.heap.get? l = some { cls:=.type "list",dict:=none,data:=.seq items n,slots:=#[] }/\(∀ m (hm:m < items.size),m<=j->SeqAt.EqAt A.in1 s items[m] x (decide (m = j)))/\R (.ok (.ret .none)) { s with heap:=s.heap.update l (Obj.mapSeq fun xs=>xs.eraseIdxIfInBounds j) }):=by
 intro prog w A R s h
 obtain ⟨hp,g,d,tk,os⟩:=s; obtain ⟨hl,he,h⟩:=h
 wp_walk using Jco hl
 exact ⟨Jdc Jch _,Jdd MeetsSeq.entry_remove_loop (by
  rw [Jck Jch _]
  exact Zm2 l items n x j hj hs1 _ 0 rfl (Jb1 _) prog w A R _ ⟨hl,he,h⟩)⟩
def rRem (K:PySem.W.Frag):V->List V->Hp->VK->Prop:=fun x vs H Q=>∃ (l:Addr) (xs:List V) (y:V) (j:Nat),x = .ref l/\vs = [y]/\H l = some (.lst xs)/\j < xs.length/\(∀ (m:Nat) v,m<=j->xs[m]? = some v->EqD K H 4 v y (decide (m = j)))/\Q .non (upd H l (.lst (xs.eraseIdx j)))
theorem mt_rem {X:Cx} (hu:X.A.units + 8 < cLine):MtM X "list.remove" (rRem X.K):=by
 intro pins s σ H x vs v us Q I rx rv h
 obtain ⟨l,xs,y,j,rfl,rfl,hH,hj,he,q⟩:=h
 cases rx
 obtain ⟨u,rfl,ru⟩:=rv.one
 obtain ⟨z,its,n,r,hl,e⟩:=I.lstM hH
 refine Jef F.slot_list_remove ⟨_,e,rfl⟩ F.entry_list_remove (F.args_list_remove_2 _ _) (rem_at l its.toArray n u j (by rw [Jai]; omega) (by rw [Jai]; omega)) ⟨e,fun m hm hmj=>?_,?_⟩
 ·have hm':m < xs.length:=by rw [Jai] at hm; omega
  have hx:xs[m]? = some (xs[m]'hm'):=Jab hm'
  obtain ⟨w,hw,rw'⟩:=r.get hx
  have ew:its.toArray[m] = w:=by
   rw [Jab (by omega)] at hw
   simpa using hw
  rw [ew]
  exact (he m _ hmj hx).at I (by show X.A.units + 1 + 4 < cLine; omega) rw' ru
 ·refine ⟨.non,_,I.lset (its':=its.eraseIdx j) hH e ?_ (r.eraseIdx j) ?_,rfl,q⟩
  ·rw [List.eraseIdxIfInBounds_toArray]
  ·have:=Zhh xs j
   omega
end L2
namespace L2
open PySem PySem.Spec PyProof.Rows
section
variable {X:Cx}
end
section
variable {X:Cx}
def nonV:V->Bool
 | .non=>true
 | _=>false
def NoT (K:PySem.W.Frag) (H:Hp) (x:V):Prop:=x = .non\/∃ a xs,x = .ref a/\SqT K H a xs
def rNotInN (K:PySem.W.Frag):R2:=fun x y H Q=>∃ p xs,x = .non/\y = .ref p/\SqL K H p xs/\(∀ z ∈ xs,NoT K H z)/\Q (.bl (!xs.any nonV)) H
end
end L2
namespace L2
open PySem PySem.Spec PyProof.Rows PySem.W
def Zhl (X:Cx) (N:List Str) (qual:Str) (scope:Scope) (cl:List (Str × Addr)) (f:Addr) (cd:Value) (A:Around) (s:Shared) (H:Hp):Cx where
 prog:=X.prog
 w:=X.w
 K:=X.K
 mg:=X.mg
 base:=X.base
 A:=A.deeper (envX qual scope s.heap.objs.size f cd cl)
 N:=N
 s₀:=s
 H₀:=H
 env:=envX qual scope s.heap.objs.size f cd cl
 outer:=X.stack
 stack:=envX qual scope s.heap.objs.size f cd cl :: X.stack
 ex:=[]
 fn:=fun _=>false
 calm:=true
 pn:=[]
 xe:=fun _ _=>False
structure LamScope (X:Cx) (sc:Scope) (x:Str) (fr:List (Str × Nat)):Prop where
 kind:sc.kind = .function
 co:sc.isCoroutine = false
 gen:sc.isGenerator = false
 nocell:∀ y ∈ sc.names,y.2 ≠ .cell
 par:sc.names.lookup x = some .local
 free:∀ y ∈ sc.names,y.2 = .free->X.env.scope.names.lookup y.1 = some .cell\/X.env.scope.names.lookup y.1 = some .free
 cap:∀ y ∈ fr,sc.names.lookup y.1 = some .free/\X.N[y.2]? = some y.1
abbrev Zmq (x:Str) (fr:List (Str × Nat)):List Str:=x :: fr.map (·.1)
abbrev Zon (v:V) (fr:List (Str × Nat)) (σ:St):St:=some v :: fr.map fun y=>(σ[y.2]?).getD none
section
variable {X:Cx} {pins:List (Addr × Obj)} {σ:St} {H:Hp} {s:Shared} {A:Around} {sc:Scope} {x:Str} {fr:List (Str × Nat)} {cl:List (Str × Addr)} {f:Addr} {cd:Value} {qual:Str}
theorem inv_lam {h':Heap} {v:V} {u:Value} (I:Inv X pins σ H s) (B:LamScope X sc x fr) (hfr:A.frames = some X.stack) (hd:A.handled = none)
  (hcl:∀ x c,cl.lookup x = some c->X.env.cells.lookup x = some c) (hcl2:∀ y ∈ sc.names,y.2 = .free->∃ c,cl.lookup y.1 = some c) (rv:RelV v u)
  (hn:h'.Ns s.heap.objs.size (fun y=>[(x,u)].reverse.lookup y)) (hk:∀ b o,s.heap.get? b = some o->h'.get? b = some o):
  Inv (Zhl X (Zmq x fr) qual sc cl f cd A s H) [] (Zon v fr σ) H { s with heap:=h',toks:=s.toks + 1 }:=by
 have bsz:X.base.objs.size<=s.heap.objs.size:=Jba I.ok.bsz I.sz
 have noA:∀ b:Addr,b ∉ (Zhl X (Zmq x fr) qual sc cl f cd A s H).ex:=fun b z=>absurd (show b ∈ ([]:List Addr) from z) (by simp)
 refine ⟨⟨I.ok.mod,B.kind,rfl,rfl,Jae _,fun y z c h1 h2=>I.ok.inj y z c (hcl y c h1) (hcl z c h2),fun y hy=>?_,fun y c hf _=>absurd (show false = true from hf) Jaj,fun _=>hd,Around.frames_deeper hfr,.inr ⟨rfl,rfl⟩,fun b z=>absurd z (noA b),I.bs,bsz,fun b _ _=>noA b,fun b z=>absurd z (noA b),I.stack,I.stkFree,⟨_,_,rfl,B.gen,B.co,rfl,rfl⟩⟩,
  rfl,I.bare,Un.kept hk,⟨_,hn,fun i y w h1 h2 h3=>?_⟩,fun y c e=>?_,I.hok.fresh (Jae _),fun y c e=>I.freeC y c (hcl y c e),fun p hp=>absurd (show p ∈ ([]:List (Addr × Obj)) from hp) (by simp),I.hok.kept hk,by show (Zon v fr σ).length = (Zmq x fr).length; simp⟩
 ·have hy:sc.names.lookup y = some .cell\/sc.names.lookup y = some .free:=hy
  rcases hy with z | z
  ·exact absurd rfl (B.nocell _ (Ja9 z))
  ·exact hcl2 _ (Ja9 z) rfl
 ·have h1:(Zmq x fr)[i]? = some y:=h1
  cases i with
  | zero=>
   have e1:x = y:=Ja4 h1
   have e2:some v = some w:=Ja4 h2
   cases e2
   subst e1
   exact ⟨u,rv,.inl ⟨B.par,by simp⟩⟩
  | succ i=>
   rw [List.getElem?_cons_succ,Ja6] at h1 h2
   cases e:fr[i]? with
   | none=>rw [e] at h1; cases h1
   | some z=>
    rw [e] at h1 h2
    have hy1:z.1 = y:=Ja4 h1
    have hy2:(σ[z.2]?).getD none = some w:=Ja4 h2
    obtain ⟨c1,c2⟩:=B.cap z (Jar e)
    rw [hy1] at c1 c2
    have hs:σ[z.2]? = some (some w):=by
     cases e2:σ[z.2]? with
     | none=>rw [e2] at hy2; cases hy2
     | some o=>rw [e2] at hy2; cases o with
      | none=>cases hy2
      | some w=>cases hy2; rfl
    obtain ⟨m,hm,hl⟩:=I.loc
    have hfree:=B.free _ (Ja9 c1) rfl
    obtain ⟨u',r,l⟩:=hl z.2 y w c2 hs (hfree.elim (fun z=>.inr (.inl z)) fun z=>.inr (.inr z))
    refine ⟨u',r,?_⟩
    obtain ⟨k,c,e3,ce⟩:(X.env.kindOf y = some .cell\/X.env.kindOf y = some .free)/\∃ c,X.env.cells.lookup y = some c/\s.heap.IsCell c (some u'):=by
     rcases l with ⟨k,_⟩ | q
     ·have k:X.env.scope.names.lookup y = some .local:=k
      rcases hfree with z | z <;> (rw [z] at k; cases k)
     ·exact q
    obtain ⟨d,hd'⟩:=hcl2 _ (Ja9 c1) rfl
    have hd2:=hcl y d hd'
    rw [e3] at hd2
    cases hd2
    exact .inr ⟨.inr c1,c,hd',ce.keeps hk⟩
 ·obtain ⟨w,q⟩:=I.cell y c (hcl y c e)
  exact ⟨w,q.keeps hk⟩
theorem run_lam {c':Addr} {params:Arguments} {body:Expr} {name:Str} {pm ctv:Value} {v:V} {u:Value} {te:TE} {Q:VK} (I:Inv X pins σ H s) (B:LamScope X sc x fr) (hfr:A.frames = some X.stack) (hd:A.handled = none) (hroom:A.depth < recursionLimit)
  (hcl:∀ x c,cl.lookup x = some c->X.env.cells.lookup x = some c) (hcl2:∀ y ∈ sc.names,y.2 = .free->∃ c,cl.lookup y.1 = some c) (rv:RelV v u)
  (hf:s.heap.get? f = some (kla_obj name qual params body sc cl pm c' ctv)) (hcd:s.heap.CodeRec (.ref c') qual)
  (hb:bindArgs (kla_fn name qual params body sc cl pm (.ref c') ctv) ⟨[u],[]⟩ = pure [(x,u)])
  (he:PE (Zhl X (Zmq x fr) qual sc cl f (.ref c') A.in1 s H) body te) (q:te (Zon v fr σ) H Q):
  wpAny (model X.prog X.w) A.in1 (call (.ref f) [u]) (EP X pins σ Q) (fun _ _=>False) s:=by
 refine wpAny_call (kla_callFunE (A:=A.in1) hroom hf rfl B.co B.gen rfl hcd ?_)
 rw [hb]
 refine Jap (wpAny_newFunctionEnv B.nocell (fun y hy=>?_) (fun h₁ hns hsb=>⟨I.nolimit.fresh _ hsb,?_⟩) B.kind)
 ·rw [Jbg.mp hy]
  exact B.par
 ·show codeAny _ _ (.expr body (envX qual sc s.heap.objs.size f (.ref c') cl)) _ _
  have hk₁:∀ b o,s.heap.get? b = some o->h₁.get? b = some o:=fun b o e=>hsb.extBut b o (Jay (Jaf e)) (Jad _ e)
  have I1:Inv (Zhl X (Zmq x fr) qual sc cl f (.ref c') A.in1 s H) [] (Zon v fr σ) H { s with heap:=h₁,toks:=s.toks + 1 }:=inv_lam (A:=A.in1) I B hfr hd hcl hcl2 rv hns hk₁
  refine kla_codeExpr (Ja5 (he [] _ _ _ _ I1 q) (fun y s' h=>?_) fun _ _ h=>h.elim)
  obtain ⟨v',H',J,r',q'⟩:=h
  exact I.after ⟨v',H',J.os,J.bare,J.base,J.hok,r',q'⟩
end
structure LamAt (X:Cx) (pins:List (Addr × Obj)) (sc:Scope) (params:Arguments) (body:Expr) (qual:Str) (P:Addr) (H:Hp) (s:Shared) (f c':Addr) (cl:List (Str × Addr)) (ctv pm:Value):Prop where
 fn:s.heap.get? f = some (kla_obj "<lambda>" qual params body sc cl pm c' ctv)
 fp:FpOk X pins H f
 cod:∃ oc vs t,H c' = some (.frz oc (.own P))/\oc.data = .fields vs/\vs[1]? = some (.str qual t)
 hcl:∀ x c,cl.lookup x = some c->X.env.cells.lookup x = some c
 hcl2:∀ y ∈ sc.names,y.2 = .free->∃ c,cl.lookup y.1 = some c
section
variable {X:Cx} {pins:List (Addr × Obj)} {σ:St} {H:Hp} {s:Shared} {sc:Scope} {x:Str} {fr:List (Str × Nat)} {P c:Addr} {params:Arguments} {body:Expr} {pos:Pos}
theorem LamAt.code {H:Hp} {s:Shared} {f c':Addr} {cl:List (Str × Addr)} {ctv pm:Value} {qual:Str} (L:LamAt X pins sc params body qual P H s f c' cl ctv pm) (I:Inv X pins σ H s):s.heap.CodeRec (.ref c') qual:=by
 obtain ⟨oc,vs,t,e,d,v⟩:=L.cod
 obtain ⟨e1,_⟩:=I.hok c' _ e
 exact ⟨c',oc,vs,t,rfl,e1,d,v⟩
theorem mk_lam {Q:Value->Shared->Prop} (I:Inv X pins σ H s) (B:LamScope X sc x fr) (hcode:X.env.code = .ref c) (C:CodeHd X.base c P) (hP:H P = some (.tab (pos.line:Int) (pos.col:Int) (X.env.qual ++ "<lambda>")))
  (hdef:defaultsOf params X.env = ([],[]))
  (h:∀ s' H' f c' cl ctv pm,Inv X pins σ H' s'->Same H H'->LamAt X pins sc params body (X.env.qual ++ "<lambda>") P H' s' f c' cl ctv pm->Q (.ref f) s'):
  wpAny (model X.prog X.w) X.A (eval (.Lambda params body sc pos) X.env) Q X.xe s:=by
 obtain ⟨cl,hcl,q1,q2⟩:=Zfm (scope:=sc) (env:=X.env) fun y hy hf=>I.ok.has y.1 ((B.free y hy hf).elim .inl .inr)
 have hg:s.heap.Ns mainGlobals X.mg:=I.mod.glob.keeps I.bk
 have CH:CodeHd s.heap c P:=by
  obtain ⟨o,vs,file,tf,flags,tg,inF,text,tt,e1,r⟩:=C
  exact ⟨o,vs,file,tf,flags,tg,inF,text,tt,I.bk _ _ e1,r⟩
 obtain ⟨bm,ob,b1,b2,b3,b4,b5,b6⟩:=I.mod.bmain
 have b3':=I.bs _ _ b3
 have hgP:mainGlobals ≠ P:=fun q=>by
  obtain ⟨o,es,ep,e,hd,_⟩:=I.mod.glob
  have:=(I.bs _ _ e).2
  rw [q,hP] at this
  cases this
 have hbP:bm ≠ P:=fun q=>by
  have:=b3'.2
  rw [q,hP] at this
  cases this
 have hbG:bm ≠ mainGlobals:=fun q=>by
  obtain ⟨o,es,ep,e,hd,_⟩:=I.mod.glob
  rw [q,e] at b3; cases b3; rw [hd] at b6; cases b6
 have BA:s.heap.BuiltinsAt X.mg P:=⟨bm,ob,b1,b2,hbG,hbP,b3'.1,b4,b5,b6⟩
 have ok:=I.hok P _ hP
 refine kla_eval hdef ?_
 rcases ok with e0 | ⟨c',oc,vs,t,e0,ne,e2,d2,v2⟩
 ·-- the first one
  refine kla_makeFunction (mg:=X.mg) hcl I.ok.glob hg hcode CH e0 (by exact True.intro) rfl hgP BA fun c' ctv h' tk hx hge hlt hrec htb=>?_
  obtain ⟨c2,oc,vs,t,ec,hoc,hd,hv⟩:=hrec
  cases ec
  have hcn:H c' = none:=I.hok.fresh hge
  have hcP:c' ≠ P:=fun z=>by rw [z,hP] at hcn; cases hcn
  have hxk:∀ b o,b ≠ P->s.heap.get? b = some o->(h'.push (kla_obj "<lambda>" (X.env.qual ++ "<lambda>") params body sc cl ((X.mg "__name__").getD .none) c' ctv)).get? b = some o:=fun b o hb e=>Jad _ (hx b o hb e)
  have gP:(h'.push (kla_obj "<lambda>" (X.env.qual ++ "<lambda>") params body sc cl ((X.mg "__name__").getD .none) c' ctv)).get? P = some (tabObj (#[] ++ #[rawInt pos.line,rawInt pos.col,.ref c'])):=Jad _ htb
  have gc:(h'.push (kla_obj "<lambda>" (X.env.qual ++ "<lambda>") params body sc cl ((X.mg "__name__").getD .none) c' ctv)).get? c' = some oc:=Jad _ hoc
  have sm:Same H (upd H c' (.frz oc (.own P))):=fun b u e=>by rw [Zaf (Zae e hcn)]; exact e
  have nP:∀ {b:Addr},H b = none->b ≠ P:=fun e z=>by rw [z,hP] at e; cases e
  have U:Un X.fs [] H (upd H c' (.frz oc (.own P))) s.heap (h'.push (kla_obj "<lambda>" (X.env.qual ++ "<lambda>") params body sc cl ((X.mg "__name__").getD .none) c' ctv)):=by
   refine ⟨fun b o e n _ _=>hxk b o (nP n) e,fun b o e n _ _=>⟨o.slots,hxk b o (nP n) e⟩,fun b o e n _=>?_,fun b o e _=>?_,fun b xs e=>sm _ _ e,fun b o u e=>sm _ _ e,fun b ps e=>⟨#[],by rw [sm _ _ e]; simp⟩⟩
   ·rw [Zaf (Jay (Jax (Jaf e) hge))]
    exact n
   ·by_cases z:b = P
    ·exact ⟨_,by rw [z]; exact gP⟩
    ·exact ⟨o,hxk b o z e⟩
  have O:HOk X.prog X.w (upd H c' (.frz oc (.own P))) (h'.push (kla_obj "<lambda>" (X.env.qual ++ "<lambda>") params body sc cl ((X.mg "__name__").getD .none) c' ctv)):=fun b u e=>by
   by_cases hb:b = c'
   ·subst hb
    rw [Zac] at e
    cases e
    exact ⟨gc,⟨oc,gc⟩⟩
   ·rw [Zaf hb] at e
    by_cases hbP':b = P
    ·subst hbP'
     rw [hP] at e
     cases e
     exact .inr ⟨c',oc,vs,t,gP,hcP,Zac,hd,hv⟩
    ·refine (I.hok b u e).stay (fun a v ha q=>hxk a v ?_ q) (fun a z=>sm _ _ z) (fun a xs z=>sm _ _ z) fun a o' u' z=>sm _ _ z
     rcases ha with rfl | ha
     ·exact hbP'
     ·intro z
      rw [z,hP] at ha
      cases ha
  have I':Inv X pins σ (upd H c' (.frz oc (.own P))) { s with heap:=h'.push (kla_obj "<lambda>" (X.env.qual ++ "<lambda>") params body sc cl ((X.mg "__name__").getD .none) c' ctv),toks:=tk }:=I.un U O
  have hsz:s.heap.objs.size<=h'.objs.size:=Jbo (Nat.lt_of_le_of_lt hge hlt)
  refine h _ _ h'.objs.size c' cl ctv _ I' sm ⟨Jas _ rfl,I.fpOk hsz ?_,⟨oc,vs,t,Zac,hd,hv⟩,q1,q2⟩
  rw [Zaf (Jdl hlt)]
  exact I.hok.fresh hsz
 ·-- the code is there
  refine kla_makeFunctionHit (cv:=.ref c') (mg:=X.mg) hcl I.ok.glob hg hcode CH e0 (by simp [TriplesOk,rawInt]) (by simp [codeAmong,rawInt]) BA fun ctv h' tk hk hsz=>?_
  have I':Inv X pins σ H { s with heap:=h'.push (kla_obj "<lambda>" (X.env.qual ++ "<lambda>") params body sc cl ((X.mg "__name__").getD .none) c' ctv),toks:=tk }:=I.kept fun b o e=>Jad _ (hk b o e)
  exact h _ _ h'.objs.size c' cl ctv _ I' (Same.refl _) ⟨Jas _ rfl,I.fpOk hsz (I.hok.fresh hsz),⟨oc,vs,t,e2,d2,v2⟩,q1,q2⟩
end
theorem Same.sqL {K:PySem.W.Frag} {H H':Hp} {a:Addr} {xs:List V} (s:Same H H') (h:SqL K H a xs):SqL K H' a xs:=s.seq h
def IsMin (kf:Nat->Int) (n i:Nat):Prop:=i < n/\∀ j,j < n->kf i<=kf j/\(j < i->kf i < kf j)
section
variable {X:Cx} {pins:List (Addr × Obj)} {σ:St} {sc:Scope} {x:Str} {fr:List (Str × Nat)} {P:Addr} {params:Arguments} {body:Expr} {qual:Str} {f c' l It S:Addr} {cl:List (Str × Addr)} {ctv pm:Value} {xs:List V} {te:TE} {H0:Hp} {kf:Nat->Int}
theorem FpOk.same {pins:List (Addr × Obj)} {H H':Hp} {b:Addr} (h:FpOk X pins H b) (e:H' b = none):FpOk X pins H' b:=⟨e,h.2⟩
theorem Zlo {H:Hp} {s:Shared} {i:Nat} {v:V} {u:Value} {b₁:Addr} {o₁:Obj} {b₂:Addr} {o₂:Obj} (hc:X.calm = true) (hroom:X.A.depth < recursionLimit) (B:LamScope X sc x fr) (hbd:∀ u pm c' ctv cl,bindArgs (kla_fn "<lambda>" qual params body sc cl pm (.ref c') ctv) ⟨[u],[]⟩ = pure [(x,u)])
  (he:∀ cl f c' s H,PE (Zhl X (Zmq x fr) qual sc cl f (.ref c') X.A.in1 s H) body te) (I:Inv X pins σ H s) (L:LamAt X pins sc params body qual P H s f c' cl ctv pm)
  (ht:te (Zon v fr σ) H fun y H'=>y = .int (kf i)/\Same H H') (rv:RelV v u)
  (f1:FpOk X pins H b₁) (g1:s.heap.get? b₁ = some o₁) (d1:∀ v,o₁.data ≠ .cell v) (f2:FpOk X pins H b₂) (g2:s.heap.get? b₂ = some o₂) (d2:∀ v,o₂.data ≠ .cell v):
  wpAny (model X.prog X.w) X.A.in1 (call (.ref f) [u]) (fun y s'=>∃ t H',y = .int (kf i) t/\Same H H'/\Inv X pins σ H' s'/\LamAt X pins sc params body qual P H' s' f c' cl ctv pm/\s'.heap.get? b₁ = some o₁/\H' b₁ = none/\s'.heap.get? b₂ = some o₂/\H' b₂ = none) (fun _ _=>False) s:=by
 have Ip:=I.pinned (fp:=[b₁,b₂,f]) (fun b hb=>by
  rcases Jam.mp hb with rfl | hb
  ·exact f1
  ·rcases Jam.mp hb with rfl | hb
   ·exact f2
   ·rw [Jbg.mp hb]; exact L.fp) (fun b hb=>by
  rcases Jam.mp hb with rfl | hb
  ·exact ⟨_,g1,d1⟩
  ·rcases Jam.mp hb with rfl | hb
   ·exact ⟨_,g2,d2⟩
   ·rw [Jbg.mp hb]; exact ⟨_,L.fn,fun v z=>by cases z⟩)
 refine thn (run_lam Ip B I.ok.frames (I.ok.hd hc) hroom L.hcl L.hcl2 rv L.fn (L.code I) (hbd _ _ _ _ _) (he _ _ _ _ _) ht) fun y s' h=>?_
 obtain ⟨w,H',I',r,rfl,sm⟩:=h
 obtain ⟨t,rfl⟩:=r
 have pn:∀ b ∈ [b₁,b₂,f],∀ o,s.heap.get? b = some o->s'.heap.get? b = some o/\H' b = none:=fun b hb o e=>by
  have:=I'.pin (b,o) (Jah _ (Jah _ (Za8 hb e)))
  exact ⟨this.1,this.2.1⟩
 obtain ⟨oc,vs,tk,e,r⟩:=L.cod
 obtain ⟨p1,p1'⟩:=pn b₁ (by simp) _ g1
 obtain ⟨p2,p2'⟩:=pn b₂ (by simp) _ g2
 obtain ⟨p3,p3'⟩:=pn f (by simp) _ L.fn
 exact ⟨t,H',rfl,sm,I'.unpinned,⟨p3,L.fp.same p3',⟨oc,vs,tk,sm _ _ e,r⟩,L.hcl,L.hcl2⟩,p1,p1',p2,p2'⟩
end
section
variable {X:Cx} {sc:Scope} {x:Str} {fr:List (Str × Nat)} {P c:Addr} {params:Arguments} {body e:Expr} {lpos p pos k1 k2 kp:Pos} {ta te:TE}
end
abbrev Tbs:=List (Addr × Int × Int × Str)
def Zhu (tb:Tbs) (H:Hp):Prop:=∀ b t,tb.lookup b = some t->H b = some (.tab t.1 t.2.1 t.2.2)
def hp0 (K:PySem.W.Frag) (tb:Tbs) (a:Addr) (oa:Obj) (xs:List V):Hp:=fun b=>if b = a then (if (K.lookup a).isSome = true then none else some (.frz oa (.lst xs))) else (tb.lookup b).map fun t=>.tab t.1 t.2.1 t.2.2
theorem Zlm {P:Program} {w:World} {K:PySem.W.Frag} {mg mb:Str->Option Value} {CX:CXT} {k:Nat} {fa a:Addr} {fd:FuncData} {x:Str} {sp:Sp} {s₁:Shared} {vs:List Value} {ns:List Int} {tb:Tbs}
  (KX:K.In s₁.heap) (hns:s₁.heap.Ns mainGlobals mg) (hb:s₁.heap.Ns builtinsNs mb) (hbb:∀ x:Str,x ≠ "__name__" -> mb x = bootBuiltins x) (hlim:s₁.heap.NoLimit) (hseer:s₁.heap.NoSeer)
  (hbm:∃ bm ob,mg "__builtins__" = some (.ref bm)/\bm ≠ builtinsNs/\s₁.heap.get? bm = some ob/\ob.cls = .type "module" /\ ob.dict = some builtinsNs/\ob.data = .plain) (hg:s₁.gens = #[])
  (htb:∀ b t,tb.lookup b = some t->s₁.heap.get? b = some (tabObj #[])/\K.lookup b = none/\isCodeTable s₁.heap b)
  (ha:s₁.heap.get? a = some { cls:=.type "list",data:=.seq vs.toArray }) (hi:IntsAre vs ns) (hl:ns.length<=sizeLine) (hr:Room k callerA)
  (F:∀ base:Heap,K.In base->base.Ns mainGlobals mg->FnOk P w K mg base CX k fa fd [x] sp) (hbind:∀ (s:Shared) (u:Value),BindsTo s fd ⟨[u],[]⟩ [(x,u)])
  (hsp:∀ H:Hp,SqL K H a (ns.map V.int)->Zhu tb H->sp [.ref a] H (fun v H'=>v = .bl true/\Zhu tb H') fun _ _ _=>False)
  (hCX:∀ H e s',CX [] H s₁ (fun _ _ _=>False) e s'->False):
  codeAny (model P w) callerA (.call (.ref fa) ⟨[.ref a],[]⟩) (fun r s'=>r = .ok (.ret (.bool true))/\OldK s₁.heap s'.heap/\s'.os = s₁.os/\AllBare s'.gens) s₁:=by
 have rv:=Zg1 hi
 have lenV:=hi.length
 generalize hH:hp0 K tb a { cls:=.type "list",data:=.seq vs.toArray } (ns.map V.int) = H
 have tne:∀ b t,tb.lookup b = some t->b ≠ a:=fun b t e z=>by
  have:=(htb b t e).1
  rw [z,ha] at this
  cases this
 have hT:Zhu tb H:=fun b t e=>by
  rw [<- hH]
  unfold hp0
  rw [if_neg (tne b t e),e]
  rfl
 have cases3:∀ b,H b = none\/(b = a/\K.lookup a = none/\H b = some (.frz { cls:=.type "list",data:=.seq vs.toArray } (.lst (ns.map V.int))))\/∃ t,tb.lookup b = some t/\H b = some (.tab t.1 t.2.1 t.2.2):=fun b=>by
  rw [<- hH]
  unfold hp0
  by_cases hba:b = a
  ·rw [if_pos hba]
   cases hk:K.lookup a with
   | none=>exact .inr (.inl ⟨hba,rfl,rfl⟩)
   | some o=>exact .inl rfl
  ·rw [if_neg hba]
   cases ht:tb.lookup b with
   | none=>exact .inl rfl
   | some t=>exact .inr (.inr ⟨t,rfl,rfl⟩)
 have free:∀ {b:Addr} {o:Obj},s₁.heap.get? b = some o->(∀ xs n,o.data ≠ .seq xs n)->(∀ xs,o.data ≠ .fields xs)->H b = none:=fun {b o} e d1 d2=>by
  rcases cases3 b with h | ⟨rfl,_,_⟩ | ⟨t,h,_⟩
  ·exact h
  ·rw [ha] at e
   cases e
   exact absurd rfl (d1 _ _)
  ·rw [(htb b t h).1] at e
   cases e
   exact absurd rfl (d2 _)
 have base_of:∀ {b:Addr} {o:Obj},s₁.heap.get? b = some o->H b = none->(Zmr s₁.heap H).get? b = some o:=fun e n=>Zny e n
 have nsK:∀ {b:Addr} {m:Str->Option Value},s₁.heap.Ns b m->(Zmr s₁.heap H).Ns b m:=fun {b m} ⟨o,es,ep,e,d,r⟩=>⟨o,es,ep,base_of e (free e (fun xs n z=>by rw [d] at z; cases z) fun xs z=>by rw [d] at z; cases z),d,r⟩
 have hKb:K.In (Zmr s₁.heap H):=fun b o e=>base_of (KX b o e) (by
  rcases cases3 b with h | ⟨rfl,h,_⟩ | ⟨t,h,_⟩
  ·exact h
  ·rw [h] at e; cases e
  ·rw [(htb b t h).2.1] at e; cases e)
 have seerB:(Zmr s₁.heap H).NoSeer:=⟨let ⟨mc,x,y⟩:=hseer.statics; ⟨mc,nsK x,y⟩,let ⟨mc,x,y⟩:=hseer.mods; ⟨mc,nsK x,y⟩,let ⟨mc,x,y⟩:=hseer.imp; ⟨mc,nsK x,y⟩,let ⟨mg',bm,ob,x,y,z,u,v⟩:=hseer.main; ⟨mg',bm,ob,nsK x,y,base_of z (by
   rcases cases3 bm with h | ⟨rfl,_,_⟩ | ⟨t,h,_⟩
   ·exact h
   ·rw [ha] at z; cases z
    have u':Value.type "list" = Value.type "module" := u
    injection u' with u'
    exact absurd u' (by decide)
   ·rw [(htb bm t h).1] at z; cases z
    cases u),u,v⟩⟩
 have hM:Mod K mg (Zmr s₁.heap H):=⟨hKb,nsK hns,⟨mb,nsK hb,hbb⟩,let ⟨mc,h1,h2⟩:=hlim; ⟨mc,nsK h1,h2⟩,seerB,let ⟨bm,ob,x1,x2,x3,x4,x5,x6⟩:=hbm; ⟨bm,ob,x1,x2,base_of x3 (free x3 (fun xs n z=>by rw [x6] at z; cases z) fun xs z=>by rw [x6] at z; cases z),x4,x5,x6⟩⟩
 have hS:SqL K H a (ns.map V.int):=by
  rcases hk:K.lookup a with _ | o
  ·refine .inl (.inr ⟨{ cls:=.type "list",data:=.seq vs.toArray },?_⟩)
   rw [<- hH]
   unfold hp0
   rw [if_pos rfl,hk]
   rfl
  ·have e:=KX a o hk
   rw [ha] at e
   cases e
   exact .inr ⟨_,vs.toArray,_,hk,rfl,rfl,rfl,by rw [Jai,lenV]; exact hl,by simpa using rv⟩
 have hok:HOk P w H s₁.heap:=fun b u e=>by
  rcases cases3 b with h | ⟨rfl,_,h⟩ | ⟨t,h0,h⟩
  ·rw [h] at e; cases e
  ·rw [h] at e; cases e
   exact ⟨ha,by rw [Jaa]; exact hl,vs,_,rv,ha⟩
  ·rw [h] at e; cases e
   exact .inl (htb b t h0).1
 have e0:Env0 P w K mg (Zmr s₁.heap H) callerA [] s₁ H:=⟨rfl,hM,fun b o e=>of_hidT e,Nat.le_of_eq (Zl1 _ _),trivial,fun b hb=>absurd (show b ∈ ([]:List Addr) from hb) (by simp),hok,.of_eq hg⟩
 refine Jd8 ((F _ hKb (nsK hns)).run callerA [] s₁ H ⟨[.ref a],[]⟩ [.ref a] [.ref a] _ _ hr e0 (hbind s₁ (.ref a)) (.cons rfl .nil) (hsp H hS hT)) fun r s' h=>?_
 cases r with
 | error e=>exact (hCX H e s' h).elim
 | ok fl=>
  cases fl with
  | next=>exact False.elim h
  | brk=>exact False.elim h
  | cont=>exact False.elim h
  | ret u=>
   obtain ⟨v,H',os,bare,un,hok',r',q⟩:=h
   obtain ⟨q',hT'⟩:=q
   subst q'
   obtain rfl:u = Value.bool true:=r'
   have noF:∀ b:Addr,b ∉ frs ([]:List Env):=fun b z=>absurd (show b ∈ ([]:List Addr) from z) (by simp)
   refine ⟨rfl,⟨fun b o e=>?_,fun b o e=>un.there b o e (by simp)⟩,os,bare⟩
   rcases cases3 b with h | ⟨rfl,_,h⟩ | ⟨t,h0,h⟩
   ·exact .inl (un.keep b o e h (noF b) (by simp))
   ·have z2:=un.frzs _ _ _ h
    obtain ⟨e1,_⟩:=hok _ _ h
    obtain ⟨e2,_⟩:=hok' _ _ z2
    rw [e] at e1; cases e1
    exact .inl e2
   ·rw [(htb b t h0).1] at e
    cases e
    rcases hok' b _ (hT' b t h0) with e2 | ⟨c',oc,ws,tk,e2,_⟩
    ·exact .inl e2
    ·exact .inr (.inl ⟨(htb b t h0).2.2,rfl,#[],_,rfl,by rw [e2,Array.empty_append]⟩)
theorem Zmt {l:PySem.W.OpenLaw} {n k:Nat} {q:Program} {loose:List Str} {XP:(Str->Option Value)->Heap->Prop} {YP:World->Heap->Prop} {d:DefRec} {K:Params->PySem.W.Frag} {CX:World->CXT} {sp:World->Sp} {x:Str} {tb:Tbs}
  (hq:importsNone q = true) (hn:l.most = some n) (hn2:n<=sizeLine) (hdf:d.params.defaults = []) (hr:Room k callerA)
  (hY:∀ (w:World) (h:Heap),YP w h->(K w.params).In h) (htb:∀ (w:World) (h:Heap),YP w h->∀ b t,tb.lookup b = some t->h.get? b = some (tabObj #[])/\(K w.params).lookup b = none/\isCodeTable h b)
  (F:∀ (w:World) (mg:Str->Option Value) (fa:Addr) (h:Heap),(K w.params).In h->h.Ns mainGlobals mg->mg d.name = some (.ref fa)->
   ∃ fd:FuncData,(∀ (s:Shared) (u:Value),BindsTo s fd ⟨[u],[]⟩ [(x,u)]) /\
    ∀ base:Heap,(K w.params).In base->base.Ns mainGlobals mg->FnOk l.prog w (K w.params) mg base (CX w) k fa fd [x] (sp w))
  (hsp:∀ (w:World) (H:Hp) (a:Addr) (ns:List Int),ns.length<=n->SqL (K w.params) H a (ns.map V.int)->Zhu tb H->sp w [.ref a] H (fun v H'=>v = .bl true/\Zhu tb H') fun _ _ _=>False)
  (hCX:∀ (w:World) (H:Hp) (s:Shared) (e:Value) (s':Shared),CX w [] H s (fun _ _ _=>False) e s'->False):
  PySem.W.WalkO q loose XP YP l.row.toRowW d [] (fun f vs=>PySem.call f vs):=by
 refine Att.attach_call hn hdf fun w s₀ s₁ mg mb fa o pm cd doc a vs ns G Y ho hd hcd hmg hobj hints hlen hg=>?_
 have KX:=hY w _ Y
 obtain ⟨fd,hb,hF⟩:=F w mg fa _ KX G.T.g hmg
 exact Zlm KX G.T.g G.T.b G.T.builtins G.T.nolimit (G.T.seer hq) G.T.bmain hg (htb w _ Y) hobj hints (Jba hlen hn2) hr hF hb (fun H hS hT=>hsp w H a ns hlen hS hT) fun H e s'=>hCX w H s₁ e s'
def lamOk (outer:List (Str × NameKind)) (N:List Str) (sc:Scope) (x:Str) (fr:List (Str × Nat)):Bool:=
 sc.kind == .function && !sc.isCoroutine && !sc.isGenerator && sc.names.all (fun y=>y.2 != .cell) && sc.names.lookup x == some .local &&
 sc.names.all (fun y=>y.2 != .free || outer.lookup y.1 == some .cell || outer.lookup y.1 == some .free) &&
 fr.all fun y=>sc.names.lookup y.1 == some .free && N[y.2]? == some y.1
theorem lam_of {X:Cx} {sc:Scope} {x:Str} {fr:List (Str × Nat)} (h:lamOk X.env.scope.names X.N sc x fr = true):LamScope X sc x fr:=by
 unfold lamOk at h
 simp only [Jb3,Jci] at h
 obtain ⟨⟨⟨⟨⟨⟨h1,h2⟩,h3⟩,h4⟩,h5⟩,h6⟩,h7⟩:=h
 refine ⟨?_,?_,?_,fun y hy z=>?_,Jbh.mp h5,fun y hy hf=>?_,fun y hy=>?_⟩
 ·cases e:sc.kind <;> rw [e] at h1 <;> first | rfl | (exact absurd h1 (by decide))
 ·simpa using h2
 ·simpa using h3
 ·have:=h4 y hy
  rw [z] at this
  exact absurd this (by decide)
 ·have:=h6 y hy
  rw [hf] at this
  simp only [Jd2,Jbh] at this
  rcases this with (q | q) | q
  ·exact absurd q (by decide)
  ·exact .inl q
  ·exact .inr q
 ·have:=h7 y hy
  exact ⟨Jbh.mp this.1,Jbh.mp this.2⟩
structure FunC (K:PySem.W.Frag) (x qual:Str) (st:Stmt) (f:Addr) (fd:FuncData) (c:Addr):Prop where
 ex:∃ (oc:Value) (od:Option Addr) (kV doc pm:Value) (an:Option Addr) (ct:Value) (osl:Array (Option Value)),
  fd = PySem.W.fnOf x qual (Zal st) (Zaj st) (Zad st) .none kV doc pm an (.ref c) ct/\K.lookup f = some ⟨oc,od,.func fd,osl⟩/\PySem.W.codeIn K (.ref c) qual = true
section
variable {P:Program} {w:World} {K:PySem.W.Frag} {mg:Str->Option Value} {base:Heap}
theorem FunC.ok {x qual:Str} {st:Stmt} {f c:Addr} {fd:FuncData} {N ps:List Str} {k:Nat} {sp:L2.Sp} (F:FunC K x qual st f fd c) (S:FnScope N ps (Zad st)) (len:∀ vs H Q E,sp vs H Q E->vs.length = ps.length)
  (hbody:∀ (A:Around) (outer:List Env) (s:Shared) (H:Hp) (vs:List V) (Q:VK) (E:XK),Room k (A.deeper (envOfC qual (Zad st) s.heap.objs.size f (.ref c)))->sp vs H Q E->
   ∃ t,PSs (Zox CX0 P w K mg base N qual (Zad st) f (.ref c) A outer s H E).nox (Zaj st) t/\t { nx:=fun _ H'=>Q .non H',rt:=Q } (start N vs) H):FnOk P w K mg base CX0 (k + 1) f fd ps sp:=by
 obtain ⟨oc,od,kV,doc,pm,an,ct,osl,rfl,lk,hcd⟩:=F.ex
 refine fn_of lk hcd S len fun A outer s H vs Q E hr hsp=>?_
 obtain ⟨t,h,q⟩:=hbody A outer s H vs Q E hr hsp
 exact ⟨t,h.nox,q⟩
theorem FunC.binds {x qual:Str} {st:Stmt} {f c:Addr} {fd:FuncData} {ps:List Str} (F:FunC K x qual st f fd c)
  (h:∀ (kV doc pm:Value) (an:Option Addr) (cdv ct:Value) (us:List Value),us.length = ps.length->bindArgs (PySem.W.fnOf x qual (Zal st) (Zaj st) (Zad st) .none kV doc pm an cdv ct) ⟨us,[]⟩ = pure (ps.zip us)):Binds K fd ps []:=by
 obtain ⟨oc,od,kV,doc,pm,an,ct,osl,rfl,lk,hcd⟩:=F.ex
 exact .all (h kV doc pm an (.ref c) ct)
end
end L2
namespace L2
open PySem PySem.Spec PyProof.Rows PySem.W
def hdIn (K:PySem.W.Frag) (c P:Addr):Bool:=
 match List.lookup c K with
 | some ⟨.type t,_,.fields (vs:Array Value),_⟩=>t == "code" && (match (vs[11]?:Option Value) with | some (Value.ref q)=>q == P | _=>false) && (match vs.getD 11 .none with | .ref q=>q == P | _=>false) && (match vs.getD 18 .none with | .str _ _=>true | _=>false) && (match vs.getD 7 .none with | .int _ _=>true | _=>false) && (match vs.getD 9 .none with | .bool _=>true | _=>false) && (match vs.getD 10 .none with | .int _ _=>true | _=>false) && c != P
 | _=>false
theorem hd_of {K:PySem.W.Frag} {h:Heap} {c P:Addr} (X:K.In h) (e:hdIn K c P = true):PySem.W.CodeHd h c P:=by
 unfold hdIn at e
 split at e
 ·rename_i t d vs sl hl
  simp only [Jb3] at e
  obtain ⟨⟨⟨⟨⟨⟨⟨e1,e2⟩,e3⟩,e4⟩,e5⟩,e6⟩,e7⟩,e8⟩:=e
  have e1:=eq_of_beq e1
  subst e1
  have h2:vs[11]? = some (.ref P):=by
   split at e2
   ·rename_i q hq
    rw [hq,eq_of_beq e2]
   ·cases e2
  have h3:vs.getD 11 .none = .ref P:=by
   split at e3
   ·rename_i q hq
    rw [hq,eq_of_beq e3]
   ·cases e3
  have h4:∃ f t,vs.getD 18 .none = .str f t:=by
   split at e4
   ·rename_i f t hq
    exact ⟨f,t,hq⟩
   ·cases e4
  have h5:∃ f t,vs.getD 7 .none = .int f t:=by
   split at e5
   ·rename_i f t hq
    exact ⟨f,t,hq⟩
   ·cases e5
  have h6:∃ f,vs.getD 9 .none = .bool f:=by
   split at e6
   ·rename_i f hq
    exact ⟨f,hq⟩
   ·cases e6
  have h7:∃ f t,vs.getD 10 .none = .int f t:=by
   split at e7
   ·rename_i f t hq
    exact ⟨f,t,hq⟩
   ·cases e7
  obtain ⟨f1,t1,h4⟩:=h4
  obtain ⟨f2,t2,h5⟩:=h5
  obtain ⟨f3,h6⟩:=h6
  obtain ⟨f4,t4,h7⟩:=h7
  exact ⟨_,vs,f1,t1,f2,t2,f3,f4,t4,X c _ hl,rfl,rfl,h2,h3,h4,h5,h6,h7,by simpa using e8⟩
 ·cases e
theorem Zmu {l:PySem.W.OpenLaw} {n k:Nat} {q:Program} {loose:List Str} {XP:(Str->Option Value)->Heap->Prop} {YP:World->Heap->Prop} {d:DefRec} {K:Params->PySem.W.Frag} {sp:World->Sp} {x:Str} (cL PL:Addr) (ln co:Int) (qu:Str)
  (hq:importsNone q = true) (hn:l.most = some n) (hn2:n<=sizeLine) (hdf:d.params.defaults = []) (hr:Room k callerA)
  (hY:∀ (w:World) (h:Heap),YP w h->(K w.params).In h) (hP:∀ (w:World) (h:Heap),YP w h->h.get? PL = some (PySem.W.tabObj #[])) (hN:∀ p,(K p).lookup PL = none) (hC:∀ p,hdIn (K p) cL PL = true)
  (F:∀ (w:World) (mg:Str->Option Value) (fa:Addr) (h:Heap),(K w.params).In h->h.Ns mainGlobals mg->mg d.name = some (.ref fa)->
   ∃ fd:FuncData,(∀ (s:Shared) (u:Value),BindsTo s fd ⟨[u],[]⟩ [(x,u)]) /\
    ∀ base:Heap,(K w.params).In base->base.Ns mainGlobals mg->FnOk l.prog w (K w.params) mg base CX0 k fa fd [x] (sp w))
  (hsp:∀ (w:World) (H:Hp) (a:Addr) (ns:List Int) (Q:VK) (E:XK),ns.length<=n->SqL (K w.params) H a (ns.map V.int)->H PL = some (.tab ln co qu)->(∀ H',H' PL = some (.tab ln co qu)->Q (.bl true) H')->sp w [.ref a] H Q E):
  PySem.W.WalkO q loose XP YP l.row.toRowW d [] (fun f vs=>PySem.call f vs):=by
 have one:∀ b t,([(PL,ln,co,qu)]:Tbs).lookup b = some t->b = PL/\t = (ln,co,qu):=fun b t e=>by
  rw [Jat] at e
  split at e
  ·rename_i hb
   cases e
   exact ⟨eq_of_beq hb,rfl⟩
  ·cases e
 have two:([(PL,ln,co,qu)]:Tbs).lookup PL = some (ln,co,qu):=by rw [Jat]; simp
 refine Zmt (l:=l) (n:=n) (k:=k) (K:=K) (CX:=fun _=>CX0) (sp:=sp) (x:=x) (tb:=[(PL,ln,co,qu)]) hq hn hn2 hdf hr hY (fun w h Y b t e=>?_) F (fun w H a ns hl hS hT=>?_) (fun _ _ _ _ _ h=>h)
 ·obtain ⟨rfl,_⟩:=one b t e
  have g:=hP w h Y
  exact ⟨g,hN _,((hd_of (hY w h Y) (hC _)).tab g).isCodeTable⟩
 ·refine hsp w H a ns _ _ hl hS (hT PL _ two) fun H' h'=>⟨rfl,fun b t e=>?_⟩
  obtain ⟨rfl,rfl⟩:=one b t e
  exact h'
end L2
namespace L2
open PySem PySem.Spec PyProof.Rows PySem.W
section
variable {X:Cx} {pins:List (Addr × Obj)} {σ:St} {sc:Scope} {x:Str} {fr:List (Str × Nat)} {P:Addr} {params:Arguments} {body:Expr} {qual:Str} {f c' l It S:Addr} {cl:List (Str × Addr)} {ctv pm:Value} {xs:List V} {te:TE} {H0:Hp} {kf:Nat->Int}
theorem Zlc (hc:X.calm = true) (hroom:X.A.depth < recursionLimit) (B:LamScope X sc x fr) (hbd:∀ u pm c' ctv cl,bindArgs (kla_fn "<lambda>" qual params body sc cl pm (.ref c') ctv) ⟨[u],[]⟩ = pure [(x,u)])
  (he:∀ cl f c' s H,PE (Zhl X (Zmq x fr) qual sc cl f (.ref c') X.A.in1 s H) body te) (hlI:l ≠ It) (hSI:S ≠ It) (hfI:f ≠ It) (hfS:f ≠ S)
  (ht:∀ i v H,xs[i]? = some v->Same H0 H->te (Zon v fr σ) H fun y H'=>y = .int (kf i)/\Same H H') (hl0:SqL X.K H0 l xs)
  {R:Result->Shared->Prop} (hR:∀ i v u s' H',IsMin kf xs.length i->xs[i]? = some v->RelV v u->Same H0 H'->Inv X pins σ H' s'->R (.ok (.ret u)) s'):
  ∀ (r j i:Nat) (s:Shared) (H:Hp) (vb:V) (ub:Value) (tb:Tok) (n:Nat),xs.length - (j + 1) = r->j + 1<=xs.length->Same H0 H->Inv X pins σ H s->LamAt X pins sc params body qual P H s f c' cl ctv pm->FpOk X pins H S->FpOk X pins H It->
   s.heap.get? S = some (seqObj "list" #[ub,.int (kf i) tb] n)->s.heap.IsListIter It l (j + 1)->xs[i]? = some vb->RelV vb ub->i<=j->(∀ j',j'<=j->kf i<=kf j'/\(j' < i->kf i < kf j'))->
   codeAny (model X.prog X.w) X.A (.builtin "min.loop" ⟨[.ref It,.ref f,.ref S],[]⟩) R s:=by
 have hname:(toString "min" ++ toString ".loop" : String) = "min.loop" := by decide
 intro r
 induction r with
 | zero=>
  intro j i s H vb ub tb n hr hj sm I L fS fI gS hit hvb rvb hij hbest
  have hin:j + 1 = xs.length:=by omega
  obtain ⟨its,rv,p,hz⟩:=I.list (sm.sqL hl0)
  have hlen:=rv.length
  refine Jdd Jdf ?_
  rw [Jck Jby _]
  show wpAny _ X.A.in1 (seqItems? (.ref S) >>= _) _ _ _
  refine Jac (wpAny_seqItems gS rfl ?_)
  show wpAny _ X.A.in1 (tryCatch (pyNext (.ref It)) _ >>= _) _ _ _
  refine Jac (Jc5 (Jdm (A:=X.A.in1) (I.ok.hd hc) hit p.isList (by simp; omega) fun h' eb=>?_))
  have I1:Inv X pins σ H { s with heap:=h' }:=I.turned (t':=s.toks) (fun b o hb e=>eb b o hb e) fI.1 fI.2.1 fI.2.2.2.1 fI.2.2.2.2.1 fI.2.2.2.2.2
  have gS':h'.get? S = some (seqObj "list" #[ub,.int (kf i) tb] n):=eb S _ hSI gS
  show wpAny _ X.A.in1 (updateSeq S (fun _=>#[]) >>= _) _ _ _
  refine Jac ?_
  refine Jd5 gS' rfl (Jac (wpAny_letGo (Jap ?_)))
  have s1:=Jd6 h' S (Obj.mapSeq fun _=>(#[]:Array Value))
  have I2:=I1.turned (t':=s.toks) (h':=h'.update S (Obj.mapSeq fun _=>(#[]:Array Value))) (fun b o hb e=>(s1.2 b hb).trans e) fS.1 fS.2.1 fS.2.2.2.1 fS.2.2.2.2.1 fS.2.2.2.2.2
  exact hR i vb ub _ H ⟨by omega,fun j' hj'=>hbest j' (by omega)⟩ hvb rvb sm I2
 | succ r ih=>
  intro j i s H vb ub tb n hr hj sm I L fS fI gS hit hvb rvb hij hbest
  have hlt:j + 1 < xs.length:=by omega
  obtain ⟨its,rv,p,hz⟩:=I.list (sm.sqL hl0)
  have hlen:=rv.length
  have hx:xs[j + 1]? = some (xs[j + 1]'hlt):=Jab hlt
  obtain ⟨u,hu,ru⟩:=rv.get hx
  refine Jdd Jdf ?_
  rw [Jck Jby _]
  show wpAny _ X.A.in1 (seqItems? (.ref S) >>= _) _ _ _
  refine Jac (wpAny_seqItems gS rfl ?_)
  show wpAny _ X.A.in1 (tryCatch (pyNext (.ref It)) _ >>= _) _ _ _
  refine Jac (Jc5 (Jcu (A:=X.A.in1) hit p.isList (x:=u) (by simpa using hu) fun h' hit' sb=>?_))
  have I1:Inv X pins σ H { s with heap:=h' }:=I.turned (t':=s.toks) (fun b o hb e=>(sb.2 b hb).trans e) fI.1 fI.2.1 fI.2.2.2.1 fI.2.2.2.2.1 fI.2.2.2.2.2
  have gS':h'.get? S = some (seqObj "list" #[ub,.int (kf i) tb] n):=(sb.2 S hSI).trans gS
  obtain ⟨oI,goI,hoc,hod⟩:=id hit'
  have L1:LamAt X pins sc params body qual P H { s with heap:=h' } f c' cl ctv pm:=⟨(sb.2 f hfI).trans L.fn,L.fp,L.cod,L.hcl,L.hcl2⟩
  show wpAny _ X.A.in1 (tryCatch (holding [u] (call (.ref f) [u])) _ >>= _) _ _ _
  refine Jac (Jc5 (Jbq (Ja5 (Zlo (i:=j + 1) hc hroom B hbd he I1 L1 (ht (j + 1) _ H hx sm) ru fS gS' (fun v z=>by cases z) fI goI (fun v z=>by rw [hod] at z; cases z)) (fun y s2 hy=>?_) fun _ _ hF=>hF.elim)))
  obtain ⟨t2,H2,rfl,sm2,I2,L2',gS2,nS2,gI2,nI2⟩:=hy
  have hit2:s2.heap.IsListIter It l (j + 1 + 1):=⟨oI,gI2,hoc,hod⟩
  show wpAny _ X.A.in1 (tryCatch (holding [u,.int (kf (j + 1)) t2] (richCompare .Lt (.int (kf (j + 1)) t2) (.int (kf i) tb) >>= _)) _ >>= _) _ _ _
  refine Jac (Jc5 (Jbq (Jac (CmpOf.ints_lt (prog:=X.prog) (w:=X.w) (A:=X.A.in1) (P:=fun i v=>∃ t,v = .int (kf i) t) kf (fun i v h=>h) (j + 1) i _ _ _ _ _ ⟨t2,rfl⟩ ⟨tb,rfl⟩ ?_))))
  refine Jac (Jbq (Jbn ?_))
  refine Jac (wpAny_letGo (Jap ?_))
  by_cases hb':kf (j + 1) < kf i
  ·have s1:=Jd6 s2.heap S (Obj.mapSeq fun _=>#[u,.int (kf (j + 1)) t2])
   obtain ⟨c2,hc2⟩:∃ c2,(s2.heap.update S (Obj.mapSeq fun _=>#[u,.int (kf (j + 1)) t2])).get? S = some (seqObj "list" #[u,.int (kf (j + 1)) t2] c2):=⟨_,get?_update_seq gS2 fun _=>#[u,.int (kf (j + 1)) t2]⟩
   simp only [hb',decide_true,Jcw]
   refine Jac ?_
   refine Jd5 gS2 rfl (Jac (wpAny_letGo ?_))
   rw [hname]
   have I3:=I2.turned (t':=s2.toks) (h':=s2.heap.update S (Obj.mapSeq fun _=>#[u,.int (kf (j + 1)) t2])) (fun b o hb e=>(s1.2 b hb).trans e) nS2 fS.2.1 fS.2.2.2.1 fS.2.2.2.2.1 fS.2.2.2.2.2
   have L3:LamAt X pins sc params body qual P H2 { s2 with heap:=s2.heap.update S (Obj.mapSeq fun _=>#[u,.int (kf (j + 1)) t2]) } f c' cl ctv pm:=⟨(s1.2 f hfS).trans L2'.fn,L2'.fp,L2'.cod,L2'.hcl,L2'.hcl2⟩
   refine Jap ⟨Jdc Jby _,ih (j + 1) (j + 1) _ H2 _ u t2 c2 (by omega) hlt (sm.trans sm2) I3 L3 (fS.same nS2) (fI.same nI2) hc2 ⟨oI,(s1.2 It hSI.symm).trans gI2,hoc,hod⟩ hx ru (Jae _) fun j' hj'=>?_⟩
   by_cases e:j' = j + 1
   ·subst e
    exact ⟨by omega,fun _=>by omega⟩
   ·have hb1:=hbest j' (by omega)
    have hb2:=hb1.1
    exact ⟨by omega,fun _=>by omega⟩
  ·simp only [hb',decide_false,Jda,Jei]
   refine Jac (wpAny_letGo ?_)
   rw [hname]
   refine Jap ⟨Jdc Jby _,ih (j + 1) i s2 H2 vb ub tb n (by omega) hlt (sm.trans sm2) I2 L2' (fS.same nS2) (fI.same nI2) gS2 hit2 hvb rvb (by omega) fun j' hj'=>?_⟩
   by_cases e:j' = j + 1
   ·subst e
    exact ⟨by omega,fun _=>by omega⟩
   ·exact hbest j' (by omega)
theorem Zle (a v:Value):argsOk "min" ⟨[a],[(Str.ofString "key",v)]⟩:=by unfold argsOk; kernel_rfl
theorem Zld {s:Shared} {Q:Value->Shared->Prop} (hc:X.calm = true) (hroom:X.A.depth < recursionLimit) (B:LamScope X sc x fr) (hbd:∀ u pm c' ctv cl,bindArgs (kla_fn "<lambda>" qual params body sc cl pm (.ref c') ctv) ⟨[u],[]⟩ = pure [(x,u)])
  (he:∀ cl f c' s H,PE (Zhl X (Zmq x fr) qual sc cl f (.ref c') X.A.in1 s H) body te) (I:Inv X pins σ H0 s) (L:LamAt X pins sc params body qual P H0 s f c' cl ctv pm)
  (ht:∀ i v H,xs[i]? = some v->Same H0 H->te (Zon v fr σ) H fun y H'=>y = .int (kf i)/\Same H H') (hl0:SqL X.K H0 l xs)
  (q0:xs ≠ [])
  (q1:∀ i v u s' H',IsMin kf xs.length i->xs[i]? = some v->RelV v u->Same H0 H'->Inv X pins σ H' s'->Q u s'):
  wpAny (model X.prog X.w) X.A (call (.builtin "min") [.ref l] [(Str.ofString "key",.ref f)]) Q X.xe s:=by
 have hname:(toString "min" ++ toString ".loop" : String) = "min.loop" := by decide
 obtain ⟨its,rv,p,hz⟩:=I.list hl0
 have hlen:=rv.length
 obtain ⟨ol,hol,_⟩:=id p.isList
 have hll:l < s.heap.objs.size:=Jaf hol
 have hfl:f < s.heap.objs.size:=Jaf L.fn
 refine kmk_tree PySem.F.kind_min PySem.F.plain_min PySem.F.entry_min (Zle _ _) ?_
 show wpAny _ X.A.in1 (Builtin.Builtins.bindParams "min" ["key","default"] 0 ⟨[],[(Str.ofString "key",.ref f)]⟩ >>= _) _ _ s
 refine Jac (wpAny_of_eq (show Builtin.Builtins.bindParams "min" ["key","default"] 0 ⟨[],[(Str.ofString "key",.ref f)]⟩ = pure [some (.ref f),none] from rfl) ?_)
 refine Jac (Jap ?_)
 refine Jac (Jc0 p.isList ?_)
 refine Jac (wpAny_newList ?_ (Jb1 _))
 rw [hname]
 have hS:(s.heap.push { cls:=.type "list_iterator",data:=.fields #[.ref l,.int 0 0] }).objs.size = s.heap.objs.size + 1:=size_push' ..
 have gI:((s.heap.push { cls:=.type "list_iterator",data:=.fields #[.ref l,.int 0 0] }).push (seqObj "list" #[] 0)).get? s.heap.objs.size = some { cls:=.type "list_iterator",data:=.fields #[.ref l,.int 0 0] }:=
  Jad _ (Jas _ rfl)
 have gS:((s.heap.push { cls:=.type "list_iterator",data:=.fields #[.ref l,.int 0 0] }).push (seqObj "list" #[] 0)).get? (s.heap.push { cls:=.type "list_iterator",data:=.fields #[.ref l,.int 0 0] }).objs.size = some (seqObj "list" #[] 0):=Jas _ rfl
 rw [hS] at gS
 have hk:∀ b o,s.heap.get? b = some o->((s.heap.push { cls:=.type "list_iterator",data:=.fields #[.ref l,.int 0 0] }).push (seqObj "list" #[] 0)).get? b = some o:=fun b o e=>Jad _ (Jad _ e)
 have I0:Inv X pins σ H0 { s with heap:=(s.heap.push { cls:=.type "list_iterator",data:=.fields #[.ref l,.int 0 0] }).push (seqObj "list" #[] 0) }:=I.kept (t':=s.toks) hk
 have fI:FpOk X pins H0 s.heap.objs.size:=I.fpOk (Jae _) (I.hok.fresh (Jae _))
 have fS:FpOk X pins H0 (s.heap.objs.size + 1):=I.fpOk (Jd1 _) (I.hok.fresh (Jd1 _))
 have L0:LamAt X pins sc params body qual P H0 { s with heap:=(s.heap.push { cls:=.type "list_iterator",data:=.fields #[.ref l,.int 0 0] }).push (seqObj "list" #[] 0) } f c' cl ctv pm:=⟨hk _ _ L.fn,L.fp,L.cod,L.hcl,L.hcl2⟩
 have hSI:s.heap.objs.size + 1 ≠ s.heap.objs.size:=by omega
 have p0:PlainL ((s.heap.push { cls:=.type "list_iterator",data:=.fields #[.ref l,.int 0 0] }).push (seqObj "list" #[] 0)) l its.toArray:=by
  obtain ⟨o,n,e,r⟩:=p
  exact ⟨o,n,hk _ _ e,r⟩
 have hit:Heap.IsListIter ((s.heap.push { cls:=.type "list_iterator",data:=.fields #[.ref l,.int 0 0] }).push (seqObj "list" #[] 0)) s.heap.objs.size l 0:=⟨_,gI,rfl,rfl⟩
 refine Jap ⟨Jdc Jby _,?_⟩
 rw [hS]
 refine Jdd Jdf ?_
 rw [Jck Jby _]
 show wpAny _ X.A.in1 (seqItems? (.ref _) >>= _) _ _ _
 refine Jac (wpAny_seqItems gS rfl ?_)
 show wpAny _ X.A.in1 (tryCatch (pyNext (.ref s.heap.objs.size)) _ >>= _) _ _ _
 cases hxs:xs with
 | nil=>exact absurd hxs q0
 | cons v0 r0=>
  have hne:0 < xs.length:=by rw [hxs]; exact Nat.zero_lt_succ _
  have hx:xs[0]? = some v0:=by rw [hxs]; rfl
  rw [<- hxs] at *
  obtain ⟨u,hu,ru⟩:=rv.get hx
  refine Jac (Jc5 (Jcu (A:=X.A.in1) hit p0.isList (x:=u) (by simpa using hu) fun h' hit' sb=>?_))
  have I1:Inv X pins σ H0 { s with heap:=h' }:=I0.turned (t':=s.toks) (fun b o hb e=>(sb.2 b hb).trans e) fI.1 fI.2.1 fI.2.2.2.1 fI.2.2.2.2.1 fI.2.2.2.2.2
  have gS':h'.get? (s.heap.objs.size + 1) = some (seqObj "list" #[] 0):=(sb.2 _ hSI).trans gS
  obtain ⟨oI,goI,hoc,hod⟩:=id hit'
  have L1:LamAt X pins sc params body qual P H0 { s with heap:=h' } f c' cl ctv pm:=⟨(sb.2 f (Jay hfl)).trans L0.fn,L.fp,L.cod,L.hcl,L.hcl2⟩
  show wpAny _ X.A.in1 (tryCatch (holding [u] (call (.ref f) [u])) _ >>= _) _ _ _
  refine Jac (Jc5 (Jbq (Ja5 (Zlo (i:=0) hc hroom B hbd he I1 L1 (ht 0 _ H0 hx (Same.refl _)) ru fS gS' (fun v z=>by cases z) fI goI (fun v z=>by rw [hod] at z; cases z)) (fun y s2 hy=>?_) fun _ _ hF=>hF.elim)))
  obtain ⟨t2,H2,rfl,sm2,I2,L2',gS2,nS2,gI2,nI2⟩:=hy
  have s1:=Jd6 s2.heap (s.heap.objs.size + 1) (Obj.mapSeq fun _=>#[u,.int (kf 0) t2])
  obtain ⟨c2,hc2⟩:∃ c2,(s2.heap.update (s.heap.objs.size + 1) (Obj.mapSeq fun _=>#[u,.int (kf 0) t2])).get? (s.heap.objs.size + 1) = some (seqObj "list" #[u,.int (kf 0) t2] c2):=⟨_,get?_update_seq gS2 fun _=>#[u,.int (kf 0) t2]⟩
  show wpAny _ X.A.in1 (updateSeq (s.heap.objs.size + 1) (fun _=>#[u,.int (kf 0) t2]) >>= _) _ _ _
  refine Jac ?_
  refine Jd5 gS2 rfl ?_
  rw [hname]
  have I3:=I2.turned (t':=s2.toks) (h':=s2.heap.update (s.heap.objs.size + 1) (Obj.mapSeq fun _=>#[u,.int (kf 0) t2])) (fun b o hb e=>(s1.2 b hb).trans e) nS2 fS.2.1 fS.2.2.2.1 fS.2.2.2.2.1 fS.2.2.2.2.2
  have hfS:f ≠ s.heap.objs.size + 1:=Jay (Jdh hfl)
  have L3:LamAt X pins sc params body qual P H2 { s2 with heap:=s2.heap.update (s.heap.objs.size + 1) (Obj.mapSeq fun _=>#[u,.int (kf 0) t2]) } f c' cl ctv pm:=⟨(s1.2 f hfS).trans L2'.fn,L2'.fp,L2'.cod,L2'.hcl,L2'.hcl2⟩
  refine Jap ⟨Jdc Jby _,Zlc (H0:=H0) hc hroom B hbd he (Jay hll) hSI (Jay hfl) hfS ht hl0 (fun i v u s' H' a b c d e=>q1 i v u s' H' a b c d e) _ 0 0 _ H2 v0 u t2 c2 rfl hne sm2 I3 L3 (fS.same nS2) (fI.same nI2) hc2 ⟨oI,(s1.2 _ hSI.symm).trans gI2,hoc,hod⟩ hx ru (Jae _) fun j' hj'=>?_⟩
  have e:j' = 0:=by omega
  subst e
  exact ⟨by omega,fun h=>absurd h (Jbp _)⟩
end
def tMin0 (K:PySem.W.Frag) (P:Addr) (ln co:Int) (q:Str) (fr:List (Str × Nat)) (ta te:TE):TE:=fun σ H Q=>ta σ H fun v H1=>∃ l xs,∃ kf:Nat->Int,v = .ref l/\SqL K H1 l xs/\H1 P = some (.tab ln co q) /\
 (∀ i v H,xs[i]? = some v->Same H1 H->te (Zon v fr σ) H fun y H'=>y = .int (kf i)/\Same H H')/\xs ≠ []/\∀ i v H',IsMin kf xs.length i->xs[i]? = some v->Same H1 H'->Q v H'
section
variable {X:Cx} {sc:Scope} {x:Str} {fr:List (Str × Nat)} {P c:Addr} {params:Arguments} {body e:Expr} {lpos p pos k1 k2 kp:Pos} {ta te:TE}
theorem pe_min0 (hc:X.calm = true) (hroom:X.A.depth < recursionLimit) (hg:Gl X "min") (hm:X.mg "min" = none) (B:LamScope X sc x fr) (hcode:X.env.code = .ref c) (C:CodeHd X.base c P) (hdef:defaultsOf params X.env = ([],[]))
  (hbd:∀ u pm c' ctv cl,bindArgs (kla_fn "<lambda>" (X.env.qual ++ "<lambda>") params body sc cl pm (.ref c') ctv) ⟨[u],[]⟩ = pure [(x,u)])
  (ha:PE X e ta) (he:∀ cl f c' s H,PE (Zhl X (Zmq x fr) (X.env.qual ++ "<lambda>") sc cl f (.ref c') X.A.in1 s H) body te) (hs:Zbv e = false:=by rfl):
  PE X (.Call (.Name "min" p) [e] [⟨some "key",.Lambda params body sc lpos,k1⟩] pos) (tMin0 X.K P (lpos.line:Int) (lpos.col:Int) (X.env.qual ++ "<lambda>") fr ta te):=by
 intro pins s σ H Q I h
 refine Jcx (Zfh I hg hm boot_min ?_ (by decide) (by decide))
 have hst:backTo pos (starEach [e] X.env) = (false,eval e X.env) :: backTo pos (starEach [] X.env):=by rw [Za0 hs]; rfl
 refine callWith_kw (id:="min") (e:=e) (rest:=[]) ?_ hst (by rw [hst]; rfl) (by rfl) (by rfl)
 rw [hst]
 refine Calls.spliced_cons (thn (ha pins s σ H _ I h) fun u s1 ⟨v,H1,I1,r1,h1⟩=>?_)
 obtain ⟨l,xs,kf,rfl,hl,hP,ht,q0,q1⟩:=h1
 cases r1
 refine Calls.spliced_nil ?_
 refine kws_cons (mk_lam I1 B hcode C hP hdef fun s2 H2 f c' cl ctv pm I2 sm L=>kws_nil ?_)
 show wpAny _ _ (call (.builtin "min") [.ref l] [(Str.ofString "key",.ref f)]) _ _ s2
 refine Zld (kf:=kf) hc hroom B hbd he I2 L (fun i v H hi sm2=>ht i v H hi (sm.trans sm2)) (sm.sqL hl) q0 fun i v u s' H' hmn hi ru sm2 I'=>?_
 exact ⟨v,H',I',ru,q1 i v H' hmn hi (sm.trans sm2)⟩
end
end L2
set_option maxHeartbeats 4000000
open PySem L2 PyProof.Rows
local macro_rules | `($a<&>$b)=>`(@pa_c _ _ _ _ _ $a $b (by rfl))
local macro_rules | `($a<*>$b)=>`(@Zm7 _ _ _ _ _ $a $b)
local macro_rules | `($o<|>$a<&&>$b)=>`(@pe_op _ _ _ _ _ _ _ _ $o $a $b)
local macro_rules | `($o<|>$a<||>$b)=>`(@pe_ix _ _ _ _ _ _ _ $o $a $b (fun _ _=>rfl))
local macro_rules | `(~~~$x)=>`(@Zaq _ _ _ (@ps_ret _ _ _ _ $x))
local macro_rules | `(tactic| walk_at "wp")=>`(tactic| simp only [tSeq,tIfS,tTest,tOp,tUn,Zje,tC,tCB,Zea,Zj5,tRet,tRetN,tNext,tDrop,tAsg,tAug,ipI,Zbd,gTup,Zju,gNil,gSub,tTup,tLst,tSl,Zj4,tPart,Zj6,Zj7,tBM,tBM0,tPar,tB,tAnd,tOr,tNot,tAndV,tOrV,tNotV,tIf,Zg3,Zmw,tMeth,tFld,sFld,tDGet,Zkr,tMin0,rNotInN,sDPut,gLst,tAugS,rGetL,rI0,rI,rU,rIxL,rIxT,rSetL,rSlL,Zks,rRem,rCat,rEq,rNe,rEqL,rEqT,rIn,scal_ii,scal_bb,scal_ss,iList,iTup,Zl0,iRng2,cV,cx_K,in_K,wish_K,E0,L2.start,List.map,List.length,List.replicate,List.cons_append,List.nil_append,Jd0,List.getElem?_cons_zero,List.getElem?_cons_succ,Jau,Jcb,Option.some.injEq,exists_eq_left',exists_eq_left,exists_and_left,V.int.injEq,V.bl.injEq,V.ref.injEq,V.ty.injEq,Jb8,reduceCtorEq,false_and,and_false,exists_false,or_false,false_or,and_true,true_and,Nat.reduceSub,Nat.reduceAdd,Nat.reduceLT,Jcw,Jei,Jda])
namespace Pf
open PySem L2 PyProof.Rows
def top (i:Nat):Stmt:=PySem.Challenge.pw_limbtables_k20_whole_good_or_low.main.body.getD i (.Pass ⟨0,0,0,0⟩)
abbrev Zce:Stmt:=top 5
abbrev Za4:Stmt:=top 9
abbrev Zcf:Stmt:=top 10
abbrev Zbb:Stmt:=Zie (top 15) 0
abbrev Zcd:Stmt:=top 24
abbrev Zcx:Stmt:=top 25
abbrev Zcc:Stmt:=top 26
abbrev Zbz:Stmt:=top 27
abbrev Zay:Stmt:=top 28
abbrev Za5:Stmt:=top 29
abbrev Zb0:Stmt:=top 30
abbrev Zb1:Stmt:=top 31
abbrev Zc0:Stmt:=top 11
abbrev Zcy:Stmt:=top 12
abbrev Zfx:Stmt:=top 13
abbrev Zbf:Stmt:=top 14
abbrev Zaz:Stmt:=Zie (top 15) 1
abbrev Za7:Stmt:=Zie (top 15) 5
abbrev Zby:Stmt:=top 17
abbrev Zeb:Stmt:=top 18
abbrev Zcz:Stmt:=top 19
abbrev Zau:Stmt:=top 20
abbrev Zdp:Stmt:=top 21
abbrev Zch:Stmt:=top 22
abbrev Zcb:Stmt:=top 32
abbrev Zcw:Stmt:=top 33
abbrev Za6:Stmt:=top 34
abbrev Zax:Stmt:=top 35
abbrev Zgf:Stmt:=top 36
theorem Ze4:FnScope ["thing"] ["thing"] (Zad Zce):=⟨rfl,rfl,rfl,by decide +kernel,rfl,by decide +kernel,by decide +kernel⟩
theorem Zc7:FnScope ["many","arrows"] ["many","arrows"] (Zad Za4):=⟨rfl,rfl,rfl,by decide +kernel,rfl,by decide +kernel,by decide +kernel⟩
theorem Ze5:FnScope ["many","thing"] ["many","thing"] (Zad Zcf):=⟨rfl,rfl,rfl,by decide +kernel,rfl,by decide +kernel,by decide +kernel⟩
theorem Zde:FnScope ["self","many","arrows"] ["self","many","arrows"] (Zad Zbb):=⟨rfl,rfl,rfl,by decide +kernel,rfl,by decide +kernel,by decide +kernel⟩
theorem Ze3:FnScope ["_law_script","_law_k"] ["_law_script","_law_k"] (Zad Zcd):=⟨rfl,rfl,rfl,by decide +kernel,rfl,by decide +kernel,by decide +kernel⟩
theorem Zft:FnScope ["_law_cell_here"] ["_law_cell_here"] (Zad Zcx):=⟨rfl,rfl,rfl,by decide +kernel,rfl,by decide +kernel,by decide +kernel⟩
theorem Ze2:FnScope ["_law_bag_here","_law_many","_law_found"] ["_law_bag_here","_law_many"] (Zad Zcc):=⟨rfl,rfl,rfl,by decide +kernel,rfl,by decide +kernel,by decide +kernel⟩
theorem Zel:FnScope ["_law_bag_here","_law_many","_law_left","_law_row_here","_law_at"] ["_law_bag_here","_law_many"] (Zad Zbz):=⟨rfl,rfl,rfl,by decide +kernel,rfl,by decide +kernel,by decide +kernel⟩
theorem Zcu:FnScope ["_law_bag_here","_law_way","_law_edges_here","_law_many","_law_k","_law_one"] ["_law_bag_here","_law_way"] (Zad Zay):=⟨rfl,rfl,rfl,by decide +kernel,rfl,by decide +kernel,by decide +kernel⟩
theorem Zc8:FnScope ["_law_bag_here","_law_sort","_law_many","_law_long","_law_edges_here"] ["_law_bag_here"] (Zad Za5):=⟨rfl,rfl,rfl,by decide +kernel,rfl,by decide +kernel,by decide +kernel⟩
theorem Zem:FnScope ["_law_bag_here","_law_way","_law_many"] ["_law_bag_here","_law_way"] (Zad Zb0):=⟨rfl,rfl,rfl,by decide +kernel,rfl,by decide +kernel,by decide +kernel⟩
theorem Zen:FnScope ["_law_bag_here","_law_way","_law_many","_law_left","_law_order_here","_law_arrows","_law_at","_law_one","_law_other"] ["_law_bag_here","_law_way"] (Zad Zb1):=⟨rfl,rfl,rfl,by decide +kernel,rfl,by decide +kernel,by decide +kernel⟩
theorem Zfw:FnScope ["points","arrows","least","tail","head","low","high","point"] ["points","arrows"] (Zad Zc0):=⟨rfl,rfl,rfl,by decide +kernel,rfl,by decide +kernel,by decide +kernel⟩
theorem Zfu:FnScope ["points","arrows","many","ends","forks"] ["points","arrows"] (Zad Zcy):=⟨rfl,rfl,rfl,by decide +kernel,rfl,by decide +kernel,by decide +kernel⟩
theorem Zkg:FnScope ["points","arrows","fork","others"] ["points","arrows","fork"] (Zad Zfx):=⟨rfl,rfl,rfl,by decide +kernel,rfl,by decide +kernel,by decide +kernel⟩
theorem Zdr:FnScope ["many","lengths"] ["many","lengths"] (Zad Zbf):=⟨rfl,rfl,rfl,by decide +kernel,rfl,by decide +kernel,by decide +kernel⟩
theorem Zcv:FnScope ["self"] ["self"] (Zad Zaz):=⟨rfl,rfl,rfl,by decide +kernel,rfl,by decide +kernel,by decide +kernel⟩
theorem Zda:FnScope ["self"] ["self"] (Zad Za7):=⟨rfl,rfl,rfl,by decide +kernel,rfl,by decide +kernel,by decide +kernel⟩
theorem Zek:FnScope ["drawing","one","other","at_points"] ["drawing","one","other"] (Zad Zby):=⟨rfl,rfl,rfl,by decide +kernel,rfl,by decide +kernel,by decide +kernel⟩
theorem Ziu:FnScope ["drawing","row"] ["drawing","row"] (Zad Zeb):=⟨rfl,rfl,rfl,by decide +kernel,rfl,by decide +kernel,by decide +kernel⟩
theorem Zfv:FnScope ["drawing"] ["drawing"] (Zad Zcz):=⟨rfl,rfl,rfl,by decide +kernel,rfl,by decide +kernel,by decide +kernel⟩
theorem Zco:FnScope ["drawing","kept","arrow","fewer"] ["drawing"] (Zad Zau):=⟨rfl,rfl,rfl,by decide +kernel,rfl,by decide +kernel,by decide +kernel⟩
theorem Zg8:FnScope ["row","point"] ["row","point"] (Zad Zdp):=⟨rfl,rfl,rfl,by decide +kernel,rfl,by decide +kernel,by decide +kernel⟩
theorem Zfr:FnScope ["drawing","bare","row"] ["drawing"] (Zad Zch):=⟨rfl,rfl,rfl,by decide +kernel,rfl,by decide +kernel,by decide +kernel⟩
theorem Ze1:FnScope ["_law_arrows","_law_one","_law_other","_law_total","_law_k","_law_tail","_law_head"] ["_law_arrows","_law_one","_law_other"] (Zad Zcb):=⟨rfl,rfl,rfl,by decide +kernel,rfl,by decide +kernel,by decide +kernel⟩
theorem Zfs:FnScope ["_law_bag_here","_law_many","_law_sort","_law_row_here","_law_k","_law_number","_law_turn"] ["_law_bag_here","_law_many"] (Zad Zcw):=⟨rfl,rfl,rfl,by decide +kernel,rfl,by decide +kernel,by decide +kernel⟩
theorem Zc9:FnScope ["_law_many","_law_arrows","_law_mark","_law_row_here","_law_left","_law_k"] ["_law_many","_law_arrows"] (Zad Za6):=⟨rfl,rfl,rfl,by decide +kernel,rfl,by decide +kernel,by decide +kernel⟩
theorem Zct:FnScope ["_law_drawing","_law_arrows","_law_bag_here","_law_turn","_law_row_here","_law_told"] ["_law_drawing","_law_arrows","_law_bag_here"] (Zad Zax):=⟨rfl,rfl,rfl,by decide +kernel,rfl,by decide +kernel,by decide +kernel⟩
theorem Zod:FnScope ["_law_script","_law_k","_law_bag_here","_law_many","_law_arrows","_law_drawing","_law_good"] ["_law_script"] (Zad Zgf):=⟨rfl,rfl,rfl,by decide +kernel,rfl,by decide +kernel,by decide +kernel⟩
structure Txt (K:PySem.W.Frag) (mg:Str->Option Value) (C:Addr):Prop where
 cl_Drawing:Cls K C
 nM:NoAttr K C "many"
 nA:NoAttr K C "arrows"
 n_len:mg "len" = none
 n_range:mg "range" = none
 n_list:mg "list" = none
 n_min:mg "min" = none
 n_int:mg "int" = none
 n_bool:mg "bool" = none
 n_tuple:mg "tuple" = none
 n_all:mg "all" = none
 n_isinstance:mg "isinstance" = none
 n_sorted:mg "sorted" = none
 n_sum:mg "sum" = none
 n_zip:mg "zip" = none
 n_max:mg "max" = none
 g_MOST_POINTS:∃ t,mg "MOST_POINTS" = some (.int 8 t)
 g_MOST_ARROWS:∃ t,mg "MOST_ARROWS" = some (.int 9 t)
def Zip (a b:Int):HO:=.lst [.int a,.int b]
def Bag (H:Hp) (l:Addr):Prop:=∃ a b:Int,H l = some (Zip a b)/\0<=b/\b < 2147483647
def Zkc (K:PySem.W.Frag):Sp:=fun vs H Q _=>∃ (a:Addr) (ns:List Int) (k:Int),vs = [.ref a,.int k]/\SqL K H a (ns.map V.int)/\ns.length<=63/\0<=k/\∀ c,Q (.int c) H
def spBag:Sp:=fun vs H Q _=>∃ c:Int,vs = [.int c]/\∀ (l:Addr) (a b:Int),H l = none->0<=b->b < 2147483647->Q (.ref l) (upd H l (Zip a b))
def Zdd:Sp:=fun vs H Q _=>∃ (l:Addr) (a b n:Int),vs = [.ref l,.int n]/\H l = some (Zip a b)/\0<=b/\b < 2147483647/\0 < n/\n < 1000000000 /\
 ∀ (r a' b':Int),0<=r->r < n->0<=b'->b' < 2147483647->Q (.int r) (upd H l (Zip a' b'))
section
variable {P:Program} {w:World} {K:PySem.W.Frag} {mg:Str->Option Value} {base:Heap} {C:Addr}
theorem ok_cell {f:Addr} {fd:FuncData} (F:Fun K "_law_cell" "_law_cell" Zcd f fd) (T:Txt K mg C):FnOk P w K mg base CX0 1 f fd ["_law_script","_law_k"] (Zkc K):=by
 have nd:=Ze3.nd
 refine F.ok Ze3 (fun vs H Q E h=>?_) (fun cdv A outer s H vs Q E hr h=>?_)
 ·obtain ⟨a,ns,k,rfl,_⟩:=h
  rfl
 ·obtain ⟨a,ns,k,rfl,hS,hl,h0,q⟩:=h
  refine ⟨_,((@Zbj _ _ _ _ _ _ _ _ (Zai Znf (pv 1) (Zb6 Zao rfl T.n_len Jbv ((pv 0)<&>Zab)) (Zar _)) (~~~(Zav<|>(pv 0)<||>(pv 1))) Zan)<*>(~~~Zaa)),?_⟩
  walk_at "wp"
  refine ⟨_,.inl hS,Zdu (fun hc=>?_) (fun _=>q 0)⟩
  have hc:=Jaq hc
  rw [Jaa] at hc
  refine ⟨_,hS,V.int (ns[k.toNat]'(by omega)),Zbx h0 ?_,q _⟩
  rw [Ja6,Jab (by omega)]
  rfl
theorem pow60:IntMulOk (10 ^ (60:Int).toNat) (10 ^ (60:Int).toNat):=IntMulOk.of_bits (by decide +kernel) (by decide +kernel)
theorem cpow (k:Int) (h0:0<=k) (h1:k<=1000):CPow 10 k:=⟨h0,by omega,by decide⟩
theorem Zf3 (c n:Int) (h:0 < n):0<=c % n:=Int.emod_nonneg _ (by omega)
theorem Zf4 (c n:Int) (h:0 < n):c % n < n:=Int.emod_lt_of_pos _ h
theorem ok_bag {f:Addr} {fd:FuncData} (F:Fun K "_law_bag" "_law_bag" Zcx f fd) (T:Txt K mg C):FnOk P w K mg base CX0 1 f fd ["_law_cell_here"] spBag:=by
 have nd:=Zft.nd
 refine F.ok Zft (fun vs H Q E h=>?_) (fun cdv A outer s H vs Q E hr h=>?_)
 ·obtain ⟨c,rfl,_⟩:=h
  rfl
 ·obtain ⟨c,rfl,q⟩:=h
  refine ⟨_,((@Zbj _ _ _ _ _ _ _ _ (Zai op_ge (pv 0) (Zf1<|>Zaa<&&>Zaa) (Zar _)) (~~~(@Zbn _ _ _ _ ((Zdj<|>(pv 0)<&&>(Zff<|>(Zf1<|>Zaa<&&>Zaa)<&&>(Zf1<|>Zaa<&&>Zaa)))<&>((Zdj<|>(pv 0)<&&>Zaa)<&>Zab)))) Zan)<*>(~~~(@Zbn _ _ _ _ (Zaa<&>((Zdj<|>(Za1<|>(Zf2<|>(Zdj<|>(pv 0)<&&>Zaa)<&&>Zaa)<&&>Zaa)<&&>Zaa)<&>Zab))))),?_⟩
  walk_at "wp"
  refine ⟨cpow _ (by decide) (by decide),Zdu (fun _=>?_) (fun _=>?_)⟩
  ·exact ⟨cpow _ (by decide) (by decide),cpow _ (by decide) (by decide),pow60,by decide +kernel,by decide,by decide,fun p hp=>q p _ _ hp (Zf3 _ _ (by decide)) (Zf4 _ _ (by decide))⟩
  ·exact ⟨by decide,.inr ⟨by decide,by decide⟩,by decide,by decide,fun p hp=>q p _ _ hp (Zf3 _ _ (by decide)) (Zf4 _ _ (by decide))⟩
theorem ok_draw {f:Addr} {fd:FuncData} (F:Fun K "_law_draw" "_law_draw" Zcc f fd) (T:Txt K mg C):FnOk P w K mg base CX0 1 f fd ["_law_bag_here","_law_many"] Zdd:=by
 have nd:=Ze2.nd
 refine F.ok Ze2 (fun vs H Q E h=>?_) (fun cdv A outer s H vs Q E hr h=>?_)
 ·obtain ⟨l,a,b,n,rfl,_⟩:=h
  rfl
 ·obtain ⟨l,a,b,n,rfl,hl,b0,b1,n0,n1,q⟩:=h
  refine ⟨_,((@Zbj _ _ _ _ _ _ _ _ (Zai op_ge (Zav<|>(pv 0)<||>Zaa) (pv 1) (Zar _)) ((Zam (i:=2) nd rfl (Or.inl rfl) (Zdj<|>(Zav<|>(pv 0)<||>Zaa)<&&>(pv 1)))<*>((Zfb (Zgq<|>(Zav<|>(pv 0)<||>Zaa)<&&>(pv 1)) (Zk0 (pv 0) Zaa Zge))<*>(~~~(pv 2)))) Zan)<*>((Zfb Zaa (Zk0 (pv 0) Zaa Zge))<*>((Zfb (Zdj<|>(Za1<|>(Zf2<|>(Zav<|>(pv 0)<||>Zaa)<&&>Zaa)<&&>Zaa)<&&>Zaa) (Zk0 (pv 0) Zaa Zge))<*>(~~~(Zdj<|>(Zgq<|>(Zdj<|>(Zf2<|>(Zav<|>(pv 0)<||>Zaa)<&&>(Za1<|>(Zgq<|>(Zav<|>(pv 0)<||>Zaa)<&&>Zaa)<&&>Zaa))<&&>Zaa)<&&>Zaa)<&&>(pv 1)))))),?_⟩
  walk_at "wp"
  refine ⟨_,SqL.of hl,_,rfl,_,rfl,Zdu (fun hc=>?_) (fun hc=>?_)⟩
  ·refine ⟨_,SqL.of hl,_,rfl,_,rfl,n0,_,SqL.of hl,_,rfl,_,rfl,⟨n0,by omega⟩,_,hl,_,rfl,?_⟩
   exact q _ _ _ (Zf3 _ _ n0) (Zf4 _ _ n0) b0 b1
  ·refine ⟨_,hl,_,rfl,_,SqL.of Zac,_,rfl,_,rfl,.inr ⟨by decide,by decide⟩,by decide,_,Zac,_,rfl,_,SqL.of Zac,_,rfl,_,SqL.of Zac,_,rfl,_,rfl,⟨by decide,by decide⟩,_,rfl,?_⟩
   have h1:=Zf3 (b * 48271 + 4099) 2147483647 (by decide)
   have h2:=Zf4 (b * 48271 + 4099) 2147483647 (by decide)
   refine ⟨.inl ⟨by omega,by omega⟩,by decide,⟨by decide,by decide⟩,n0,?_⟩
   rw [upd_upd]
   exact q _ _ _ (Zf3 _ _ n0) (Zf4 _ _ n0) h1 h2
end
end Pf
namespace Pf
open PySem L2 PyProof.Rows
section
variable {P:Program} {w:World} {K:PySem.W.Frag} {mg:Str->Option Value} {base:Heap} {C:Addr}
def InR (m:Int) (ys:List Int):Prop:=∀ y ∈ ys,0<=y/\y < m
def Zh1:Sp:=fun vs H Q _=>∃ (l:Addr) (m:Int),vs = [.ref l,.int m]/\Bag H l/\0<=m/\m<=8 /\
 ∀ (p:Addr) (ys:List Int) (H':Hp),Ext l H H'->Bag H' l->H p = none->H' p = some (.lst (ys.map V.int))->(ys.length:Int) = m->InR m ys->Q (.ref p) H'
theorem Zkq (lo hi:Int):Zmp lo hi = ((List.range (hi - lo).toNat).map fun (i:Nat)=>lo + (i:Int)).map V.int:=by
 unfold Zmp
 rw [Jcd]
 rfl
theorem Zma (xs:List V) (k:Int) (h0:0<=k) (h1:k<=xs.length):Zeh xs none (some k) = xs.take k.toNat:=by
 unfold Zeh HT.sIx
 have:¬ k < 0:=by omega
 simp only [this,Jei,Jdk,Nat.sub_zero]
 congr 1
 omega
theorem Zmb (xs:List V) (k:Int) (h0:0<=k) (h1:k<=xs.length):Zeh xs (some k) none = xs.drop k.toNat:=by
 unfold Zeh HT.sIx
 have e:¬ k < 0:=by omega
 have e2:min k.toNat xs.length = k.toNat:=by omega
 simp only [e,Jei,e2]
 rw [List.take_of_length_le]
 rw [Jct]
 omega
theorem Bag.ne {H:Hp} {l p:Addr} (h:Bag H l) (hp:H p = none):p ≠ l:=by
 obtain ⟨a,b,e,_⟩:=h
 exact (Zae e hp).symm
theorem Bag.new {H:Hp} {l p:Addr} {o:HO} (h:Bag H l) (hp:p ≠ l):Bag (upd H p o) l:=by
 obtain ⟨a,b,e,h1,h2⟩:=h
 exact ⟨a,b,by rw [Zaf hp.symm]; exact e,h1,h2⟩
theorem Bag.set {H:Hp} {l:Addr} {a b:Int} (h1:0<=b) (h2:b < 2147483647):Bag (upd H l (Zip a b)) l:=⟨a,b,Zac,h1,h2⟩
theorem Znj {f:Addr} {fd:FuncData} (F:Fun K "_law_order" "_law_order" Zbz f fd) (T:Txt K mg C) (C_law_draw:Cal P w K mg base "_law_draw" 1 Zdd):FnOk P w K mg base CX0 2 f fd ["_law_bag_here","_law_many"] Zh1:=by
 have nd:=Zel.nd
 refine F.ok Zel (fun vs H Q E h=>?_) (fun cdv A outer s H vs Q E hr h=>?_)
 ·obtain ⟨l,m,rfl,_⟩:=h
  rfl
 ·obtain ⟨l,m,rfl,hb,m0,m8,q⟩:=h
  refine ⟨_,((Zam (i:=2) nd rfl (Or.inl rfl) (Zgn (Zd7 rfl) rfl T.n_list Jd7 ((Zgn Zho rfl T.n_range boot_range ((pv 1)<&>Zab))<&>Zab)))<*>((Zam (i:=3) nd rfl (Or.inl rfl) (@Zbn _ _ _ _ Zab))<*>((Zgl Jbd (Zai Zgp (Zb6 Zao rfl T.n_len Jbv ((pv 2)<&>Zab)) Zaa (Zar _)) ((Zam (i:=4) nd rfl (Or.inl rfl) (Zb2 C_law_draw hr.m rfl ((pv 0)<&>((Zb6 Zao rfl T.n_len Jbv ((pv 2)<&>Zab))<&>Zab))))<*>((Zdh (Zfq Jbe Jbs Jbt Zbs (pv 3) ((Zav<|>(pv 2)<||>(pv 4))<&>Zab)))<*>(@Zaq _ _ _ (Zam (i:=2) nd rfl (Or.inl rfl) (Zfg<|>(@Zb9 _ _ _ _ _ _ _ _ _ _ Zc1 (pv 2) Zc4 (@Zc3 _ _ _ (pv 4)))<&&>(@Zb9 _ _ _ _ _ _ _ _ _ _ Zc1 (pv 2) (@Zc3 _ _ _ (Za1<|>(pv 4)<&&>Zaa)) Zc4)))))))<*>(~~~(pv 3))))),?_⟩
  walk_at "wp"
  intro p hp
  refine ⟨_,_,Zac,⟨by decide,by decide,by omega,by omega⟩,by omega,fun l1 hl1=>⟨by decide,fun p1 hp1=>?_⟩⟩
  have hpl:=hb.ne hp
  have b1:Bag (upd H p (.rng 0 m)) l:=hb.new hpl
  have hll:=b1.ne hl1
  have b2:Bag (upd (upd H p (.rng 0 m)) l1 (.lst (Zmp 0 m))) l:=b1.new hll
  have hl1p:p1 ≠ l1:=(Zae Zac hp1).symm
  have hHp1:H p1 = none:=((Same.new hp).trans (Same.new hl1)).free hp1
  rw [Zkq] at *
  refine ⟨fun k σ H2=>∃ (pl:Addr) (ls rs:List Int) (v:Option V),σ = [some (.ref l),some (.int m),some (.ref pl),some (.ref p1),v]/\k = ls.length/\Ext l H H2/\Bag H2 l /\
   H2 pl = some (.lst (ls.map V.int))/\H2 p1 = some (.lst (rs.map V.int))/\pl ≠ p1/\pl ≠ l/\((ls.length:Int) + rs.length = m)/\InR m ls/\InR m rs,?_,?_⟩
  ·refine ⟨_,l1,((List.range (m - 0).toNat).map fun (i:Nat)=>(0:Int) + (i:Int)),[],none,rfl,rfl,?_,b2.new (b2.ne hp1),?_,Zac,hl1p.symm,hll,?_,?_,fun _ h=>nomatch h⟩
   ·exact ((Ext.new hp).trans (Ext.new hl1)).trans (Ext.new hp1)
   ·rw [Zaf hl1p.symm,Zac]
   ·rw [Jaa,Jb2]
    simp
    omega
   ·intro y hy
    obtain ⟨i,hi,rfl⟩:=Jao.mp hy
    have:=Jc3.mp hi
    omega
  ·rintro k σ H2 ⟨pl,ls,rs,v,rfl,rfl,ex,hb2,hpl2,hp12,n1,n2,hlen,il,ir⟩
   walk_at "wp"
   refine ⟨_,.inl (SqL.of hpl2),Zdu (fun hc=>?_) (fun hc=>?_)⟩
   ·refine ⟨_,fun _ _ h=>h,?_⟩
    have hc:=Jaq hc
    rw [Jaa] at hc
    walk_at "wp"
    refine ⟨_,.inl (SqL.of hpl2),?_⟩
    obtain ⟨a,b,hla,b0,b1'⟩:=hb2
    rw [Jaa]
    refine ⟨l,a,b,_,rfl,hla,b0,b1',hc,by omega,fun r a' b' r0 r1 c0 c1=>?_⟩
    have hr1:r.toNat < ls.length:=by omega
    have hp1l:p1 ≠ l:=hb.ne hHp1
    have h3pl:(upd H2 l (Zip a' b')) pl = some (.lst (ls.map V.int)):=by rw [Zaf n2]; exact hpl2
    have h3p1:(upd H2 l (Zip a' b')) p1 = some (.lst (rs.map V.int)):=by rw [Zaf hp1l]; exact hp12
    have e1:Ext l H (upd H2 l (Zip a' b')):=ex.trans Ext.set
    have B1:Bag (upd H2 l (Zip a' b')) l:=Bag.set c0 c1
    refine ⟨.inl ⟨rfl,_,SqL.of h3p1⟩,_,r,rfl,SqL.of h3pl,V.int (ls[r.toNat]),Zbx r0 (by rw [Ja6,Jab hr1]; rfl),_,h3p1,Zah (by rw [Jaa]; omega),r,rfl,_,
     SqL.of (by rw [Zaf n1]; exact h3pl),fun p2 hp2=>⟨r,rfl,ls.map V.int,SqL.of ?g1,fun p3 hp3=>⟨Zeh (ls.map V.int) none (some r),?g2,_,Zac,?g3,fun p4 hp4=>?g4⟩⟩⟩
    case g1=>
     have:pl ≠ p2:=Zae (by rw [Zaf n1]; exact h3pl) hp2
     rw [Zaf this,Zaf n1]
     exact h3pl
    case g2=>rw [Zaf (Zae Zac hp3)]; exact Zac
    case g3=>
     have h1:=Zcl (ls.map V.int) none (some r)
     have h2:=Zcl (ls.map V.int) (some (r + 1)) none
     rw [Jaa] at h1 h2
     exact Jbo (Zah (by omega))
    case g4=>
     have e2:=e1.upd (o:=.lst (rs.map V.int ++ [V.int ls[r.toNat]])) hHp1
     have B2:Bag (upd (upd H2 l (Zip a' b')) p1 (.lst (rs.map V.int ++ [V.int ls[r.toNat]]))) l:=B1.new hp1l
     have e3:=e2.trans (Ext.new (o:=.lst (Zeh (ls.map V.int) none (some r))) hp2)
     have B3:=B2.new (o:=.lst (Zeh (ls.map V.int) none (some r))) (B2.ne hp2)
     have e4:=e3.trans (Ext.new (o:=.lst (Zeh (ls.map V.int) (some (r + 1)) none)) hp3)
     have B4:=B3.new (o:=.lst (Zeh (ls.map V.int) (some (r + 1)) none)) (B3.ne hp3)
     have n21:p2 ≠ p1:=(Zae Zac hp2).symm
     have q2:(upd (upd (upd H2 l (Zip a' b')) p1 (.lst (rs.map V.int ++ [V.int ls[r.toNat]]))) p2 (.lst (Zeh (ls.map V.int) none (some r)))) p1 = some (.lst (rs.map V.int ++ [V.int ls[r.toNat]])):=by
      rw [Zaf n21.symm]; exact Zac
     have n31:p1 ≠ p3:=Zae q2 hp3
     have q3:(upd (upd (upd (upd H2 l (Zip a' b')) p1 (.lst (rs.map V.int ++ [V.int ls[r.toNat]]))) p2 (.lst (Zeh (ls.map V.int) none (some r)))) p3 (.lst (Zeh (ls.map V.int) (some (r + 1)) none))) p1 = some (.lst (rs.map V.int ++ [V.int ls[r.toNat]])):=by
      rw [Zaf n31]; exact q2
     have n41:p1 ≠ p4:=Zae q3 hp4
     refine ⟨(ls.take r.toNat ++ ls.drop (r.toNat + 1)).length,by rw [Jak,Ja8,Jct]; omega,p4,ls.take r.toNat ++ ls.drop (r.toNat + 1),rs ++ [ls[r.toNat]],_,⟨rfl,rfl⟩,rfl,e4.trans (Ext.new hp4),B4.new (B4.ne hp4),?_,?_,n41.symm,B4.ne hp4,?_,?_,?_⟩
     ·rw [Zac,Zma _ _ r0 (by rw [Jaa]; omega),Zmb _ _ (by omega) (by rw [Jaa]; omega),Jav,List.map_take,List.map_drop,show (r + 1).toNat = r.toNat + 1 by omega]
     ·rw [Zaf n41,q3,Jav]
      rfl
     ·rw [Jak,Jak,Ja8,Jct]
      simp
      omega
     ·intro y hy
      rcases Jb7.mp hy with h | h
      ·exact il y (List.mem_of_mem_take h)
      ·exact il y (List.mem_of_mem_drop h)
     ·intro y hy
      rcases Jb7.mp hy with h | h
      ·exact ir y h
      ·rw [Jbg.mp h]
       exact il _ (Jb0 hr1)
   ·have hc:¬ (0:Int) < ((ls.map V.int).length:Nat):=fun z=>hc (Ja3 z)
    rw [Jaa] at hc
    exact q p1 rs H2 ex hb2 hHp1 hp12 (by omega) ir
def Edge (H:Hp) (m:Int) (x:V):Prop:=∃ (t:Addr) (i j:Int),x = .ref t/\H t = some (.tup [.int i,.int j])/\0<=i/\i < m/\0<=j/\j < m
def Edges (H:Hp) (m:Int) (xs:List V):Prop:=∀ x ∈ xs,Edge H m x
theorem Edge.same {H H':Hp} {m:Int} {x:V} (e:Edge H m x) (s:Same H H'):Edge H' m x:=by
 obtain ⟨t,i,j,h1,h2,h3⟩:=e
 exact ⟨t,i,j,h1,s _ _ h2,h3⟩
theorem Edges.same {H H':Hp} {m:Int} {xs:List V} (e:Edges H m xs) (s:Same H H'):Edges H' m xs:=fun x hx=>(e x hx).same s
theorem Edge.ext {H H':Hp} {m:Int} {l:Addr} {x:V} {ys:List V} (e:Edge H m x) (s:Ext l H H') (hl:H l = some (.lst ys)):Edge H' m x:=by
 obtain ⟨t,i,j,h1,h2,h3⟩:=e
 exact ⟨t,i,j,h1,s _ _ (Zjm h2 hl (by intro z; cases z)) h2,h3⟩
theorem Edges.ext {H H':Hp} {m:Int} {l:Addr} {xs ys:List V} (e:Edges H m xs) (s:Ext l H H') (hl:H l = some (.lst ys)):Edges H' m xs:=fun x hx=>(e x hx).ext s hl
theorem Edges.nil {H:Hp} {m:Int}:Edges H m []:=fun _ h=>nomatch h
theorem Edges.snoc {H:Hp} {m:Int} {xs:List V} {x:V} (e:Edges H m xs) (h:Edge H m x):Edges H m (xs ++ [x]):=fun y hy=>by
 rcases Jb7.mp hy with z | z
 ·exact e y z
 ·rw [Jbg.mp z]; exact h
theorem Edges.append {H:Hp} {m:Int} {xs ys:List V} (e:Edges H m xs) (h:Edges H m ys):Edges H m (xs ++ ys):=fun y hy=>by
 rcases Jb7.mp hy with z | z
 ·exact e y z
 ·exact h y z
theorem Edges.lift {H:Hp} {m m':Int} {xs:List V} (e:Edges H m xs) (h:m<=m'):Edges H m' xs:=fun y hy=>by
 obtain ⟨t,i,j,h1,h2,h3,h4,h5,h6⟩:=e y hy
 exact ⟨t,i,j,h1,h2,h3,by omega,h5,by omega⟩
theorem Edges.put {H:Hp} {m:Int} {xs ys:List V} {p:Addr} {o:HO} (e:Edges H m xs) (hp:H p = some (.lst ys)):Edges (upd H p o) m xs:=e.ext (l:=p) Ext.set hp
structure Out (l:Addr) (H:Hp) (p e:Addr) (m:Int) (xs:List V) (H':Hp):Prop where
 ext:Ext l H H'
 bag:Bag H' l
 tup:H' p = some (.tup [.int m,.ref e])
 lst:H' e = some (.lst xs)
 new:H e = none
 lo:1<=m
 hi:m<=8
 len:xs.length<=9
 ed:Edges H' m xs
def Zes (K0:List V->Prop):Sp:=fun vs H Q _=>∃ (l:Addr) (r:List V),vs = .ref l :: r/\K0 r/\Bag H l/\∀ p e m xs H',Out l H p e m xs H'->Q (.ref p) H'
def Zms (r:List V):Prop:=∃ k:Int,r = [.int k]
def way0 (r:List V):Prop:=r = []
theorem Edge.mk {H:Hp} {p:Addr} {i j m:Int} (h1:0<=i) (h2:i < m) (h3:0<=j) (h4:j < m):Edge (upd H p (.tup [.int i,.int j])) m (.ref p):=⟨p,i,j,rfl,Zac,h1,h2,h3,h4⟩
theorem Edges.add {H:Hp} {p:Addr} {i j m:Int} {xs:List V} (e:Edges H m xs) (hp:H p = none) (h1:0<=i) (h2:i < m) (h3:0<=j) (h4:j < m):Edges (upd H p (.tup [.int i,.int j])) m (xs ++ [.ref p]):=
 (e.same (Same.new hp)).snoc (Edge.mk h1 h2 h3 h4)
theorem Zcg {fr:List (Str × Nat)} {σ:L2.St} {t1 t2:TE} {lo m:Int} {n:Nat} {D:Addr} {H1:Hp} {Q:VK} (a b:Nat->Int) (hD:H1 D = none) (hn:n<=9)
  (h1:∀ i H Q,i < n->Q (.int (a i)) H->t1 (some (.int (lo + (i:Nat))) :: Zb3 fr σ) H Q) (h2:∀ i H Q,i < n->Q (.int (b i)) H->t2 (some (.int (lo + (i:Nat))) :: Zb3 fr σ) H Q)
  (hr:∀ i,i < n->0<=a i/\a i < m/\0<=b i/\b i < m) (hQ:∀ xs H',Same H1 H'->H' D = some (.lst xs)->xs.length = n->Edges H' m xs->Q (.ref D) H'):
  Zb5 (Zbd 0) Zg3 (tTup (Zea t1 (Zea t2 Zj5))) (Itr lo n) D (Zd9 1 fr σ) H1 Q:=by
 refine Zn7 (fun i vs H=>Same H1 H/\H D = some (.lst vs)/\vs.length = i/\Edges H m vs) ⟨Same.new hD,Zac,rfl,Edges.nil⟩ ?_ (fun vs H ⟨s,e,l,d⟩=>hQ vs H s e l d)
 rintro i x vs σ' H hi rfl sh ⟨s,e,hl,d⟩
 obtain ⟨z,rfl⟩:=sh.one
 simp only [Zdq,Zbd,Zg3,Jau,Jcw,tTup,Zea,Zj5]
 refine h1 i H _ hi (h2 i H _ hi ⟨by show 2<=sizeLine; decide,fun p hp=>?_⟩)
 obtain ⟨r1,r2,r3,r4⟩:=hr i hi
 have nD:D ≠ p:=Zae e hp
 have e':(upd H p (.tup [.int (a i),.int (b i)])) D = some (.lst vs):=by rw [Zaf nD]; exact e
 exact leaf (ws:=vs ++ [.ref p]) hi Sh.mk1 e' (Zah (by omega)) ⟨(s.trans (Same.new hp)).upd hD,Zac,by rw [Jak,hl]; rfl,(d.add hp r1 r2 r3 r4).put e'⟩
theorem Out.fin {l p t:Addr} {m:Int} {xs:List V} {H H2:Hp} (ex:Ext l H H2) (b:Bag H2 l) (hp:H2 p = some (.lst xs)) (new:H p = none) (lo:1<=m) (hi:m<=8) (len:xs.length<=9) (d:Edges H2 m xs) (ht:H2 t = none):
  Out l H t p m xs (upd H2 t (.tup [.int m,.ref p])):=
 ⟨ex.trans (Ext.new ht),b.new (b.ne ht),Zac,by rw [Zaf (Zae hp ht)]; exact hp,new,lo,hi,len,d.same (Same.new ht)⟩
theorem Bag.draw {H:Hp} {l:Addr} {n:Int} {Q:VK} {E:XK} (b:Bag H l) (h0:0 < n) (h1:n < 1000000000) (q:∀ (r:Int) (H':Hp),0<=r->r < n->Ext l H H'->Bag H' l->Q (.int r) H'):Zdd [.ref l,.int n] H Q E:=by
 obtain ⟨x,y,e,y0,y1⟩:=b
 exact ⟨l,x,y,n,rfl,e,y0,y1,h0,h1,fun r a' b' r0 r1 c0 c1=>q r _ r0 r1 Ext.set (Bag.set c0 c1)⟩
theorem Bag.lst {H:Hp} {l:Addr} (b:Bag H l):∃ ys,H l = some (.lst ys):=by
 obtain ⟨x,y,e,_⟩:=b
 exact ⟨_,e⟩
theorem Edges.bag {H H':Hp} {m:Int} {l:Addr} {xs:List V} (e:Edges H m xs) (s:Ext l H H') (b:Bag H l):Edges H' m xs:=by
 obtain ⟨ys,h⟩:=b.lst
 exact e.ext s h
theorem Zm1 {R:It->Hp->Prop} {l:Addr} {σ:L2.St} {H:Hp} {k:Int} (b:Bag H l) (h0:0 < k) (h1:k < 1000000000) (q:∀ (n:Int) (H3:Hp),0<=n->n < k->Ext l H H3->Bag H3 l->R (Itr 0 n.toNat) H3):
  Zl0 (Zea (Zj7 Zdd [] E0 (Zea (Zje 0) (Zea (tC (.int k)) Zj5))) Zj5) (some (.ref l) :: σ) H R:=by
 refine ⟨_,rfl,?_⟩
 simp only [Zea,tC,Zj5,Jd0]
 exact b.draw h0 h1 fun n H3 n0 n1 e3 b3=>⟨n,rfl,by omega,by omega,q n H3 n0 n1 e3 b3⟩
theorem ok_rest {f:Addr} {fd:FuncData} (F:Fun K "_law_rest_edges" "_law_rest_edges" Zay f fd) (T:Txt K mg C) (C_law_draw:Cal P w K mg base "_law_draw" 1 Zdd):FnOk P w K mg base CX0 2 f fd ["_law_bag_here","_law_way"] (Zes Zms):=by
 have nd:=Zcu.nd
 refine F.ok Zcu (fun vs H Q E h=>?_) (fun cdv A outer s H vs Q E hr h=>?_)
 ·obtain ⟨l,r,rfl,⟨k,rfl⟩,_⟩:=h
  rfl
 ·obtain ⟨l,r,rfl,⟨k,rfl⟩,hb,q⟩:=h
  refine ⟨_,((Zam (i:=2) nd rfl (Or.inl rfl) (@Zbn _ _ _ _ Zab))<*>((Zam (i:=3) nd rfl (Or.inl rfl) (Za1<|>Zaa<&&>(Zb2 C_law_draw hr.m rfl ((pv 0)<&>(Zaa<&>Zab)))))<*>((@Zbj _ _ _ _ _ _ _ _ (Zai Zd5 (pv 1) Zaa (Zar _)) (@Zaq _ _ _ (Zcp Jbd rfl (Zjk rfl T.n_range (Zaa<&>((pv 3)<&>Zab))) (@Zag _ _ 4 _ nd rfl (Or.inl rfl) (Or.inl rfl)) (@Zaq _ _ _ (@Zbj _ _ _ _ _ _ _ _ (Zai Zgp (Zb2 C_law_draw hr.m rfl ((pv 0)<&>(Zaa<&>Zab))) Zaa (Zar _)) (@Zaq _ _ _ (Zdh (Zfq Jbe Jbs Jbt Zbs (pv 2) ((@Zak _ _ _ _ _ ((Zcq<|>(pv 4)<&&>Zaa)<&>((pv 4)<&>Zab)))<&>Zab)))) Zan)))) (@Zaq _ _ _ (@Zbj _ _ _ _ _ _ _ _ (Zai Zd5 (pv 1) Zaa (Zar _)) (@Zaq _ _ _ (Zcp Jbd rfl (Zfc rfl T.n_range ((Zb2 C_law_draw hr.m rfl ((pv 0)<&>(Zaa<&>Zab)))<&>Zab)) (@Zag _ _ 4 _ nd rfl (Or.inl rfl) (Or.inl rfl)) ((Zam (i:=5) nd rfl (Or.inl rfl) (Zb2 C_law_draw hr.m rfl ((pv 0)<&>((pv 3)<&>Zab))))<*>(@Zaq _ _ _ (Zdh (Zfq Jbe Jbs Jbt Zbs (pv 2) ((@Zak _ _ _ _ _ ((pv 5)<&>((Zb2 C_law_draw hr.m rfl ((pv 0)<&>((pv 3)<&>Zab)))<&>Zab)))<&>Zab))))))) (@Zaq _ _ _ (Zcp Jbd rfl (Zjk rfl T.n_range (Zaa<&>((pv 3)<&>Zab))) (@Zag _ _ 4 _ nd rfl (Or.inl rfl) (Or.inl rfl)) (@Zaq _ _ _ (Zdh (Zfq Jbe Jbs Jbt Zbs (pv 2) ((@Zak _ _ _ _ _ ((Zb2 C_law_draw hr.m rfl ((pv 0)<&>((pv 4)<&>Zab)))<&>((pv 4)<&>Zab)))<&>Zab)))))))))<*>(~~~(@Zak _ _ _ _ _ ((pv 3)<&>((pv 2)<&>Zab))))))),?_⟩
  walk_at "wp"
  refine ⟨by decide,fun p hp=>?_⟩
  have hpl:=hb.ne hp
  refine (hb.new hpl).draw (by decide) (by decide) fun x H2 x0 x1 e2 b2=>⟨x,rfl,?_⟩
  have hp2:H2 p = some (.lst []):=e2 _ _ hpl Zac
  have ex2:Ext l H H2:=(Ext.new hp).trans e2
  have fin:∀ (σ:L2.St) (H3:Hp) (xs:List V) (v v5:Option V),σ = [some (.ref l),some (.int k),some (.ref p),some (.int (1 + x)),v,v5]->Ext l H H3->Bag H3 l->H3 p = some (.lst xs)->xs.length<=9->Edges H3 (1 + x) xs->
    tRet (tTup (Zea (Zje 3) (Zea (Zje 2) Zj5))) { nx:=fun x H'=>Q V.non H',rt:=Q } σ H3:=by
   rintro σ H3 xs v v5 rfl ex b hx hl d
   exact ⟨_,rfl,_,rfl,by show 2<=sizeLine; decide,fun t ht=>q _ _ _ _ _ (Out.fin ex b hx hp (by omega) (by omega) hl d ht)⟩
  have Iv:∀ (_:Nat),True:=fun _=>trivial
  refine Zdu (fun _=>?_) (fun _=>Zdu (fun _=>?_) (fun _=>?_))
  ·refine ⟨_,rfl,1,1 + x,rfl,⟨by decide,by decide,by omega,by omega⟩,Zbm (fun i σ H3=>∃ (xs:List V) (v v5:Option V),σ = [some (.ref l),some (.int k),some (.ref p),some (.int (1 + x)),v,v5]/\Ext l H H3/\Bag H3 l/\H3 p = some (.lst xs)/\xs.length<=i/\Edges H3 (1 + x) xs)
    ⟨[],none,none,rfl,ex2,b2,hp2,Jae _,Edges.nil⟩ ?_ ?_⟩
   ·rintro i σ H3 hi ⟨xs,v,v5,rfl,ex,b,hx,hl,d⟩
    walk_at "wp"
    refine b.draw (by decide) (by decide) fun r H4 r0 r1 e4 b4=>⟨r,rfl,Zdu (fun _=>?_) (fun _=>?_)⟩
    ·have hx4:H4 p = some (.lst xs):=e4 _ _ hpl hx
     refine ⟨.inl ⟨rfl,_,SqL.of hx4⟩,by decide,fun t ht=>?_⟩
     have nt:p ≠ t:=Zae hx4 ht
     have hx5:(upd H4 t (.tup [.int (1 + (i:Int) - 1),.int (1 + (i:Int))])) p = some (.lst xs):=by rw [Zaf nt]; exact hx4
     refine ⟨_,hx5,Zah (by omega),xs ++ [.ref t],_,_,⟨rfl,rfl⟩,((ex.trans e4).trans (Ext.new ht)).upd hp,(b4.new (b4.ne ht)).new hpl,Zac,by rw [Jak]; show _ + 1<=_; omega,((d.bag e4 b).add ht (by omega) (by omega) (by omega) (by omega)).put hx5⟩
    ·exact ⟨xs,_,_,⟨rfl,rfl⟩,ex.trans e4,b4,e4 _ _ hpl hx,by omega,d.bag e4 b⟩
   ·rintro σ H3 ⟨xs,v,v5,rfl,ex,b,hx,hl,d⟩
    exact fin _ H3 xs v v5 rfl ex b hx (by omega) d
  ·refine Zm1 b2 (by decide) (by decide) fun n H3 n0 n1 e3 b3=>?_
   refine (Zbm (fun i σ H3=>∃ (xs:List V) (v v5:Option V),σ = [some (.ref l),some (.int k),some (.ref p),some (.int (1 + x)),v,v5]/\Ext l H H3/\Bag H3 l/\H3 p = some (.lst xs)/\xs.length<=i/\Edges H3 (1 + x) xs)
    ⟨[],none,none,rfl,ex2.trans e3,b3,e3 _ _ hpl hp2,Jae _,Edges.nil⟩ ?_ ?_)
   ·rintro i σ H3 hi ⟨xs,v,v5,rfl,ex,b,hx,hl,d⟩
    walk_at "wp"
    refine b.draw (by omega) (by omega) fun r H4 r0 r1 e4 b4=>?_
    refine ⟨.inl ⟨rfl,_,SqL.of (e4 _ _ hpl hx)⟩,b4.draw (by omega) (by omega) fun r' H5 r0' r1' e5 b5=>⟨by decide,fun t ht=>?_⟩⟩
    have hx4:H5 p = some (.lst xs):=e5 _ _ hpl (e4 _ _ hpl hx)
    have nt:p ≠ t:=Zae hx4 ht
    have hx5:(upd H5 t (.tup [.int r,.int r'])) p = some (.lst xs):=by rw [Zaf nt]; exact hx4
    refine ⟨_,hx5,Zah (by omega),xs ++ [.ref t],_,_,⟨rfl,rfl⟩,(((ex.trans e4).trans e5).trans (Ext.new ht)).upd hp,(b5.new (b5.ne ht)).new hpl,Zac,by rw [Jak]; show _ + 1<=_; omega,(((d.bag e4 b).bag e5 b4).add ht r0 r1 r0' r1').put hx5⟩
   ·rintro σ H3 ⟨xs,v,v5,rfl,ex,b,hx,hl,d⟩
    exact fin _ H3 xs v v5 rfl ex b hx (by omega) d
  ·refine ⟨_,rfl,1,1 + x,rfl,⟨by decide,by decide,by omega,by omega⟩,Zbm (fun i σ H3=>∃ (xs:List V) (v v5:Option V),σ = [some (.ref l),some (.int k),some (.ref p),some (.int (1 + x)),v,v5]/\Ext l H H3/\Bag H3 l/\H3 p = some (.lst xs)/\xs.length<=i/\Edges H3 (1 + x) xs)
    ⟨[],none,none,rfl,ex2,b2,hp2,Jae _,Edges.nil⟩ ?_ ?_⟩
   ·rintro i σ H3 hi ⟨xs,v,v5,rfl,ex,b,hx,hl,d⟩
    walk_at "wp"
    refine ⟨.inl ⟨rfl,_,SqL.of hx⟩,b.draw (by omega) (by omega) fun r H4 r0 r1 e4 b4=>⟨by decide,fun t ht=>?_⟩⟩
    have hx4:H4 p = some (.lst xs):=e4 _ _ hpl hx
    have nt:p ≠ t:=Zae hx4 ht
    have hx5:(upd H4 t (.tup [.int r,.int (1 + (i:Int))])) p = some (.lst xs):=by rw [Zaf nt]; exact hx4
    refine ⟨_,hx5,Zah (by omega),xs ++ [.ref t],_,_,⟨rfl,rfl⟩,((ex.trans e4).trans (Ext.new ht)).upd hp,(b4.new (b4.ne ht)).new hpl,Zac,by rw [Jak]; show _ + 1<=_; omega,((d.bag e4 b).add ht r0 (by omega) (by omega) (by omega)).put hx5⟩
   ·rintro σ H3 ⟨xs,v,v5,rfl,ex,b,hx,hl,d⟩
    exact fin _ H3 xs v v5 rfl ex b hx (by omega) d
theorem Bag.same {H H':Hp} {l:Addr} (b:Bag H l) (s:Same H H'):Bag H' l:=by
 obtain ⟨x,y,e,h1,h2⟩:=b
 exact ⟨x,y,s _ _ e,h1,h2⟩
theorem Out.done {l p t:Addr} {m:Int} {xs:List V} {H H2 H5:Hp} (ex:Ext l H H2) (b:Bag H2 l) (s:Same H2 H5) (hp:H5 p = none) (lo:1<=m) (hi:m<=8) (len:xs.length<=9) (d:Edges H5 m xs) (ht:(upd H5 p (.lst xs)) t = none):
  Out l H t p m xs (upd (upd H5 p (.lst xs)) t (.tup [.int m,.ref p])):=
 have b5:=b.same s
 have e5:Ext l H H5:=ex.trans s.ext
 Out.fin (e5.trans (Ext.new hp)) (b5.new (b5.ne hp)) Zac (e5.free (b5.ne hp) hp) lo hi len (d.same (Same.new hp)) ht
theorem Edges.sub {H:Hp} {m:Int} {xs ys:List V} (e:Edges H m xs) (h:∀ y ∈ ys,y ∈ xs):Edges H m ys:=fun y hy=>e y (h y hy)
theorem ok_bad {f:Addr} {fd:FuncData} (F:Fun K "_law_bad_edges" "_law_bad_edges" Za5 f fd) (T:Txt K mg C) (C_law_draw:Cal P w K mg base "_law_draw" 1 Zdd):FnOk P w K mg base CX0 2 f fd ["_law_bag_here"] (Zes way0):=by
 have nd:=Zc8.nd
 refine F.ok Zc8 (fun vs H Q E h=>?_) (fun cdv A outer s H vs Q E hr h=>?_)
 ·obtain ⟨l,r,rfl,rfl,_⟩:=h
  rfl
 ·obtain ⟨l,r,rfl,rfl,hb,q⟩:=h
  refine ⟨_,((Zam (i:=1) nd rfl (Or.inl rfl) (Zb2 C_law_draw hr.m rfl ((pv 0)<&>(Zaa<&>Zab))))<*>((@Zbj _ _ _ _ _ _ _ _ (Zai Zd5 (pv 1) Zaa (Zar _)) ((Zam (i:=2) nd rfl (Or.inr rfl) (Za1<|>Zaa<&&>(Zb2 C_law_draw hr.m rfl ((pv 0)<&>(Zaa<&>Zab)))))<*>(~~~(@Zak _ _ _ _ _ ((pv 2)<&>((Zbc (own:=["_law_k"]) (fr:=[("_law_many",2)]) rfl (Zcn (by kernel_rfl)) (Zfc rfl T.n_range ((pv 2)<&>Zab)) (fun _ _ _ _=>⟨(@Zag _ _ 0 _ (show (["_law_k","_law_many"]:List Str).Nodup by decide +kernel) rfl (Or.inl rfl) (Or.inr rfl)),Zbi,(@Zak _ _ _ _ _ ((pv 0)<&>((Zdj<|>(Za1<|>(pv 0)<&&>Zaa)<&&>(pv 1))<&>Zab)))⟩))<&>Zab))))) Zan)<*>((@Zbj _ _ _ _ _ _ _ _ (Zai Zd5 (pv 1) Zaa (Zar _)) ((Zam (i:=2) nd rfl (Or.inr rfl) (Za1<|>Zaa<&&>(Zb2 C_law_draw hr.m rfl ((pv 0)<&>(Zaa<&>Zab)))))<*>(~~~(@Zak _ _ _ _ _ ((pv 2)<&>((Zbc (own:=["_law_k"]) (fr:=[]) rfl (Zcn (by kernel_rfl)) (Zjk rfl T.n_range (Zaa<&>((pv 2)<&>Zab))) (fun _ _ _ _=>⟨(@Zag _ _ 0 _ (show (["_law_k"]:List Str).Nodup by decide +kernel) rfl (Or.inl rfl) (Or.inr rfl)),Zbi,(@Zak _ _ _ _ _ (Zaa<&>((pv 0)<&>Zab)))⟩))<&>Zab))))) Zan)<*>((@Zbj _ _ _ _ _ _ _ _ (Zai Zd5 (pv 1) Zaa (Zar _)) ((Zam (i:=3) nd rfl (Or.inl rfl) (Za1<|>Zaa<&&>(Zb2 C_law_draw hr.m rfl ((pv 0)<&>(Zaa<&>Zab)))))<*>((Zh6 (i:=4) (own:=["_law_k"]) (fr:=[]) rfl (Zcn (by kernel_rfl)) (Zfc rfl T.n_range ((Zcq<|>(pv 3)<&&>Zaa)<&>Zab)) (fun _ _ _ _=>⟨(@Zag _ _ 0 _ (show (["_law_k"]:List Str).Nodup by decide +kernel) rfl (Or.inl rfl) (Or.inr rfl)),Zbi,(@Zak _ _ _ _ _ ((pv 0)<&>((Za1<|>(pv 0)<&&>Zaa)<&>Zab)))⟩) nd rfl rfl rfl)<*>(~~~(@Zak _ _ _ _ _ ((Za1<|>(pv 3)<&&>Zaa)<&>((Zfg<|>(pv 4)<&&>(@Zbn _ _ _ _ ((@Zak _ _ _ _ _ (Zaa<&>((pv 3)<&>Zab)))<&>((@Zak _ _ _ _ _ (Zaa<&>((Za1<|>(pv 3)<&&>Zaa)<&>Zab)))<&>((@Zak _ _ _ _ _ ((Zcq<|>(pv 3)<&&>Zaa)<&>((Za1<|>(pv 3)<&&>Zaa)<&>Zab)))<&>((@Zak _ _ _ _ _ ((Zcq<|>(pv 3)<&&>Zaa)<&>((Za1<|>(pv 3)<&&>Zaa)<&>Zab)))<&>Zab))))))<&>Zab)))))) Zan)<*>((@Zbj _ _ _ _ _ _ _ _ (Zai Zd5 (pv 1) Zaa (Zar _)) ((Zam (i:=2) nd rfl (Or.inr rfl) (Za1<|>Zaa<&&>(Zb2 C_law_draw hr.m rfl ((pv 0)<&>(Zaa<&>Zab)))))<*>(~~~(@Zak _ _ _ _ _ ((pv 2)<&>((@Zb9 _ _ _ _ _ _ _ _ _ _ Zc1 (@Zbn _ _ _ _ ((@Zak _ _ _ _ _ (Zaa<&>(Zaa<&>Zab)))<&>((@Zak _ _ _ _ _ (Zaa<&>(Zaa<&>Zab)))<&>((@Zak _ _ _ _ _ (Zaa<&>(Zaa<&>Zab)))<&>((@Zak _ _ _ _ _ (Zaa<&>(Zaa<&>Zab)))<&>((@Zak _ _ _ _ _ (Zaa<&>(Zaa<&>Zab)))<&>((@Zak _ _ _ _ _ (Zaa<&>(Zaa<&>Zab)))<&>((@Zak _ _ _ _ _ (Zaa<&>(Zaa<&>Zab)))<&>Zab)))))))) Zc4 (@Zc3 _ _ _ (Zcq<|>(pv 2)<&&>Zaa)))<&>Zab))))) Zan)<*>(~~~(@Zak _ _ _ _ _ (Zaa<&>((@Zbn _ _ _ _ ((@Zak _ _ _ _ _ (Zaa<&>(Zaa<&>Zab)))<&>((@Zak _ _ _ _ _ (Zaa<&>(Zaa<&>Zab)))<&>((@Zak _ _ _ _ _ (Zaa<&>(Zaa<&>Zab)))<&>((@Zak _ _ _ _ _ (Zaa<&>(Zaa<&>Zab)))<&>((@Zak _ _ _ _ _ (Zaa<&>(Zaa<&>Zab)))<&>((@Zak _ _ _ _ _ (Zaa<&>(Zaa<&>Zab)))<&>((@Zak _ _ _ _ _ (Zaa<&>(Zaa<&>Zab)))<&>Zab))))))))<&>Zab))))))))),?_⟩
  walk_at "wp"
  refine hb.draw (by decide) (by decide) fun z H1 z0 z1 e1 b1=>⟨rfl,Zdu (fun _=>?_) (fun _=>⟨rfl,Zdu (fun _=>?_) (fun _=>⟨rfl,Zdu (fun _=>?_) (fun _=>⟨rfl,Zdu (fun _=>?_) (fun _=>?_)⟩)⟩)⟩)⟩
  ·refine b1.draw (by decide) (by decide) fun r H2 r0 r1 e2 b2=>⟨r,rfl,?_⟩
   refine ⟨_,rfl,1 + r,rfl,by omega,by omega,fun D hD=>Zcg (m:=1 + r) (fun i=>0 + (i:Int)) (fun i=>(0 + (i:Int) + 1) % (1 + r)) hD (by omega) (fun i H Q _ h=>⟨_,rfl,h⟩) (fun i H Q _ h=>⟨_,rfl,_,_,rfl,rfl,_,rfl,_,_,rfl,rfl,by omega,h⟩)
    (fun i hi=>⟨by omega,by omega,Zf3 _ _ (by omega),Zf4 _ _ (by omega)⟩) fun xs H' s e hl d=>⟨by decide,fun t ht=>?_⟩⟩
   have n1:=b2.ne hD
   have ex:Ext l H H2:=e1.trans e2
   obtain ⟨ya,yb,ye,y0,y1⟩:=id b2
   exact q _ _ _ _ _ (Out.fin (ex.trans s.ext) ⟨ya,yb,s _ _ ye,y0,y1⟩ e (ex.free n1 hD) (by omega) (by omega) (by omega) d ht)
  ·refine b1.draw (by decide) (by decide) fun r H2 r0 r1 e2 b2=>⟨r,rfl,?_⟩
   refine ⟨_,rfl,1,5 + r,rfl,⟨by decide,by decide,by omega,by omega⟩,fun D hD=>Zcg (m:=5 + r) (fun i=>0) (fun i=>1 + (i:Int)) hD (by omega) (fun i H Q _ h=>h) (fun i H Q _ h=>⟨_,rfl,h⟩)
    (fun i hi=>⟨by omega,by omega,by omega,by omega⟩) fun xs H' s e hl d=>⟨by decide,fun t ht=>?_⟩⟩
   have n1:=b2.ne hD
   have ex:Ext l H H2:=e1.trans e2
   obtain ⟨ya,yb,ye,y0,y1⟩:=id b2
   exact q _ _ _ _ _ (Out.fin (ex.trans s.ext) ⟨ya,yb,s _ _ ye,y0,y1⟩ e (ex.free n1 hD) (by omega) (by omega) (by omega) d ht)
  ·refine b1.draw (by decide) (by decide) fun r H2 r0 r1 e2 b2=>⟨r,rfl,?_⟩
   refine ⟨_,rfl,_,_,rfl,rfl,_,rfl,by omega,by omega,fun D hD=>Zcg (m:=2 + r) (fun i=>0 + (i:Int)) (fun i=>0 + (i:Int) + 1) hD (by omega) (fun i H Q _ h=>⟨_,rfl,h⟩) (fun i H Q _ h=>⟨_,rfl,_,_,rfl,rfl,h⟩)
    (fun i hi=>⟨by omega,by omega,by omega,by omega⟩) fun xs H' s e hl d=>?_⟩
   refine ⟨by decide,fun p1 h1=>⟨by decide,fun p2 h2=>⟨by decide,fun p3 h3=>⟨by decide,fun p4 h4=>⟨by decide,fun p5 h5=>?_⟩⟩⟩⟩⟩
   have D1:=(Edges.nil (H:=H') (m:=2 + r + 4)).add (i:=0) (j:=2 + r) h1 (by omega) (by omega) (by omega) (by omega)
   have D2:=D1.add (i:=0) (j:=2 + r + 1) h2 (by omega) (by omega) (by omega) (by omega)
   have D3:=D2.add (i:=2 + r - 1) (j:=2 + r + 2) h3 (by omega) (by omega) (by omega) (by omega)
   have D4:=D3.add (i:=2 + r - 1) (j:=2 + r + 3) h4 (by omega) (by omega) (by omega) (by omega)
   have S5:=((((Same.new h1).trans (Same.new h2)).trans (Same.new h3)).trans (Same.new h4)).trans (Same.new (o:=.lst [.ref p1,.ref p2,.ref p3,.ref p4]) h5)
   refine ⟨D,rfl,xs,S5 _ _ e,_,Zac,Zah (by show xs.length + 4<=1000; omega) |> Jbo,fun p6 h6=>⟨by decide,fun p7 h7=>?_⟩⟩
   exact q _ _ _ _ _ (Out.done (e1.trans e2) b2 (s.trans S5) h6 (by omega) (by omega) (by rw [Jak]; show xs.length + 4<=9; omega) (Edges.append ((d.lift (by omega)).same S5) (D4.same (Same.new h5))) h7)
  ·refine b1.draw (by decide) (by decide) fun r H2 r0 r1 e2 b2=>⟨r,rfl,?_⟩
   refine ⟨by decide,fun p1 h1=>⟨by decide,fun p2 h2=>⟨by decide,fun p3 h3=>⟨by decide,fun p4 h4=>⟨by decide,fun p5 h5=>⟨by decide,fun p6 h6=>⟨by decide,fun p7 h7=>⟨by decide,fun p8 h8=>⟨_,SqL.of Zac,fun p9 h9=>⟨by decide,fun p10 h10=>?_⟩⟩⟩⟩⟩⟩⟩⟩⟩⟩
   have D1:=(Edges.nil (H:=H2) (m:=7)).add (i:=0) (j:=1) (m:=7) h1 (by omega) (by omega) (by omega) (by omega)
   have D2:=D1.add (i:=1) (j:=2) (m:=7) h2 (by omega) (by omega) (by omega) (by omega)
   have D3:=D2.add (i:=0) (j:=3) (m:=7) h3 (by omega) (by omega) (by omega) (by omega)
   have D4:=D3.add (i:=3) (j:=4) (m:=7) h4 (by omega) (by omega) (by omega) (by omega)
   have D5:=D4.add (i:=0) (j:=5) (m:=7) h5 (by omega) (by omega) (by omega) (by omega)
   have D6:=D5.add (i:=5) (j:=6) (m:=7) h6 (by omega) (by omega) (by omega) (by omega)
   have S8:=(((((((Same.new h1).trans (Same.new h2)).trans (Same.new h3)).trans (Same.new h4)).trans (Same.new h5)).trans (Same.new h6)).trans (Same.new h7)).trans (Same.new (o:=.lst [.ref p1,.ref p2,.ref p3,.ref p4,.ref p5,.ref p6,.ref p7]) h8)
   have E6:=D6.same ((Same.new (o:=.tup [.int 6,.int 7]) h7).trans (Same.new (o:=.lst [.ref p1,.ref p2,.ref p3,.ref p4,.ref p5,.ref p6,.ref p7]) h8))
   rcases (show r = 0\/r = 1 by omega) with rfl | rfl
   ·exact q _ _ _ _ _ (Out.done (e1.trans e2) b2 S8 h9 (by decide) (by decide) (Jba (Zcl _ _ _) (by show 7<=9; decide)) (E6.lift (by decide)) h10)
   ·exact q _ _ _ _ _ (Out.done (e1.trans e2) b2 S8 h9 (by decide) (by decide) (Jba (Zcl _ _ _) (by show 7<=9; decide)) (((D6.lift (m':=8) (by decide)).add (i:=6) (j:=7) h7 (by decide) (by decide) (by decide) (by decide)).same (Same.new h8)) h10)
  ·refine ⟨by decide,fun p1 h1=>⟨by decide,fun p2 h2=>⟨by decide,fun p3 h3=>⟨by decide,fun p4 h4=>⟨by decide,fun p5 h5=>⟨by decide,fun p6 h6=>⟨by decide,fun p7 h7=>⟨by decide,fun p8 h8=>⟨by decide,fun p9 h9=>?_⟩⟩⟩⟩⟩⟩⟩⟩⟩
   have D1:=(Edges.nil (H:=H1) (m:=8)).add (i:=0) (j:=1) (m:=8) h1 (by omega) (by omega) (by omega) (by omega)
   have D2:=D1.add (i:=0) (j:=2) (m:=8) h2 (by omega) (by omega) (by omega) (by omega)
   have D3:=D2.add (i:=2) (j:=3) (m:=8) h3 (by omega) (by omega) (by omega) (by omega)
   have D4:=D3.add (i:=3) (j:=4) (m:=8) h4 (by omega) (by omega) (by omega) (by omega)
   have D5:=D4.add (i:=0) (j:=5) (m:=8) h5 (by omega) (by omega) (by omega) (by omega)
   have D6:=D5.add (i:=5) (j:=6) (m:=8) h6 (by omega) (by omega) (by omega) (by omega)
   have D7:=D6.add (i:=6) (j:=7) (m:=8) h7 (by omega) (by omega) (by omega) (by omega)
   exact q _ _ _ _ _ (Out.done e1 b1 (((((((Same.new h1).trans (Same.new h2)).trans (Same.new h3)).trans (Same.new h4)).trans (Same.new h5)).trans (Same.new h6)).trans (Same.new h7)) h8 (by decide) (by decide) (by show 7<=9; decide) D7 h9)
theorem Znm {f:Addr} {fd:FuncData} (F:Fun K "_law_edges" "_law_edges" Zb0 f fd) (T:Txt K mg C) (C_law_draw:Cal P w K mg base "_law_draw" 1 Zdd) (C_law_bad_edges:Cal P w K mg base "_law_bad_edges" 2 (Zes way0)) (C_law_rest_edges:Cal P w K mg base "_law_rest_edges" 2 (Zes Zms)):FnOk P w K mg base CX0 3 f fd ["_law_bag_here","_law_way"] (Zes Zms):=by
 have nd:=Zem.nd
 refine F.ok Zem (fun vs H Q E h=>?_) (fun cdv A outer s H vs Q E hr h=>?_)
 ·obtain ⟨l,r,rfl,⟨k,rfl⟩,_⟩:=h
  rfl
 ·obtain ⟨l,r,rfl,⟨k,rfl⟩,hb,q⟩:=h
  refine ⟨_,((@Zbj _ _ _ _ _ _ _ _ (Zai Znf (pv 1) Zaa (Zar _)) ((Zam (i:=2) nd rfl (Or.inl rfl) (Za1<|>Zaa<&&>(Zb2 C_law_draw hr.m rfl ((pv 0)<&>(Zaa<&>Zab)))))<*>(~~~(@Zak _ _ _ _ _ ((pv 2)<&>((Zbc (own:=["_law_k"]) (fr:=[]) rfl (Zcn (by kernel_rfl)) (Zfc rfl T.n_range ((Zcq<|>(pv 2)<&&>Zaa)<&>Zab)) (fun _ _ _ _=>⟨(@Zag _ _ 0 _ (show (["_law_k"]:List Str).Nodup by decide +kernel) rfl (Or.inl rfl) (Or.inr rfl)),Zbi,(@Zak _ _ _ _ _ ((pv 0)<&>((Za1<|>(pv 0)<&&>Zaa)<&>Zab)))⟩))<&>Zab))))) Zan)<*>((@Zbj _ _ _ _ _ _ _ _ (Zai Zd5 (pv 1) Zaa (Zar _)) ((Zam (i:=2) nd rfl (Or.inl rfl) (Za1<|>Zaa<&&>(Zb2 C_law_draw hr.m rfl ((pv 0)<&>(Zaa<&>Zab)))))<*>(~~~(@Zak _ _ _ _ _ ((pv 2)<&>((Zfg<|>(@Zbn _ _ _ _ ((@Zak _ _ _ _ _ (Zaa<&>(Zaa<&>Zab)))<&>((@Zak _ _ _ _ _ (Zaa<&>(Zaa<&>Zab)))<&>((@Zak _ _ _ _ _ (Zaa<&>(Zaa<&>Zab)))<&>Zab))))<&&>(Zbc (own:=["_law_k"]) (fr:=[]) rfl (Zcn (by kernel_rfl)) (Zjk rfl T.n_range (Zaa<&>((Zcq<|>(pv 2)<&&>Zaa)<&>Zab))) (fun _ _ _ _=>⟨(@Zag _ _ 0 _ (show (["_law_k"]:List Str).Nodup by decide +kernel) rfl (Or.inl rfl) (Or.inr rfl)),Zbi,(@Zak _ _ _ _ _ ((pv 0)<&>((Za1<|>(pv 0)<&&>Zaa)<&>Zab)))⟩)))<&>Zab))))) Zan)<*>((@Zbj _ _ _ _ _ _ _ _ (Zai Zd5 (pv 1) Zaa (Zar _)) ((Zam (i:=2) nd rfl (Or.inl rfl) (Za1<|>Zaa<&&>(Zb2 C_law_draw hr.m rfl ((pv 0)<&>(Zaa<&>Zab)))))<*>(~~~(@Zak _ _ _ _ _ ((pv 2)<&>((Zfg<|>(@Zbn _ _ _ _ ((@Zak _ _ _ _ _ (Zaa<&>(Zaa<&>Zab)))<&>((@Zak _ _ _ _ _ (Zaa<&>(Zaa<&>Zab)))<&>((@Zak _ _ _ _ _ (Zaa<&>(Zaa<&>Zab)))<&>((@Zak _ _ _ _ _ (Zaa<&>(Zaa<&>Zab)))<&>Zab)))))<&&>(Zbc (own:=["_law_k"]) (fr:=[]) rfl (Zcn (by kernel_rfl)) (Zjk rfl T.n_range (Zaa<&>((Zcq<|>(pv 2)<&&>Zaa)<&>Zab))) (fun _ _ _ _=>⟨(@Zag _ _ 0 _ (show (["_law_k"]:List Str).Nodup by decide +kernel) rfl (Or.inl rfl) (Or.inr rfl)),Zbi,(@Zak _ _ _ _ _ ((pv 0)<&>((Za1<|>(pv 0)<&&>Zaa)<&>Zab)))⟩)))<&>Zab))))) Zan)<*>((@Zbj _ _ _ _ _ _ _ _ (Zai Zd5 (pv 1) Zaa (Zar _)) (~~~(Zb2 C_law_bad_edges hr.m rfl ((pv 0)<&>Zab))) Zan)<*>(~~~(Zb2 C_law_rest_edges hr.m rfl ((pv 0)<&>((pv 1)<&>Zab)))))))),?_⟩
  walk_at "wp"
  refine Zdu (fun _=>?_) (fun _=>Zdu (fun _=>?_) (fun _=>Zdu (fun _=>?_) (fun _=>Zdu (fun _=>⟨l,[],rfl,rfl,hb,q⟩) (fun _=>⟨l,[.int k],rfl,⟨k,rfl⟩,hb,q⟩))))
  ·refine hb.draw (by decide) (by decide) fun r H2 r0 r1 e2 b2=>⟨r,rfl,?_⟩
   refine ⟨_,rfl,_,_,rfl,rfl,_,rfl,by omega,by omega,fun D hD=>Zcg (m:=1 + r) (fun i=>0 + (i:Int)) (fun i=>0 + (i:Int) + 1) hD (by omega) (fun i H Q _ h=>⟨_,rfl,h⟩) (fun i H Q _ h=>⟨_,rfl,_,_,rfl,rfl,h⟩)
    (fun i hi=>⟨by omega,by omega,by omega,by omega⟩) fun xs H' s e hl d=>⟨by decide,fun t ht=>?_⟩⟩
   exact q _ _ _ _ _ (Out.fin (e2.trans s.ext) (b2.same s) e (e2.free (b2.ne hD) hD) (by omega) (by omega) (by omega) d ht)
  ·refine hb.draw (by decide) (by decide) fun r H2 r0 r1 e2 b2=>⟨r,rfl,?_⟩
   refine ⟨by decide,fun p1 h1=>⟨by decide,fun p2 h2=>⟨by decide,fun p3 h3=>⟨by decide,fun p4 h4=>?_⟩⟩⟩⟩
   have D1:=(Edges.nil (H:=H2) (m:=4 + r)).add (i:=0) (j:=1) h1 (by omega) (by omega) (by omega) (by omega)
   have D2:=D1.add (i:=0) (j:=2) h2 (by omega) (by omega) (by omega) (by omega)
   have D3:=D2.add (i:=0) (j:=3) h3 (by omega) (by omega) (by omega) (by omega)
   have S4:=(((Same.new h1).trans (Same.new h2)).trans (Same.new h3)).trans (Same.new (o:=.lst [.ref p1,.ref p2,.ref p3]) h4)
   refine ⟨_,rfl,_,_,rfl,rfl,_,_,rfl,⟨by decide,by decide,by omega,by omega⟩,fun D hD=>Zcg (m:=4 + r) (fun i=>3 + (i:Int)) (fun i=>3 + (i:Int) + 1) hD (by omega) (fun i H Q _ h=>⟨_,rfl,h⟩) (fun i H Q _ h=>⟨_,rfl,_,_,rfl,rfl,h⟩)
    (fun i hi=>⟨by omega,by omega,by omega,by omega⟩) fun xs H' s e hl d=>⟨D,rfl,_,s _ _ Zac,_,e,Jbo (Zah (by show 3 + xs.length<=1000; omega)),fun p6 h6=>⟨by decide,fun p7 h7=>?_⟩⟩⟩
   exact q _ _ _ _ _ (Out.done e2 b2 (S4.trans s) h6 (by omega) (by omega) (by rw [Jak]; show 3 + xs.length<=9; omega) (Edges.append ((D3.same (Same.new h4)).same s) d) h7)
  ·refine hb.draw (by decide) (by decide) fun r H2 r0 r1 e2 b2=>⟨r,rfl,?_⟩
   refine ⟨by decide,fun p1 h1=>⟨by decide,fun p2 h2=>⟨by decide,fun p3 h3=>⟨by decide,fun p4 h4=>⟨by decide,fun p5 h5=>?_⟩⟩⟩⟩⟩
   have D1:=(Edges.nil (H:=H2) (m:=6 + r)).add (i:=0) (j:=1) h1 (by omega) (by omega) (by omega) (by omega)
   have D2:=D1.add (i:=0) (j:=2) h2 (by omega) (by omega) (by omega) (by omega)
   have D3:=D2.add (i:=2) (j:=3) h3 (by omega) (by omega) (by omega) (by omega)
   have D4:=D3.add (i:=0) (j:=4) h4 (by omega) (by omega) (by omega) (by omega)
   have S5:=((((Same.new h1).trans (Same.new h2)).trans (Same.new h3)).trans (Same.new h4)).trans (Same.new (o:=.lst [.ref p1,.ref p2,.ref p3,.ref p4]) h5)
   refine ⟨_,rfl,_,_,rfl,rfl,_,_,rfl,⟨by decide,by decide,by omega,by omega⟩,fun D hD=>Zcg (m:=6 + r) (fun i=>4 + (i:Int)) (fun i=>4 + (i:Int) + 1) hD (by omega) (fun i H Q _ h=>⟨_,rfl,h⟩) (fun i H Q _ h=>⟨_,rfl,_,_,rfl,rfl,h⟩)
    (fun i hi=>⟨by omega,by omega,by omega,by omega⟩) fun xs H' s e hl d=>⟨D,rfl,_,s _ _ Zac,_,e,Jbo (Zah (by show 4 + xs.length<=1000; omega)),fun p6 h6=>⟨by decide,fun p7 h7=>?_⟩⟩⟩
   exact q _ _ _ _ _ (Out.done e2 b2 (S5.trans s) h6 (by omega) (by omega) (by rw [Jak]; show 4 + xs.length<=9; omega) (Edges.append ((D4.same (Same.new h5)).same s) d) h7)
theorem Znn {f:Addr} {fd:FuncData} (F:Fun K "_law_drawn" "_law_drawn" Zb1 f fd) (T:Txt K mg C) (C_law_draw:Cal P w K mg base "_law_draw" 1 Zdd) (C_law_edges:Cal P w K mg base "_law_edges" 3 (Zes Zms)) (C_law_order:Cal P w K mg base "_law_order" 2 Zh1):FnOk P w K mg base CX0 4 f fd ["_law_bag_here","_law_way"] (Zes Zms):=by
 have nd:=Zen.nd
 refine F.ok Zen (fun vs H Q E h=>?_) (fun cdv A outer s H vs Q E hr h=>?_)
 ·obtain ⟨l,r,rfl,⟨k,rfl⟩,_⟩:=h
  rfl
 ·obtain ⟨l,r,rfl,⟨k,rfl⟩,hb,q⟩:=h
  refine ⟨_,((Zfb (Zb2 C_law_edges hr.m rfl ((pv 0)<&>((pv 1)<&>Zab))) (@Zf0 _ _ _ _ _ 2 rfl (@Za3 _ _ _ _ _ (@Zag _ _ 2 _ nd rfl (Or.inl rfl) (Or.inl rfl)) (@Za3 _ _ _ _ _ (@Zag _ _ 3 _ nd rfl (Or.inl rfl) (Or.inl rfl)) (@Zdi _) (by rfl)) (by rfl)) (by rfl) (by rfl)))<*>((Zam (i:=4) nd rfl (Or.inl rfl) (Zb2 C_law_order hr.m rfl ((pv 0)<&>((pv 2)<&>Zab))))<*>((Zam (i:=5) nd rfl (Or.inl rfl) (@Zbn _ _ _ _ Zab))<*>((Zgl Jbd (Zai Zgp (Zb6 Zao rfl T.n_len Jbv ((pv 3)<&>Zab)) Zaa (Zar _)) ((Zam (i:=6) nd rfl (Or.inl rfl) (Zb2 C_law_draw hr.m rfl ((pv 0)<&>((Zb6 Zao rfl T.n_len Jbv ((pv 3)<&>Zab))<&>Zab))))<*>((Zfb (Zav<|>(pv 3)<||>(pv 6)) (@Zf0 _ _ _ _ _ 2 rfl (@Za3 _ _ _ _ _ (@Zag _ _ 7 _ nd rfl (Or.inl rfl) (Or.inl rfl)) (@Za3 _ _ _ _ _ (@Zag _ _ 8 _ nd rfl (Or.inl rfl) (Or.inl rfl)) (@Zdi _) (by rfl)) (by rfl)) (by rfl) (by rfl)))<*>((Zam (i:=3) nd rfl (Or.inl rfl) (Zfg<|>(@Zb9 _ _ _ _ _ _ _ _ _ _ Zc1 (pv 3) Zc4 (@Zc3 _ _ _ (pv 6)))<&&>(@Zb9 _ _ _ _ _ _ _ _ _ _ Zc1 (pv 3) (@Zc3 _ _ _ (Za1<|>(pv 6)<&&>Zaa)) Zc4)))<*>((@Zbj _ _ _ _ _ _ _ _ (Zai Zd5 (Zb2 C_law_draw hr.m rfl ((pv 0)<&>(Zaa<&>Zab))) Zaa (Zar _)) (@Zaq _ _ _ (ps_par (i:=7) (j:=8) rfl nd rfl rfl (by decide) rfl rfl ((pv 8)<&>((pv 7)<&>Zab)) rfl)) Zan)<*>(@Zaq _ _ _ (Zdh (Zfq Jbe Jbs Jbt Zbs (pv 5) ((@Zak _ _ _ _ _ ((Zav<|>(pv 4)<||>(pv 7))<&>((Zav<|>(pv 4)<||>(pv 8))<&>Zab)))<&>Zab)))))))))<*>(~~~(@Zak _ _ _ _ _ ((pv 2)<&>((pv 5)<&>Zab)))))))),?_⟩
  walk_at "wp"
  refine ⟨l,_,rfl,⟨k,rfl⟩,hb,fun p e m xs H1 O=>⟨p,rfl,_,SqT.of O.tup,rfl,_,_,rfl,_,_,rfl,rfl,?_⟩⟩
  have m0:=O.lo
  have m8:=O.hi
  refine ⟨l,m,rfl,O.bag,by omega,O.hi,fun po ys H2 ex2 b2 hpo hpo2 hlen inr=>⟨by decide,fun pa hpa=>?_⟩⟩
  have nel:e ≠ l:=hb.ne O.new
  have e2e:H2 e = some (.lst xs):=ex2 _ _ nel O.lst
  have nal:pa ≠ l:=b2.ne hpa
  have nae:e ≠ pa:=Zae e2e hpa
  have nao:po ≠ pa:=Zae hpo2 hpa
  have exH:Ext l H H2:=O.ext.trans ex2
  have fpa:H pa = none:=exH.free nal hpa
  have noe:e ≠ po:=(Zae O.lst hpo)
  have nol:po ≠ l:=O.bag.ne hpo
  refine ⟨fun n σ H3=>∃ (pl:Addr) (ls as:List V) (v6 v7 v8:Option V),σ = [some (.ref l),some (.int k),some (.int m),some (.ref pl),some (.ref po),some (.ref pa),v6,v7,v8]/\n = ls.length/\Ext l H H3/\Bag H3 l /\
   H3 pl = some (.lst ls)/\H3 po = some (.lst (ys.map V.int))/\H3 pa = some (.lst as)/\pl ≠ l/\pl ≠ pa/\ls.length + as.length<=9/\Edges H3 m ls/\Edges H3 m as,?_,?_⟩
  ·exact ⟨_,e,xs,[],none,none,none,rfl,rfl,exH.trans (Ext.new hpa),b2.new nal,by rw [Zaf nae]; exact e2e,by rw [Zaf nao]; exact hpo2,Zac,nel,nae,by have:=O.len; simpa using this,(O.ed.bag ex2 O.bag).same (Same.new hpa),Edges.nil⟩
  ·rintro n σ H3 ⟨pl,ls,as,v6,v7,v8,rfl,rfl,ex,b,hpl,hpo3,hpa3,n1,n2,hl,dl,da⟩
   walk_at "wp"
   refine ⟨_,.inl (SqL.of hpl),Zdu (fun hc=>?_) (fun hc=>?_)⟩
   ·have hc:=Jaq hc
    refine ⟨_,fun _ _ h=>h,?_⟩
    walk_at "wp"
    refine ⟨_,.inl (SqL.of hpl),b.draw hc (by omega) fun r H4 r0 r1 e4 b4=>?_⟩
    have hr1:r.toNat < ls.length:=by omega
    have hpl4:=e4 _ _ n1 hpl
    have hpo4:=e4 _ _ nol hpo3
    have hpa4:=e4 _ _ nal hpa3
    have dl4:=dl.bag e4 b
    have da4:=da.bag e4 b
    obtain ⟨t,i,j,hx,ht4,i0,i1,j0,j1⟩:=dl4 _ (Jb0 hr1)
    refine ⟨ls,r,rfl,SqL.of hpl4,.ref t,Zbx r0 (by rw [Jab hr1,hx]),t,rfl,_,SqT.of ht4,rfl,_,_,rfl,_,_,rfl,rfl,r,rfl,ls,SqL.of hpl4,fun p2 h2=>⟨r,rfl,ls,SqL.of (by rw [Zaf (Zae hpl4 h2)]; exact hpl4),fun p3 h3=>?_⟩⟩
    have l1:=Zma ls r r0 (by omega)
    have l2:=Zmb ls (r + 1) (by omega) (by omega)
    have hNL:(Zeh ls none (some r) ++ Zeh ls (some (r + 1)) none).length < ls.length:=by
     rw [l1,l2,Jak,Ja8,Jct]; omega
    refine ⟨Zeh ls none (some r),by rw [Zaf (Zae Zac h3)]; exact Zac,_,Zac,Jbo (Zah (by rw [Jak] at hNL; omega)),fun p4 h4=>?_⟩
    have S6:=(Same.new (o:=.lst (Zeh ls none (some r))) h2).trans (Same.new (o:=.lst (Zeh ls (some (r + 1)) none)) h3)
    have S:=S6.trans (Same.new (o:=.lst (Zeh ls none (some r) ++ Zeh ls (some (r + 1)) none)) h4)
    have b7:=b4.same S
    have p4nl:p4 ≠ l:=(b4.same S6).ne h4
    have npa4:pa ≠ p4:=Zae (S6 _ _ hpa4) h4
    refine b7.draw (by decide) (by decide) fun z H8 z0 z1 e8 b8=>⟨rfl,?_⟩
    have pa8:=e8 _ _ nal (S _ _ hpa4)
    have po8:=e8 _ _ nol (S _ _ hpo4)
    have p48:=e8 _ _ p4nl Zac
    have exH8:Ext l H H8:=(ex.trans e4).trans (S.ext.trans e8)
    have dN8:Edges H8 m (Zeh ls none (some r) ++ Zeh ls (some (r + 1)) none):=((dl4.sub fun y hy=>by
     rw [l1,l2] at hy
     rcases Jb7.mp hy with h | h
     ·exact List.mem_of_mem_take h
     ·exact List.mem_of_mem_drop h).same S).bag e8 b7
    have da8:=(da4.same S).bag e8 b7
    refine Zdu (fun _=>?_) (fun _=>?_)
    ·
     refine ⟨_,_,⟨rfl,rfl⟩,.inl ⟨rfl,_,SqL.of pa8⟩,_,j,rfl,SqL.of po8,V.int (ys[j.toNat]'(by omega)),Zbx j0 (by rw [Ja6,Jab (by omega)]; rfl),_,i,rfl,SqL.of po8,V.int (ys[i.toNat]'(by omega)),Zbx i0 (by rw [Ja6,Jab (by omega)]; rfl),by decide,fun p5 h5=>?_⟩
     have ia:=inr _ (Jb0 (show j.toNat < ys.length by omega))
     have ic:=inr _ (Jb0 (show i.toNat < ys.length by omega))
     have pa9:(upd H8 p5 (.tup [V.int (ys[j.toNat]'(by omega)),V.int (ys[i.toNat]'(by omega))])) pa = some (.lst as):=by rw [Zaf (Zae pa8 h5)]; exact pa8
     have n5:p4 ≠ p5:=Zae p48 h5
     have n5o:po ≠ p5:=Zae po8 h5
     exact ⟨as,pa9,Zah (by omega),_,hNL,p4,_,as ++ [.ref p5],_,_,_,⟨rfl,rfl,rfl,rfl⟩,rfl,(exH8.trans (Ext.new h5)).upd fpa,(b8.new (b8.ne h5)).new nal,by rw [Zaf npa4.symm,Zaf n5]; exact p48,by rw [Zaf nao,Zaf n5o]; exact po8,Zac,p4nl,npa4.symm,
      by have hL:(as ++ [V.ref p5]).length = as.length + 1:=by { rw [Jak]; rfl }; rw [hL]; omega,(dN8.same (Same.new h5)).put pa9,(da8.add h5 ia.1 ia.2 ic.1 ic.2).put pa9⟩
    ·
     refine ⟨.inl ⟨rfl,_,SqL.of pa8⟩,_,i,rfl,SqL.of po8,V.int (ys[i.toNat]'(by omega)),Zbx i0 (by rw [Ja6,Jab (by omega)]; rfl),_,j,rfl,SqL.of po8,V.int (ys[j.toNat]'(by omega)),Zbx j0 (by rw [Ja6,Jab (by omega)]; rfl),by decide,fun p5 h5=>?_⟩
     have ia:=inr _ (Jb0 (show i.toNat < ys.length by omega))
     have ic:=inr _ (Jb0 (show j.toNat < ys.length by omega))
     have pa9:(upd H8 p5 (.tup [V.int (ys[i.toNat]'(by omega)),V.int (ys[j.toNat]'(by omega))])) pa = some (.lst as):=by rw [Zaf (Zae pa8 h5)]; exact pa8
     have n5:p4 ≠ p5:=Zae p48 h5
     have n5o:po ≠ p5:=Zae po8 h5
     exact ⟨as,pa9,Zah (by omega),_,hNL,p4,_,as ++ [.ref p5],_,_,_,⟨rfl,rfl,rfl,rfl⟩,rfl,(exH8.trans (Ext.new h5)).upd fpa,(b8.new (b8.ne h5)).new nal,by rw [Zaf npa4.symm,Zaf n5]; exact p48,by rw [Zaf nao,Zaf n5o]; exact po8,Zac,p4nl,npa4.symm,
      by have hL:(as ++ [V.ref p5]).length = as.length + 1:=by { rw [Jak]; rfl }; rw [hL]; omega,(dN8.same (Same.new h5)).put pa9,(da8.add h5 ia.1 ia.2 ic.1 ic.2).put pa9⟩
   ·have hc:¬ (0:Int) < (ls.length:Nat):=fun z=>hc (Ja3 z)
    exact ⟨by decide,fun t ht=>q _ _ _ _ _ (Out.fin ex b hpa3 fpa m0 m8 (by omega) da ht)⟩
theorem iteP {c A B:Prop} [Decidable c] (hc:c) (h:A):if c then A else B:=by rw [if_pos hc]; exact h
theorem Zi5 {c A B:Prop} [Decidable c] (hc:¬ c) (h:B):if c then A else B:=by rw [if_neg hc]; exact h
theorem Zmj {a D:Addr} {xs:List V} {fr:List (Str × Nat)} {σ:L2.St} {te:TE} {H1:Hp} {Q:VK} (fb:Nat->Bool) (ha:H1 a = some (.lst xs)) (hD:H1 D = none) (hn:xs.length<=1000)
  (h:∀ (i:Nat) x H (Q:VK),xs[i]? = some x->Same H1 H->(∀ H',Same H H'->Q (.bl (fb i)) H')->te (some x :: Zb3 fr σ) H Q)
  (hQ:∀ H',Same H1 H'->H' D = some (.lst (((List.range xs.length).map fb).map V.bl))->Q (.ref D) H'):Zb5 (Zbd 0) Zg3 te (Itl K a) D (Zd9 1 fr σ) H1 Q:=by
 refine Zca (xs:=xs) (fun i vs H=>Same H1 H/\H D = some (.lst vs)/\vs = ((List.range i).map fb).map V.bl) ⟨Same.new hD,Zac,rfl⟩ (fun i vs H _ p=>SqL.of (p.1 _ _ ha)) ?_ (fun vs H ⟨s,e,hv⟩=>hQ H s (by rw [e,hv]))
 rintro i x vs σ' H hi hx sh ⟨s,e,rfl⟩
 obtain ⟨z,rfl⟩:=sh.one
 simp only [Zdq,Zbd,Zg3,Jau,Jcw]
 refine h i x H _ hx s fun H' s'=>?_
 exact leaf (ws:=((List.range (i + 1)).map fb).map V.bl) hi Sh.mk1 (s' _ _ e) (Zah (by rw [Jaa,Jaa,Jb2]; omega)) ⟨(s.trans s').upd hD,by rw [Zac,Jcp,Jav,Jav]; rfl,rfl⟩
theorem Zmi {a D:Addr} {xs:List V} {fr:List (Str × Nat)} {σ:L2.St} {te:TE} {H1:Hp} {Q:VK} (fb:Nat->Bool) (ha:H1 a = some (.tup xs)) (hD:H1 D = none) (hn:xs.length<=1000)
  (h:∀ (i:Nat) x H (Q:VK),xs[i]? = some x->Same H1 H->(∀ H',Same H H'->Q (.bl (fb i)) H')->te (some x :: Zb3 fr σ) H Q)
  (hQ:∀ H',Same H1 H'->H' D = some (.lst (((List.range xs.length).map fb).map V.bl))->Q (.ref D) H'):Zb5 (Zbd 0) Zg3 te (Itt K a) D (Zd9 1 fr σ) H1 Q:=by
 refine Zn6 (xs:=xs) (fun i vs H=>Same H1 H/\H D = some (.lst vs)/\vs = ((List.range i).map fb).map V.bl) ⟨Same.new hD,Zac,rfl⟩ (fun i vs H _ p=>SqT.of (p.1 _ _ ha)) ?_ (fun vs H ⟨s,e,hv⟩=>hQ H s (by rw [e,hv]))
 rintro i x vs σ' H hi hx sh ⟨s,e,rfl⟩
 obtain ⟨z,rfl⟩:=sh.one
 simp only [Zdq,Zbd,Zg3,Jau,Jcw]
 refine h i x H _ hx s fun H' s'=>?_
 exact leaf (ws:=((List.range (i + 1)).map fb).map V.bl) hi Sh.mk1 (s' _ _ e) (Zah (by rw [Jaa,Jaa,Jb2]; omega)) ⟨(s.trans s').upd hD,by rw [Zac,Jcp,Jav,Jav]; rfl,rfl⟩
theorem Zjb (n:Nat):((List.range n).map fun _=>true).all id = true:=by
 rw [Jci]
 intro b hb
 obtain ⟨_,_,rfl⟩:=Jao.mp hb
 rfl
def Zga:Sp:=fun vs H Q _=>∃ i:Int,vs = [.int i]/\Q (.bl true) H
theorem Znh {f:Addr} {fd:FuncData} (F:Fun K "is_whole" "is_whole" Zce f fd) (T:Txt K mg C):FnOk P w K mg base CX0 1 f fd ["thing"] Zga:=by
 have nd:=Ze4.nd
 refine F.ok Ze4 (fun vs H Q E h=>?_) (fun cdv A outer s H vs Q E hr h=>?_)
 ·obtain ⟨i,rfl,_⟩:=h
  rfl
 ·obtain ⟨i,rfl,q⟩:=h
  refine ⟨_,(~~~(Zok (Zb6 Zcm rfl T.n_isinstance Jde ((pv 0)<&>((Zk2 rfl T.n_int boot_int)<&>Zab))) (Zoj (pe_not (Zb6 Zcm rfl T.n_isinstance Jde ((pv 0)<&>((Zk2 rfl T.n_bool boot_bool)<&>Zab))))))),?_⟩
  walk_at "wp"
  exact ⟨_,_,⟨rfl,rfl⟩,_,rfl,_,.int i,_,Zlt K,iteT ⟨_,_,⟨rfl,rfl⟩,_,rfl,_,.int i,_,Zjr K,q⟩⟩
def Zh4:Sp:=fun vs H Q _=>∃ (m:Int) (x:V),vs = [.int m,x]/\Edge H m x/\∀ H',Same H H'->Q (.bl true) H'
theorem Zno {f:Addr} {fd:FuncData} (F:Fun K "is_arrow" "is_arrow" Zcf f fd) (T:Txt K mg C) (C_is_whole:Cal P w K mg base "is_whole" 1 Zga):FnOk P w K mg base CX0 2 f fd ["many","thing"] Zh4:=by
 have nd:=Ze5.nd
 refine F.ok Ze5 (fun vs H Q E h=>?_) (fun cdv A outer s H vs Q E hr h=>?_)
 ·obtain ⟨m,x,rfl,_⟩:=h
  rfl
 ·obtain ⟨m,x,rfl,⟨t,i,j,rfl,ht,i0,i1,j0,j1⟩,q⟩:=h
  refine ⟨_,((@Zbj _ _ _ _ _ _ _ _ (PW.pt (Zjj (Zdt (Zeq (Zb6 Zcm rfl T.n_isinstance Jde ((pv 1)<&>((Zk2 rfl T.n_tuple boot_tuple)<&>Zab))))) (Zfz (Zai Zk6 (Zb6 Zao rfl T.n_len Jbv ((pv 1)<&>Zab)) Zaa (Zar _))))) (~~~Zfe) Zan)<*>(~~~(Zb6 (Zgy rfl) rfl T.n_all boot_all ((Zbc (own:=["end"]) (fr:=[("many",0)]) rfl (Zcn (by kernel_rfl)) (Zoi (pv 1)) (fun _ _ _ _=>⟨(@Zag _ _ 0 _ (show (["end","many"]:List Str).Nodup by decide +kernel) rfl (Or.inl rfl) (Or.inr rfl)),Zbi,(Zok (Zb2 C_is_whole hr.m rfl ((pv 0)<&>Zab)) (Zoj (Znc Zk7 Znf Zaa (pv 0) (pv 1))))⟩))<&>Zab)))),?_⟩
  walk_at "wp"
  refine ⟨_,_,⟨rfl,rfl⟩,_,rfl,_,.tup ht,_,Zls K,iteF ⟨_,.inr (SqT.of ht),iteF ?_⟩⟩
  refine ⟨_,rfl,t,rfl,⟨_,SqT.of ht⟩,fun D hD=>Zmi (fun _=>true) ht hD (by show 2<=1000; decide) (fun k x H' Q' hx s' q'=>?_) fun H' s' e'=>⟨D,rfl,_,SqL.of e',?_⟩⟩
  ·have hx':∃ z:Int,x = .int z/\0<=z/\z < m:=by
    match k,hx with
    | 0,hx=>exact ⟨i,(Ja4 hx).symm,i0,i1⟩
    | 1,hx=>exact ⟨j,(Ja4 hx).symm,j0,j1⟩
    | k + 2,hx=>cases hx
   obtain ⟨z,rfl,z0,z1⟩:=hx'
   refine ⟨_,rfl,⟨z,rfl,true,rfl,iteT ⟨_,rfl,_,_,rfl,rfl,_,rfl,?_⟩⟩⟩
   refine iteP (Ja3 z0) ⟨_,rfl,_,_,rfl,rfl,?_⟩
   show Q' (V.bl (decide (z < m))) H'
   rw [Ja3 z1]
   exact q' H' (Same.refl _)
  ·rw [Zjb]
   exact q H' s'
def Zh2:Sp:=fun vs H Q _=>∃ (m:Int) (a:Addr) (xs:List V),vs = [.int m,.ref a]/\1<=m/\m<=8/\H a = some (.lst xs)/\xs.length<=9/\Edges H m xs/\∀ H',Same H H'->Q (.bl true) H'
theorem Znk {f:Addr} {fd:FuncData} (F:Fun K "makes_drawing" "makes_drawing" Za4 f fd) (T:Txt K mg C) (C_is_whole:Cal P w K mg base "is_whole" 1 Zga) (C_is_arrow:Cal P w K mg base "is_arrow" 2 Zh4):FnOk P w K mg base CX0 3 f fd ["many","arrows"] Zh2:=by
 have nd:=Zc7.nd
 refine F.ok Zc7 (fun vs H Q E h=>?_) (fun cdv A outer s H vs Q E hr h=>?_)
 ·obtain ⟨m,a,xs,rfl,_⟩:=h
  rfl
 ·obtain ⟨m,a,xs,rfl,m0,m8,ha,hl,d,q⟩:=h
  refine ⟨_,((@Zbj _ _ _ _ _ _ _ _ (PW.pt (Zjj (Zdt (Zeq (Zb2 C_is_whole hr.m rfl ((pv 0)<&>Zab)))) (Zfz (Zdt (Zm6 Zk7 Zk7 Zaa (pv 0) (Ziy rfl T.g_MOST_POINTS)))))) (~~~Zfe) Zan)<*>((@Zbj _ _ _ _ _ _ _ _ (PW.pt (Zjj (Zdt (Zeq (Zb6 Zcm rfl T.n_isinstance Jde ((pv 1)<&>((Zk2 rfl T.n_list Jd7)<&>Zab))))) (Zfz (Zai Zgp (Zb6 Zao rfl T.n_len Jbv ((pv 1)<&>Zab)) (Ziy rfl T.g_MOST_ARROWS) (Zar _))))) (~~~Zfe) Zan)<*>(~~~(Zb6 (Zgy rfl) rfl T.n_all boot_all ((Zbc (own:=["arrow"]) (fr:=[("many",0)]) rfl (Zcn (by kernel_rfl)) (Zbe (pv 1)) (fun _ _ _ _=>⟨(@Zag _ _ 0 _ (show (["arrow","many"]:List Str).Nodup by decide +kernel) rfl (Or.inl rfl) (Or.inr rfl)),Zbi,(Zb2 C_is_arrow hr.m rfl ((pv 1)<&>((pv 0)<&>Zab)))⟩))<&>Zab))))),?_⟩
  walk_at "wp"
  refine ⟨m,rfl,true,rfl,iteF (iteP (Ja3 m0) (Zi5 (by rw [Ja3 m8]; decide) ⟨_,_,⟨rfl,rfl⟩,_,rfl,_,.lst ha,_,Zic K,iteF ⟨_,.inl (SqL.of ha),Zi5 (by rw [Jb6 (by omega)]; decide) ?_⟩⟩))⟩
  refine ⟨_,rfl,a,rfl,⟨_,SqL.of ha⟩,fun D hD=>Zmj (fun _=>true) ha hD (by omega) (fun k x H' Q' hx s' q'=>?_) fun H' s' e'=>⟨D,rfl,_,SqL.of e',?_⟩⟩
  ·exact ⟨_,rfl,_,rfl,m,x,rfl,(d x (Jar hx)).same s',q'⟩
  ·rw [Zjb]
   exact q H' s'
def flds (m:Int) (lp:Addr):List (Str × V):=Zgj "arrows" (.ref lp) (Zgj "many" (.int m) [])
theorem Zck (m:Int) (lp:Addr):(flds m lp).lookup ("arrows" : Str) = some (.ref lp):=by
 unfold flds
 rw [Zcj,if_pos rfl]
theorem Zl4 (m:Int) (lp:Addr) {x:Str} (h1:¬ x = "arrows") (h2:¬ x = "many"):(flds m lp).lookup x = none:=by
 unfold flds
 rw [Zcj,if_neg h1,Zcj,if_neg h2]
 rfl
theorem Zn0 (m:Int):(Zgj "many" (.int m) ([]:List (Str × V))).length < 1000:=by
 have:=Zdx "many" (.int m) []
 simp at this
 omega
def Zg5 (C:Addr):Sp:=fun vs H Q _=>∃ (p dx:Addr) (m:Int) (a:Addr) (xs:List V),vs = [.ref p,.int m,.ref a]/\H p = some (.ins C dx [])/\1<=m/\m<=8/\H a = some (.lst xs)/\xs.length<=9/\Edges H m xs /\
 ∀ (lp:Addr) (H':Hp),Ext p H H'->H' p = some (.ins C dx (flds m lp))->H lp = none->H' lp = some (.lst xs)->Q .non H'
theorem ok_init {f:Addr} {fd:FuncData} (F:Fun K "__init__" "Drawing.__init__" Zbb f fd) (T:Txt K mg C) (C_makes_drawing:Cal P w K mg base "makes_drawing" 3 Zh2):FnOk P w K mg base CX0 4 f fd ["self","many","arrows"] (Zg5 C):=by
 have nd:=Zde.nd
 refine F.ok Zde (fun vs H Q E h=>?_) (fun cdv A outer s H vs Q E hr h=>?_)
 ·obtain ⟨p,dx,m,a,xs,rfl,_⟩:=h
  rfl
 ·obtain ⟨p,dx,m,a,xs,rfl,hp,m0,m8,ha,hl,d,q⟩:=h
  refine ⟨_,((@Zbj _ _ _ _ _ _ _ _ (Zdt (Zeq (Zb2 C_makes_drawing hr.m rfl ((pv 1)<&>((pv 2)<&>Zab))))) (@Zaq _ _ _ Zm8) Zan)<*>((Zog (pv 0) (pv 1) rfl)<*>(@Zaq _ _ _ (Zog (pv 0) (Zgn Zb7 rfl T.n_list Jd7 ((pv 2)<&>Zab)) rfl)))),?_⟩
  walk_at "wp"
  refine ⟨m,a,xs,rfl,m0,m8,ha,hl,d,fun H1 s1=>⟨true,rfl,iteF ?_⟩⟩
  have nap:a ≠ p:=Zjm ha hp (by intro z; cases z)
  refine ⟨C,dx,[],s1 _ _ hp,T.cl_Drawing,T.nM,by show 0 < 1000; decide,xs,.inl (SqL.of (by rw [Zaf nap]; exact s1 _ _ ha)),fun l hl0=>?_⟩
  have npl:p ≠ l:=Zae Zac hl0
  refine ⟨C,dx,_,by rw [Zaf npl]; exact Zac,T.cl_Drawing,T.nA,Zn0 m,?_⟩
  have fl:H l = none:=by
   rw [Zaf npl.symm] at hl0
   exact s1.free hl0
  refine q l _ (fun b o nb e=>?_) Zac fl (by rw [Zaf npl.symm]; exact Zac)
  rw [Zaf nb,Zaf (Zae e fl),Zaf nb]
  exact s1 _ _ e
def Prs (H:Hp) (xs:List V) (ps:List (Int × Int)):Prop:=xs.length = ps.length/\∀ (i:Nat) (x:V) (q:Int × Int),xs[i]? = some x->ps[i]? = some q->∃ t,x = .ref t/\H t = some (.tup [.int q.1,.int q.2])
theorem Prs.same {H H':Hp} {xs:List V} {ps:List (Int × Int)} (h:Prs H xs ps) (s:Same H H'):Prs H' xs ps:=⟨h.1,fun i x q h1 h2=>let ⟨t,e1,e2⟩:=h.2 i x q h1 h2; ⟨t,e1,s _ _ e2⟩⟩
def DrawAt (C:Addr) (H:Hp) (p:Addr) (m:Int) (lp:Addr) (xs:List V):Prop:=∃ dx,H p = some (.ins C dx (flds m lp))/\H lp = some (.lst xs)
def InP (m:Int) (ps:List (Int × Int)):Prop:=∀ q ∈ ps,0<=q.1/\q.1 < m/\0<=q.2/\q.2 < m
theorem Prs.nil {H:Hp}:Prs H [] []:=⟨rfl,fun i x q h=>by simp at h⟩
theorem Prs.put {H:Hp} {D:Addr} {l:List V} {o:HO} {xs:List V} {ps:List (Int × Int)} (h:Prs H xs ps) (hD:H D = some (.lst l)):Prs (upd H D o) xs ps:=
 ⟨h.1,fun i x q h1 h2=>let ⟨t,e1,e2⟩:=h.2 i x q h1 h2; ⟨t,e1,by rw [Zaf (Zjm e2 hD (by intro z; cases z))]; exact e2⟩⟩
theorem Prs.add {H:Hp} {xs:List V} {ps:List (Int × Int)} {t:Addr} {q:Int × Int} (h:Prs H xs ps) (ht:H t = some (.tup [.int q.1,.int q.2])):Prs H (xs ++ [.ref t]) (ps ++ [q]):=by
 refine ⟨by simp [h.1],fun i x r h1 h2=>?_⟩
 by_cases hi:i < xs.length
 ·rw [Jbk hi] at h1
  rw [Jbk (by rw [<- h.1]; exact hi)] at h2
  exact h.2 i x r h1 h2
 ·rw [Jbb (by omega)] at h1
  rw [Jbb (by rw [<- h.1]; omega)] at h2
  have hl:=h.1
  by_cases h0:i - xs.length = 0
  ·rw [h0] at h1
   rw [<- hl,h0] at h2
   simp at h1 h2
   exact ⟨t,h1.symm,by rw [<- h2]; exact ht⟩
  ·rw [List.getElem?_eq_none (by simp; omega)] at h1
   cases h1
theorem Zkt {H:Hp} {m:Int}:∀ {xs:List V},Edges H m xs->∃ ps,Prs H xs ps/\InP m ps
 | [],_=>⟨[],Prs.nil,fun q h=>by simp at h⟩
 | x :: xs,d=>by
  obtain ⟨ps,⟨h1,h2⟩,h3⟩:=Zkt (xs:=xs) fun y hy=>d y (Ja7 _ hy)
  obtain ⟨t,i,j,rfl,ht,hb⟩:=d x Jb9
  refine ⟨(i,j) :: ps,⟨by simp [h1],fun k y q e1 e2=>?_⟩,fun q hq=>?_⟩
  ·cases k with
   | zero=>
    simp at e1 e2
    subst e1 e2
    exact ⟨t,rfl,ht⟩
   | succ k=>exact h2 k y q (by simpa using e1) (by simpa using e2)
  ·rcases Jam.mp hq with rfl | hq
   ·exact hb
   ·exact h3 q hq
theorem Zn1 {H:Hp} {m:Int} {xs:List V} {ps:List (Int × Int)} (h:Prs H xs ps) (r:InP m ps):Edges H m xs:=by
 intro x hx
 obtain ⟨i,hi,rfl⟩:=Jbw.mp hx
 have hl:=h.1
 have hq:ps[i]? = some (ps[i]'(by omega)):=Jab _
 obtain ⟨t,e1,e2⟩:=h.2 i _ _ (Jab hi) hq
 exact ⟨t,_,_,e1,e2,r _ (Jar hq)⟩
def Drw (C:Addr) (H:Hp) (p:Addr) (m:Int) (ps:List (Int × Int)):Prop:=∃ lp xs,DrawAt C H p m lp xs/\xs.length<=9/\Prs H xs ps
theorem Drw.same {H H':Hp} {p:Addr} {m:Int} {ps:List (Int × Int)} (h:Drw C H p m ps) (s:Same H H'):Drw C H' p m ps:=by
 obtain ⟨lp,xs,⟨dx,h1,h2⟩,h3,h4⟩:=h
 exact ⟨lp,xs,⟨dx,s _ _ h1,s _ _ h2⟩,h3,h4.same s⟩
theorem Zkp {k:Nat} {A:Around} (hr:Room k A):A.units + 8 < cLine:=by have:=hr.units; omega
theorem all_rep (n:Nat):(List.replicate n true).all id = true:=by simp
theorem Same.thru {l:Addr} {H H1 H2:Hp} (s:Same H H1) (h:H l = none) (e:Ext l H1 H2):Same H H2:=fun b o eb=>e b o (Zae eb h) (s b o eb)
end
end Pf
set_option maxHeartbeats 1000000
namespace Pf
open PySem L2 PyProof.Rows
def stepL (f:Int->Int) (q:Int × Int):Int->Int:=fun x=>if f x = max (f q.1) (f q.2) then min (f q.1) (f q.2) else f x
def Zbh (ps:List (Int × Int)):Int->Int:=ps.foldl stepL id
def Zoc (h:Int->Int) (ps:List (Int × Int)):Prop:=∀ q ∈ ps,h q.1 = h q.2
structure Lab (m:Int) (ps:List (Int × Int)) (f:Int->Int):Prop where
 le:∀ x,0<=x->x < m->f x<=x
 lo:∀ x,0<=x->x < m->0<=f x
 co:∀ h,Zoc h ps->∀ x,0<=x->x < m->h (f x) = h x
theorem Lab.lt {m:Int} {ps:List (Int × Int)} {f:Int->Int} (L:Lab m ps f) {x:Int} (h0:0<=x) (h1:x < m):f x < m:=Int.lt_of_le_of_lt (L.le x h0 h1) h1
theorem Lab.id (m:Int) (ps:List (Int × Int)):Lab m ps id:=⟨fun x _ _=>Int.le_refl x,fun x h _=>h,fun _ _ _ _ _=>rfl⟩
theorem Lab.stepL {m:Int} {ps:List (Int × Int)} {f:Int->Int} {q:Int × Int} (L:Lab m ps f) (hp:InP m ps) (hq:q ∈ ps):Lab m ps (stepL f q):=by
 obtain ⟨a0,a1,b0,b1⟩:=hp q hq
 have fa:=L.lo _ a0 a1
 have fb:=L.lo _ b0 b1
 refine ⟨fun x h0 h1=>?_,fun x h0 h1=>?_,fun h c x h0 h1=>?_⟩
 ·have:=L.le x h0 h1
  unfold Pf.stepL
  split <;> omega
 ·have:=L.lo x h0 h1
  unfold Pf.stepL
  split <;> omega
 ·have e:=L.co h c x h0 h1
  have ea:=L.co h c _ a0 a1
  have eb:=L.co h c _ b0 b1
  have eq:=c q hq
  unfold Pf.stepL
  split
  ·rename_i hx
   rw [<- e,hx]
   rcases Int.le_total (f q.1) (f q.2) with z | z
   ·rw [Int.min_eq_left z,Int.max_eq_right z]; omega
   ·rw [Int.min_eq_right z,Int.max_eq_left z]; omega
  ·exact e
theorem Zjf {f:Int->Int} {q:Int × Int} {x y:Int} (h:f x = f y):stepL f q x = stepL f q y:=by unfold stepL; rw [h]
theorem Zjg {f:Int->Int} {q:Int × Int}:stepL f q q.1 = stepL f q q.2:=by
 unfold stepL
 split <;> split <;> omega
theorem Zln {m:Int} {ps:List (Int × Int)} (hp:InP m ps):∀ (r:List (Int × Int)) (d:List (Int × Int)) (f:Int->Int),(∀ q ∈ r,q ∈ ps)->Lab m ps f->Zoc f d->Lab m ps (r.foldl stepL f)/\Zoc (r.foldl stepL f) (d ++ r)
 | [],d,f,_,L,c=>⟨L,by simpa using c⟩
 | q :: r,d,f,hr,L,c=>by
  have L':=L.stepL hp (hr q Jb9)
  have:=Zln hp r (d ++ [q]) (stepL f q) (fun z hz=>hr z (Ja7 _ hz)) L' (fun z hz=>by
   rcases Jb7.mp hz with hz | hz
   ·exact Zjf (c z hz)
   ·rw [Jbg.mp hz]; exact Zjg)
  simpa using this
theorem Zgt {m:Int} {ps:List (Int × Int)} (hp:InP m ps):Lab m ps (Zbh ps)/\Zoc (Zbh ps) ps:=by
 have:=Zln hp ps [] id (fun _ h=>h) (Lab.id m ps) (fun q h=>by simp at h)
 simpa [Zbh] using this
def Zec (n:Nat) (f:Int->Int) (k:Int):List Int:=((List.range n).filter fun j=>decide (f (j:Nat) = k)).map fun j=>((j:Nat):Int)
def Zc2 (n:Nat) (f:Int->Int):List (List Int):=((List.range n).filter fun i=>decide (f (i:Nat) = (i:Nat))).map fun i=>Zec n f (i:Nat)
end Pf
namespace Pf
open PySem L2 PyProof.Rows
section
variable {P:Program} {w:World} {K:PySem.W.Frag} {mg:Str->Option Value} {base:Heap} {C:Addr}
theorem room1 {k:Nat} {A:Around} (hr:Room k A):A.units + 1 < cLine:=by have:=hr.units; omega
def ptsV (n:Nat):List V:=(List.range n).map fun j=>V.int ((j:Nat):Int)
theorem Zm5 {m:Int}:Zmp 0 m = ptsV m.toNat:=by unfold Zmp ptsV; simp
structure Pts (J:It) (H1:Hp) (n:Nat):Prop where
 go:∀ i H,i < n->Same H1 H->J.go i H/\∀ x H',J.yld i H x H'->H' = H/\x = V.int (i:Nat)
 stop:∀ H,Same H1 H->J.stop n H
theorem Pts.rng {H1:Hp} {n:Nat}:Pts (Itr 0 n) H1 n:=
 ⟨fun i H hi s=>⟨hi,fun x H' y=>⟨y.1,by rw [y.2]; simp⟩⟩,fun H s=>Jae _⟩
def RowsF (D:Addr) (H0 H:Hp) (qs:List V) (L:List (List Int)):Prop:=
 qs.length = L.length/\∀ (i:Nat) q r,qs[i]? = some q->L[i]? = some r->∃ t,q = .ref t/\t ≠ D/\H0 t = none/\H t = some (.lst (r.map V.int))
theorem RowsF.nil {D:Addr} {H0 H:Hp}:RowsF D H0 H [] []:=⟨rfl,fun i q r h=>by simp at h⟩
theorem RowsF.same {D:Addr} {H0 H H':Hp} {qs:List V} {L:List (List Int)} (h:RowsF D H0 H qs L) (s:Same H H'):RowsF D H0 H' qs L:=
 ⟨h.1,fun i q r h1 h2=>let ⟨t,e1,e2,e3,e4⟩:=h.2 i q r h1 h2; ⟨t,e1,e2,e3,s _ _ e4⟩⟩
theorem RowsF.put {D:Addr} {H0 H:Hp} {o:HO} {qs:List V} {L:List (List Int)} (h:RowsF D H0 H qs L):RowsF D H0 (upd H D o) qs L:=
 ⟨h.1,fun i q r h1 h2=>let ⟨t,e1,e2,e3,e4⟩:=h.2 i q r h1 h2; ⟨t,e1,e2,e3,by rw [Zaf e2]; exact e4⟩⟩
theorem RowsF.old {D:Addr} {H0 H1 H:Hp} {qs:List V} {L:List (List Int)} (h:RowsF D H1 H qs L) (s:Same H0 H1):RowsF D H0 H qs L:=
 ⟨h.1,fun i q r h1 h2=>let ⟨t,e1,e2,e3,e4⟩:=h.2 i q r h1 h2; ⟨t,e1,e2,s.free e3,e4⟩⟩
theorem RowsF.add {D:Addr} {H0 H:Hp} {qs:List V} {L:List (List Int)} {t:Addr} {r:List Int} (h:RowsF D H0 H qs L) (n:t ≠ D) (f:H0 t = none) (ht:H t = some (.lst (r.map V.int))):RowsF D H0 H (qs ++ [.ref t]) (L ++ [r]):=by
 refine ⟨by simp [h.1],fun i x r' h1 h2=>?_⟩
 by_cases hi:i < qs.length
 ·rw [Jbk hi] at h1
  rw [Jbk (by rw [<- h.1]; exact hi)] at h2
  exact h.2 i x r' h1 h2
 ·rw [Jbb (by omega)] at h1
  rw [Jbb (by rw [<- h.1]; omega)] at h2
  have hl:=h.1
  by_cases h0:i - qs.length = 0
  ·rw [h0] at h1
   rw [<- hl,h0] at h2
   simp at h1 h2
   exact ⟨t,h1.symm,n,f,by rw [<- h2]; exact ht⟩
  ·rw [List.getElem?_eq_none (by simp; omega)] at h1
   cases h1
theorem Zmg {J:It} {D:Addr} {n:Nat} {fr:List (Str × Nat)} {σ:L2.St} {tt:TT} {te:TE} {H1:Hp} {Q:VK} (g:Nat->Bool) (row:Nat->List Int) (hJ:Pts J H1 n) (hD:H1 D = none) (hn:n<=1000)
  (h:∀ i H (Q:Bool->Hp->Prop),i < n->Same H1 H->Q (g i) H->tt (some (.int ((i:Nat):Int)) :: Zb3 fr σ) H Q)
  (he:∀ i H (Q:VK),i < n->Same H1 H->(∀ t H',H t = none->Same H H'->H' t = some (.lst ((row i).map V.int))->Q (.ref t) H')->te (some (.int ((i:Nat):Int)) :: Zb3 fr σ) H Q)
  (hQ:∀ qs H',Same H1 H'->H' D = some (.lst qs)->RowsF D H1 H' qs (((List.range n).filter g).map row)->Q (.ref D) H'):Zb5 (Zbd 0) tt te J D (Zd9 1 fr σ) H1 Q:=by
 refine Zey (n:=n) (fun i x=>x = V.int (i:Nat)) (fun i vs H=>Same H1 H/\H D = some (.lst vs)/\RowsF D H1 H vs (((List.range i).filter g).map row)) ⟨Same.new hD,Zac,RowsF.nil⟩ (fun i vs H hi p=>hJ.go i H hi p.1) (fun vs H p=>hJ.stop H p.1) ?_ (fun vs H ⟨s,e,hv⟩=>hQ vs H s e hv)
 rintro i x vs σ' H hi rfl sh ⟨s,e,hv⟩
 obtain ⟨z,rfl⟩:=sh.one
 simp only [Zdq,Zbd,Jau]
 refine h i H _ hi s (Zdu (fun hg=>?_) (fun hg=>?_))
 ·refine he i H _ hi s fun t H' ft s' ht=>?_
  have hl:=Jaz g (List.range i)
  have hv1:=hv.1
  have nt:t ≠ D:=(Zae e ft).symm
  refine leaf (ws:=vs ++ [.ref t]) hi Sh.mk1 (s' _ _ e) (Zah (by rw [hv1]; simp at hl ⊢; omega)) ⟨(s.trans s').upd hD,Zac,?_⟩
  have:=((hv.same s').add nt (s.free ft) ht).put (o:=.lst (vs ++ [.ref t]))
  rw [Jcp,Jbr,Jav]
  simpa [hg] using this
 ·refine Zll (ws:=vs) hi Sh.mk1 ⟨s,e,?_⟩
  rw [Jcp,Jbr,Jav]
  simpa [hg] using hv
def DRep (n:Nat) (kvs:List (Key × V)) (f:Int->Int):Prop:=kvs.length<=n/\∀ x:Int,0<=x->x < n->Zej kvs (.inl x) = some (.int (f x))
theorem Zm4 {kvs:List (Key × V)} {k:Key} {v:V} (h:(Zej kvs k).isSome = true):(Zfp kvs k v).length = kvs.length:=by
 unfold Zfp
 rw [Zdo,h,if_pos rfl,Jaa]
theorem DRep.get {n:Nat} {kvs:List (Key × V)} {f:Int->Int} {H:Hp} {D:Addr} {x:Int} (h:DRep n kvs f) (e:H D = some (.dK kvs)) (h0:0<=x) (h1:x < n):DGet H D (.int x) (some (.int (f x))):=by
 have:=DGet.k (k:=.inl x) e
 rwa [h.2 x h0 h1] at this
theorem sort2 {ns:List Int} {x y:Int} (hp:ns.Perm [x,y]) (hs:ns.Pairwise (·<=·)):ns = [min x y,max x y]:=by
 have hl:=hp.length_eq
 match ns,hl with
 | [u,v],_=>
  have h1:u ∈ [x,y]:=hp.mem_iff.mp (by simp)
  have h2:v ∈ [x,y]:=hp.mem_iff.mp (by simp)
  have h3:x ∈ [u,v]:=hp.mem_iff.mpr (by simp)
  have h4:y ∈ [u,v]:=hp.mem_iff.mpr (by simp)
  have h5:u<=v:=by simpa using hs
  simp at h1 h2 h3 h4
  have e1:u = min x y:=by omega
  have e2:v = max x y:=by omega
  rw [e1,e2]
def Zgc (C:Addr):Sp:=fun vs H Q _=>∃ (x:Addr) (m:Int) (ps:List (Int × Int)),vs = [.ref x]/\Drw C H x m ps/\InP m ps/\1<=m/\m<=8 /\
 ∀ p qs H',Same H H'->H p = none->H' p = some (.lst qs)->RowsF p H H' qs (Zc2 m.toNat (Zbh ps))->Q (.ref p) H'
def GRep (n:Nat) (ns:List Int) (g:Int->Int):Prop:=ns.length = n/\∀ i:Nat,i < n->ns[i]? = some (g (i:Nat))
theorem GRep.set {n:Nat} {ns:List Int} {g:Int->Int} {k v:Int} (h:GRep n ns g) (h0:0<=k) (h1:k < n):GRep n (ns.set k.toNat v) (fun x=>if x = k then v else g x):=by
 have hl:=h.1
 refine ⟨by rw [Jcy]; exact h.1,fun i hi=>?_⟩
 rw [List.getElem?_set]
 show _ = some (if ((i:Nat):Int) = k then v else g (i:Nat))
 by_cases e:k.toNat = i
 ·rw [if_pos e,if_pos (by omega),if_pos (by omega)]
 ·rw [if_neg e,h.2 i hi,if_neg (by omega)]
theorem Zc6 {L:List Int} {i:Nat} {x:V} (h:(L.map V.int)[i]? = some x):∃ y,L[i]? = some y/\x = .int y:=by
 rw [Ja6] at h
 cases e:L[i]? with
 | none=>rw [e] at h; cases h
 | some y=>rw [e] at h; cases h; exact ⟨y,rfl,rfl⟩
theorem Zii {a D:Addr} {L:List Int} {fr:List (Str × Nat)} {σ:L2.St} {tt:TT} {H1:Hp} {Q:VK} (g:Int->Bool) (ha:H1 a = some (.lst (L.map V.int))) (hD:H1 D = none) (hn:L.length<=900)
  (h:∀ x H (Q:Bool->Hp->Prop),x ∈ L->Same H1 H->Q (g x) H->tt (some (.int x) :: Zb3 fr σ) H Q)
  (hQ:∀ H',Same H1 H'->H' D = some (.lst ((L.filter g).map V.int))->Q (.ref D) H'):Zb5 (Zbd 0) tt (Zje 0) (Itl K a) D (Zd9 1 fr σ) H1 Q:=by
 refine Zca (xs:=L.map V.int) (fun i vs H=>Same H1 H/\H D = some (.lst vs)/\vs = ((L.take i).filter g).map V.int) ⟨Same.new hD,Zac,rfl⟩ (fun i vs H _ p=>SqL.of (p.1 _ _ ha)) ?_ (fun vs H ⟨s,e,hv⟩=>hQ H s (by rw [e,hv,Jaa,Jbi]))
 rintro i x vs σ' H hi hx sh ⟨s,e,hv⟩
 obtain ⟨z,rfl⟩:=sh.one
 obtain ⟨y,ey,rfl⟩:=Zc6 hx
 have et:L.take (i + 1) = L.take i ++ [y]:=by rw [Jbf,ey]; rfl
 have hl:=Jaz g (L.take i)
 rw [Ja8] at hl
 simp only [Zdq,Zbd,Jau]
 refine h y H _ (Jar ey) s (Zdu (fun hg=>?_) (fun hg=>?_))
 ·refine ⟨_,rfl,leaf (ws:=vs ++ [.int y]) hi Sh.mk1 e (Zah (by rw [hv,Jaa]; omega)) ⟨s.upd hD,Zac,?_⟩⟩
  rw [et,Jbr,hv]
  simp [hg]
 ·refine Zll (ws:=vs) hi Sh.mk1 ⟨s,e,?_⟩
  rw [et,Jbr,hv]
  simp [hg]
theorem comp_rl {a D:Addr} {L:List Int} {fr:List (Str × Nat)} {σ:L2.St} {tt:TT} {te:TE} {H1:Hp} {Q:VK} (g:Int->Bool) (row:Int->List Int) (ha:H1 a = some (.lst (L.map V.int))) (hD:H1 D = none) (hn:L.length<=900)
  (h:∀ x H (Q:Bool->Hp->Prop),x ∈ L->Same H1 H->Q (g x) H->tt (some (.int x) :: Zb3 fr σ) H Q)
  (he:∀ x H (Q:VK),x ∈ L->Same H1 H->(∀ t H',H t = none->Same H H'->H' t = some (.lst ((row x).map V.int))->Q (.ref t) H')->te (some (.int x) :: Zb3 fr σ) H Q)
  (hQ:∀ qs H',Same H1 H'->H' D = some (.lst qs)->RowsF D H1 H' qs ((L.filter g).map row)->Q (.ref D) H'):Zb5 (Zbd 0) tt te (Itl K a) D (Zd9 1 fr σ) H1 Q:=by
 refine Zca (xs:=L.map V.int) (fun i vs H=>Same H1 H/\H D = some (.lst vs)/\RowsF D H1 H vs (((L.take i).filter g).map row)) ⟨Same.new hD,Zac,RowsF.nil⟩ (fun i vs H _ p=>SqL.of (p.1 _ _ ha)) ?_ (fun vs H ⟨s,e,hv⟩=>hQ vs H s e (by rw [Jaa,Jbi] at hv; exact hv))
 rintro i x vs σ' H hi hx sh ⟨s,e,hv⟩
 obtain ⟨z,rfl⟩:=sh.one
 obtain ⟨y,ey,rfl⟩:=Zc6 hx
 have et:L.take (i + 1) = L.take i ++ [y]:=by rw [Jbf,ey]; rfl
 have hl:=Jaz g (L.take i)
 rw [Ja8] at hl
 have hv1:=hv.1
 rw [Jaa] at hv1
 simp only [Zdq,Zbd,Jau]
 refine h y H _ (Jar ey) s (Zdu (fun hg=>?_) (fun hg=>?_))
 ·refine he y H _ (Jar ey) s fun t H' ft s' ht=>?_
  have nt:t ≠ D:=(Zae e ft).symm
  refine leaf (ws:=vs ++ [.ref t]) hi Sh.mk1 (s' _ _ e) (Zah (by omega)) ⟨(s.trans s').upd hD,Zac,?_⟩
  have:=((hv.same s').add nt (s.free ft) ht).put (o:=.lst (vs ++ [.ref t]))
  rw [et,Jbr,Jav]
  simpa [hg] using this
 ·refine Zll (ws:=vs) hi Sh.mk1 ⟨s,e,?_⟩
  rw [et,Jbr,Jav]
  simpa [hg] using hv
def DRepL (L:List Int) (kvs:List (Key × V)) (f:Int->Int):Prop:=kvs.length<=L.length/\∀ x ∈ L,Zej kvs (.inl x) = some (.int (f x))
theorem DRepL.put {L:List Int} {kvs:List (Key × V)} {f:Int->Int} {k v:Int} (h:DRepL L kvs f) (hk:k ∈ L):DRepL L (Zfp kvs (.inl k) (.int v)) (fun y=>if y = k then v else f y):=by
 refine ⟨by rw [Zm4 (by rw [h.2 k hk]; rfl)]; exact h.1,fun x hx=>?_⟩
 rw [Ziq]
 by_cases e:x = k
 ·subst e; simp
 ·show _ = some (V.int (if x = k then v else f x))
  rw [if_neg (by intro z; exact e (Sum.inl.inj z)),if_neg e]; exact h.2 x hx
theorem DRepL.congr {L:List Int} {kvs:List (Key × V)} {f g:Int->Int} (h:DRepL L kvs f) (e:∀ x ∈ L,f x = g x):DRepL L kvs g:=⟨h.1,fun x hx=>by rw [h.2 x hx,e x hx]⟩
theorem DRepL.get {L:List Int} {kvs:List (Key × V)} {f:Int->Int} {H:Hp} {D:Addr} {x:Int} (h:DRepL L kvs f) (e:H D = some (.dK kvs)) (hx:x ∈ L):DGet H D (.int x) (some (.int (f x))):=by
 have:=DGet.k (k:=.inl x) e
 rwa [h.2 x hx] at this
theorem comp_dl {a D:Addr} {L:List Int} {σ:L2.St} {H1:Hp} {Q:VK} (ha:H1 a = some (.lst (L.map V.int))) (nd:L.Nodup) (hD:H1 D = none) (hn:L.length<=900)
  (hQ:∀ kvs H',Same H1 H'->H' D = some (.dK kvs)->DRepL L kvs id->Q (.ref D) H'):Zhy (Zbd 0) Zg3 (Zje 0) (Zje 0) (Itl K a) D (Zd9 1 [] σ) H1 Q:=by
 refine ⟨fun i m σ' H2=>m = L.length - i/\i<=L.length/\(∃ z,σ' = [z])/\∃ kvs,Same H1 H2/\H2 D = some (.dK kvs)/\kvs.length = i/\∀ x:Int,Zej kvs (.inl x) = if x ∈ L.take i then some (.int x) else none,⟨L.length,by simp,Jb1 _,⟨none,rfl⟩,[],Same.new hD,Zac,rfl,fun x=>by simp; rfl⟩,?_⟩
 rintro i m σ' H2 ⟨rfl,hi,⟨z,rfl⟩,kvs,s,e,hl,hv⟩
 by_cases hlt:i < L.length
 ·refine .inr ⟨⟨_,_,SqL.of (s _ _ ha),Jab (by rw [Jaa]; exact hlt)⟩,fun x H3 y=>?_⟩
  obtain ⟨rfl,y2⟩:=y
  obtain ⟨u,eu,rfl⟩:=Zc6 (y2 _ (SqL.of (s _ _ ha)))
  have et:L.take (i + 1) = L.take i ++ [u]:=by rw [Jbf,eu]; rfl
  have nu:u ∉ L.take i:=fun zz=>by
   have h1:(L.take (i + 1)).Nodup:=Ja2 (Jed _ _) nd
   rw [et] at h1
   exact (List.nodup_append.mp h1).2.2 u zz u (by simp) rfl
  simp only [Zbd,Zg3,Jcw,Jau]
  refine ⟨_,rfl,_,rfl,kvs,.inl u,rfl,e,Zah (by omega),L.length - (i + 1),by omega,rfl,by omega,⟨_,rfl⟩,Zfp kvs (.inl u) (.int u),s.upd hD,Zac,?_,fun x=>?_⟩
  ·rw [Zm3 _ (by rw [hv,if_neg nu])]; simp [hl]
  ·rw [Ziq,et]
   by_cases ex:x = u
   ·subst ex; simp
   ·rw [if_neg (by intro z; exact ex (Sum.inl.inj z)),hv]
    by_cases c:x ∈ L.take i
    ·rw [if_pos c,if_pos (by simp [c])]
    ·rw [if_neg c,if_neg (by simp [c,ex])]
 ·have ei:i = L.length:=by omega
  subst ei
  exact .inl ⟨⟨_,SqL.of (s _ _ ha),by rw [Jaa]; exact Jae _⟩,hQ kvs H2 s e ⟨by omega,fun x hx=>by rw [hv,if_pos (by rw [Jbi]; exact hx)]; rfl⟩⟩
def Zji (L:List Int) (f:Int->Int) (k:Int):List Int:=L.filter fun x=>decide (f x = k)
def Zdv (L:List Int) (f:Int->Int):List (List Int):=(L.filter fun x=>decide (f x = x)).map fun k=>Zji L f k
def spHg:Sp:=fun vs H Q _=>∃ (a b:Addr) (L:List Int) (xs:List V) (ps:List (Int × Int)),vs = [.ref a,.ref b]/\H a = some (.lst (L.map V.int))/\H b = some (.lst xs)/\L.Nodup/\L.length<=8/\xs.length<=9/\Prs H xs ps/\(∀ q ∈ ps,q.1 ∈ L/\q.2 ∈ L) /\
 ∀ p qs H',Same H H'->H p = none->H' p = some (.lst qs)->RowsF p H H' qs (Zdv L (Zbh ps))->Q (.ref p) H'
theorem ok_hg {f:Addr} {fd:FuncData} (F:Fun K "hanging" "hanging" Zc0 f fd) (T:Txt K mg C):FnOk P w K mg base CX0 1 f fd ["points","arrows"] spHg:=by
 have nd:=Zfw.nd
 refine F.ok Zfw (fun vs H Q E h=>?_) (fun cdv A outer s H vs Q E hr h=>?_)
 ·obtain ⟨a,b,L,xs,ps,rfl,_⟩:=h
  rfl
 ·obtain ⟨a,b,L,xs,ps,rfl,ha,hb,nL,hn,hx,hps,hin,q⟩:=h
  have hu1:=room1 hr
  refine ⟨_,((Zam (i:=2) nd rfl (Or.inr rfl) (Zna (own:=["point"]) (fr:=[]) rfl (Zcn (by kernel_rfl)) (Zbe (pv 0)) (fun _ _ _ _=>⟨(@Zag _ _ 0 _ (show (["point"]:List Str).Nodup by decide +kernel) rfl (Or.inl rfl) (Or.inr rfl)),Zbi,(pv 0),(pv 0)⟩)))<*>((Zcp Jbd rfl (Zbe (pv 1)) (@Zf0 _ _ _ _ _ 2 rfl (@Za3 _ _ _ _ _ (@Zag _ _ 3 _ nd rfl (Or.inl rfl) (Or.inl rfl)) (@Za3 _ _ _ _ _ (@Zag _ _ 4 _ nd rfl (Or.inl rfl) (Or.inl rfl)) (@Zdi _) (by rfl)) (by rfl)) (by rfl) (by rfl)) ((Zfb (Zb6 Zfn rfl T.n_sorted boot_sorted ((@Zbn _ _ _ _ ((Zfd hu1 (pv 2) (pv 3) (fun _ _=>rfl))<&>((Zfd hu1 (pv 2) (pv 4) (fun _ _=>rfl))<&>Zab)))<&>Zab)) (@pg_lst _ _ _ _ _ 2 rfl (@Za3 _ _ _ _ _ (@Zag _ _ 5 _ nd rfl (Or.inl rfl) (Or.inl rfl)) (@Za3 _ _ _ _ _ (@Zag _ _ 6 _ nd rfl (Or.inl rfl) (Or.inl rfl)) (@Zdi _) (by rfl)) (by rfl)) (by rfl) (by rfl)))<*>(@Zaq _ _ _ (Zcp Jbd rfl (Zbe (pv 0)) (@Zag _ _ 7 _ nd rfl (Or.inl rfl) (Or.inl rfl)) (@Zaq _ _ _ (@Zbj _ _ _ _ _ _ _ _ (Zai Zd5 (Zfd hu1 (pv 2) (pv 7) (fun _ _=>rfl)) (pv 6) (Zar _)) (@Zaq _ _ _ (ps_dput hu1 (pv 2) (pv 7) (pv 5) rfl)) Zan))))))<*>(~~~(Zbc (own:=["first"]) (fr:=[("points",0),("least",2)]) rfl (Zcn (by kernel_rfl)) (Zbe (pv 0)) (fun _ _ _ _=>⟨(@Zag _ _ 0 _ (show (["first","points","least"]:List Str).Nodup by decide +kernel) rfl (Or.inr rfl) (Or.inl rfl)),(Zed (Zai Zd5 (Zfd hu1 (pv 2) (pv 0) (fun _ _=>rfl)) (pv 0) (Zar _))),(Zbc (own:=["point"]) (fr:=[("least",2),("first",0)]) rfl (Zcn (by kernel_rfl)) (Zix K rfl (pv 1)) (fun _ _ _ _=>⟨(@Zag _ _ 0 _ (show (["point","least","first"]:List Str).Nodup by decide +kernel) rfl (Or.inl rfl) (Or.inr rfl)),(Zed (Zai Zd5 (Zfd hu1 (pv 1) (pv 0) (fun _ _=>rfl)) (pv 2) (Zar _))),(pv 0)⟩))⟩))))),?_⟩
  walk_at "wp"
  refine ⟨_,rfl,a,rfl,⟨_,SqL.of ha⟩,fun D hD=>comp_dl ha nL hD (by omega) fun kvs0 H1 s1 hD1 r1=>?_⟩
  refine ⟨_,rfl,b,rfl,⟨_,SqL.of (s1 _ _ hb)⟩,Zex (xs:=xs) (fun i σ Hi=>∃ v3 v4 v5 v6 v7:Option V,σ = [some (.ref a),some (.ref b),some (.ref D),v3,v4,v5,v6,v7]/\Same H Hi/\∃ kvs,Hi D = some (.dK kvs)/\DRepL L kvs ((ps.take i).foldl stepL id)) ⟨none,none,none,none,none,rfl,s1,kvs0,hD1,r1⟩ (fun i σ Hi _ ⟨_,_,_,_,_,_,si,_⟩=>SqL.of (si _ _ hb)) ?_ ?_⟩
  ·rintro i x σ Hi hxi ⟨v3,v4,v5,v6,v7,rfl,si,kvs,hDi,ri⟩
   have hi:i < ps.length:=by have:=(Ja0.mp hxi).1; have:=hps.1; omega
   have hq:ps[i]? = some ps[i]:=Jab hi
   obtain ⟨t,rfl,ht⟩:=hps.2 i x _ hxi hq
   obtain ⟨a0,b0⟩:=hin _ (Jar hq)
   have ef:(ps.take (i + 1)).foldl stepL id = stepL ((ps.take i).foldl stepL id) ps[i]:=by rw [Jbf,hq,List.foldl_append]; rfl
   generalize ps[i] = qq at *
   generalize (ps.take i).foldl stepL id = f0 at *
   walk_at "wp"
   refine ⟨_,SqT.of (si _ _ ht),rfl,_,_,rfl,_,_,rfl,rfl,_,ri.get hDi a0,_,ri.get hDi b0,by decide,fun p hp=>⟨[f0 qq.1,f0 qq.2],SqL.of Zac,by simp,fun l ns' hl hpm hso=>?_⟩⟩
   have hns:=sort2 hpm hso
   subst hns
   refine ⟨_,SqL.of Zac,rfl,_,_,rfl,_,_,rfl,rfl,?_⟩
   have s2:Same Hi (upd (upd Hi p (.lst [.int (f0 qq.1),.int (f0 qq.2)])) l (.lst ([min (f0 qq.1) (f0 qq.2),max (f0 qq.1) (f0 qq.2)].map V.int))):=(Same.new hp).trans (Same.new hl)
   generalize upd (upd Hi p (.lst [.int (f0 qq.1),.int (f0 qq.2)])) l (.lst ([min (f0 qq.1) (f0 qq.2),max (f0 qq.1) (f0 qq.2)].map V.int)) = H2 at *
   refine ⟨_,rfl,a,rfl,⟨_,SqL.of (s2 _ _ (si _ _ ha))⟩,Zex (xs:=L.map V.int) (fun j σ Hj=>∃ w7:Option V,σ = [some (.ref a),some (.ref b),some (.ref D),some (.int qq.1),some (.int qq.2),some (.int (min (f0 qq.1) (f0 qq.2))),some (.int (max (f0 qq.1) (f0 qq.2))),w7]/\Same H Hj/\∃ kvs,Hj D = some (.dK kvs)/\DRepL L kvs (fun x=>if x ∈ L.take j/\f0 x = max (f0 qq.1) (f0 qq.2) then min (f0 qq.1) (f0 qq.2) else f0 x))
    ⟨v7,rfl,si.trans s2,kvs,s2 _ _ hDi,ri.congr fun x _=>by rw [if_neg (by simp)]⟩ (fun j σ Hj _ ⟨_,_,sj,_⟩=>SqL.of (sj _ _ ha)) ?_ ?_⟩
   ·rintro j x σ Hj hxj ⟨w7,rfl,sj,kvs',hDj,rj⟩
    obtain ⟨u,eu,rfl⟩:=Zc6 hxj
    have hu:=Jar eu
    have et:L.take (j + 1) = L.take j ++ [u]:=by rw [Jbf,eu]; rfl
    have nu:u ∉ L.take j:=fun zz=>by
     have h1:(L.take (j + 1)).Nodup:=Ja2 (Jed _ _) nL
     rw [et] at h1
     exact (List.nodup_append.mp h1).2.2 u zz u (by simp) rfl
    walk_at "wp"
    have gj:=rj.get (x:=u) hDj hu
    rw [if_neg (fun z=>nu z.1)] at gj
    refine ⟨_,gj,rfl,Zdu (fun hc=>?_) (fun hc=>?_)⟩
    ·have hc:f0 u = max (f0 qq.1) (f0 qq.2):=V.int.inj (Jaq hc)
     refine ⟨_,DPut.k (k:=.inl u) hDj (Zah (by have:=rj.1; omega)),sj.upd hD,_,Zac,(rj.put (k:=u) hu).congr fun x hxL=>?_⟩
     rw [et]
     by_cases ex:x = u
     ·subst ex; rw [if_pos rfl,if_pos ⟨by simp,hc⟩]
     ·rw [if_neg ex]
      by_cases c:x ∈ L.take j/\f0 x = max (f0 qq.1) (f0 qq.2)
      ·rw [if_pos c,if_pos ⟨by simp [c.1],c.2⟩]
      ·rw [if_neg c,if_neg (by intro z; exact c ⟨by simpa [ex] using z.1,z.2⟩)]
    ·have hc:¬ f0 u = max (f0 qq.1) (f0 qq.2):=fun z=>hc (Ja3 (Jdj V.int z))
     refine ⟨sj,kvs',hDj,rj.congr fun x hxL=>?_⟩
     rw [et]
     by_cases ex:x = u
     ·subst ex; rw [if_neg (fun z=>hc z.2),if_neg (fun z=>hc z.2)]
     ·by_cases c:x ∈ L.take j/\f0 x = max (f0 qq.1) (f0 qq.2)
      ·rw [if_pos c,if_pos ⟨by simp [c.1],c.2⟩]
      ·rw [if_neg c,if_neg (by intro z; exact c ⟨by simpa [ex] using z.1,z.2⟩)]
   ·rintro σ Hj ⟨w7,rfl,sj,kvs',hDj,rj⟩
    refine ⟨_,_,_,_,_,rfl,sj,kvs',hDj,?_⟩
    rw [ef]
    refine rj.congr fun x hxL=>?_
    rw [Jaa,Jbi]
    unfold stepL
    by_cases c:f0 x = max (f0 qq.1) (f0 qq.2)
    ·rw [if_pos ⟨hxL,c⟩,if_pos c]
    ·rw [if_neg (fun z=>c z.2),if_neg c]
  ·rintro σ Hi ⟨v3,v4,v5,v6,v7,rfl,si,kvs,hDi,ri⟩
   have hl:ps.take xs.length = ps:=by rw [hps.1,Jbi]
   rw [hl] at ri
   have ri:DRepL L kvs (Zbh ps):=ri
   generalize Zbh ps = f0 at *
   refine ⟨_,rfl,a,rfl,⟨_,SqL.of (si _ _ ha)⟩,fun p hp=>comp_rl (fun x=>decide (f0 x = x)) (fun k=>Zji L f0 k) (si _ _ ha) hp (by omega) ?_ ?_ fun qs H' s' hp' rr=>q p qs H' (si.trans s') (si.free hp) hp' (rr.old si)⟩
   ·intro x H2 Q2 hx s2 k2
    walk_at "wp"
    refine ⟨_,rfl,D,rfl,_,ri.get (s2 _ _ hDi) hx,rfl,?_⟩
    have e:decide (V.int (f0 x) = V.int x) = decide (f0 x = x):=by simp only [V.int.injEq]
    rw [e]
    exact k2
   ·intro x H2 Q2 hx s2 k2
    refine ⟨_,rfl,a,rfl,⟨_,SqL.of (s2 _ _ (si _ _ ha))⟩,fun t ft=>Zii (fun y=>decide (f0 y = x)) (s2 _ _ (si _ _ ha)) ft (by omega) ?_ fun H' s' ht=>k2 t H' ft s' ht⟩
    intro y H3 Q3 hy s3 k3
    walk_at "wp"
    refine ⟨_,rfl,D,rfl,_,ri.get (s3 _ _ (s2 _ _ hDi)) hy,_,rfl,rfl,?_⟩
    have e:decide (V.int (f0 y) = V.int x) = decide (f0 y = x):=by simp only [V.int.injEq]
    rw [e]
    exact k3
theorem Zdz {A X:TS} {D:Ends} {σ:L2.St} {H:Hp} (h:∀ X',X' = X->tSeq A X' D σ H):tSeq A X D σ H:=h X rfl
def Zat (es:List (Int × Int)):List Int:=es.flatMap fun q=>[q.1,q.2]
def esF (es:List (Int × Int)) (f:Int):List (Int × Int):=es.filter fun q=>decide (q.1 ≠ f/\q.2 ≠ f)
def Zht (S:List Int) (es:List (Int × Int)) (f:Int):List Int:=(Zdv (L3.oth S f) (Zbh (esF es f))).map fun r=>(r.length:Int)
abbrev Kd:=Option (Str × Int)
def KdV (H:Hp) (v:V):Kd->Prop
 | none=>v = .non
 | some k=>∃ t,v = .ref t/\H t = some (.tup [.str k.1,.int k.2])
theorem KdV.same {H H':Hp} {v:V} {k:Kd} (h:KdV H v k) (s:Same H H'):KdV H' v k:=by
 cases k with
 | none=>exact h
 | some k=>obtain ⟨t,e,ht⟩:=h; exact ⟨t,e,s _ _ ht⟩
def kd (n:Int) (ns:List Int):Kd:=if ns.take 2 = [1,1] then some ("D",n) else if ns.take 2 = [1,2]/\(n = 6\/n = 7\/n = 8) then some ("E",n) else none
theorem Zgu {H:Hp} {n:Nat} {i j:Int}:EqD K H n (.int i) (.int j) (decide (i = j)):=by
 have:=EqD.flat (K:=K) (H:=H) (n:=n) (x:=.int i) (y:=.int j) rfl rfl
 rwa [show eqV (.int i) (.int j) = decide (i = j) by simp [eqV]; rw [Jbu]; simp] at this
theorem Zhw:∀ {ns ms:List Int},ns.length = ms.length->((List.zipWith (fun a b=>decide (a = b)) ns ms).all id = true ↔ ns = ms)
 | [],[],_=>by simp
 | a :: ns,b :: ms,h=>by
  have:=Zhw (ns:=ns) (ms:=ms) (by simpa using h)
  simp only [List.zipWith_cons_cons,Jej,Jb3,this,id_eq,Jbx,Jb8]
theorem Zor {H:Hp} {ns ms:List Int} {A B:Prop} (h1:ns = ms->B) (h2:ns ≠ ms->A):((ns.map V.int).length ≠ (ms.map V.int).length/\A)\/∃ bs,Zg0 K H 6 (ns.map V.int) (ms.map V.int) bs/\if bs.all id = true then B else A:=by
 by_cases hl:ns.length = ms.length
 ·refine .inr ⟨List.zipWith (fun a b=>decide (a = b)) ns ms,⟨by rw [Jaa,Jaa]; exact hl,by rw [List.length_zipWith,Jaa]; omega,fun j x y b e1 e2 e3=>?_⟩,?_⟩
  ·obtain ⟨u,eu,rfl⟩:=Zc6 e1
   obtain ⟨v,ev,rfl⟩:=Zc6 e2
   rw [List.getElem?_zipWith,eu,ev] at e3
   cases e3
   exact Zgu
  ·by_cases e:ns = ms
   ·rw [if_pos ((Zhw hl).mpr e)]
    exact h1 e
   ·rw [if_neg (fun z=>e ((Zhw hl).mp z))]
    exact h2 e
 ·exact .inl ⟨by rw [Jaa,Jaa]; exact hl,h2 fun z=>hl (by rw [z])⟩
theorem Zi6 (ns:List Int):Zeh (ns.map V.int) none (some 2) = (ns.take 2).map V.int:=by
 unfold Zeh
 have e1:HT.sIx (ns.map V.int).length (ns.map V.int).length (some 2) = min 2 (ns.map V.int).length:=by
  simp only [HT.sIx]
  rw [if_neg (by decide)]
  rfl
 have e0:HT.sIx (ns.map V.int).length 0 none = 0:=rfl
 rw [e1,e0,Jdk,Nat.sub_zero,List.map_take]
 exact (List.take_eq_take_min).symm
theorem in678 (n:Int):inV (V.int n) [V.int 6,V.int 7,V.int 8] = true ↔ (n = 6\/n = 7\/n = 8):=by
 simp only [inV,Jc1,List.any_nil,Bool.or_false,Jd2,eqV,Jbh]
 constructor
 ·rintro (h | h | h)
  ·exact .inl (by omega)
  ·exact .inr (.inl (by omega))
  ·exact .inr (.inr (by omega))
 ·rintro (h | h | h)
  ·exact .inl (by omega)
  ·exact .inr (.inl (by omega))
  ·exact .inr (.inr (by omega))
def spFk:Sp:=fun vs H Q _=>∃ (n:Int) (a:Addr) (ns:List Int),vs = [.int n,.ref a]/\H a = some (.lst (ns.map V.int))/\ns.length<=900/\∀ v H',Same H H'->KdV H' v (kd n ns)->Q v H'
theorem ok_fk {f:Addr} {fd:FuncData} (F:Fun K "forked_kind" "forked_kind" Zbf f fd) (T:Txt K mg C):FnOk P w K mg base CX0 1 f fd ["many","lengths"] spFk:=by
 have nd:=Zdr.nd
 refine F.ok Zdr (fun vs H Q E h=>?_) (fun cdv A outer s H vs Q E hr h=>?_)
 ·obtain ⟨n,a,ns,rfl,_⟩:=h
  rfl
 ·obtain ⟨n,a,ns,rfl,ha,hn,q⟩:=h
  refine ⟨_,((@Zbj _ _ _ _ _ _ _ _ (Zai (Zol (Zkp hr)) (@Zb9 _ _ _ _ _ _ _ _ _ _ Zc1 (pv 1) Zc4 (@Zc3 _ _ _ Zaa)) (@Zbn _ _ _ _ (Zaa<&>(Zaa<&>Zab))) (Zar _)) (~~~(@Zak _ _ _ _ _ (Zk3<&>((pv 0)<&>Zab)))) Zan)<*>((@Zbj _ _ _ _ _ _ _ _ (PW.pt (Zha (Zai (Zol (Zkp hr)) (@Zb9 _ _ _ _ _ _ _ _ _ _ Zc1 (pv 1) Zc4 (@Zc3 _ _ _ Zaa)) (@Zbn _ _ _ _ (Zaa<&>(Zaa<&>Zab))) (Zar _)) (Ze9 (Zai Zhd (pv 0) (@Zak _ _ _ _ _ (Zaa<&>(Zaa<&>(Zaa<&>Zab)))) (by with_unfolding_all rfl))))) (~~~(@Zak _ _ _ _ _ (Zk3<&>((pv 0)<&>Zab)))) Zan)<*>(~~~Zhb))),?_⟩
  have hu:=Zkp hr
  refine Zdz fun X hX=>?_
  walk_at "wp"
  refine ⟨_,SqL.of ha,fun p hp=>⟨by decide,fun p1 hp1=>?_⟩⟩
  rw [Zi6] at *
  have s1:=Same.new (o:=.lst ((ns.take 2).map V.int)) hp
  have s2:=Same.new (o:=.lst [V.int 1,V.int 1]) hp1
  have s12:=s1.trans s2
  have e1:upd (upd H p (.lst ((ns.take 2).map V.int))) p1 (.lst [V.int 1,V.int 1]) p = some (.lst ((ns.take 2).map V.int)):=s2 _ _ Zac
  have e2:upd (upd H p (.lst ((ns.take 2).map V.int))) p1 (.lst [V.int 1,V.int 1]) p1 = some (.lst (([1,1]:List Int).map V.int)):=Zac
  generalize upd (upd H p (.lst ((ns.take 2).map V.int))) p1 (.lst [V.int 1,V.int 1]) = H2 at *
  refine ⟨_,SqL.of e1,_,SqL.of e2,Zor (fun h=>⟨by decide,fun t ht=>q _ _ (s12.trans (Same.new ht)) ?_⟩) (fun h=>?_)⟩
  ·unfold kd
   rw [if_pos h]
   exact ⟨t,rfl,Zac⟩
  subst hX
  refine Zdz fun X hX=>?_
  walk_at "wp"
  refine ⟨_,SqL.of (s12 _ _ ha),fun p2 hp2=>⟨by decide,fun p3 hp3=>?_⟩⟩
  rw [Zi6] at *
  have s3:=Same.new (o:=.lst ((ns.take 2).map V.int)) hp2
  have s4:=Same.new (o:=.lst [V.int 1,V.int 2]) hp3
  have s34:=s3.trans s4
  have s14:=s12.trans s34
  have e3:upd (upd H2 p2 (.lst ((ns.take 2).map V.int))) p3 (.lst [V.int 1,V.int 2]) p2 = some (.lst ((ns.take 2).map V.int)):=s4 _ _ Zac
  have e4:upd (upd H2 p2 (.lst ((ns.take 2).map V.int))) p3 (.lst [V.int 1,V.int 2]) p3 = some (.lst (([1,2]:List Int).map V.int)):=Zac
  generalize upd (upd H2 p2 (.lst ((ns.take 2).map V.int))) p3 (.lst [V.int 1,V.int 2]) = H4 at *
  have fin:kd n ns = none->∀ H',Same H H'->X { nx:=fun x H'=>Q V.non H',rt:=Q } [some (V.int n),some (V.ref a)] H':=fun ek H' s'=>by
   subst hX
   exact q .non H' s' (by rw [ek]; rfl)
  refine ⟨_,SqL.of e3,_,SqL.of e4,Zor (fun h2=>⟨by decide,fun p4 hp4=>?_⟩) (fun h2=>fin (by unfold kd; rw [if_neg h,if_neg fun z=>h2 z.1]) H4 s14)⟩
  have s5:=Same.new (o:=.tup [V.int 6,V.int 7,V.int 8]) hp4
  refine ⟨_,.inr (SqT.of Zac),rfl,rfl,Zdu (fun hc=>⟨by decide,fun t ht=>q _ _ ((s14.trans s5).trans (Same.new ht)) ?_⟩) (fun hc=>fin ?_ _ (s14.trans s5))⟩
  ·unfold kd
   rw [if_neg h,if_pos ⟨h2,(in678 n).mp hc⟩]
   exact ⟨t,rfl,Zac⟩
  ·unfold kd
   rw [if_neg h,if_neg fun z=>hc ((in678 n).mpr z.2)]
theorem Zmh {a D:Addr} {xs:List V} {es:List (Int × Int)} {fr:List (Str × Nat)} {σ:L2.St} {tt:TT} {H1:Hp} {Q:VK} (g:Int × Int->Bool) (ha:H1 a = some (.lst xs)) (hp:Prs H1 xs es) (hD:H1 D = none) (hn:xs.length<=900)
  (h:∀ t q H (Q:Bool->Hp->Prop),q ∈ es->H t = some (.tup [.int q.1,.int q.2])->Same H1 H->Q (g q) H->tt (some (.ref t) :: Zb3 fr σ) H Q)
  (hQ:∀ ys H',Same H1 H'->H' D = some (.lst ys)->Prs H' ys (es.filter g)->ys.length<=xs.length->Q (.ref D) H'):Zb5 (Zbd 0) tt (Zje 0) (Itl K a) D (Zd9 1 fr σ) H1 Q:=by
 have hlen:=hp.1
 refine Zca (xs:=xs) (fun i vs H=>Same H1 H/\H D = some (.lst vs)/\Prs H vs ((es.take i).filter g)) ⟨Same.new hD,Zac,Prs.nil⟩ (fun i vs H _ p=>SqL.of (p.1 _ _ ha)) ?_ (fun vs H ⟨s,e,hv⟩=>?_)
 ·rintro i x vs σ' H hi hx sh ⟨s,e,hv⟩
  obtain ⟨z,rfl⟩:=sh.one
  have hi':i < es.length:=by omega
  have hq:es[i]? = some es[i]:=Jab hi'
  obtain ⟨t,rfl,ht⟩:=hp.2 i x _ hx hq
  have et:es.take (i + 1) = es.take i ++ [es[i]]:=by rw [Jbf,hq]; rfl
  have hl:=Jaz g (es.take i)
  rw [Ja8] at hl
  have hv1:=hv.1
  simp only [Zdq,Zbd,Jau]
  refine h t _ H _ (Jar hq) (s _ _ ht) s (Zdu (fun hg=>?_) (fun hg=>?_))
  ·refine ⟨_,rfl,leaf (ws:=vs ++ [.ref t]) hi Sh.mk1 e (Zah (by omega)) ⟨s.upd hD,Zac,?_⟩⟩
   rw [et,Jbr]
   have:=(hv.add (s _ _ ht)).put (o:=.lst (vs ++ [.ref t])) e
   simpa [hg] using this
  ·refine Zll (ws:=vs) hi Sh.mk1 ⟨s,e,?_⟩
   rw [et,Jbr]
   simpa [hg] using hv
 ·rw [hlen,Jbi] at hv
  refine hQ vs H s e hv ?_
  have:=Jaz g es
  rw [hv.1]
  omega
theorem Zjx {b D:Addr} {xs:List V} {es:List (Int × Int)} {σ:L2.St} {H1:Hp} {Q:VK} (hb:H1 b = some (.lst xs)) (hp:Prs H1 xs es) (hD:H1 D = none) (hn:xs.length<=9)
  (hQ:∀ H',Same H1 H'->H' D = some (.lst ((Zat es).map V.int))->Q (.ref D) H'):Zhz (Zbd 0) (iTup K (Zje 0)) (Zbd 1) (Zje 1) (Itl K b) D (Zd9 2 [] σ) H1 Q:=by
 have hlen:=hp.1
 refine ⟨fun i m σ' H2=>m = xs.length - i/\i<=xs.length/\∃ v0 v1:Option V,σ' = [v0,v1]/\Same H1 H2/\H2 D = some (.lst ((Zat (es.take i)).map V.int)),⟨xs.length,rfl,Jb1 _,none,none,rfl,Same.new hD,Zac⟩,?_⟩
 rintro i m σ' H2 ⟨rfl,hi,v0,v1,rfl,s2,hD2⟩
 by_cases hlt:i < xs.length
 ·refine .inr ⟨⟨xs,xs[i],SqL.of (s2 _ _ hb),Jab hlt⟩,fun x H3 y=>?_⟩
  obtain ⟨rfl,hy⟩:=y
  have hx:=hy xs (SqL.of (s2 _ _ hb))
  have hq:es[i]? = some es[i]:=Jab (by omega)
  obtain ⟨t,rfl,ht⟩:=hp.2 i x _ hx hq
  have ht2:=s2 _ _ ht
  have nt:t ≠ D:=fun z=>by rw [z,hD2] at ht2; cases ht2
  have et:Zat (es.take (i + 1)) = Zat (es.take i) ++ [es[i].1,es[i].2]:=by
   unfold Zat
   rw [Jbf,hq,List.flatMap_append]
   simp
  have le:(Zat (es.take i)).length<=2 * i:=by
   unfold Zat
   rw [List.length_flatMap]
   have:((es.take i).map fun q=>[q.1,q.2].length) = List.replicate (es.take i).length 2:=by
    rw [List.eq_replicate_iff]
    refine ⟨by rw [Jaa],fun z hz=>?_⟩
    obtain ⟨q,_,rfl⟩:=Jao.mp hz
    rfl
   rw [this,List.sum_replicate_nat,Ja8]
   have:min i es.length<=i:=Nat.min_le_left _ _
   omega
  generalize es[i] = q at *
  refine ⟨_,rfl,t,rfl,⟨_,SqT.of ht2⟩,fun j m2 σ5 H6=>m2 = 2 - j/\j<=2/\∃ v1':Option V,σ5 = [some (.ref t),v1']/\Same H1 H6/\H6 D = some (.lst ((Zat (es.take i) ++ [q.1,q.2].take j).map V.int)),⟨2,rfl,by decide,v1,rfl,s2,by rw [hD2]; simp⟩,?_⟩
  rintro j m2 σ5 H6 ⟨rfl,hj,v1',rfl,s6,hD6⟩
  have ht6:=s6 _ _ ht
  by_cases hj2:j < 2
  ·have ej:([V.int q.1,V.int q.2]:List V)[j]? = some (V.int ([q.1,q.2].getD j 0)):=by
    match j,hj2 with
    | 0,_=>rfl
    | 1,_=>rfl
   refine .inr ⟨⟨_,_,SqT.of ht6,ej⟩,fun y H7 yy=>?_⟩
   obtain ⟨rfl,hyy⟩:=yy
   have hyj:=hyy _ (SqT.of ht6)
   rw [ej] at hyj
   cases hyj
   refine ⟨_,rfl,_,hD6,Zah ?_,2 - (j + 1),by omega,rfl,by omega,_,rfl,s6.upd hD,?_⟩
   ·rw [Jaa,Jak]
    have:([q.1,q.2].take j).length<=2:=by rw [Ja8]; exact Nat.min_le_right _ _
    omega
   ·rw [Zac]
    match j,hj2 with
    | 0,_=>simp
    | 1,_=>simp
  ·have:j = 2:=by omega
   subst this
   refine .inl ⟨⟨_,SqT.of ht6,by show 2<=2; decide⟩,xs.length - (i + 1),by omega,rfl,by omega,_,_,rfl,s6,?_⟩
   rw [hD6,et]
   rfl
 ·have:i = xs.length:=by omega
  subst this
  refine .inl ⟨⟨_,SqL.of (s2 _ _ hb),Jae _⟩,hQ H2 s2 ?_⟩
  rw [hD2,hlen,Jbi]
def Zke:Sp:=fun vs H Q _=>∃ (a b:Addr) (S:List Int) (xs:List V) (es:List (Int × Int)) (f:Int),vs = [.ref a,.ref b,.int f]/\H a = some (.lst (S.map V.int))/\H b = some (.lst xs)/\S.Nodup/\S.length<=8/\xs.length<=9/\Prs H xs es/\(∀ q ∈ es,q.1 ∈ S/\q.2 ∈ S) /\
 ∀ (l:Addr) (ns:List Int) (H':Hp),Same H H'->H l = none->H' l = some (.lst (ns.map V.int))->ns.Perm (Zht S es f)->ns.Pairwise (·<=·)->Q (.ref l) H'
theorem ok_arms {f:Addr} {fd:FuncData} (F:Fun K "arms" "arms" Zfx f fd) (T:Txt K mg C) (C_hanging:Cal P w K mg base "hanging" 1 spHg):FnOk P w K mg base CX0 2 f fd ["points","arrows","fork"] Zke:=by
 have nd:=Zkg.nd
 refine F.ok Zkg (fun vs H Q E h=>?_) (fun cdv A outer s H vs Q E hr h=>?_)
 ·obtain ⟨a,b,S,xs,es,f,rfl,_⟩:=h
  rfl
 ·obtain ⟨a,b,S,xs,es,f,rfl,ha,hb,nS,h8,h9,hp,hin,q⟩:=h
  refine ⟨_,((Zh6 (i:=3) (own:=["point"]) (fr:=[("fork",2)]) rfl (Zcn (by kernel_rfl)) (Zbe (pv 0)) (fun _ _ _ _=>⟨(@Zag _ _ 0 _ (show (["point","fork"]:List Str).Nodup by decide +kernel) rfl (Or.inl rfl) (Or.inr rfl)),(Zed (Zai Zk6 (pv 0) (pv 1) (Zar _))),(pv 0)⟩) nd rfl rfl rfl)<*>(~~~(Zb6 Zfn rfl T.n_sorted boot_sorted ((Zbc (own:=["arm"]) (fr:=[]) rfl (Zcn (by kernel_rfl)) (Zbe (Zb2 C_hanging hr.m rfl ((pv 3)<&>((Zbc (own:=["arrow"]) (fr:=[("fork",2)]) rfl (Zcn (by kernel_rfl)) (Zbe (pv 1)) (fun _ _ _ _=>⟨(@Zag _ _ 0 _ (show (["arrow","fork"]:List Str).Nodup by decide +kernel) rfl (Or.inl rfl) (Or.inr rfl)),(Zed (Zai (Zgo K rfl) (pv 1) (pv 0) (by with_unfolding_all rfl))),(pv 0)⟩))<&>Zab)))) (fun _ _ _ _=>⟨(@Zag _ _ 0 _ (show (["arm"]:List Str).Nodup by decide +kernel) rfl (Or.inl rfl) (Or.inr rfl)),Zbi,(Zb6 (Zgx K rfl) rfl T.n_len Jbv ((pv 0)<&>Zab))⟩))<&>Zab)))),?_⟩
  refine Zdz fun X hX=>?_
  walk_at "wp"
  refine ⟨_,rfl,a,rfl,⟨_,SqL.of ha⟩,fun D hD=>Zii (fun x=>decide (x ≠ f)) ha hD (by omega) (fun x H' Q' hx s' q'=>?_) fun H1 s1 e1=>?_⟩
  ·have e:(!decide (V.int x = V.int f)) = decide (x ≠ f):=by
    by_cases z:x = f
    ·simp [z]
    ·simp [z]
   exact ⟨_,rfl,_,rfl,rfl,_,rfl,e ▸ q'⟩
  subst hX
  walk_at "wp"
  refine ⟨_,rfl,_,rfl,b,rfl,⟨_,SqL.of (s1 _ _ hb)⟩,fun D2 hD2=>Zmh (fun q=>decide (q.1 ≠ f/\q.2 ≠ f)) (s1 _ _ hb) (hp.same s1) hD2 (by omega) (fun t q' H' Q' hq ht s' k'=>?_) fun ys H2 s2 e2 pr2 ly=>?_⟩
  ·have e:(!inV (V.int f) [V.int q'.1,V.int q'.2]) = decide (q'.1 ≠ f/\q'.2 ≠ f):=by
    have:inV (V.int f) [V.int q'.1,V.int q'.2] = (decide (q'.1 = f) || decide (q'.2 = f)):=by
     simp only [inV,Jc1,List.any_nil,Bool.or_false,eqV]
     rw [Jbu]
     simp
    rw [this]
    by_cases z:q'.1 = f <;> by_cases y:q'.2 = f <;> simp [z,y]
   exact ⟨_,rfl,_,rfl,t,_,rfl,.inr (SqT.of ht),rfl,rfl,_,rfl,e ▸ k'⟩
  have nO:(L3.oth S f).Nodup:=Ja2 Jaw nS
  have lO:(L3.oth S f).length<=8:=Jba (Jaz _ _) h8
  refine ⟨D,D2,L3.oth S f,ys,esF es f,rfl,s2 _ _ e1,e2,nO,lO,by omega,pr2,fun q' hq'=>?_,fun p qs H3 s3 fp hp3 rf=>?_⟩
  ·obtain ⟨m1,m2⟩:=Jan.mp hq'
   have m2:=Jaq m2
   exact ⟨L3.Za9.mpr ⟨(hin q' m1).1,m2.1⟩,L3.Za9.mpr ⟨(hin q' m1).2,m2.2⟩⟩
  have rl:=rf.1
  have lr:(Zdv (L3.oth S f) (Zbh (esF es f))).length<=8:=by
   unfold Zdv
   rw [Jaa]
   exact Jba (Jaz _ _) lO
  refine ⟨p,rfl,⟨_,SqL.of hp3⟩,fun D3 hD3=>Zca (xs:=qs) (fun i vs H=>Same H3 H/\H D3 = some (.lst vs)/\vs = (((Zdv (L3.oth S f) (Zbh (esF es f))).take i).map fun r=>((r.length:Nat):Int)).map V.int) ⟨Same.new hD3,Zac,rfl⟩ (fun i vs H _ k=>SqL.of (k.1 _ _ hp3)) ?_ ?_⟩
  ·rintro i x vs σ' H' hi hx sh ⟨s',e',rfl⟩
   obtain ⟨z,rfl⟩:=sh.one
   have hi':i < (Zdv (L3.oth S f) (Zbh (esF es f))).length:=by omega
   have hr':=Jab hi'
   obtain ⟨t,rfl,_,_,ht⟩:=rf.2 i x _ hx hr'
   simp only [Zdq,Zbd,Zg3,Jau,Jcw]
   refine ⟨_,rfl,_,rfl,_,.inl (SqL.of (s' _ _ ht)),?_⟩
   refine leaf (ws:=(((Zdv (L3.oth S f) (Zbh (esF es f))).take (i + 1)).map fun r=>((r.length:Nat):Int)).map V.int) hi Sh.mk1 e' (Zah (by rw [Jaa,Jaa,Ja8]; omega)) ⟨s'.upd hD3,?_,rfl⟩
   rw [Zac,Jbf,hr',Jav,Jav,Jaa]
   rfl
  ·rintro vs H4 ⟨s4,e4,rfl⟩
   rw [rl,Jbi] at e4
   refine ⟨D3,rfl,_,SqL.of e4,by rw [Jaa]; omega,fun l ns' hl pm so=>q l ns' _ ?_ ?_ Zac pm so⟩
   ·exact (((s1.trans s2).trans s3).trans s4).trans (Same.new hl)
   ·exact (((s1.trans s2).trans s3).trans s4).free hl
def Zio (S:List Int) (es:List (Int × Int)) (r:Kd):Prop:=
 (es.length + 1 ≠ S.length/\r = none)\/(es.length + 1 = S.length/\(((S.filter fun x=>decide (2 < (Zat es).count x)) = []/\r = (some (Str.ofString "A",(S.length:Int)):Kd)) \/
  ∃ f rest,(S.filter fun x=>decide (2 < (Zat es).count x)) = f :: rest/\(((rest ≠ []\/3 < (Zat es).count f)/\r = none)\/(rest = []/\¬ 3 < (Zat es).count f/\∃ ns:List Int,ns.Perm (Zht S es f)/\ns.Pairwise (·<=·)/\r = kd S.length ns))))
def spKo:Sp:=fun vs H Q _=>∃ (a b:Addr) (S:List Int) (xs:List V) (es:List (Int × Int)),vs = [.ref a,.ref b]/\H a = some (.lst (S.map V.int))/\H b = some (.lst xs)/\S.Nodup/\S.length<=8/\xs.length<=9/\Prs H xs es/\(∀ q ∈ es,q.1 ∈ S/\q.2 ∈ S) /\
 ∀ r v H',Zio S es r->Same H H'->KdV H' v r->Q v H'
theorem ok_ko {f:Addr} {fd:FuncData} (F:Fun K "kind_of" "kind_of" Zcy f fd) (T:Txt K mg C) (C_arms:Cal P w K mg base "arms" 2 Zke) (C_forked_kind:Cal P w K mg base "forked_kind" 1 spFk):FnOk P w K mg base CX0 3 f fd ["points","arrows"] spKo:=by
 have nd:=Zfu.nd
 refine F.ok Zfu (fun vs H Q E h=>?_) (fun cdv A outer s H vs Q E hr h=>?_)
 ·obtain ⟨a,b,S,xs,es,rfl,_⟩:=h
  rfl
 ·obtain ⟨a,b,S,xs,es,rfl,ha,hb,nS,h8,h9,hp,hin,q⟩:=h
  refine ⟨_,((Zam (i:=2) nd rfl (Or.inl rfl) (Zb6 Zao rfl T.n_len Jbv ((pv 0)<&>Zab)))<*>((@Zbj _ _ _ _ _ _ _ _ (Zai Zk6 (Zb6 Zao rfl T.n_len Jbv ((pv 1)<&>Zab)) (Zcq<|>(pv 2)<&&>Zaa) (Zar _)) (~~~Zhb) Zan)<*>((Zam (i:=3) nd rfl (Or.inr rfl) (Znb (own:=["arrow","end"]) (fr:=[]) rfl (Zcn (by kernel_rfl)) (Zbe (pv 1)) (fun _ _ _ _=>⟨(@Zag _ _ 0 _ (show (["arrow","end"]:List Str).Nodup by decide +kernel) rfl (Or.inl rfl) (Or.inr rfl)),(pi_tupK K rfl (pv 0)),(@Zag _ _ 1 _ (show (["arrow","end"]:List Str).Nodup by decide +kernel) rfl (Or.inl rfl) (Or.inr rfl)),(pv 1)⟩)))<*>((Zh6 (i:=4) (own:=["point"]) (fr:=[("ends",3)]) rfl (Zcn (by kernel_rfl)) (Zbe (pv 0)) (fun _ _ _ _=>⟨(@Zag _ _ 0 _ (show (["point","ends"]:List Str).Nodup by decide +kernel) rfl (Or.inl rfl) (Or.inr rfl)),(Zed (Zai Zgp (pe_bmK K rfl Jbe PySem.F.slot_list_count PySem.F.type_list_count Zhe (pv 1) ((pv 0)<&>Zab)) Zaa (Zar _))),(pv 0)⟩) nd rfl rfl rfl)<*>((@Zbj _ _ _ _ _ _ _ _ (Zdt (Zgk (pv 4) (fun _=>rfl))) (~~~(@Zak _ _ _ _ _ (Zk3<&>((pv 2)<&>Zab)))) Zan)<*>((@Zbj _ _ _ _ _ _ _ _ (PW.pt (Zjj (Zai Zgp (Zb6 Zao rfl T.n_len Jbv ((pv 4)<&>Zab)) Zaa (Zar _)) (Zfz (Zai Zgp (Zfq Jbe PySem.F.slot_list_count PySem.F.type_list_count Zhe (pv 3) ((Zav<|>(pv 4)<||>Zaa)<&>Zab)) Zaa (Zar _))))) (~~~Zhb) Zan)<*>(~~~(Zb2 C_forked_kind hr.m rfl ((pv 2)<&>((Zb2 C_arms hr.m rfl ((pv 0)<&>((pv 1)<&>((Zav<|>(pv 4)<||>Zaa)<&>Zab))))<&>Zab)))))))))),?_⟩
  have hl:=hp.1
  refine Zdz fun X hX=>?_
  walk_at "wp"
  refine ⟨_,.inl (SqL.of ha),?_⟩
  rw [Jaa]
  subst hX
  refine Zdz fun X hX=>?_
  walk_at "wp"
  refine ⟨_,.inl (SqL.of hb),Zdu (fun hc=>?_) (fun hc=>?_)⟩
  ·refine q none .non H (.inl ⟨fun z=>?_,rfl⟩) (Same.refl _) rfl
   rw [Ja3 (by omega)] at hc
   cases hc
  have el:es.length + 1 = S.length:=by
   have:decide ((xs.length:Int) = (S.length:Int) - 1) = true:=by simpa using hc
   have:=Jaq this
   omega
  subst hX
  refine Zdz fun X hX=>?_
  walk_at "wp"
  refine ⟨_,rfl,b,rfl,⟨_,SqL.of hb⟩,fun D hD=>Zjx hb hp hD h9 fun H1 s1 e1=>?_⟩
  subst hX
  refine Zdz fun X hX=>?_
  walk_at "wp"
  refine ⟨_,rfl,a,rfl,⟨_,SqL.of (s1 _ _ ha)⟩,fun D2 hD2=>Zii (fun x=>decide (2 < (Zat es).count x)) (s1 _ _ ha) hD2 (by omega) (fun x H' Q' hx s' q'=>?_) fun H2 s2 e2=>?_⟩
  ·have e:decide ((2:Int) < ((Zat es).count x:Nat)) = decide (2 < (Zat es).count x):=by rw [Jds]; omega
   have h1:=s' _ _ e1
   exact ⟨_,rfl,.inl ⟨rfl,_,SqL.of h1⟩,_,rfl,D,_,x,rfl,rfl,h1,_,_,rfl,rfl,_,rfl,e ▸ q'⟩
  have s12:=s1.trans s2
  subst hX
  refine Zdz fun X hX=>?_
  walk_at "wp"
  cases ef:S.filter (fun x=>decide (2 < (Zat es).count x)) with
  | nil=>
   rw [ef] at e2
   refine ⟨false,.inl ⟨_,SqL.of e2,rfl⟩,iteP rfl ⟨by decide,fun t ht=>?_⟩⟩
   exact q (some (Str.ofString "A",(S.length:Int))) _ _ (.inr ⟨el,.inl ⟨ef,rfl⟩⟩) (s12.trans (Same.new ht)) ⟨t,rfl,Zac⟩
  | cons f0 rest=>
   rw [ef] at e2
   refine ⟨true,.inl ⟨_,SqL.of e2,rfl⟩,Zi5 (by decide) ?_⟩
   subst hX
   refine Zdz fun X hX=>?_
   walk_at "wp"
   have h1:=s2 _ _ e1
   have no:(rest ≠ []\/3 < (Zat es).count f0)->Q .non H2:=fun z=>q none .non H2 (.inr ⟨el,.inr ⟨f0,rest,ef,.inl ⟨z,rfl⟩⟩⟩) s12 rfl
   refine ⟨_,.inl (SqL.of e2),Zdu (fun hc=>no (.inl fun z=>?_)) (fun hc=>⟨.inl ⟨rfl,_,SqL.of h1⟩,_,SqL.of e2,V.int f0,Zbx (by decide) (by simp),_,f0,rfl,h1,Zdu (fun h3=>no (.inr ?_)) (fun h3=>?_)⟩)⟩
   ·rw [z] at hc
    simp at hc
   ·have:=Jaq h3
    omega
   have hr0:rest = []:=by
    cases rest with
    | nil=>rfl
    | cons y ys=>exact absurd (Ja3 (by simp; omega)) hc
   have h3':¬ 3 < (Zat es).count f0:=fun z=>h3 (Ja3 (by omega))
   subst hX
   walk_at "wp"
   refine ⟨_,SqL.of e2,V.int f0,Zbx (by decide) (by simp),a,b,S,xs,es,f0,rfl,s12 _ _ ha,s12 _ _ hb,nS,h8,h9,hp.same s12,hin,fun l ns H3 s3 fl hl3 pm so=>?_⟩
   have ln:ns.length<=900:=by
    rw [pm.length_eq]
    unfold Zht Zdv
    rw [Jaa,Jaa]
    have l1:=Jaz (fun x=>decide (Zbh (esF es f0) x = x)) (L3.oth S f0)
    have l2:(L3.oth S f0).length<=S.length:=Jaz _ _
    omega
   exact ⟨_,l,ns,rfl,hl3,ln,fun v H4 s4 kv=>q _ v H4 (.inr ⟨el,.inr ⟨f0,rest,ef,.inr ⟨hr0,h3',ns,pm,so,rfl⟩⟩⟩) ((s12.trans s3).trans s4) kv⟩
def Zbl (n:Nat):List Int:=(List.range n).map fun j=>((j:Nat):Int)
theorem ptsI_V (n:Nat):(Zbl n).map V.int = ptsV n:=by unfold Zbl ptsV; rw [Jcd]; rfl
theorem Zfa (n:Nat):(Zbl n).Nodup:=by
 unfold Zbl
 refine L3.Zbo List.nodup_range fun x _ y _ e=>by omega
theorem Zas {n:Nat} {x:Int}:x ∈ Zbl n ↔ 0<=x/\x < n:=by
 unfold Zbl
 rw [Jao]
 constructor
 ·rintro ⟨j,hj,rfl⟩
  have:=Jc3.mp hj
  omega
 ·rintro ⟨h0,h1⟩
  exact ⟨x.toNat,Jc3.mpr (by omega),by omega⟩
theorem Zb4 (n:Nat) (f:Int->Int) (k:Int):Zji (Zbl n) f k = Zec n f k:=by
 unfold Zji Zbl Zec
 rw [List.filter_map]
 rfl
theorem Zdf (n:Nat) (f:Int->Int):Zdv (Zbl n) f = Zc2 n f:=by
 unfold Zdv Zc2 Zbl
 rw [List.filter_map,Jcd]
 refine Jcg fun i _=>?_
 exact Zb4 n f _
theorem ok_pcs {f:Addr} {fd:FuncData} (F:Fun K "pieces" "Drawing.pieces" Zaz f fd) (T:Txt K mg C) (C_hanging:Cal P w K mg base "hanging" 1 spHg):FnOk P w K mg base CX0 2 f fd ["self"] (Zgc C):=by
 have nd:=Zcv.nd
 refine F.ok Zcv (fun vs H Q E h=>?_) (fun cdv A outer s H vs Q E hr h=>?_)
 ·obtain ⟨x,m,ps,rfl,_⟩:=h
  rfl
 ·obtain ⟨x,m,ps,rfl,⟨lp,xs,⟨dx,hx,hlp⟩,hl9,hps⟩,hin,m0,m8,q⟩:=h
  refine ⟨_,(~~~(Zb2 C_hanging hr.m rfl ((Zgn (Zd7 rfl) rfl T.n_list Jd7 ((Zgn Zho rfl T.n_range boot_range ((Zdb (pv 0) rfl)<&>Zab))<&>Zab))<&>((Zdb (pv 0) rfl)<&>Zab)))),?_⟩
  walk_at "wp"
  refine ⟨_,_,_,hx,T.cl_Drawing,T.nM,_,rfl,m,rfl,fun p hp=>⟨_,_,Zac,⟨by omega,by omega,by omega,by omega⟩,by omega,fun l hl=>?_⟩⟩
  have s2:Same H (upd (upd H p (.rng 0 m)) l (.lst (Zmp 0 m))):=(Same.new hp).trans (Same.new hl)
  have em:((m.toNat:Nat):Int) = m:=Jb4 (by omega)
  have lp8:(Zbl m.toNat).length = m.toNat:=by unfold Zbl; simp
  refine ⟨_,_,_,s2 _ _ hx,T.cl_Drawing,T.nA,_,rfl,l,lp,Zbl m.toNat,xs,ps,rfl,by rw [Zac,Zm5,ptsI_V],s2 _ _ hlp,Zfa _,by rw [lp8]; omega,hl9,hps.same s2,fun q' hq'=>?_,fun p qs H' s' fp hp' rr=>q p qs H' (s2.trans s') (s2.free fp) hp' (by rw [Zdf] at rr; exact rr.old s2)⟩
  obtain ⟨a1,a2,a3,a4⟩:=hin q' hq'
  exact ⟨Zas.mpr ⟨a1,by omega⟩,Zas.mpr ⟨a3,by omega⟩⟩
def Zbk (ps:List (Int × Int)) (S:List Int):List (Int × Int):=ps.filter fun q=>decide (q.1 ∈ S)
def KdsF (H:Hp) (vs:List V) (L:List (List Int)) (ps:List (Int × Int)):Prop:=vs.length = L.length/\∀ (i:Nat) v S,vs[i]? = some v->L[i]? = some S->∃ r,Zio S (Zbk ps S) r/\KdV H v r
theorem Zcr {n:Nat} {f:Int->Int} {k x:Int}:x ∈ Zec n f k ↔ (0<=x/\x < n)/\f x = k:=by
 rw [<- Zb4]
 unfold Zji
 rw [Jan,Zas,Jbx]
theorem Zd2 {n:Nat} {f:Int->Int} {S:List Int} (h:S ∈ Zc2 n f):∃ k:Int,f k = k/\(0<=k/\k < n)/\S = Zec n f k:=by
 rw [<- Zdf] at h
 unfold Zdv at h
 obtain ⟨k,hk,e⟩:=Jao.mp h
 obtain ⟨h1,h2⟩:=Jan.mp hk
 exact ⟨k,Jaq h2,Zas.mp h1,by rw [<- e,Zb4]⟩
theorem Zof {n:Nat} {f:Int->Int} {k:Int}:(Zec n f k).Nodup:=by
 rw [<- Zb4]
 exact Ja2 Jaw (Zfa n)
theorem Zop {m:Int} {ps:List (Int × Int)} (hin:InP m ps) (m0:0<=m) {S:List Int} (h:S ∈ Zc2 m.toNat (Zbh ps)) {q:Int × Int} (hq:q ∈ ps):q.1 ∈ S ↔ q.2 ∈ S:=by
 obtain ⟨k,_,_,rfl⟩:=Zd2 h
 have c:=(Zgt hin).2 q hq
 obtain ⟨a1,a2,a3,a4⟩:=hin q hq
 rw [Zcr,Zcr,c]
 constructor
 ·rintro ⟨_,e⟩; exact ⟨⟨a3,by omega⟩,e⟩
 ·rintro ⟨_,e⟩; exact ⟨⟨a1,by omega⟩,e⟩
theorem Zly (S:List Int):(S.map V.int).all Zfl = true:=by
 rw [Jci]
 intro v hv
 obtain ⟨x,_,rfl⟩:=Jao.mp hv
 rfl
theorem in_ints (x:Int) (S:List Int):inV (V.int x) (S.map V.int) = decide (x ∈ S):=by
 rw [Jbu,Jbx]
 unfold inV
 rw [List.any_eq_true]
 constructor
 ·rintro ⟨v,hv,e⟩
  obtain ⟨y,hy,rfl⟩:=Jao.mp hv
  simp only [eqV,Jbh] at e
  rw [<- e]
  exact hy
 ·intro h
  exact ⟨V.int x,Jao.mpr ⟨x,h,rfl⟩,by simp [eqV]⟩
theorem KdsF.same {H H':Hp} {vs:List V} {L:List (List Int)} {ps:List (Int × Int)} (h:KdsF H vs L ps) (s:Same H H'):KdsF H' vs L ps:=⟨h.1,fun i v S e1 e2=>let ⟨r,k1,k2⟩:=h.2 i v S e1 e2; ⟨r,k1,k2.same s⟩⟩
theorem KdV.put {H:Hp} {D:Addr} {l:List V} {o:HO} {v:V} {k:Kd} (h:KdV H v k) (hD:H D = some (.lst l)):KdV (upd H D o) v k:=by
 cases k with
 | none=>exact h
 | some k=>
  obtain ⟨t,e,ht⟩:=h
  exact ⟨t,e,by rw [Zaf (fun z=>by rw [z,hD] at ht; cases ht)]; exact ht⟩
theorem KdsF.add {H:Hp} {D:Addr} {l vs:List V} {o:HO} {L:List (List Int)} {ps:List (Int × Int)} {v:V} {S:List Int} {r:Kd} (h:KdsF H vs L ps) (hD:H D = some (.lst l)) (k1:Zio S (Zbk ps S) r) (k2:KdV H v r):KdsF (upd H D o) (vs ++ [v]) (L ++ [S]) ps:=by
 refine ⟨by rw [Jak,Jak,h.1]; rfl,fun i v' S' e1 e2=>?_⟩
 have hl:=h.1
 by_cases hi:i < vs.length
 ·rw [Jbk hi] at e1
  rw [Jbk (by omega)] at e2
  obtain ⟨r',a1,a2⟩:=h.2 i v' S' e1 e2
  exact ⟨r',a1,a2.put hD⟩
 ·rw [Jbb (by omega)] at e1
  rw [Jbb (by omega),<- hl] at e2
  cases ei:i - vs.length with
  | zero=>
   rw [ei] at e1 e2
   cases e1
   cases e2
   exact ⟨r,k1,k2.put hD⟩
  | succ j=>
   rw [ei] at e1
   cases e1
def Zh3 (C:Addr):Sp:=fun vs H Q _=>∃ (x:Addr) (m:Int) (ps:List (Int × Int)),vs = [.ref x]/\Drw C H x m ps/\InP m ps/\1<=m/\m<=8 /\
 ∀ p us H',Same H H'->H p = none->H' p = some (.lst us)->KdsF H' us (Zc2 m.toNat (Zbh ps)) ps->Q (.ref p) H'
theorem Znl {f:Addr} {fd:FuncData} (F:Fun K "kinds" "Drawing.kinds" Za7 f fd) (T:Txt K mg C) (C_Drawing_pieces:CalM P w K mg base C "pieces" 2 (Zgc C)) (C_kind_of:Cal P w K mg base "kind_of" 3 spKo):FnOk P w K mg base CX0 4 f fd ["self"] (Zh3 C):=by
 have nd:=Zda.nd
 refine F.ok Zda (fun vs H Q E h=>?_) (fun cdv A outer s H vs Q E hr h=>?_)
 ·obtain ⟨x,m,ps,rfl,_⟩:=h
  rfl
 ·obtain ⟨x,m,ps,rfl,dw,hin,m0,m8,q⟩:=h
  refine ⟨_,(~~~(Zbc (own:=["piece"]) (fr:=[("self",0)]) rfl (Zcn (by kernel_rfl)) (Zbe (Zk4 T.cl_Drawing C_Drawing_pieces hr.m (pv 0))) (fun _ _ _ _=>⟨(@Zag _ _ 0 _ (show (["piece","self"]:List Str).Nodup by decide +kernel) rfl (Or.inr rfl) (Or.inl rfl)),Zbi,(Zb2 C_kind_of hr.m rfl ((pv 0)<&>((Zbc (own:=["arrow"]) (fr:=[("piece",0)]) rfl (Zcn (by kernel_rfl)) (Zix K rfl (pe_fldK K rfl (pv 1) rfl)) (fun _ _ _ _=>⟨(@Zag _ _ 0 _ (show (["arrow","piece"]:List Str).Nodup by decide +kernel) rfl (Or.inl rfl) (Or.inr rfl)),(Zed (Zai (Zjl K rfl) ((ix_tupK K rfl)<|>(pv 0)<||>Zaa) (pv 1) (by with_unfolding_all rfl))),(pv 0)⟩))<&>Zab)))⟩))),?_⟩
  obtain ⟨lp,xs,⟨dx,hx,hlp⟩,hl9,hps⟩:=id dw
  walk_at "wp"
  refine ⟨_,rfl,x,dx,_,rfl,hx,Zl4 m lp (by decide) (by decide),x,m,ps,rfl,dw,hin,m0,m8,fun p qs H1 s1 fp hp1 rf=>?_⟩
  have rl:=rf.1
  have lr:(Zc2 m.toNat (Zbh ps)).length<=8:=by
   rw [<- Zdf]
   unfold Zdv Zbl
   rw [Jaa]
   refine Jba (Jaz _ _) ?_
   simp
   omega
  refine ⟨p,rfl,⟨_,SqL.of hp1⟩,fun D hD=>Zca (xs:=qs) (fun i vs H=>Same H1 H/\H D = some (.lst vs)/\KdsF H vs ((Zc2 m.toNat (Zbh ps)).take i) ps) ⟨Same.new hD,Zac,rfl,fun i v S e1 _=>by simp at e1⟩ (fun i vs H _ k=>SqL.of (k.1 _ _ hp1)) ?_ ?_⟩
  ·rintro i x' vs σ' H' hi hx' sh ⟨s',e',kf⟩
   obtain ⟨z,rfl⟩:=sh.one
   have hi':i < (Zc2 m.toNat (Zbh ps)).length:=by omega
   have hr':=Jab hi'
   obtain ⟨t,rfl,_,_,ht⟩:=rf.2 i x' _ hx' hr'
   have mS:=Jar hr'
   generalize (Zc2 m.toNat (Zbh ps))[i] = S at *
   simp only [Zdq,Zbd,Zg3,Jau,Jcw]
   have sH:=s1.trans s'
   have hx1:=sH _ _ hx
   have hl1:=sH _ _ hlp
   have ht1:=s' _ _ ht
   obtain ⟨k,_,_,eS⟩:=Zd2 mS
   have nS:S.Nodup:=by rw [eS]; exact Zof
   have lS:S.length<=8:=by
    rw [eS,<- Zb4]
    unfold Zji Zbl
    refine Jba (Jaz _ _) ?_
    simp
    omega
   refine ⟨_,rfl,_,rfl,x,C,dx,_,_,rfl,hx1,T.cl_Drawing,T.nA,Zck _ _,lp,rfl,⟨_,SqL.of hl1⟩,fun D2 hD2=>Zmh (fun q=>decide (q.1 ∈ S)) hl1 (hps.same sH) hD2 (by omega) (fun t' q' H2 Q' hq ht' s2 k'=>?_) fun ys H2 s2 e2 pr2 ly=>?_⟩
   ·exact ⟨_,rfl,t',_,0,V.int q'.1,rfl,rfl,SqT.of ht',Zbx (by decide) (by simp),_,rfl,t,_,rfl,.inl (SqL.of (s2 _ _ ht1)),rfl,Zly S,_,rfl,in_ints q'.1 S ▸ k'⟩
   refine ⟨t,D2,S,ys,Zbk ps S,rfl,s2 _ _ ht1,e2,nS,lS,by omega,pr2,fun q' hq'=>?_,fun r v H3 kp s3 kv=>?_⟩
   ·obtain ⟨m1,m2⟩:=Jan.mp hq'
    have m2:=Jaq m2
    exact ⟨m2,(Zop hin (by omega) mS m1).mp m2⟩
   have s23:=s2.trans s3
   have kl:=kf.1
   rw [Ja8] at kl
   refine leaf (ws:=vs ++ [v]) hi Sh.mk1 (s23 _ _ e') (Zah (by omega)) ⟨(s'.trans s23).upd hD,Zac,?_⟩
   rw [Jbf,hr']
   exact (kf.same s23).add (s23 _ _ e') kp kv
  ·rintro vs H4 ⟨s4,e4,kf⟩
   rw [rl,Jbi] at kf
   exact q D vs H4 (s1.trans s4) (s1.free hD) e4 kf
end
end Pf
namespace Pf
open PySem L2 PyProof.Rows
section
variable {P:Program} {w:World} {K:PySem.W.Frag} {mg:Str->Option Value} {base:Heap} {C:Addr}
structure Far (ps:List (Int × Int)) (S:List Int) (f:Int) (R:List Int) (d:Int->Nat) (kvs:List (Key × V)):Prop where
 nd:R.Nodup
 fR:f ∈ R
 sub:∀ x ∈ R,x ∈ S
 d0:d f = 0
 vals:∀ x:Int,Zej kvs (.inl x) = if x ∈ R then some (.int ((d x:Nat):Int)) else none
 par:∀ x ∈ R,x ≠ f->∃ q ∈ ps,(q.1 = x/\q.2 ∈ R/\d q.2 + 1 = d x)\/(q.2 = x/\q.1 ∈ R/\d q.1 + 1 = d x)
 len:kvs.length = R.length
theorem comp_gm {a D:Addr} {L:List Int} {fr:List (Str × Nat)} {σ:L2.St} {tt:TT} {te:TE} {H1:Hp} {Q:VK} (g:Int->Bool) (h:Int->Int) (ha:H1 a = some (.lst (L.map V.int))) (hD:H1 D = none) (hn:L.length<=900)
  (ht:∀ x H (Q:Bool->Hp->Prop),x ∈ L->Same H1 H->(∀ H',Same H H'->Q (g x) H')->tt (some (.int x) :: Zb3 fr σ) H Q)
  (he:∀ x H (Q:VK),x ∈ L->g x = true->Same H1 H->(∀ H',Same H H'->Q (.int (h x)) H')->te (some (.int x) :: Zb3 fr σ) H Q)
  (hQ:∀ H',Same H1 H'->H' D = some (.lst (((L.filter g).map h).map V.int))->Q (.ref D) H'):Zb5 (Zbd 0) tt te (Itl K a) D (Zd9 1 fr σ) H1 Q:=by
 refine Zca (xs:=L.map V.int) (fun i vs H=>Same H1 H/\H D = some (.lst vs)/\vs = (((L.take i).filter g).map h).map V.int) ⟨Same.new hD,Zac,rfl⟩ (fun i vs H _ p=>SqL.of (p.1 _ _ ha)) ?_ (fun vs H ⟨s,e,hv⟩=>hQ H s (by rw [e,hv,Jaa,Jbi]))
 rintro i x vs σ' H hi hx sh ⟨s,e,hv⟩
 obtain ⟨z,rfl⟩:=sh.one
 obtain ⟨y,ey,rfl⟩:=Zc6 hx
 have et:L.take (i + 1) = L.take i ++ [y]:=by rw [Jbf,ey]; rfl
 have hl:=Jaz g (L.take i)
 rw [Ja8] at hl
 have my:=Jar ey
 simp only [Zdq,Zbd,Jau]
 refine ht y H _ my s fun H2 s2=>Zdu (fun hg=>?_) (fun hg=>?_)
 ·refine he y H2 _ my hg (s.trans s2) fun H3 s3=>?_
  have s23:=s2.trans s3
  refine leaf (ws:=vs ++ [.int (h y)]) hi Sh.mk1 (s23 _ _ e) (Zah (by rw [hv,Jaa,Jaa]; omega)) ⟨(s.trans s23).upd hD,Zac,?_⟩
  rw [et,Jbr,hv]
  simp [hg]
 ·refine Zll (ws:=vs) hi Sh.mk1 ⟨s.trans s2,s2 _ _ e,?_⟩
  rw [et,Jbr,hv]
  simp [hg]
structure Pc (m:Int) (ps:List (Int × Int)) (S:List Int):Prop where
 nd:S.Nodup
 le8:S.length<=8
 ne:S ≠ []
 cl:∀ q ∈ ps,q.1 ∈ S ↔ q.2 ∈ S
 cn:L3.Conn S (Zbk ps S)
 inm:∀ x ∈ S,0<=x/\x < m
 inp:InP m ps
theorem Pc.of {m:Int} {ps:List (Int × Int)} {S:List Int} (hin:InP m ps) (m0:0<=m) (m8:m<=8) (h:S ∈ Zc2 m.toNat (Zbh ps)):Pc m ps S:=by
 have lb:=Zgt hin
 obtain ⟨k,ek,hk,rfl⟩:=Zd2 h
 have inS:∀ x ∈ Zec m.toNat (Zbh ps) k,(0<=x/\x < m)/\Zbh ps x = k:=fun x hx=>by
  obtain ⟨h1,h2⟩:=Zcr.mp hx
  exact ⟨by omega,h2⟩
 refine ⟨Zof,?_,fun z=>?_,fun q hq=>Zop hin m0 h hq,fun g hg x hx y hy=>?_,fun x hx=>(inS x hx).1,hin⟩
 ·rw [<- Zb4]
  unfold Zji Zbl
  refine Jba (Jaz _ _) ?_
  simp
  omega
 ·have:k ∈ Zec m.toNat (Zbh ps) k:=Zcr.mpr ⟨hk,ek⟩
  rw [z] at this
  cases this
 ·have co:=lb.1.co (fun z=>if Zbh ps z = k then g z else 0) (fun q hq=>by
   have e:=lb.2 q hq
   obtain ⟨a1,a2,a3,a4⟩:=hin q hq
   by_cases z:Zbh ps q.1 = k
   ·simp only [if_pos z,if_pos (e ▸ z)]
    refine hg q (Jan.mpr ⟨hq,Ja3 (Zcr.mpr ⟨⟨a1,by omega⟩,z⟩)⟩)
   ·simp only [if_neg z,if_neg (fun u=>z (e.trans u))])
  have one:∀ x ∈ Zec m.toNat (Zbh ps) k,g x = g k:=fun x hx=>by
   obtain ⟨⟨h1,h2⟩,h3⟩:=inS x hx
   have:=co x h1 h2
   simp only [h3,ek,Jcw] at this
   exact this.symm
  rw [one x hx,one y hy]
theorem Zf7 {x:Int}:∀ {es:List (Int × Int)},(∀ q ∈ es,q.1 ≠ q.2)->(Zat es).count x = L3.deg es x
 | [],_=>rfl
 | q :: es,h=>by
  have ih:=Zf7 (x:=x) (es:=es) fun q' hq'=>h q' (Ja7 _ hq')
  have nq:=h q (by simp)
  unfold Zat L3.deg at *
  rw [List.flatMap_cons,List.count_append,ih,List.countP_cons]
  by_cases h1:q.1 = x
  ·by_cases h2:q.2 = x
   ·exact absurd (h1.trans h2.symm) nq
   ·rw [if_pos (by simp [h1])]; simp [h1,h2]; omega
  ·by_cases h2:q.2 = x
   ·rw [if_pos (by simp [h2])]; simp [h1,h2]; omega
   ·rw [if_neg (by simp [h1,h2])]; simp [h1,h2]
theorem Zhg (p:Int->Bool):∀ l:List Int,l.length = (l.filter p).length + (l.filter fun x=>!p x).length
 | []=>rfl
 | x :: l=>by
  have:=Zhg p l
  by_cases h:p x = true
  ·simp [h]; omega
  ·simp [h]; omega
theorem Zis (g:Int->Int):∀ {R:List Int} (l:List Int),R.Nodup->(R.map fun r=>(l.filter fun x=>decide (g x = r)).length).sum<=l.length
 | [],l,_=>Jb1 _
 | r :: R,l,nd=>by
  have nd':=Jbl.mp nd
  have ih:=Zis g (R:=R) (l.filter fun x=>!decide (g x = r)) nd'.2
  have e:(R.map fun r'=>((l.filter fun x=>!decide (g x = r)).filter fun x=>decide (g x = r')).length) = R.map fun r'=>(l.filter fun x=>decide (g x = r')).length:=by
   refine Jcg fun r' hr'=>?_
   rw [List.filter_filter]
   congr 1
   refine Jdi fun x _=>?_
   by_cases z:g x = r'
   ·have:g x ≠ r:=fun u=>nd'.1 (by rw [<- u,z]; exact hr')
    simp [z]
    rw [<- z]
    exact this
   ·simp [z]
  rw [e] at ih
  have h2:l.length = (l.filter fun x=>decide (g x = r)).length + (l.filter fun x=>!decide (g x = r)).length:=Zhg _ l
  rw [Ja1,List.sum_cons]
  omega
theorem Zoa {m:Int} {ps:List (Int × Int)} {S:List Int} {f:Int} {d:Int->Nat} (pc:Pc m ps S) (T:L3.Fk S (Zbk ps S) f d) (hf3:L3.deg (Zbk ps S) f = 3):
  (Zht S (Zbk ps S) f).Perm ((S.filter fun x=>decide (L3.deg (Zbk ps S) x = 1)).map fun x=>((d x:Nat):Int))/\∃ ls:List Nat,Zht S (Zbk ps S) f = ls.map (fun n=>((n:Nat):Int))/\3<=ls.length/\ls.sum + 1<=S.length:=by
 have ie:InP m (esF (Zbk ps S) f):=fun q hq=>pc.inp q (Jan.mp (Jan.mp hq).1).1
 have mF:∀ q ∈ esF (Zbk ps S) f,q ∈ Zbk ps S/\q.1 ≠ f/\q.2 ≠ f:=fun q hq=>by
  obtain ⟨h1,h2⟩:=Jan.mp hq
  exact ⟨h1,Jaq h2⟩
 have lb:=Zgt ie
 have ar:Zht S (Zbk ps S) f = ((L3.oth S f).filter fun x=>decide (Zbh (esF (Zbk ps S) f) x = x)).map fun r=>(((Zji (L3.oth S f) (Zbh (esF (Zbk ps S) f)) r).length:Nat):Int):=by
  unfold Zht Zdv
  rw [Jcd]
  rfl
 rw [ar]
 have mFi:∀ q ∈ Zbk ps S,q.1 ≠ f->q.2 ≠ f->q ∈ esF (Zbk ps S) f:=fun q hq h1 h2=>Jan.mpr ⟨hq,Ja3 ⟨h1,h2⟩⟩
 generalize Zbh (esF (Zbk ps S) f) = lab at *
 have nO:(L3.oth S f).Nodup:=Ja2 Jaw pc.nd
 have iO:∀ x ∈ L3.oth S f,0<=x/\x < m:=fun x hx=>pc.inm x (L3.Za9.mp hx).1
 have labO:∀ x ∈ L3.oth S f,lab x ∈ L3.oth S f:=fun x hx=>by
  have:=lb.1.co (fun z=>if z ∈ L3.oth S f then 1 else 0) (fun q hq=>by
   obtain ⟨h1,h2,h3⟩:=mF q hq
   obtain ⟨i1,i2⟩:=T.inS q h1
   simp only [if_pos (L3.Za9.mpr ⟨i1,h2⟩),if_pos (L3.Za9.mpr ⟨i2,h3⟩)]) x (iO x hx).1 (iO x hx).2
  simp only [if_pos hx] at this
  by_cases z:lab x ∈ L3.oth S f
  ·exact z
  ·rw [if_neg z] at this; cases this
 have lab2:∀ x ∈ L3.oth S f,lab (lab x) = lab x:=fun x hx=>lb.1.co lab lb.2 x (iO x hx).1 (iO x hx).2
 have rl:∀ x ∈ L3.oth S f,L3.Zb8 d (Zbk ps S) f (lab x) = L3.Zb8 d (Zbk ps S) f x:=fun x hx=>lb.1.co _ (fun q hq=>by
  obtain ⟨h1,h2,h3⟩:=mF q hq
  obtain ⟨p1,p2,p3,p4⟩:=T.prop h1
  have u:=T.up1_ce h1
  have np:L3.pe d q ≠ f:=by
   rcases L3.Zdy (d:=d) q with ⟨e1,e2⟩ | ⟨e1,e2⟩
   ·rw [<- e2]; exact h3
   ·rw [<- e1]; exact h2
  have st:=T.root_step p1 p2 (by rw [u]; exact np)
  rw [u] at st
  rcases L3.Zdy (d:=d) q with ⟨e1,e2⟩ | ⟨e1,e2⟩
  ·rw [e1,e2]; exact st
  ·rw [e1,e2]; exact st.symm) x (iO x hx).1 (iO x hx).2
 have lr:∀ (k:Nat) {x:Int},d x<=k->x ∈ L3.oth S f->lab (L3.Zb8 d (Zbk ps S) f x) = lab x:=by
  intro k
  induction k with
  | zero=>
   intro x hk hx
   have:=T.pos (L3.Za9.mp hx).1 (L3.Za9.mp hx).2
   omega
  | succ k ih=>
   intro x hk hx
   obtain ⟨xS,xf⟩:=L3.Za9.mp hx
   by_cases hu:L3.up1 d (Zbk ps S) x = f
   ·rw [T.root_base xS xf hu]
   ·obtain ⟨q,hq,e1,e2⟩:=T.up1_of xS xf
    obtain ⟨u1,u2⟩:=T.up1_prop xS xf
    rw [T.root_step xS xf hu,ih (by omega) (L3.Za9.mpr ⟨u1,hu⟩)]
    have hc:lab q.1 = lab q.2:=lb.2 q (by
     rcases L3.Zdy (d:=d) q with ⟨c1,c2⟩ | ⟨c1,c2⟩
     ·exact mFi q hq (by rw [c1,e1]; exact xf) (by rw [c2,<- e2]; exact hu)
     ·exact mFi q hq (by rw [c1,<- e2]; exact hu) (by rw [c2,e1]; exact xf))
    rcases L3.Zdy (d:=d) q with ⟨c1,c2⟩ | ⟨c1,c2⟩
    ·rw [c1,c2,e1,<- e2] at hc; exact hc.symm
    ·rw [c1,c2,e1,<- e2] at hc; exact hc
 have mR:∀ r,r ∈ (L3.oth S f).filter (fun x=>decide (lab x = x)) ↔ r ∈ L3.oth S f/\lab r = r:=fun r=>by rw [Jan,Jbx]
 have nR:((L3.oth S f).filter fun x=>decide (lab x = x)).Nodup:=Ja2 Jaw nO
 have same:∀ r ∈ (L3.oth S f).filter (fun x=>decide (lab x = x)),(Zji (L3.oth S f) lab r).length = (L3.cls S d (Zbk ps S) f (L3.Zb8 d (Zbk ps S) f r)).length:=fun r hr=>by
  obtain ⟨h1,h2⟩:=(mR r).mp hr
  unfold Zji L3.cls
  congr 1
  refine Jdi fun x hx=>?_
  rw [Jds]
  constructor
  ·intro e; rw [<- rl x hx,e]
  ·intro e; rw [<- lr _ (Jae _) hx,e,lr _ (Jae _) h1,h2]
 have hall:∀ x ∈ S,x ≠ f->∃ r ∈ (L3.oth S f).filter (fun x=>decide (lab x = x)),L3.Zb8 d (Zbk ps S) f r = L3.Zb8 d (Zbk ps S) f x:=fun x hx xf=>by
  have xo:=L3.Za9.mpr ⟨hx,xf⟩
  exact ⟨lab x,(mR _).mpr ⟨labO x xo,lab2 x xo⟩,rl x xo⟩
 have pm:=T.arms (by omega) nR (fun r hr=>L3.Za9.mp ((mR r).mp hr).1) (fun r hr r' hr' e=>by
  obtain ⟨h1,h2⟩:=(mR r).mp hr
  obtain ⟨h3,h4⟩:=(mR r').mp hr'
  rw [<- h2,<- h4,<- lr _ (Jae _) h1,<- lr _ (Jae _) h3,e]) hall
 rw [<- Jcg same] at pm
 have sm:=Zis lab (L3.oth S f) nR
 have ol:=L3.Zh7 pc.nd T.fS
 refine ⟨?_,_,(Jcd (f:=fun r=>(Zji (L3.oth S f) lab r).length) (g:=fun n=>((n:Nat):Int))).symm,?_,?_⟩
 ·have:=pm.map (fun n=>((n:Nat):Int))
  rw [Jcd,Jcd] at this
  exact this
 ·have lc:((Zbk ps S).filter fun q=>decide (L3.pe d q = f)).length = 3:=by
   rw [<- hf3,T.deg_f]
   unfold L3.chn
   rw [List.count,List.countP_map,List.countP_eq_length_filter]
   rfl
  have:=L3.Zbg (l:=((Zbk ps S).filter fun q=>decide (L3.pe d q = f)).map (L3.ce d)) (m:=((L3.oth S f).filter fun x=>decide (lab x = x)).map (L3.Zb8 d (Zbk ps S) f)) (Ja2 (List.Sublist.map _ Jaw) T.cend) fun c hc=>by
   obtain ⟨q,hq,rfl⟩:=Jao.mp hc
   obtain ⟨h1,h2⟩:=Jan.mp hq
   have h2:=Jaq h2
   obtain ⟨p1,p2,p3,p4⟩:=T.prop h1
   obtain ⟨r,hr,er⟩:=hall _ p1 p2
   exact Jao.mpr ⟨r,hr,by rw [er,T.root_base p1 p2 (by rw [T.up1_ce h1,h2])]⟩
  rw [Jaa,Jaa,lc] at this
  rw [Jaa]
  exact this
 ·unfold Zji
  omega
end
end Pf
namespace Pf
open PySem L2 PyProof.Rows
section
variable {P:Program} {w:World} {K:PySem.W.Frag} {mg:Str->Option Value} {base:Heap} {C:Addr}
def Zit:Sp:=fun vs H Q _=>∃ (e r1 r2:Addr) (m:Int) (xs:List V) (ps:List (Int × Int)) (a b:List Int),vs = [.ref e,.ref r1,.ref r2]/\H e = some (.lst xs)/\xs.length<=9/\Prs H xs ps/\InP m ps/\H r1 = some (.lst (a.map V.int))/\H r2 = some (.lst (b.map V.int)) /\
 a.length = m.toNat/\b.length = m.toNat/\m<=8/\(∀ n ∈ a,Big n)/\(∀ n ∈ b,Big n)/\Q (.int (Zdc ps a b)) H
theorem ok_form {f:Addr} {fd:FuncData} (F:Fun K "_law_form" "_law_form" Zcb f fd) (T:Txt K mg C):FnOk P w K mg base CX0 1 f fd ["_law_arrows","_law_one","_law_other"] Zit:=by
 have nd:=Ze1.nd
 refine F.ok Ze1 (fun vs H Q E h=>?_) (fun cdv A outer s H vs Q E hr h=>?_)
 ·obtain ⟨e,r1,r2,m,xs,ps,a,b,rfl,_⟩:=h
  rfl
 ·obtain ⟨e,r1,r2,m,xs,ps,a,b,rfl,he,hl,hps,hin,h1,h2,l1,l2,m8,b1,b2,q⟩:=h
  have hlen:=hps.1
  refine ⟨_,((Zam (i:=3) nd rfl (Or.inl rfl) Zaa)<*>((Zcp Jbd rfl (Zfc rfl T.n_range ((Zb6 Zao rfl T.n_len Jbv ((pv 1)<&>Zab))<&>Zab)) (@Zag _ _ 4 _ nd rfl (Or.inl rfl) (Or.inl rfl)) (@Zaq _ _ _ (Zam (i:=3) nd rfl (Or.inl rfl) (Za1<|>(pv 3)<&&>(Zff<|>(Zav<|>(pv 1)<||>(pv 4))<&&>(Zav<|>(pv 2)<||>(pv 4)))))))<*>((Zcp Jbd rfl (Zbe (pv 0)) (@Zf0 _ _ _ _ _ 2 rfl (@Za3 _ _ _ _ _ (@Zag _ _ 5 _ nd rfl (Or.inl rfl) (Or.inl rfl)) (@Za3 _ _ _ _ _ (@Zag _ _ 6 _ nd rfl (Or.inl rfl) (Or.inl rfl)) (@Zdi _) (by rfl)) (by rfl)) (by rfl) (by rfl)) (@Zaq _ _ _ (Zam (i:=3) nd rfl (Or.inl rfl) (Zcq<|>(pv 3)<&&>(Zff<|>(Zav<|>(pv 1)<||>(pv 5))<&&>(Zav<|>(pv 2)<||>(pv 6)))))))<*>(~~~(pv 3))))),?_⟩
  walk_at "wp"
  refine ⟨_,rfl,r1,rfl,_,.inl (SqL.of h1),_,rfl,by simp only [Jaa]; omega,by simp only [Jaa]; omega,Zbm (fun i σ H2=>∃ v4 v5 v6:Option V,σ = [some (.ref e),some (.ref r1),some (.ref r2),some (.int (Zn2 a b i)),v4,v5,v6]/\H2 = H) ⟨none,none,none,rfl,rfl⟩ ?_ ?_⟩
  ·rintro i σ H2 hi ⟨v4,v5,v6,rfl,rfl⟩
   walk_at "wp"
   simp only [Jaa] at hi
   have t0:(0 + (i:Int)).toNat < a.length:=by omega
   have t1:(0 + (i:Int)).toNat < b.length:=by omega
   refine ⟨_,SqL.of h1,_,Zbx (by omega) (Zdl t0),_,SqL.of h2,_,Zbx (by omega) (Zdl t1),_,rfl,_,rfl,(Zdm b1 t0).mul (Zdm b2 t1),?_,_,rfl⟩
   rw [Int.zero_add]
   rfl
  ·rintro σ H2 ⟨v4,v5,v6,rfl,rfl⟩
   walk_at "wp"
   refine ⟨_,rfl,e,rfl,⟨_,SqL.of he⟩,Zex (xs:=xs) (fun i σ H=>∃ v4 v5 v6:Option V,σ = [some (.ref e),some (.ref r1),some (.ref r2),some (.int (Zn2 a b a.length - Zgz a b (ps.take i))),v4,v5,v6]/\H = H2)
    ⟨v4,v5,v6,?_,rfl⟩ (fun i σ H _ ⟨_,_,_,_,hH⟩=>SqL.of (by rw [hH]; exact he)) ?_ ?_⟩
   ·simp [Zgz,arrZ]
   ·rintro i x σ H hi ⟨v4,v5,v6,rfl,rfl⟩
    have hi1:i < xs.length:=(Ja0.mp hi).1
    have hq:ps[i]? = some (ps[i]'(by omega)):=Jab _
    obtain ⟨t,rfl,ht⟩:=hps.2 i x _ hi hq
    obtain ⟨p0,p1,p2,p3⟩:=hin _ (Jar hq)
    refine ⟨t,_,rfl,SqT.of ht,rfl,_,_,rfl,_,_,rfl,rfl,?_⟩
    walk_at "wp"
    have t0:(ps[i]'(by omega)).1.toNat < a.length:=by omega
    have t1:(ps[i]'(by omega)).2.toNat < b.length:=by omega
    refine ⟨_,SqL.of h1,_,Zbx p0 (Zdl t0),_,SqL.of h2,_,Zbx p2 (Zdl t1),_,rfl,_,rfl,(Zdm b1 t0).mul (Zdm b2 t1),?_⟩
    rw [Jbf,hq]
    show _ = Zn2 a b a.length - Zgz a b (ps.take i ++ [ps[i]'(by omega)])/\_
    rw [Zf8]
    exact ⟨by omega,_,rfl⟩
   ·rintro σ H ⟨v4,v5,v6,rfl,rfl⟩
    rw [hlen,Jbi]
    exact ⟨_,rfl,q⟩
def bd:Nat->Int
 | 0=>1000000
 | n + 1=>bd n * 1000000
def spRow:Sp:=fun vs H Q _=>∃ (l:Addr) (m:Int),vs = [.ref l,.int m]/\Bag H l/\0<=m/\m<=8/\∀ (r:Addr) (ns:List Int) (H':Hp),Ext l H H'->Bag H' l->H r = none->H' r = some (.lst (ns.map V.int))->ns.length = m.toNat->(∀ n ∈ ns,Med n)->Q (.ref r) H'
theorem ok_row {f:Addr} {fd:FuncData} (F:Fun K "_law_row" "_law_row" Zcw f fd) (T:Txt K mg C) (C_law_draw:Cal P w K mg base "_law_draw" 1 Zdd):FnOk P w K mg base CX0 2 f fd ["_law_bag_here","_law_many"] spRow:=by
 have nd:=Zfs.nd
 refine F.ok Zfs (fun vs H Q E h=>?_) (fun cdv A outer s H vs Q E hr h=>?_)
 ·obtain ⟨l,m,rfl,_⟩:=h
  rfl
 ·obtain ⟨l,m,rfl,hb,m0,m8,q⟩:=h
  refine ⟨_,((Zam (i:=2) nd rfl (Or.inl rfl) (Zb2 C_law_draw hr.m rfl ((pv 0)<&>(Zaa<&>Zab))))<*>((Zam (i:=3) nd rfl (Or.inl rfl) (@Zbn _ _ _ _ Zab))<*>((Zcp Jbd rfl (Zfc rfl T.n_range ((pv 1)<&>Zab)) (@Zag _ _ 4 _ nd rfl (Or.inl rfl) (Or.inl rfl)) ((Zam (i:=5) nd rfl (Or.inl rfl) (Zcq<|>(Zb2 C_law_draw hr.m rfl ((pv 0)<&>((Zav<|>(@Zbn _ _ _ _ (Zaa<&>(Zaa<&>((Zf1<|>Zaa<&&>Zaa)<&>Zab))))<||>(pv 2))<&>Zab)))<&&>(Zav<|>(@Zbn _ _ _ _ (Zaa<&>(Zaa<&>(Zaa<&>Zab))))<||>(pv 2))))<*>((@Zbj _ _ _ _ _ _ _ _ (Zai Zd5 (pv 2) Zaa (Zar _)) ((Zcp Jbd rfl (Zfc rfl T.n_range (Zaa<&>Zab)) (@Zag _ _ 6 _ nd rfl (Or.inl rfl) (Or.inl rfl)) (@Zaq _ _ _ (Zam (i:=5) nd rfl (Or.inl rfl) (Za1<|>(Zf2<|>(pv 5)<&&>(Zf1<|>Zaa<&&>Zaa))<&&>(Zb2 C_law_draw hr.m rfl ((pv 0)<&>((Zf1<|>Zaa<&&>Zaa)<&>Zab)))))))<*>(@Zaq _ _ _ (Zam (i:=5) nd rfl (Or.inl rfl) (Zf2<|>(pv 5)<&&>(Zcq<|>Zaa<&&>(Zf2<|>Zaa<&&>(Zb2 C_law_draw hr.m rfl ((pv 0)<&>(Zaa<&>Zab))))))))) Zan)<*>(@Zaq _ _ _ (Zdh (Zfq Jbe Jbs Jbt Zbs (pv 3) ((pv 5)<&>Zab)))))))<*>(~~~(pv 3))))),?_⟩
  walk_at "wp"
  refine hb.draw (by decide) (by decide) fun z H2 z0 z1 e2 b2=>⟨by decide,fun r hr0=>?_⟩
  have nr:r ≠ l:=b2.ne hr0
  have fr:H r = none:=e2.free nr hr0
  refine ⟨_,rfl,m,rfl,by omega,by omega,Zbm (fun i σ H3=>∃ (v4 v5 v6:Option V) (ns:List Int),σ = [some (.ref l),some (.int m),some (.int z),some (.ref r),v4,v5,v6]/\Ext l H H3/\Bag H3 l/\H3 r = some (.lst (ns.map V.int))/\ns.length = i/\∀ n ∈ ns,Med n)
   ⟨none,none,none,[],rfl,e2.trans (Ext.new hr0),b2.new nr,Zac,rfl,by simp⟩ ?_ ?_⟩
  ·rintro i σ H3 hi ⟨v4,v5,v6,ns,rfl,e3,b3,hr3,hln,hmed⟩
   walk_at "wp"
   have step:∀ (Hc:Hp) (v:Int),Ext l H Hc->Bag Hc l->Hc r = some (.lst (ns.map V.int))->Med v->(Ext l H (upd Hc r (.lst (ns.map V.int ++ [.int v])))/\Bag (upd Hc r (.lst (ns.map V.int ++ [.int v]))) l /\
     ∃ x5:List Int,(upd Hc r (.lst (ns.map V.int ++ [.int v]))) r = some (.lst (x5.map V.int))/\x5.length = i + 1/\∀ n ∈ x5,Med n):=by
    intro Hc v h1 h2 h3 h4
    refine ⟨h1.upd fr,h2.new nr,ns ++ [v],by rw [Zac,Jav]; rfl,by rw [Jak,hln]; rfl,fun n hn=>?_⟩
    rcases Jb7.mp hn with hn | hn
    ·exact hmed n hn
    ·rw [Jbg.mp hn]; exact h4
   have e6:(10:Int) ^ Int.toNat 6 = 1000000:=by decide
   have Zoh:∃ D S:Int,atI [V.int 4,V.int 7,V.int (10 ^ Int.toNat 6)] z = some (.int D)/\atI [V.int 2,V.int 3,V.int 0] z = some (.int S)/\0 < D/\D<=1000000/\0<=S/\S<=3/\(z = 2->S = 0):=by
    rw [e6]
    have:z = 0\/z = 1\/z = 2:=by omega
    rcases this with rfl | rfl | rfl
    ·exact ⟨4,2,rfl,rfl,by decide,by decide,by decide,by decide,by decide⟩
    ·exact ⟨7,3,rfl,rfl,by decide,by decide,by decide,by decide,by decide⟩
    ·exact ⟨1000000,0,rfl,rfl,by decide,by decide,by decide,by decide,by decide⟩
   obtain ⟨D,S,hD,hS,D0,D1,S0,S1,S2⟩:=Zoh
   refine ⟨cpow _ (by decide) (by decide),by decide,fun p1 hp1=>⟨_,SqL.of Zac,_,hD,?_⟩⟩
   have n1:p1 ≠ l:=b3.ne hp1
   refine (b3.new n1).draw D0 (by omega) fun d H4 d0 d1 e4 b4=>⟨by decide,fun p2 hp2=>⟨_,SqL.of Zac,_,hS,d,rfl,S,rfl,?_⟩⟩
   have n2:p2 ≠ l:=b4.ne hp2
   have e5:Ext l H (upd H4 p2 (.lst [V.int 2,V.int 3,V.int 0])):=((e3.trans (Ext.new hp1)).trans e4).trans (Ext.new hp2)
   have hr4:H4 r = some (.lst (ns.map V.int)):=e4 _ _ nr (by rw [Zaf (Zae hr3 hp1)]; exact hr3)
   have hr5:(upd H4 p2 (.lst [V.int 2,V.int 3,V.int 0])) r = some (.lst (ns.map V.int)):=by rw [Zaf (Zae hr4 hp2)]; exact hr4
   have b5:=b4.new (o:=.lst [V.int 2,V.int 3,V.int 0]) n2
   have hsz:(ns.map V.int).length < sizeLine:=Zah (by rw [Jaa]; omega)
   refine Zdu (fun hz=>?_) (fun hz=>?_)
   ·have hz2:=S2 (Jaq hz)
    refine ⟨_,rfl,by decide,by decide,Zbm (fun j σ H6=>∃ (v6:Option V) (n:Int),σ = [some (.ref l),some (.int m),some (.int z),some (.ref r),some (.int (0 + (i:Int))),some (.int n),v6]/\Ext l H H6/\Bag H6 l/\H6 r = some (.lst (ns.map V.int))/\0<=n/\n < bd j)
     ⟨v6,d - S,rfl,e5,b5,hr5,by omega,by show d - S < 1000000; omega⟩ ?_ ?_⟩
    ·rintro j σ H6 hj ⟨u6,n,rfl,e6',b6,hr6,n0,n1⟩
     walk_at "wp"
     refine ⟨cpow _ (by decide) (by decide),?_,cpow _ (by decide) (by decide),?_⟩
     ·rw [e6]; exact .inr ⟨by decide,by decide⟩
     ·rw [e6]
      refine b6.draw (by decide) (by decide) fun y H7 y0 y1 e7 b7=>⟨y,rfl,_,_,⟨rfl,rfl⟩,e6'.trans e7,b7,e7 _ _ nr hr6,by omega,?_⟩
      show n * 1000000 + y < bd j * 1000000
      omega
    ·rintro σ H6 ⟨u6,n,rfl,e6',b6,hr6,n0,n1⟩
     walk_at "wp"
     have hb4:bd (Int.toNat 4) = 1000000000000000000000000000000:=by decide
     refine b6.draw (by decide) (by decide) fun y H7 y0 y1 e7 b7=>?_
     have hr7:=e7 _ _ nr hr6
     refine ⟨y,rfl,.inl ⟨by decide,by decide⟩,.inr ⟨by omega,by omega⟩,.inl ⟨rfl,_,SqL.of hr7⟩,_,hr7,hsz,_,_,_,⟨rfl,rfl,rfl⟩,step _ _ (e6'.trans e7) b7 hr7 ?_⟩
     rw [hb4] at n1
     have:y = 0\/y = 1:=by omega
     rcases this with rfl | rfl
     ·exact ⟨by omega,by omega⟩
     ·exact ⟨by omega,by omega⟩
   ·exact ⟨.inl ⟨rfl,_,SqL.of hr5⟩,_,hr5,hsz,_,_,_,⟨rfl,rfl,rfl⟩,step _ _ e5 b5 hr5 ⟨by omega,by omega⟩⟩
  ·rintro σ H3 ⟨v4,v5,v6,ns,rfl,e3,b3,hr3,hln,hmed⟩
   exact ⟨_,rfl,q r ns H3 e3 b3 fr hr3 hln hmed⟩
theorem Zjw {a D:Addr} {xs:List V} {ps:List (Int × Int)} {fr:List (Str × Nat)} {σ:L2.St} {te:TE} {H1:Hp} {Q:VK} (g:Int × Int->Int) (ha:H1 a = some (.lst xs)) (hps:Prs H1 xs ps) (hD:H1 D = none) (hn:xs.length<=1000)
  (h:∀ (i:Nat) q H (Q:VK),ps[i]? = some q->Same H1 H->(∀ H',Same H H'->Q (.int (g q)) H')->te (some (.int q.1) :: some (.int q.2) :: Zb3 fr σ) H Q)
  (hQ:∀ H',Same H1 H'->H' D = some (.lst ((ps.map g).map V.int))->Q (.ref D) H'):Zb5 (gTup K 2 (Zju (Zbd 0) (Zju (Zbd 1) gNil))) Zg3 te (Itl K a) D (Zd9 2 fr σ) H1 Q:=by
 have hlen:=hps.1
 refine Zca (xs:=xs) (fun i vs H=>Same H1 H/\H D = some (.lst vs)/\vs = ((ps.take i).map g).map V.int) ⟨Same.new hD,Zac,rfl⟩ (fun i vs H _ p=>SqL.of (p.1 _ _ ha)) ?_ (fun vs H ⟨s,e,hv⟩=>hQ H s (by rw [e,hv,hlen,Jbi]))
 rintro i x vs σ' H hi hx sh ⟨s,e,rfl⟩
 obtain ⟨z1,z2,rfl⟩:=sh.two
 have hi':i < ps.length:=by omega
 have hq:ps[i]? = some ps[i]:=Jab hi'
 obtain ⟨t,rfl,ht⟩:=hps.2 i x _ hx hq
 refine ⟨t,_,rfl,SqT.of (s _ _ ht),rfl,_,_,rfl,_,_,rfl,rfl,?_⟩
 simp only [Zg3,Jau,Jcb,Jcw]
 refine h i _ H _ hq s fun H' s'=>?_
 refine leaf (ws:=((ps.take (i + 1)).map g).map V.int) hi Sh.mk2 (s' _ _ e) (Zah (by rw [Jaa,Jaa,Ja8]; omega)) ⟨(s.trans s').upd hD,?_,rfl⟩
 rw [Zac,Jbf,hq,Jav,Jav]
 rfl
theorem Zjv {a b D:Addr} {as bs:List Int} {fr:List (Str × Nat)} {σ:L2.St} {te:TE} {H1:Hp} {Q:VK} (g:Int->Int->Int) (ha:H1 a = some (.lst (as.map V.int))) (hb:H1 b = some (.lst (bs.map V.int))) (hl:bs.length = as.length) (hD:H1 D = none) (hn:as.length<=1000)
  (h:∀ (i:Nat) H (Q:VK),i < as.length->Same H1 H->(∀ H',Same H H'->Q (.int (g (atZ as i) (atZ bs i))) H')->te (some (.int (atZ as i)) :: some (.int (atZ bs i)) :: Zb3 fr σ) H Q)
  (hQ:∀ H',Same H1 H'->H' D = some (.lst (((List.range as.length).map fun i:Nat=>g (atZ as i) (atZ bs i)).map V.int))->Q (.ref D) H'):Zb5 (gTup K 2 (Zju (Zbd 0) (Zju (Zbd 1) gNil))) Zg3 te (Itz K a b) D (Zd9 2 fr σ) H1 Q:=by
 refine Zn5 (xs:=as.map V.int) (ys:=bs.map V.int) (fun i vs H=>Same H1 H/\H D = some (.lst vs)/\vs = ((List.range i).map fun i:Nat=>g (atZ as i) (atZ bs i)).map V.int) (by rw [Jaa,Jaa]; exact hl) ⟨Same.new hD,Zac,rfl⟩ (fun i vs H _ p=>⟨SqL.of (p.1 _ _ ha),SqL.of (p.1 _ _ hb)⟩) ?_ (fun vs H ⟨s,e,hv⟩=>hQ H s (by rw [e,hv,Jaa]))
 rintro i x y p vs σ' H hi hx hy hp sh ⟨s,e,rfl⟩
 obtain ⟨z1,z2,rfl⟩:=sh.two
 rw [Jaa] at hi
 have ex:=Zdl (ns:=as) (i:=(i:Int)) (by simpa using hi)
 have ey:=Zdl (ns:=bs) (i:=(i:Int)) (by simpa [hl] using hi)
 rw [Jal] at ex ey
 rw [ex] at hx
 rw [ey] at hy
 cases hx
 cases hy
 refine ⟨p,_,rfl,SqT.of Zac,rfl,_,_,rfl,_,_,rfl,rfl,?_⟩
 simp only [Zg3,Jau,Jcb,Jcw]
 have s1:=s.trans (Same.new (o:=.tup [.int (atZ as i),.int (atZ bs i)]) hp)
 refine h i _ _ hi s1 fun H' s'=>?_
 have e':=s' _ _ ((Same.new (o:=.tup [.int (atZ as i),.int (atZ bs i)]) hp) _ _ e)
 refine leaf (ws:=((List.range (i + 1)).map fun i:Nat=>g (atZ as i) (atZ bs i)).map V.int) (by rw [Jaa]; exact hi) Sh.mk2 e' (Zah (by rw [Jaa,Jaa,Jb2]; omega)) ⟨(s1.trans s').upd hD,?_,rfl⟩
 rw [Zac,Jcp,Jav,Jav]
 rfl
theorem Zj8 (a b:List Int):∀ (n N:Nat),n<=N->preSum (fun i=>((List.range N).map fun i:Nat=>atZ a i * atZ b i).getD i 0) n = Zn2 a b n
 | 0,_,_=>rfl
 | n + 1,N,h=>by
  unfold preSum Zn2
  rw [Zj8 a b n N (by omega)]
  congr 1
  simp [Jbc,show n < N by omega]
theorem Zj9 (a b:List Int) (ps:List (Int × Int)):∀ n,n<=ps.length->preSum (fun i=>(ps.map fun q=>atZ a q.1 * atZ b q.2).getD i 0) n = Zgz a b (ps.take n)
 | 0,_=>rfl
 | n + 1,h=>by
  have hq:ps[n]? = some (ps[n]'(by omega)):=Jab _
  have e:ps.take (n + 1) = ps.take n ++ [ps[n]'(by omega)]:=by rw [Jbf,hq]; rfl
  rw [e,Zf8,<- Zj9 a b ps n (by omega)]
  show _ + _ = _
  congr 1
  simp [Jbc,hq]
def spTwo (C:Addr):Sp:=fun vs H Q _=>∃ (p r1 r2:Addr) (m:Int) (ps:List (Int × Int)) (a b:List Int),vs = [.ref p,.ref r1,.ref r2]/\Drw C H p m ps/\InP m ps/\H r1 = some (.lst (a.map V.int))/\H r2 = some (.lst (b.map V.int)) /\
 a.length = m.toNat/\b.length = m.toNat/\m<=8/\(∀ n ∈ a,Big n)/\(∀ n ∈ b,Big n)/\∀ H',Same H H'->Q (.int (Zdc ps a b)) H'
theorem ok_two {f:Addr} {fd:FuncData} (F:Fun K "two_sided" "two_sided" Zby f fd) (T:Txt K mg C):FnOk P w K mg base CX0 1 f fd ["drawing","one","other"] (spTwo C):=by
 have nd:=Zek.nd
 refine F.ok Zek (fun vs H Q E h=>?_) (fun cdv A outer s H vs Q E hr h=>?_)
 ·obtain ⟨p,r1,r2,m,ps,a,b,rfl,_⟩:=h
  rfl
 ·obtain ⟨p,r1,r2,m,ps,a,b,rfl,⟨lp,xs,⟨dx,hp,hlp⟩,hl,hps⟩,hin,h1,h2,l1,l2,m8,b1,b2,q⟩:=h
  have hlen:=hps.1
  refine ⟨_,((Zam (i:=3) nd rfl (Or.inl rfl) (Zb6 (Zi9 rfl) rfl T.n_sum boot_sum ((Zbc (own:=["a","b"]) (fr:=[]) rfl (Zcn (by kernel_rfl)) (pi_zip rfl T.n_zip ((pv 1)<&>((pv 2)<&>Zab))) (fun _ _ _ _=>⟨(@Zkz _ K rfl _ _ _ _ 2 rfl (@Za3 _ _ _ _ _ (@Zag _ _ 0 _ (show (["a","b"]:List Str).Nodup by decide +kernel) rfl (Or.inl rfl) (Or.inr rfl)) (@Za3 _ _ _ _ _ (@Zag _ _ 1 _ (show (["a","b"]:List Str).Nodup by decide +kernel) rfl (Or.inl rfl) (Or.inr rfl)) (@Zdi _) (by rfl)) (by rfl)) (by rfl) (by rfl)),Zbi,(Zff<|>(pv 0)<&&>(pv 1))⟩))<&>Zab)))<*>(~~~(Zcq<|>(pv 3)<&&>(Zb6 (Zi9 rfl) rfl T.n_sum boot_sum ((Zbc (own:=["tail","head"]) (fr:=[("one",1),("other",2)]) rfl (Zcn (by kernel_rfl)) (Zbe (Zdb (pv 0) rfl)) (fun _ _ _ _=>⟨(@Zkz _ K rfl _ _ _ _ 2 rfl (@Za3 _ _ _ _ _ (@Zag _ _ 0 _ (show (["tail","head","one","other"]:List Str).Nodup by decide +kernel) rfl (Or.inl rfl) (Or.inr rfl)) (@Za3 _ _ _ _ _ (@Zag _ _ 1 _ (show (["tail","head","one","other"]:List Str).Nodup by decide +kernel) rfl (Or.inl rfl) (Or.inr rfl)) (@Zdi _) (by rfl)) (by rfl)) (by rfl) (by rfl)),Zbi,(Zff<|>((Zi4 K rfl)<|>(pv 2)<||>(pv 0))<&&>((Zi4 K rfl)<|>(pv 3)<||>(pv 1)))⟩))<&>Zab))))),?_⟩
  walk_at "wp"
  refine ⟨_,rfl,_,rfl,r1,r2,rfl,⟨_,SqL.of h1⟩,⟨_,SqL.of h2⟩,fun D hD=>Zjv (fun x y=>x * y) h1 h2 (by omega) hD (by omega) (fun i H' Q' hi s' q'=>?_) fun H1 s1 e1=>⟨D,rfl,_,SqL.of e1,?_⟩⟩
  ·refine ⟨_,rfl,_,rfl,_,_,rfl,rfl,?_,q' H' (Same.refl _)⟩
   exact (Zdm b1 (by simpa using hi)).mul (Zdm b2 (by simp; omega))
  ·have hp1:=s1 _ _ hp
   have hlp1:=s1 _ _ hlp
   refine ⟨_,rfl,p,C,dx,_,_,rfl,hp1,T.cl_Drawing,T.nA,Zck _ _,lp,rfl,⟨_,SqL.of hlp1⟩,fun D2 hD2=>Zjw (fun q=>atZ a q.1 * atZ b q.2) hlp1 (hps.same s1) hD2 (by omega) (fun i q H' Q' hq s' q'=>?_) fun H2 s2 e2=>⟨D2,rfl,_,SqL.of e2,?_⟩⟩
   ·obtain ⟨p0,p1,p2,p3⟩:=hin _ (Jar hq)
    have t0:q.1.toNat < a.length:=by omega
    have t1:q.2.toNat < b.length:=by omega
    have hh1:=s' _ _ (s1 _ _ h1)
    have hh2:=s' _ _ (s1 _ _ h2)
    refine ⟨_,rfl,_,rfl,r1,_,_,_,rfl,rfl,SqL.of hh1,Zbx p0 (Zdl t0),_,rfl,_,rfl,r2,_,_,_,rfl,rfl,SqL.of hh2,Zbx p2 (Zdl t1),_,_,rfl,rfl,(Zdm b1 t0).mul (Zdm b2 t1),q' H' (Same.refl _)⟩
   ·rw [Jaa,Jaa,Jb2,Zj8 a b _ _ (Jae _),Zj9 a b ps _ (Jae _),Jbi]
    exact q H2 (s1.trans s2)
def Zez (C:Addr):Sp:=fun vs H Q _=>∃ (p r1:Addr) (m:Int) (ps:List (Int × Int)) (a:List Int),vs = [.ref p,.ref r1]/\Drw C H p m ps/\InP m ps/\H r1 = some (.lst (a.map V.int)) /\
 a.length = m.toNat/\m<=8/\(∀ n ∈ a,Big n)/\∀ H',Same H H'->Q (.int (Zdc ps a a)) H'
theorem Zng {f:Addr} {fd:FuncData} (F:Fun K "worth" "worth" Zeb f fd) (T:Txt K mg C) (C_two_sided:Cal P w K mg base "two_sided" 1 (spTwo C)):FnOk P w K mg base CX0 2 f fd ["drawing","row"] (Zez C):=by
 have nd:=Ziu.nd
 refine F.ok Ziu (fun vs H Q E h=>?_) (fun cdv A outer s H vs Q E hr h=>?_)
 ·obtain ⟨p,r1,m,ps,a,rfl,_⟩:=h
  rfl
 ·obtain ⟨p,r1,m,ps,a,rfl,hd,hin,h1,l1,m8,b1,q⟩:=h
  refine ⟨_,(~~~(Zb2 C_two_sided hr.m rfl ((pv 0)<&>((pv 1)<&>((pv 1)<&>Zab))))),?_⟩
  walk_at "wp"
  exact ⟨p,r1,r1,m,ps,a,a,rfl,hd,hin,h1,h1,l1,l1,m8,b1,b1,q⟩
theorem Zlb (p:Int):∀ es:List (Int × Int),L3.nb es (fun _=>1) p = ((Zat es).count p:Nat)
 | []=>rfl
 | e :: es=>by
  have ih:=Zlb p es
  unfold L3.nb Zat at *
  rw [List.flatMap_cons,List.count_append,L3.sI,ih]
  by_cases h1:e.1 = p <;> by_cases h2:e.2 = p <;> simp [h1,h2] <;> omega
theorem Znu {S:List Int} {es:List (Int × Int)} (nd:S.Nodup) (ins:L3.Ins S es) (el:es.length + 1 = S.length) (one:∀ p ∈ S,1<=(Zat es).count p) (fk:(∃ f ∈ S,3 < (Zat es).count f)\/∃ f ∈ S,∃ f' ∈ S,f ≠ f'/\2 < (Zat es).count f/\2 < (Zat es).count f'):
  L3.qf S es (fun p=>if p ∈ S then (if (Zat es).count p = 1 then 1 else 2) else 0)<=0:=by
 have d1:=L3.dbl (x:=fun _=>1) (y:=fun _=>1) nd ins
 have d2:=L3.dbl (x:=fun _=>1) (y:=fun p=>if (Zat es).count p = 1 then 1 else 0) nd ins
 have e1:L3.sI (fun p=>(1:Int) * L3.nb es (fun _=>1) p) S = L3.sI (fun p=>(((Zat es).count p:Nat):Int)) S:=L3.Zap fun p _=>by rw [Zlb]; omega
 have e2:L3.sI (fun p=>(if (Zat es).count p = 1 then (1:Int) else 0) * L3.nb es (fun _=>1) p) S = L3.sI (fun p=>if (Zat es).count p = 1 then (1:Int) else 0) S:=L3.Zap fun p _=>by
  rw [Zlb]
  by_cases z:(Zat es).count p = 1
  ·simp [z]
  ·simp [z]
 have e3:L3.sI (fun _:Int × Int=>(1:Int) * 1 + 1 * 1) es = 2 * (es.length:Nat):=by rw [L3.Zbr]; rfl
 rw [e1,e3] at d1
 rw [e2] at d2
 have g0:∀ p ∈ S,0<=(((Zat es).count p:Nat):Int) - 2 + (if (Zat es).count p = 1 then (1:Int) else 0):=fun p hp=>by
  have:=one p hp
  split <;> omega
 have sg:L3.sI (fun p=>(((Zat es).count p:Nat):Int) - 2 + (if (Zat es).count p = 1 then (1:Int) else 0)) S = 2 * (es.length:Nat) - 2 * (S.length:Nat) + L3.sI (fun p=>if (Zat es).count p = 1 then (1:Int) else 0) S:=by
  rw [L3.Zeo,L3.Zds,d1,L3.Zbr]
 have l4:4<=L3.sI (fun p=>if (Zat es).count p = 1 then (1:Int) else 0) S:=by
  rcases fk with ⟨f,hf,h3⟩ | ⟨f,hf,f',hf',ne,h3,h4⟩
  ·have:=L3.Zd1 hf g0
   rw [sg,if_neg (by omega)] at this
   omega
  ·have:=L3.Zkh hf hf' ne g0
   rw [sg,if_neg (by omega),if_neg (by omega)] at this
   omega
 have sq:L3.sI (fun p=>(if p ∈ S then (if (Zat es).count p = 1 then (1:Int) else 2) else 0) * (if p ∈ S then (if (Zat es).count p = 1 then (1:Int) else 2) else 0)) S = 4 * (S.length:Nat) - 3 * L3.sI (fun p=>if (Zat es).count p = 1 then (1:Int) else 0) S:=by
  rw [<- L3.Ze7,<- L3.Zbr,<- L3.Zds]
  refine L3.Zap fun p hp=>?_
  rw [if_pos hp]
  split <;> rfl
 have pr:4 * (es.length:Nat) - 2 * L3.sI (fun e:Int × Int=>(if (Zat es).count e.1 = 1 then (1:Int) else 0) * 1 + (if (Zat es).count e.2 = 1 then (1:Int) else 0) * 1) es<=L3.sI (fun e:Int × Int=>(if e.1 ∈ S then (if (Zat es).count e.1 = 1 then (1:Int) else 2) else 0) * (if e.2 ∈ S then (if (Zat es).count e.2 = 1 then (1:Int) else 2) else 0)) es:=by
  rw [<- L3.Ze7,<- L3.Zbr,<- L3.Zds]
  refine L3.Zg9 fun e he=>?_
  rw [if_pos (ins e he).1,if_pos (ins e he).2]
  split <;> split <;> decide
 unfold L3.qf
 dsimp only
 rw [sq]
 rw [<- d2] at pr
 refine Int.le_trans (Int.sub_le_sub_left pr _) ?_
 omega
theorem Zn4 {S:List Int} {es:List (Int × Int)} (cn:L3.Conn S es) (ins:L3.Ins S es) (nd:S.Nodup) (ne:S ≠ []):S.length<=es.length + 1:=by
 obtain ⟨z,zS⟩:=Jc6 S ne
 obtain ⟨d,e0,hp⟩:=L3.Zih (f:=z) cn ins nd S.length (A:=[z]) (d:=fun _=>0) (by omega) (by simp) (fun x hx=>by rw [Jbg.mp hx]; exact zS) (by simp) rfl (fun x hx xf=>absurd (Jbg.mp hx) xf)
 have:=L3.Zbg (l:=L3.oth S z) (m:=es.map (L3.ce d)) (Ja2 Jaw nd) fun x hx=>by
  obtain ⟨h1,h2⟩:=L3.Za9.mp hx
  obtain ⟨q,hq,h⟩:=hp x h1 h2
  exact Jao.mpr ⟨q,hq,(L3.Ziz h).1⟩
 rw [Jaa] at this
 have:=L3.Zh7 nd zS
 omega
theorem Pc.ins {m:Int} {ps:List (Int × Int)} {S:List Int} (pc:Pc m ps S):L3.Ins S (Zbk ps S):=fun q hq=>by
 obtain ⟨h1,h2⟩:=Jan.mp hq
 have h2:=Jaq h2
 exact ⟨h2,(pc.cl q h1).mp h2⟩
theorem Pc.tree {m:Int} {ps:List (Int × Int)} {S:List Int} (pc:Pc m ps S) (el:(Zbk ps S).length + 1 = S.length) {f:Int} (hf:f ∈ S):∃ d:Int->Nat,d f = 0/\L3.Tr S (Zbk ps S) f d/\∀ x,(Zat (Zbk ps S)).count x = L3.deg (Zbk ps S) x:=by
 obtain ⟨d,e0,T⟩:=L3.Zmc pc.cn pc.ins pc.nd hf el
 exact ⟨d,e0,T,fun x=>Zf7 fun q hq=>T.ne hq⟩
theorem Pc.three {m:Int} {ps:List (Int × Int)} {S:List Int} (pc:Pc m ps S) (el:(Zbk ps S).length + 1 = S.length) {f:Int} {ns:List Int} (hf:(S.filter fun x=>decide (2 < (Zat (Zbk ps S)).count x)) = [f]) (h3:¬ 3 < (Zat (Zbk ps S)).count f) (pm:ns.Perm (Zht S (Zbk ps S) f)):
  ∃ (d:Int->Nat) (a b c:Int),L3.Fk S (Zbk ps S) f d/\L3.Lvs S (Zbk ps S) f d [a,b,c]/\ns = [((d a:Nat):Int),((d b:Nat):Int),((d c:Nat):Int)]/\d a + d b + d c + 1<=S.length:=by
 have mf:f ∈ S/\2 < (Zat (Zbk ps S)).count f:=by
  have:f ∈ S.filter fun x=>decide (2 < (Zat (Zbk ps S)).count x):=by rw [hf]; simp
  obtain ⟨h,h'⟩:=Jan.mp this
  exact ⟨h,Jaq h'⟩
 have only:∀ x ∈ S,2 < (Zat (Zbk ps S)).count x->x = f:=fun x hx h=>by
  have:x ∈ S.filter fun x=>decide (2 < (Zat (Zbk ps S)).count x):=Jan.mpr ⟨hx,Ja3 h⟩
  rw [hf] at this
  exact Jbg.mp this
 obtain ⟨d,e0,T,cE⟩:=pc.tree el mf.1
 have f3:L3.deg (Zbk ps S) f = 3:=by rw [<- cE]; omega
 have Tf:L3.Fk S (Zbk ps S) f d:=⟨T,e0,fun x hx xf=>by
  have h6:=T.deg_x hx xf
  rw [<- cE] at h6
  have:¬ 2 < (Zat (Zbk ps S)).count x:=fun u=>xf (only x hx u)
  omega⟩
 obtain ⟨pa,ls,e2,l3,lsum⟩:=Zoa pc Tf f3
 obtain ⟨L,pL,eL⟩:=L3.Zk1 (pm.trans pa) _ rfl
 have hL:=(Tf.lvs_is (by omega)).perm pL
 have lL:=Tf.few_ends hL
 rw [f3] at lL
 have l1:=pm.length_eq
 rw [e2,Jaa,<- eL,Jaa] at l1
 have p2:=pm.map Int.toNat
 have eid:(Int.toNat ∘ fun n:Nat=>(n:Int)) = id:=funext fun x=>Jal x
 rw [e2,Jcd,eid,List.map_id] at p2
 have s2:=p2.sum_nat
 match L,eL,hL,lL,l1 with
 | [a,b,c],eL,hL,_,_=>
  refine ⟨d,a,b,c,Tf,hL,eL.symm,?_⟩
  rw [<- eL] at s2
  simp only [Ja1,Jd9,List.sum_cons,List.sum_nil,Jal] at s2
  omega
 | [],_,_,_,l1=>simp at l1; omega
 | [_],_,_,_,l1=>simp at l1; omega
 | [_,_],_,_,_,l1=>simp at l1; omega
 | _ :: _ :: _ :: _ :: _,_,_,lL,_=>simp at lL
theorem Znv {m:Int} {ps:List (Int × Int)} {S:List Int} {r:Str × Int} (pc:Pc m ps S) (k:Zio S (Zbk ps S) (some r)):L3.DPos S (Zbk ps S):=by
 rcases k with ⟨_,h⟩ | ⟨el,k⟩
 ·cases h
 rcases k with ⟨e0,_⟩ | ⟨f,rest,ef,k⟩
 ·obtain ⟨z,zS⟩:=Jc6 S pc.ne
  obtain ⟨d,d0,T,cE⟩:=pc.tree el zS
  have le:∀ x ∈ S,L3.deg (Zbk ps S) x<=2:=fun x hx=>Jag fun h=>by
   have:x ∈ S.filter fun x=>decide (2 < (Zat (Zbk ps S)).count x):=Jan.mpr ⟨hx,Ja3 (by rw [cE]; omega)⟩
   rw [e0] at this
   cases this
  have Tf:L3.Fk S (Zbk ps S) z d:=⟨T,d0,fun x hx xf=>by
   have h6:=T.deg_x hx xf
   have:=le x hx
   omega⟩
  exact Tf.posA Tf.ends_is (Jba (Tf.few_ends Tf.ends_is) (le z zS))
 ·rcases k with ⟨_,h⟩ | ⟨rfl,h3,ns,pm,so,hk⟩
  ·cases h
  obtain ⟨d,a,b,c,T,hL,e,hs⟩:=pc.three el ef h3 pm
  have:=pc.le8
  unfold kd at hk
  by_cases c1:ns.take 2 = [1,1]
  ·rw [e] at c1
   simp only [Jc7,List.take_zero,Jb8,and_true] at c1
   exact T.posD hL (by omega) (by omega)
  ·rw [if_neg c1] at hk
   by_cases c2:ns.take 2 = [1,2]
   ·rw [e] at c2
    simp only [Jc7,List.take_zero,Jb8,and_true] at c2
    exact T.posE hL (by omega) (by omega) (by omega)
   ·rw [if_neg fun z=>c2 z.1] at hk
    cases hk
theorem Znw {m:Int} {ps:List (Int × Int)} {S:List Int} (pc:Pc m ps S) (k:Zio S (Zbk ps S) none):∃ X:Int->Int,(∀ p,p ∉ S->X p = 0)/\(∀ p ∈ S,0<=X p/\X p<=4/\(S.length<=6->X p<=2))/\(∃ p ∈ S,X p ≠ 0)/\L3.qf S (Zbk ps S) X<=0:=by
 rcases k with ⟨hl,_⟩ | ⟨el,k⟩
 ·obtain ⟨z,zS⟩:=Jc6 S pc.ne
  refine ⟨fun p=>if p ∈ S then 1 else 0,fun p hp=>if_neg hp,fun p hp=>by simp only [if_pos hp]; omega,⟨z,zS,by simp only [if_pos zS]; decide⟩,?_⟩
  have:=Zn4 pc.cn pc.ins pc.nd pc.ne
  have e1:L3.sI (fun p=>(if p ∈ S then (1:Int) else 0) * (if p ∈ S then (1:Int) else 0)) S = 1 * (S.length:Nat):=by
   rw [<- L3.Zbr]
   exact L3.Zap fun p hp=>by rw [if_pos hp]; rfl
  have e2:L3.sI (fun e:Int × Int=>(if e.1 ∈ S then (1:Int) else 0) * (if e.2 ∈ S then (1:Int) else 0)) (Zbk ps S) = 1 * ((Zbk ps S).length:Nat):=by
   rw [<- L3.Zbr]
   exact L3.Zap fun e he=>by rw [if_pos (pc.ins e he).1,if_pos (pc.ins e he).2]; rfl
  unfold L3.qf
  rw [e1,e2]
  omega
 rcases k with ⟨_,h⟩ | ⟨f,rest,ef,k⟩
 ·cases h
 have mf:f ∈ S/\2 < (Zat (Zbk ps S)).count f:=by
  have:f ∈ S.filter fun x=>decide (2 < (Zat (Zbk ps S)).count x):=by rw [ef]; simp
  obtain ⟨h,h'⟩:=Jan.mp this
  exact ⟨h,Jaq h'⟩
 rcases k with ⟨hh,_⟩ | ⟨rfl,h3,ns,pm,so,hk⟩
 ·obtain ⟨d,d0,T,cE⟩:=pc.tree el mf.1
  refine ⟨fun p=>if p ∈ S then (if (Zat (Zbk ps S)).count p = 1 then 1 else 2) else 0,fun p hp=>if_neg hp,fun p hp=>by simp only [if_pos hp]; split <;> omega,⟨f,mf.1,by simp only [if_pos mf.1]; rw [if_neg (by omega)]; decide⟩,?_⟩
  refine Znu pc.nd pc.ins el (fun p hp=>?_) ?_
  ·by_cases z:p = f
   ·rw [z]; omega
   ·rw [cE,T.deg_x hp z]; omega
  ·rcases hh with hr | h4
   ·obtain ⟨f',rest',rfl⟩:∃ f' rest',rest = f' :: rest':=by
     cases rest with
     | nil=>exact absurd rfl hr
     | cons y ys=>exact ⟨y,ys,rfl⟩
    have nF:(f :: f' :: rest').Nodup:=by rw [<- ef]; exact Ja2 Jaw pc.nd
    have mf':f' ∈ S.filter fun x=>decide (2 < (Zat (Zbk ps S)).count x):=by rw [ef]; simp
    obtain ⟨g1,g2⟩:=Jan.mp mf'
    exact .inr ⟨f,mf.1,f',g1,fun z=>(Jbl.mp nF).1 (by rw [z]; simp),mf.2,Jaq g2⟩
   ·exact .inl ⟨f,mf.1,h4⟩
 ·obtain ⟨d,a,b,c,T,hL,e,hs⟩:=pc.three el ef h3 pm
  have:=pc.le8
  have ha:=(hL.2 a).mp (by simp)
  have pa:=T.pos ha.1 ha.2.1
  subst e
  have so1:=(Jeb.mp so).1 ((d b:Nat):Int) (by simp)
  have so2:=(Jeb.mp (Jeb.mp so).2).1 ((d c:Nat):Int) (by simp)
  unfold kd at hk
  simp only [Jc7,List.take_zero,Jb8,and_true] at hk
  have n1:¬ (((d a:Nat):Int) = 1/\((d b:Nat):Int) = 1):=fun z=>by rw [if_pos z] at hk; cases hk
  rw [if_neg n1] at hk
  have n2:¬ (((d a:Nat):Int) = 1/\((d b:Nat):Int) = 2):=fun z=>by rw [if_pos ⟨z,by omega⟩] at hk; cases hk
  by_cases c1:d a = 1
  ·have e2:d b = 3:=by omega
   have e3:d c = 3:=by omega
   refine ⟨_,fun p hp=>if_neg hp,fun p hp=>?_,⟨a,ha.1,by simp only [if_pos ha.1,Jcw]; decide⟩,Int.le_of_eq (T.low7 hL c1 e2 e3)⟩
   have:=T.d_le hL (N:=3) hp fun z hz=>by
    simp only [Jam,List.not_mem_nil,or_false] at hz
    rcases hz with rfl | rfl | rfl <;> omega
   simp only [if_pos hp]
   split <;> omega
  ·have e1:d a = 2:=by omega
   have e2:d b = 2:=by omega
   refine ⟨_,fun p hp=>if_neg hp,fun p hp=>?_,⟨a,ha.1,by simp only [if_pos ha.1,e1]; decide⟩,Int.le_of_eq (T.low6 hL e1 e2 (by omega))⟩
   have:=T.d_le hL (N:=3) hp fun z hz=>by
    simp only [Jam,List.not_mem_nil,or_false] at hz
    rcases hz with rfl | rfl | rfl <;> omega
   simp only [if_pos hp]
   omega
def Zhv (n:Nat) (ps:List (Int × Int)):Prop:=∀ S ∈ Zc2 n (Zbh ps),∃ r,Zio S (Zbk ps S) (some r)
def Zjz (n:Nat) (ps:List (Int × Int)):Prop:=∃ S ∈ Zc2 n (Zbh ps),Zio S (Zbk ps S) none
theorem Zef {n:Nat} {ps:List (Int × Int)} (hin:InP (n:Nat) ps):L3.Ins (Zbl n) ps:=fun q hq=>by
 obtain ⟨a1,a2,a3,a4⟩:=hin q hq
 exact ⟨Zas.mpr ⟨a1,a2⟩,Zas.mpr ⟨a3,a4⟩⟩
theorem Zew {n:Nat} {ps:List (Int × Int)} (hin:InP (n:Nat) ps) (n8:n<=8) (g:Zhv n ps):L3.DPos (Zbl n) ps:=fun X hX=>by
 have lb:=Zgt hin
 have mR:∀ k,k ∈ (Zbl n).filter (fun x=>decide (Zbh ps x = x)) ↔ (0<=k/\k < n)/\Zbh ps k = k:=fun k=>by rw [Jan,Zas,Jbx]
 have toR:∀ x:Int,0<=x->x < (n:Nat)->Zbh ps x ∈ (Zbl n).filter fun x=>decide (Zbh ps x = x):=fun x h0 h1=>(mR _).mpr ⟨⟨lb.1.lo x h0 h1,lb.1.lt h0 h1⟩,lb.1.co _ lb.2 x h0 h1⟩
 have nR:((Zbl n).filter fun x=>decide (Zbh ps x = x)).Nodup:=Ja2 Jaw (Zfa n)
 have e1:=L3.Zkj (g:=fun p=>X p * X p) (Zbh ps) (l:=Zbl n) nR fun x hx=>by
  obtain ⟨h0,h1⟩:=Zas.mp hx
  exact toR x h0 h1
 have e2:=L3.Zkj (g:=fun e:Int × Int=>X e.1 * X e.2) (fun e=>Zbh ps e.1) (l:=ps) nR fun e he=>by
  obtain ⟨a1,a2,_⟩:=hin e he
  exact toR _ a1 a2
 have e3:L3.qf (Zbl n) ps X = L3.sI (fun k=>L3.qf (Zec n (Zbh ps) k) (Zbk ps (Zec n (Zbh ps) k)) X) ((Zbl n).filter fun x=>decide (Zbh ps x = x)):=by
  unfold L3.qf
  rw [e1,e2,<- L3.Zds]
  refine L3.Zap fun k hk=>?_
  have r1:(Zbl n).filter (fun x=>decide (Zbh ps x = k)) = Zec n (Zbh ps) k:=Zb4 n _ k
  have r2:ps.filter (fun e=>decide (Zbh ps e.1 = k)) = Zbk ps (Zec n (Zbh ps) k):=Jdi fun e he=>by
   obtain ⟨a1,a2,_⟩:=hin e he
   rw [Jds,Zcr]
   exact ⟨fun h=>⟨⟨a1,a2⟩,h⟩,fun h=>h.2⟩
  rw [r1,r2]
 have inL:∀ k,k ∈ (Zbl n).filter (fun x=>decide (Zbh ps x = x))->Zec n (Zbh ps) k ∈ Zc2 n (Zbh ps):=fun k hk=>by
  rw [<- Zdf]
  unfold Zdv
  exact Jao.mpr ⟨k,hk,Zb4 n _ k⟩
 have pos:∀ k ∈ (Zbl n).filter (fun x=>decide (Zbh ps x = x)),L3.DPos (Zec n (Zbh ps) k) (Zbk ps (Zec n (Zbh ps) k)):=fun k hk=>by
  obtain ⟨r,kp⟩:=g _ (inL k hk)
  exact Znv (Pc.of hin (by omega) (by omega) (by rw [Jal]; exact inL k hk)) kp
 have nn:∀ k ∈ (Zbl n).filter (fun x=>decide (Zbh ps x = x)),0<=L3.qf (Zec n (Zbh ps) k) (Zbk ps (Zec n (Zbh ps) k)) X:=fun k hk=>by
  by_cases z:∃ p ∈ Zec n (Zbh ps) k,X p ≠ 0
  ·exact Int.le_of_lt (pos k hk X z)
  ·have z:∀ p ∈ Zec n (Zbh ps) k,X p = 0:=fun p hp=>Jag fun u=>z ⟨p,hp,u⟩
   unfold L3.qf
   rw [L3.Zcs (fun p hp=>by rw [z p hp]; rfl),L3.Zcs (fun e he=>by rw [z _ (Jaq (Jan.mp he).2)]; exact Int.zero_mul _)]
   decide
 obtain ⟨p,hp,hz⟩:=hX
 obtain ⟨h0,h1⟩:=Zas.mp hp
 have:=L3.Zd1 (toR p h0 h1) nn
 have:=pos _ (toR p h0 h1) X ⟨p,Zcr.mpr ⟨⟨h0,h1⟩,rfl⟩,hz⟩
 rw [e3]
 omega
theorem Zim {n:Nat} {ps:List (Int × Int)} (hin:InP (n:Nat) ps) (n8:n<=8) (g:Zjz n ps):∃ X,L3.Low (Zbl n) ps X/\∀ p ∈ Zbl n,X p<=4/\(n<=6->X p<=2):=by
 obtain ⟨S,hS,kp⟩:=g
 have pc:=Pc.of hin (by omega) (by omega) (by rw [Jal]; exact hS)
 obtain ⟨X,x0,x1,⟨p,hp,hz⟩,hq⟩:=Znw pc kp
 have inm:=pc.inm
 obtain ⟨k,ek,hk,rfl⟩:=Zd2 hS
 have le:(Zec n (Zbh ps) k).length<=n:=by
  rw [<- Zb4]
  unfold Zji Zbl
  refine Jba (Jaz _ _) ?_
  simp
 refine ⟨X,⟨fun p _=>?_,⟨p,Zas.mpr (inm p hp),hz⟩,?_⟩,fun p _=>?_⟩
 ·by_cases h:p ∈ Zec n (Zbh ps) k
  ·exact (x1 p h).1
  ·rw [x0 p h]; decide
 ·have e1:L3.sI (fun p=>X p * X p) (Zbl n) = L3.sI (fun p=>X p * X p) (Zec n (Zbh ps) k):=by
   rw [<- Zb4]
   refine L3.Ze8 fun x hx h=>?_
   have:x ∉ Zec n (Zbh ps) k:=fun z=>by
    have:=(Zcr.mp z).2
    simp [this] at h
   rw [x0 x this]
   rfl
  have e2:L3.sI (fun e:Int × Int=>X e.1 * X e.2) ps = L3.sI (fun e:Int × Int=>X e.1 * X e.2) (Zbk ps (Zec n (Zbh ps) k)):=L3.Ze8 fun e he h=>by
   have:e.1 ∉ Zec n (Zbh ps) k:=fun z=>by simp [z] at h
   rw [x0 _ this]
   exact Int.zero_mul _
  unfold L3.qf at *
  rw [e1,e2]
  exact hq
 ·by_cases h:p ∈ Zec n (Zbh ps) k
  ·exact ⟨(x1 p h).2.1,fun z=>(x1 p h).2.2 (by omega)⟩
  ·rw [x0 p h]; exact ⟨by decide,fun _=>by decide⟩
theorem DPos.nn {pts:List Int} {ps:List (Int × Int)} (h:L3.DPos pts ps):L3.PosN pts ps:=fun X _ hX=>h X hX
theorem Znq {n:Nat} {ps:List (Int × Int)} (hin:InP (n:Nat) ps) (n8:n<=8) (g:Zjz n ps) (h:L3.PosN (Zbl n) ps):False:=by
 obtain ⟨X,⟨h0,h1,h2⟩,_⟩:=Zim hin n8 g
 have:=h X h0 h1
 omega
theorem Zeg {n:Nat} {ps:List (Int × Int)} {a:List Int} (hl:a.length = n):Zdc ps a a = L3.qf (Zbl n) ps (atZ a):=by
 have e1:∀ k:Nat,Zn2 a a k = L3.sI (fun p=>atZ a p * atZ a p) (Zbl k):=fun k=>by
  induction k with
  | zero=>rfl
  | succ k ih=>
   show Zn2 a a k + atZ a k * atZ a k = _
   unfold Zbl at *
   rw [Jcp,Jav,L3.Zkl,<- ih]
   show _ = _ + (_ + 0)
   rw [Int.add_zero]
 have e2:∀ l:List (Int × Int),arrZ a a l = L3.sI (fun e:Int × Int=>atZ a e.1 * atZ a e.2) l:=fun l=>by
  induction l with
  | nil=>rfl
  | cons e l ih=>
   show arrZ a a l + atZ a e.1 * atZ a e.2 = _ + L3.sI _ l
   rw [ih,Int.add_comm]
 unfold Zdc L3.qf Zgz
 rw [hl,e1,e2,L3.Ze6 (List.reverse_perm ps)]
theorem sm_kd {H:Hp} {v:V} {k:Kd} (h:KdV H v k):(!decide (v = V.non)) = k.isSome:=by
 cases k with
 | none=>
  have h:v = .non:=h
  subst h
  rfl
 | some k=>
  obtain ⟨t,rfl,_⟩:=h
  rfl
theorem kds_all {H:Hp} {us:List V} {n:Nat} {ps:List (Int × Int)} (kf:KdsF H us (Zc2 n (Zbh ps)) ps):((us.map fun v=>!decide (v = V.non)).all id = true->Zhv n ps)/\((us.map fun v=>!decide (v = V.non)).all id = false->Zjz n ps):=by
 obtain ⟨hl,h⟩:=kf
 constructor
 ·intro a S hS
  obtain ⟨i,hi,e⟩:=Jbw.mp hS
  have eS:(Zc2 n (Zbh ps))[i]? = some S:=by rw [Jab hi,e]
  have eu:us[i]? = some (us[i]'(by omega)):=Jab _
  obtain ⟨r,k1,k2⟩:=h i _ S eu eS
  have:=sm_kd k2
  rw [List.all_map,Jci] at a
  have a1:(!decide (us[i]'(by omega) = V.non)) = true:=a _ (Jb0 (by omega))
  rw [a1] at this
  cases r with
  | none=>cases this
  | some r=>exact ⟨r,k1⟩
 ·intro a
  rw [List.all_map,List.all_eq_false] at a
  obtain ⟨v,hv,e⟩:=a
  obtain ⟨i,hi,rfl⟩:=Jbw.mp hv
  have eS:(Zc2 n (Zbh ps))[i]? = some ((Zc2 n (Zbh ps))[i]'(by omega)):=Jab _
  obtain ⟨r,k1,k2⟩:=h i _ _ (Jab hi) eS
  have:=sm_kd k2
  have e:¬ (!decide (us[i] = V.non)) = true:=e
  rw [this] at e
  cases r with
  | none=>exact ⟨_,Jar eS,k1⟩
  | some r=>exact absurd rfl e
theorem Zkm (n:Nat) (f:Int->Int):(Zc2 n f).length<=n:=by
 rw [<- Zdf]
 unfold Zdv Zbl
 rw [Jaa]
 refine Jba (Jaz _ _) ?_
 simp
def Zg6 (C:Addr):Sp:=fun vs H Q _=>∃ (x:Addr) (n:Nat) (ps:List (Int × Int)),vs = [.ref x]/\Drw C H x (n:Nat) ps/\InP (n:Nat) ps/\1<=n/\n<=8 /\
 (Zhv n ps->∀ H',Same H H'->Q (.bl true) H')/\(Zjz n ps->∀ H',Same H H'->Q (.bl false) H')
theorem ok_good {f:Addr} {fd:FuncData} (F:Fun K "is_good" "is_good" Zcz f fd) (T:Txt K mg C) (C_Drawing_kinds:CalM P w K mg base C "kinds" 4 (Zh3 C)):FnOk P w K mg base CX0 5 f fd ["drawing"] (Zg6 C):=by
 have nd:=Zfv.nd
 refine F.ok Zfv (fun vs H Q E h=>?_) (fun cdv A outer s H vs Q E hr h=>?_)
 ·obtain ⟨x,n,ps,rfl,_⟩:=h
  rfl
 ·obtain ⟨x,n,ps,rfl,dw,hin,n0,n8,q1,q2⟩:=h
  refine ⟨_,(~~~(Zb6 (Zgy rfl) rfl T.n_all boot_all ((Zbc (own:=["kind"]) (fr:=[]) rfl (Zcn (by kernel_rfl)) (Zbe (Zk4 T.cl_Drawing C_Drawing_kinds hr.m (pv 0))) (fun _ _ _ _=>⟨(@Zag _ _ 0 _ (show (["kind"]:List Str).Nodup by decide +kernel) rfl (Or.inl rfl) (Or.inr rfl)),Zbi,(pe_cmpR op_notN (pv 0) Zhb (Zar _))⟩))<&>Zab))),?_⟩
  obtain ⟨lp,xs,⟨dx,hx,hlp⟩,hl9,hps⟩:=id dw
  walk_at "wp"
  refine ⟨_,rfl,x,dx,_,rfl,hx,Zl4 (n:Nat) lp (by decide) (by decide),x,(n:Nat),ps,rfl,dw,hin,by omega,by omega,fun p us H1 s1 fp hp1 kf=>?_⟩
  rw [Jal] at kf
  have ul:=kf.1
  have lr:=Zkm n (Zbh ps)
  refine ⟨p,rfl,⟨_,SqL.of hp1⟩,fun D hD=>Zca (xs:=us) (fun i vs H=>Same H1 H/\H D = some (.lst vs)/\vs = ((us.take i).map fun v=>!decide (v = V.non)).map V.bl) ⟨Same.new hD,Zac,rfl⟩ (fun i vs H _ k=>SqL.of (k.1 _ _ hp1)) ?_ ?_⟩
  ·rintro i x' vs σ' H' hi hx' sh ⟨s',e',rfl⟩
   obtain ⟨z,rfl⟩:=sh.one
   simp only [Zdq,Zbd,Zg3,Jau,Jcw]
   refine ⟨_,rfl,rfl,leaf (ws:=((us.take (i + 1)).map fun v=>!decide (v = V.non)).map V.bl) hi Sh.mk1 e' (Zah (by rw [Jaa,Jaa,Ja8]; omega)) ⟨s'.upd hD,?_,rfl⟩⟩
   rw [Zac,Jbf,hx',Jav,Jav]
   rfl
  ·rintro vs H4 ⟨s4,e4,rfl⟩
   rw [Jbi] at e4
   obtain ⟨g1,g2⟩:=kds_all kf
   refine ⟨D,rfl,_,SqL.of e4,?_⟩
   cases hb:(us.map fun v=>!decide (v = V.non)).all id with
   | true=>exact q1 (g1 hb) _ (s1.trans s4)
   | false=>exact q2 (g2 hb) _ (s1.trans s4)
structure Bare (n:Nat) (ps B:List (Int × Int)):Prop where
 sub:B.Sublist ps
 bad:Zjz n B
 mn:∀ a ∈ B,L3.PosN (Zbl n) (B.erase a)
structure Bre (n:Nat) (ps B:List (Int × Int)) (i:Nat):Prop where
 sub:B.Sublist ps
 bad:Zjz n B
 lo:∀ a,(ps.drop i).count a<=B.count a
 mn:∀ a,(ps.drop i).count a < B.count a->L3.PosN (Zbl n) (B.erase a)
theorem InP.sub {m:Int} {ps B:List (Int × Int)} (h:InP m ps) (s:B.Sublist ps):InP m B:=fun q hq=>h q (s.subset hq)
theorem Bre.mem {n i:Nat} {ps B:List (Int × Int)} {q:Int × Int} (h:Bre n ps B i) (e:ps[i]? = some q):q ∈ B:=by
 have hi:=(Ja0.mp e).1
 have ed:ps.drop i = q :: ps.drop (i + 1):=by
  rw [Jc4 hi]
  congr 1
  rw [Jab hi] at e
  exact Ja4 e
 have:=h.lo q
 rw [ed,Jdu] at this
 exact Jca.mp (by omega)
theorem Zot {i:Nat} {ps:List (Int × Int)} {q:Int × Int} (e:ps[i]? = some q):ps.drop i = q :: ps.drop (i + 1):=by
 have hi:=(Ja0.mp e).1
 rw [Jc4 hi]
 congr 1
 rw [Jab hi] at e
 exact Ja4 e
theorem Bre.less {n i:Nat} {ps B:List (Int × Int)} {q:Int × Int} (h:Bre n ps B i) (hin:InP (n:Nat) ps) (e:ps[i]? = some q) (bad:Zjz n (B.erase q)):Bre n ps (B.erase q) (i + 1):=by
 have ed:=Zot e
 have iB:=Zef (hin.sub h.sub)
 refine ⟨Jec.trans h.sub,bad,fun a=>?_,fun a ha=>?_⟩
 ·have:=h.lo a
  rw [ed] at this
  by_cases z:q = a
  ·subst z
   rw [Jdu] at this
   rw [List.count_erase_self]
   omega
  ·rw [Jdo z] at this
   rw [List.count_erase_of_ne (fun y=>z y.symm)]
   exact this
 ·have hlt:(ps.drop i).count a < B.count a:=by
   rw [ed]
   by_cases z:q = a
   ·subst z
    rw [List.count_erase_self] at ha
    rw [Jdu]
    omega
   ·rw [List.count_erase_of_ne (fun y=>z y.symm)] at ha
    rw [Jdo z]
    exact ha
  rw [List.erase_comm]
  exact (h.mn a hlt).sub (fun e' he=>iB e' (List.mem_of_mem_erase he)) Jec
theorem Bre.keep {n i:Nat} {ps B:List (Int × Int)} {q:Int × Int} (h:Bre n ps B i) (e:ps[i]? = some q) (good:L3.PosN (Zbl n) (B.erase q)):Bre n ps B (i + 1):=by
 have ed:=Zot e
 refine ⟨h.sub,h.bad,fun a=>?_,fun a ha=>?_⟩
 ·have:=h.lo a
  rw [ed,Jdb] at this
  omega
 ·by_cases z:a = q
  ·rw [z]; exact good
  ·refine h.mn a ?_
   rw [ed,Jdo (fun y=>z y.symm)]
   exact ha
theorem Bre.fin {n:Nat} {ps B:List (Int × Int)} (h:Bre n ps B ps.length):Bare n ps B:=⟨h.sub,h.bad,fun a ha=>h.mn a (by rw [List.drop_length]; exact Jca.mpr ha)⟩
theorem Bre.start {n:Nat} {ps:List (Int × Int)} (h:Zjz n ps):Bre n ps ps 0:=⟨List.Sublist.refl _,h,fun a=>by rw [Jdk]; exact Jae _,fun a ha=>by rw [Jdk] at ha; omega⟩
theorem pair_eq {H:Hp} {t t':Addr} {p q:Int × Int} (h1:H t' = some (.tup [.int p.1,.int p.2])) (h2:H t = some (.tup [.int q.1,.int q.2])):EqD K H 4 (.ref t') (.ref t) (decide (p = q)):=by
 by_cases e:t' = t
 ·subst e
  rw [h1] at h2
  simp only [Option.some.injEq,HO.tup.injEq,Jb8,V.int.injEq,and_true] at h2
  rw [Ja3 (Prod.ext h2.1 h2.2)]
  exact .same
 ·have:EqD K H 4 (.ref t') (.ref t) ([decide (p.1 = q.1),decide (p.2 = q.2)].all id):=.tuple e (SqT.of h1) (SqT.of h2) rfl rfl fun j x y b e1 e2 e3=>by
   match j,e1,e2,e3 with
   | 0,e1,e2,e3=>cases e1; cases e2; cases e3; exact Zgu
   | 1,e1,e2,e3=>cases e1; cases e2; cases e3; exact Zgu
   | j + 2,e1,_,_=>cases e1
  rw [show ([decide (p.1 = q.1),decide (p.2 = q.2)].all id) = decide (p = q) by rw [Jbu]; simp [Prod.ext_iff]] at this
  exact this
theorem Zlz {B:List (Int × Int)} {q:Int × Int} {m:Nat} (hm:m<=B.idxOf q) (hl:m < B.length):decide (B[m] = q) = decide (m = B.idxOf q):=by
 rw [Jds]
 constructor
 ·intro e
  by_cases z:m < B.idxOf q
  ·have:=List.not_of_lt_findIdx (p:=(· == q)) (xs:=B) (i:=m) z
   simp [e] at this
  ·omega
 ·rintro e
  have:=List.getElem_idxOf (x:=q) (xs:=B) (by omega)
  simp only [e]
  exact this
theorem Prs.del {H:Hp} {ys:List V} {B:List (Int × Int)} (h:Prs H ys B) (j:Nat):Prs H (ys.eraseIdx j) (B.eraseIdx j):=by
 obtain ⟨hl,h⟩:=h
 refine ⟨by rw [Jdv,Jdv,hl],fun i x q e1 e2=>?_⟩
 rw [List.getElem?_eraseIdx] at e1 e2
 by_cases z:i < j
 ·rw [if_pos z] at e1 e2; exact h i x q e1 e2
 ·rw [if_neg z] at e1 e2; exact h _ x q e1 e2
theorem Zh8 {H:Hp} {x dx a:Addr} {ys:List V} {B:List (Int × Int)} {n:Nat} {Q:VK} {E:XK} (hx:H x = none) (hdx:H dx = none) (ndx:dx ≠ x) (ha:H a = some (.lst ys)) (l9:ys.length<=9) (pr:Prs H ys B) (iB:InP (n:Nat) B) (n0:1<=n) (n8:n<=8)
  (h:∀ H',Same H H'->Drw C H' x (n:Nat) B->Q .non H'):Zg5 C [.ref x,.int (n:Nat),.ref a] (upd (upd H dx (.own x)) x (.ins C dx [])) Q E:=by
 have fx1:(upd H dx (.own x)) x = none:=by rw [Zaf ndx.symm]; exact hx
 have s1:Same H (upd (upd H dx (.own x)) x (.ins C dx [])):=(Same.new hdx).trans (Same.new fx1)
 refine ⟨x,dx,_,a,ys,rfl,Zac,by omega,by omega,s1 _ _ ha,l9,Zn1 (pr.same s1) iB,fun lp H8 ex8 hx8 flp hlp8=>?_⟩
 have s8:Same H H8:=Same.thru s1 hx ex8
 exact h H8 s8 ⟨lp,ys,⟨dx,hx8,hlp8⟩,l9,pr.same s8⟩
def Zkd (C:Addr):Sp:=fun vs H Q _=>∃ (x:Addr) (n:Nat) (ps:List (Int × Int)),vs = [.ref x]/\Drw C H x (n:Nat) ps/\InP (n:Nat) ps/\1<=n/\n<=8/\Zjz n ps /\
 ∀ (y:Addr) (B:List (Int × Int)) (H':Hp),Same H H'->Drw C H' y (n:Nat) B->Bare n ps B->Q (.ref y) H'
theorem ok_bare {f:Addr} {fd:FuncData} (F:Fun K "barely_not_good" "barely_not_good" Zau f fd) (T:Txt K mg C) (C_is_good:Cal P w K mg base "is_good" 5 (Zg6 C)) (C_Drawing:CalI P w K mg base "Drawing" C 4 (Zg5 C)):FnOk P w K mg base CX0 6 f fd ["drawing"] (Zkd C):=by
 have nd:=Zco.nd
 refine F.ok Zco (fun vs H Q E h=>?_) (fun cdv A outer s H vs Q E hr h=>?_)
 ·obtain ⟨x,n,ps,rfl,_⟩:=h
  rfl
 ·obtain ⟨x,n,ps,rfl,dw,hin,n0,n8,bd,q⟩:=h
  refine ⟨_,((Zam (i:=1) nd rfl (Or.inl rfl) (Zgn Zb7 rfl T.n_list Jd7 ((Zdb (pv 0) rfl)<&>Zab)))<*>((Zcp Jbd rfl (Zbe (Zdb (pv 0) rfl)) (@Zag _ _ 2 _ nd rfl (Or.inl rfl) (Or.inl rfl)) ((Zam (i:=3) nd rfl (Or.inl rfl) (Zgn Zb7 rfl T.n_list Jd7 ((pv 1)<&>Zab)))<*>((Zdh (Zfq Jbe PySem.F.slot_list_remove PySem.F.type_list_remove (mt_rem (Zkp hr)) (pv 3) ((pv 2)<&>Zab)))<*>(@Zaq _ _ _ (@Zbj _ _ _ _ _ _ _ _ (Zdt (Zeq (Zb2 C_is_good hr.m rfl ((pe_n C_Drawing hr.m rfl ((Zdb (pv 0) rfl)<&>((pv 3)<&>Zab)))<&>Zab)))) (@Zaq _ _ _ (Zam (i:=1) nd rfl (Or.inl rfl) (pv 3))) Zan)))))<*>(~~~(pe_n C_Drawing hr.m rfl ((Zdb (pv 0) rfl)<&>((pv 1)<&>Zab)))))),?_⟩
  obtain ⟨lp,xs,⟨dx,hx,hlp⟩,hl9,hps⟩:=id dw
  refine Zdz fun X hX=>?_
  walk_at "wp"
  refine ⟨_,_,_,hx,T.cl_Drawing,T.nA,_,Zck _ _,?_⟩
  refine ⟨lp,rfl,xs,.inl (SqL.of hlp),fun k hk=>?_⟩
  have s1:Same H (upd H k (.lst xs)):=Same.new hk
  have hlen:=hps.1
  subst hX
  refine Zdz fun X hX=>?_
  refine ⟨_,rfl,x,C,dx,_,_,rfl,s1 _ _ hx,T.cl_Drawing,T.nA,Zck _ _,lp,rfl,⟨_,SqL.of (s1 _ _ hlp)⟩,Zex (xs:=xs) (fun i σ Hi=>∃ (k:Addr) (ys:List V) (B:List (Int × Int)) (v2 v3:Option V),σ = [some (.ref x),some (.ref k),v2,v3]/\Same H Hi/\Hi k = some (.lst ys)/\Prs Hi ys B/\ys.length<=9/\Bre n ps B i)
   ⟨k,xs,ps,none,none,rfl,s1,Zac,hps.same s1,hl9,Bre.start bd⟩ (fun i σ Hi _ ⟨_,_,_,_,_,_,sh,_⟩=>SqL.of (sh _ _ hlp)) ?_ ?_⟩
  ·rintro i z σ Hi hzi ⟨k,ys,B,v2,v3,rfl,si,hki,pr,l9,br⟩
   have hi:i < xs.length:=(Ja0.mp hzi).1
   have hq:ps[i]? = some (ps[i]'(by omega)):=Jab _
   obtain ⟨t,rfl,ht⟩:=hps.2 i z _ hzi hq
   have hin1:=hin _ (Jar hq)
   generalize ps[i]'(by omega) = q' at *
   simp only [Zbd,Jau,Jcb]
   refine Zdz fun X1 hX1=>?_
   walk_at "wp"
   refine ⟨ys,.inl (SqL.of hki),fun fw hfw=>?_⟩
   subst hX1
   refine Zdz fun X1 hX1=>?_
   walk_at "wp"
   have u1:Same Hi (upd Hi fw (.lst ys)):=Same.new hfw
   have hqB:=br.mem hq
   have hj:=List.idxOf_lt_length_of_mem hqB
   have yl:=pr.1
   refine ⟨.inl ⟨rfl,_,SqL.of Zac⟩,ys,Zac,B.idxOf q',by omega,fun m v hm hv=>?_,?_⟩
   ·have hml:m < B.length:=by omega
    obtain ⟨t',rfl,ht'⟩:=pr.2 m v _ hv (Jab hml)
    rw [<- Zlz hm hml]
    exact pair_eq (u1 _ _ ht') (u1 _ _ (si _ _ ht))
   have u2:Same Hi (upd (upd Hi fw (.lst ys)) fw (.lst (ys.eraseIdx (B.idxOf q')))):=u1.upd hfw
   have hfw2:upd (upd Hi fw (.lst ys)) fw (.lst (ys.eraseIdx (B.idxOf q'))) fw = some (.lst (ys.eraseIdx (B.idxOf q'))):=Zac
   have pr2:Prs Hi (ys.eraseIdx (B.idxOf q')) (B.erase q'):=by rw [List.erase_eq_eraseIdx_of_idxOf rfl]; exact pr.del _
   have l92:(ys.eraseIdx (B.idxOf q')).length<=9:=by rw [Jdv]; split <;> omega
   generalize upd (upd Hi fw (.lst ys)) fw (.lst (ys.eraseIdx (B.idxOf q'))) = H2 at *
   generalize ys.eraseIdx (B.idxOf q') = ys2 at *
   have sB:(B.erase q').Sublist ps:=Jec.trans br.sub
   have iB:=hin.sub sB
   have s2:=si.trans u2
   subst hX1
   walk_at "wp"
   refine ⟨C,dx,_,s2 _ _ hx,T.cl_Drawing,T.nM,_,rfl,fun x' dx' hx' hdx' ndx'=>Zh8 hx' hdx' ndx' hfw2 l92 (pr2.same u2) iB n0 n8 fun H3 s3 D3=>⟨rfl,x',n,_,rfl,D3,iB,n0,n8,fun g H4 s4=>⟨true,rfl,Zi5 (by decide) ?_⟩,fun g H4 s4=>⟨false,rfl,iteP rfl ?_⟩⟩⟩
   ·have u4:=(u2.trans s3).trans s4
    exact ⟨k,ys,B,_,_,⟨rfl,rfl,rfl⟩,si.trans u4,u4 _ _ hki,pr.same u4,l9,br.keep hq (DPos.nn (Zew iB n8 g))⟩
   ·have u4:=(u2.trans s3).trans s4
    exact ⟨fw,ys2,B.erase q',_,_,⟨rfl,rfl,rfl⟩,si.trans u4,(s3.trans s4) _ _ hfw2,pr2.same u4,l92,br.less hin hq g⟩
  ·rintro σ Hi ⟨k,ys,B,v2,v3,rfl,si,hki,pr,l9,br⟩
   subst hX
   walk_at "wp"
   rw [hlen] at br
   exact ⟨C,dx,_,si _ _ hx,T.cl_Drawing,T.nM,_,rfl,fun x' dx' hx' hdx' ndx'=>Zh8 hx' hdx' ndx' hki l9 pr (hin.sub br.sub) n0 n8 fun H3 s3 D3=>⟨rfl,q x' B H3 (si.trans s3) D3 br.fin⟩⟩
end
end Pf
namespace Pf
open PySem L2 PyProof.Rows
section
variable {P:Program} {w:World} {K:PySem.W.Frag} {mg:Str->Option Value} {base:Heap} {C PL cL:Addr}
abbrev lamO:HO:=(HO.tab 99 74 ("low_row.<locals>." ++ "<lambda>"))
theorem at_int {ns:List Int} {i:Int} (h0:0<=i) (h1:i < ns.length):atI (ns.map V.int) i = some (.int (ns.getD i.toNat 0)):=by
 refine Zbx h0 ?_
 rw [Ja6,Jbc,Jab (show i.toNat < ns.length by omega)]
 rfl
def Zgb:Sp:=fun vs H Q _=>∃ (z:Addr) (ns:List Int) (k:Int),vs = [.ref z,.int k]/\H z = some (.lst (ns.map V.int))/\ns.length<=8/\0<=k/\k < ns.length/\∀ (z':Addr) (H':Hp),Same H H'->H z' = none->H' z' = some (.lst ((ns.set k.toNat (ns.getD k.toNat 0 + 1)).map V.int))->Q (.ref z') H'
theorem Zk8 {f:Addr} {fd:FuncData} (F:Fun K "raised" "raised" Zdp f fd) (T:Txt K mg C):FnOk P w K mg base CX0 1 f fd ["row","point"] Zgb:=by
 have nd:=Zg8.nd
 refine F.ok Zg8 (fun vs H Q E h=>?_) (fun cdv A outer s H vs Q E hr h=>?_)
 ·obtain ⟨z,ns,k,rfl,_⟩:=h
  rfl
 ·obtain ⟨z,ns,k,rfl,hz,h8,k0,k1,q⟩:=h
  refine ⟨_,(~~~(Zfg<|>(Zfg<|>(@Zb9 _ _ _ _ _ _ _ _ _ _ Zc1 (pv 0) Zc4 (@Zc3 _ _ _ (pv 1)))<&&>(@Zbn _ _ _ _ ((Za1<|>(Zav<|>(pv 0)<||>(pv 1))<&&>Zaa)<&>Zab)))<&&>(@Zb9 _ _ _ _ _ _ _ _ _ _ Zc1 (pv 0) (@Zc3 _ _ _ (Za1<|>(pv 1)<&&>Zaa)) Zc4))),?_⟩
  walk_at "wp"
  have hat:atI (ns.map V.int) k = some (.int (ns.getD k.toNat 0)):=at_int k0 k1
  have c1:=Zma (ns.map V.int) k k0 (by rw [Jaa]; omega)
  have c2:=Zmb (ns.map V.int) (k + 1) (by omega) (by rw [Jaa]; omega)
  refine ⟨_,SqL.of hz,fun p1 h1=>?_⟩
  rw [c1] at *
  have s1:=Same.new (o:=.lst ((ns.map V.int).take k.toNat)) h1
  refine ⟨_,SqL.of (s1 _ _ hz),_,hat,_,rfl,by decide,fun p2 h2=>?_⟩
  have s2:=Same.new (o:=.lst [V.int (ns.getD k.toNat 0 + 1)]) h2
  refine ⟨_,s2 _ _ Zac,_,Zac,Jbo (Zah (by rw [Ja8,Jaa]; show _ + 1<=1000; omega)),fun p3 h3=>?_⟩
  have s3:=Same.new (o:=.lst ((ns.map V.int).take k.toNat ++ [V.int (ns.getD k.toNat 0 + 1)])) h3
  refine ⟨_,SqL.of (s3 _ _ (s2 _ _ (s1 _ _ hz))),fun p4 h4=>?_⟩
  rw [c2] at *
  have s4:=Same.new (o:=.lst ((ns.map V.int).drop (k + 1).toNat)) h4
  refine ⟨_,s4 _ _ Zac,_,Zac,Jbo (Zah (by rw [Jak,Ja8,Jct,Jaa]; show _ + 1 + _<=1000; omega)),fun p5 h5=>?_⟩
  have s5:=Same.new (o:=.lst ((ns.map V.int).take k.toNat ++ [V.int (ns.getD k.toNat 0 + 1)] ++ (ns.map V.int).drop (k + 1).toNat)) h5
  have sA:=(((s1.trans s2).trans s3).trans s4).trans s5
  refine q p5 _ sA ((((s1.trans s2).trans s3).trans s4).free h5) ?_
  rw [Zac,List.set_eq_take_append_cons_drop,if_pos (by omega),Jav,Ja1,List.map_take,List.map_drop,Jee,show (k + 1).toNat = k.toNat + 1 by omega]
  rfl
theorem up_rs {n:Nat} {a:List Int} {i:Nat} (hl:a.length = n) (hi:i < n):∀ p ∈ Zbl n,atZ (a.set i (a.getD i 0 + 1)) p = L3.rs (atZ a) (i:Nat) p:=fun p hp=>by
 obtain ⟨h0,h1⟩:=Zas.mp hp
 have:=atZ_set (ns:=a) (k:=(i:Nat)) (i:=p) (v:=a.getD i 0 + 1) (by rw [Jal]; omega) (by omega) h0
 rw [Jal] at this
 rw [this]
 unfold L3.rs atZ
 rw [Jal]
theorem Zgg {n:Nat} {f g:Int->Int} {r:Int} (hr:r ∈ Zbl n) (h:∀ p ∈ Zbl n,f p = g p):∀ p ∈ Zbl n,L3.rs f r p = L3.rs g r p:=fun p hp=>by
 unfold L3.rs
 rw [h r hr,h p hp]
theorem pts_len (n:Nat):(Zbl n).length = n:=by unfold Zbl; simp
theorem sI_rs {n:Nat} {f:Int->Int} {r:Int} (hr:r ∈ Zbl n):L3.sI (L3.rs f r) (Zbl n) = L3.sI f (Zbl n) + 1:=by
 have:∀ p ∈ Zbl n,L3.rs f r p = f p + 1 * (if r = p then 1 else 0):=fun p _=>by
  unfold L3.rs
  by_cases z:p = r
  ·subst z; simp
  ·rw [if_neg z,if_neg (fun u=>z u.symm)]; omega
 rw [L3.Zap this,L3.Zeo,L3.Zoh (y:=fun _=>1) (Zfa n) hr]
 omega
theorem Bare.low {n:Nat} {ps B:List (Int × Int)} (b:Bare n ps B) (hin:InP (n:Nat) ps) (n8:n<=8):∃ X,L3.Low (Zbl n) B X/\L3.sI X (Zbl n)<=(32:Nat):=by
 obtain ⟨X,h1,h2⟩:=Zim (hin.sub b.sub) n8 b.bad
 refine ⟨X,h1,?_⟩
 have:=L3.Zg9 (g:=X) (h:=fun _=>4) (l:=Zbl n) fun p hp=>(h2 p hp).1
 rw [L3.Zbr,pts_len] at this
 omega
theorem row_all {n:Nat} {a:List Int} {f:Int->Int} (hl:a.length = n) (e:∀ p ∈ Zbl n,f p = atZ a p) (h0:∀ p ∈ Zbl n,0<=f p) (hs:L3.sI f (Zbl n)<=(32:Nat)):∀ v ∈ a,0<=v/\v<=32:=fun v hv=>by
 obtain ⟨i,hi,rfl⟩:=Jbw.mp hv
 have hp:((i:Nat):Int) ∈ Zbl n:=Zas.mpr ⟨by omega,by omega⟩
 have e1:=e _ hp
 have:atZ a (i:Nat) = a[i]:=by unfold atZ; rw [Jal]; simp [hi]
 rw [this] at e1
 rw [<- e1]
 have:=L3.Zd1 hp h0
 exact ⟨h0 _ hp,by omega⟩
theorem Ze0 {a:List Int} (h:∀ v ∈ a,0<=v/\v<=32):∀ v ∈ a,Big v:=fun v hv=>by
 have:=h v hv
 unfold Big
 omega
theorem low_up {n:Nat} {ps B:List (Int × Int)} {a:List Int} (b:Bare n ps B) (hin:InP (n:Nat) ps) (hl:a.length = n) (h0:∀ v ∈ a,0<=v/\v<=32) (h:Zdc B a a<=0):Zdc ps a a<=0:=by
 rw [Zeg hl] at *
 have ip:=Zef hin
 have nn:∀ p ∈ Zbl n,0<=atZ a p:=fun p hp=>by
  obtain ⟨h1,h2⟩:=Zas.mp hp
  exact (h0 _ (Zin (ns:=a) (i:=p) (by omega))).1
 have:=L3.Zfy (g:=fun e:L3.Ed=>atZ a e.1 * atZ a e.2) b.sub fun e he=>Jcj (nn _ (ip e he).1) (nn _ (ip e he).2)
 unfold L3.qf at *
 omega
def spLow (C PL:Addr):Sp:=fun vs H Q _=>∃ (x:Addr) (n:Nat) (ps:List (Int × Int)),vs = [.ref x]/\Drw C H x (n:Nat) ps/\InP (n:Nat) ps/\1<=n/\n<=8/\H PL = some lamO /\
 (Zhv n ps->∀ H',Same H H'->Q .non H')/\(Zjz n ps->∀ (r:Addr) (a:List Int) (H':Hp),Same H H'->H r = none->H' r = some (.lst (a.map V.int))->a.length = n->(∀ v ∈ a,0<=v/\v<=32)->(∃ v ∈ a,v ≠ 0)->Zdc ps a a<=0->Q (.ref r) H')
theorem ok_low {f:Addr} {fd:FuncData} (F:FunC K "low_row" "low_row" Zch f fd cL) (T:Txt K mg C) (hcb:PySem.W.CodeHd base cL PL) (C_is_good:Cal P w K mg base "is_good" 5 (Zg6 C)) (C_barely_not_good:Cal P w K mg base "barely_not_good" 6 (Zkd C)) (C_raised:Cal P w K mg base "raised" 1 Zgb) (C_worth:Cal P w K mg base "worth" 2 (Zez C)):FnOk P w K mg base CX0 7 f fd ["drawing"] (spLow C PL):=by
 have nd:=Zfr.nd
 refine F.ok Zfr (fun vs H Q E h=>?_) (fun A outer s H vs Q E hr h=>?_)
 ·obtain ⟨x,n,ps,rfl,_⟩:=h
  rfl
 ·obtain ⟨x,n,ps,rfl,dw,hin,n0,n8,hP,q0,q1⟩:=h
  have hdep:(A.deeper (envOfC "low_row" (Zad Zch) s.heap.objs.size f (.ref cL))).depth < recursionLimit:=by have:=hr.dp; omega
  refine ⟨_,((@Zbj _ _ _ _ _ _ _ _ (Zeq (Zb2 C_is_good hr.m rfl ((pv 0)<&>Zab))) (~~~Zhb) Zan)<*>((Zam (i:=1) nd rfl (Or.inr rfl) (Zb2 C_barely_not_good hr.m rfl ((pv 0)<&>Zab)))<*>((Zam (i:=2) nd rfl (Or.inr rfl) (Zb2 C_raised hr.m rfl ((op_rep<|>(@Zbn _ _ _ _ (Zaa<&>Zab))<&&>(Zdb (pv 1) rfl))<&>((Zoo<|>(Zav<|>(Zdb (pv 1) rfl)<||>Zaa)<||>Zaa)<&>Zab))))<*>((Zgl Jbd (Zai Zgp (Zb2 C_worth hr.m rfl ((pv 1)<&>((pv 2)<&>Zab))) Zaa (Zar _)) (@Zaq _ _ _ (Zam (i:=2) nd rfl (Or.inr rfl) (pe_min0 (x:="higher") (fr:=[("bare",1)]) rfl hdep rfl T.n_min (lam_of (by kernel_rfl)) rfl hcb rfl (fun _ _ _ _ _=>rfl) (Zbc (own:=["point"]) (fr:=[("row",2)]) rfl (Zcn (by kernel_rfl)) (Zfc rfl T.n_range ((Zdb (pv 1) rfl)<&>Zab)) (fun _ _ _ _=>⟨(@Zag _ _ 0 _ (show (["point","row"]:List Str).Nodup by decide +kernel) rfl (Or.inl rfl) (Or.inr rfl)),Zbi,(Zb2 C_raised hr.m rfl ((pv 1)<&>((pv 0)<&>Zab)))⟩)) (fun _ _ _ _ _=>(Zb2 C_worth ((hr.m.in1).deeper _) rfl ((pv 1)<&>((pv 0)<&>Zab))))))))<*>(~~~(pv 2)))))),?_⟩
  refine Zdz fun X hX=>?_
  walk_at "wp"
  refine ⟨x,n,ps,rfl,dw,hin,n0,n8,fun g H1 s1=>⟨true,rfl,iteP rfl (q0 g H1 s1)⟩,fun g H1 s1=>⟨false,rfl,Zi5 (by decide) ?_⟩⟩
  subst hX
  refine Zdz fun X hX=>?_
  walk_at "wp"
  refine ⟨x,n,ps,rfl,dw.same s1,hin,n0,n8,g,fun y B H2 s2 D2 bare=>?_⟩
  subst hX
  refine Zdz fun X hX=>?_
  walk_at "wp"
  have s12:=s1.trans s2
  have inB:=hin.sub bare.sub
  obtain ⟨a0,B',eB,J,j0,jb,js⟩:=L3.climb (Zfa n) (Zef inB) (bare.low hin n8) bare.mn
  obtain ⟨lp,xs,⟨dx,hy,hlp⟩,hl9,pr⟩:=id D2
  have q0':B[0]? = some a0:=by rw [eB]; rfl
  have i0:=inB a0 (by rw [eB]; simp)
  have l0:0 < xs.length:=by rw [pr.1,eB]; simp
  have hx0:xs[0]? = some xs[0]:=Jab l0
  obtain ⟨t0,et0,ht0⟩:=pr.2 0 _ _ hx0 q0'
  have hyD:∀ {Hc:Hp},Same H2 Hc->Drw C Hc y (n:Nat) B:=fun sc=>D2.same sc
  have ea:(n:Nat) = (n:Int):=rfl
  refine ⟨by decide,fun p hp=>⟨C,dx,_,(Same.new hp) _ _ hy,T.cl_Drawing,T.nM,_,rfl,p,(n:Nat),[V.int 0],rfl,rfl,Zac,by omega,by omega,Jbo (Zah (by rw [Jal]; show 1 * n<=1000; omega)),fun p2 hp2=>?_⟩⟩
  have u2:=(Same.new (o:=.lst [V.int 0]) hp).trans (Same.new (o:=.lst (List.replicate (Int.toNat (n:Nat)) [V.int 0]).flatten) hp2)
  have hp2':upd (upd H2 p (.lst [V.int 0])) p2 (.lst (List.replicate (Int.toNat (n:Nat)) [V.int 0]).flatten) p2 = some (.lst ((List.replicate n (0:Int)).map V.int)):=by rw [Zac,Jal,List.map_replicate]; simp
  generalize upd (upd H2 p (.lst [V.int 0])) p2 (.lst (List.replicate (Int.toNat (n:Nat)) [V.int 0]).flatten) = H3 at *
  refine ⟨C,dx,_,u2 _ _ hy,T.cl_Drawing,T.nA,_,Zck _ _,lp,rfl,xs,SqL.of (u2 _ _ hlp),xs[0],Zbx (by decide) hx0,t0,et0,_,SqT.of (u2 _ _ ht0),V.int a0.1,rfl,p2,List.replicate n 0,a0.1,rfl,hp2',by rw [Jbj]; exact n8,i0.1,by rw [Jbj]; exact i0.2.1,fun r H4 s4 fr hr4=>?_⟩
  have s24:=u2.trans s4
  have s04:=s12.trans s24
  subst hX
  refine Zdz fun X hX=>?_
  refine ⟨fun m σ Hk=>∃ (r:Addr) (a:List Int) (f:Int->Int),σ = [some (.ref x),some (.ref y),some (.ref r)]/\Same H2 Hk/\Hk r = some (.lst (a.map V.int))/\H r = none/\a.length = n/\(∀ p ∈ Zbl n,f p = atZ a p)/\J f/\(m:Int) = 33 - L3.sI f (Zbl n),⟨(33 - L3.sI (L3.rs L3.z0 a0.1) (Zbl n)).toNat,r,_,L3.rs L3.z0 a0.1,rfl,s24,hr4,s12.free (u2.free fr),?_,?_,j0,?_⟩,?_⟩
  ·rw [Jcy,Jbj]
  ·intro p' hp'
   have:=up_rs (n:=n) (a:=List.replicate n 0) (i:=a0.1.toNat) (by rw [Jbj]) (by omega) p' hp'
   rw [this,Jb4 i0.1]
   refine Zgg (Zas.mpr ⟨i0.1,i0.2.1⟩) (fun p _=>?_) p' hp'
   unfold atZ L3.z0
   rw [Jbc,Jcr]
   split <;> rfl
  ·have:=(jb _ j0).2.1
   omega
  rintro m σ Hk ⟨r,a,f',rfl,sk,hkr,fr',la,ef,jf,hm⟩
  walk_at "wp"
  have ra:=row_all la ef (jb f' jf).1 (jb f' jf).2.1
  refine ⟨y,r,(n:Nat),B,a,rfl,D2.same sk,inB,hkr,by rw [Jal]; exact la,by omega,Ze0 ra,fun H5 s5=>⟨_,rfl,Zdu (fun hc=>?_) (fun hc=>?_)⟩⟩
  ·have hc:=Jaq hc
   refine ⟨_,fun σ' H' h=>⟨m - 1,by have:=(jb f' jf).2.1; omega,h⟩,?_⟩
   simp only [tComp,Zl0,Zea,tFld,Zje,Zj5]
   have hy5:=(sk.trans s5) _ _ hy
   refine ⟨_,rfl,y,C,dx,_,_,rfl,hy5,T.cl_Drawing,T.nM,rfl,(n:Nat),rfl,by omega,by omega,fun D hD=>?_⟩
   rw [Jal]
   refine Zmg (fun _=>true) (fun i=>a.set i (a.getD i 0 + 1)) Pts.rng hD (by omega) (fun i H' Q' _ _ k=>k) (fun i H' Q' hi s' k=>?_) (fun qs H6 s6 e6 rf=>?_)
   ·refine ⟨_,rfl,_,rfl,r,a,(i:Nat),rfl,s' _ _ (s5 _ _ hkr),by omega,by omega,by omega,fun z' H'' s'' fz hz=>k z' H'' fz s'' ?_⟩
    rw [Jal] at hz
    exact hz
   rw [List.filter_eq_self.mpr (fun _ _=>rfl)] at rf
   have ql:qs.length = n:=by rw [rf.1,Jaa,Jb2]
   have s56:=s5.trans s6
   have s26:=sk.trans s56
   have at6:∀ (i:Nat) v,qs[i]? = some v->i < n/\∃ t,v = .ref t/\H5 t = none/\H6 t = some (.lst ((a.set i (a.getD i 0 + 1)).map V.int)):=fun i v hv=>by
    have hi:i < n:=by have:=(Ja0.mp hv).1; omega
    obtain ⟨t,e1,_,e2,e3⟩:=rf.2 i v _ hv (by rw [Ja6,Jab (by rw [Jb2]; exact hi),List.getElem_range]; rfl)
    exact ⟨hi,t,e1,e2,e3⟩
   have fq:∀ i,i < n->Zdc B (a.set i (a.getD i 0 + 1)) (a.set i (a.getD i 0 + 1)) = L3.qf (Zbl n) B (L3.rs f' (i:Nat)):=fun i hi=>by
    rw [Zeg (n:=n) (a:=a.set i (a.getD i 0 + 1)) (by rw [Jcy]; exact la)]
    refine L3.Zgi (Zef inB) fun p hp=>?_
    rw [up_rs la hi p hp]
    exact (Zgg (Zas.mpr ⟨by omega,by omega⟩) ef p hp).symm
   refine ⟨D,rfl,qs,SqL.of e6,(s12.trans s26) _ _ hP,fun i=>Zdc B (a.set i (a.getD i 0 + 1)) (a.set i (a.getD i 0 + 1)),fun i v H7 hv s7=>⟨_,rfl,?_⟩,fun z=>by rw [z] at ql; simp at ql; omega,fun i v H7 mn hv s7=>?_⟩
   ·obtain ⟨hi,t,rfl,ft,ht⟩:=at6 i v hv
    refine ⟨y,t,(n:Nat),B,_,rfl,D2.same (s26.trans s7),inB,s7 _ _ ht,by rw [Jcy,Jal]; exact la,by omega,fun v hv=>?_,fun H8 s8=>⟨rfl,s8⟩⟩
    rcases List.mem_or_eq_of_mem_set hv with h | h
    ·exact Ze0 ra v h
    ·have h2:=ra (a.getD i 0) (by rw [Jbc,Jab (by omega)]; exact Jb0 _)
     unfold Big
     omega
   ·obtain ⟨hi,t,rfl,ft,ht⟩:=at6 i v hv
    have hp:((i:Nat):Int) ∈ Zbl n:=Zas.mpr ⟨by omega,by omega⟩
    have hq:0 < L3.qf (Zbl n) B f':=by
     rw [L3.Zgi (Zef inB) ef,<- Zeg la]
     exact hc
    have jn:=js f' (i:Nat) jf hq hp fun r hr=>by
     obtain ⟨h0,h1⟩:=Zas.mp hr
     have:Zdc B (a.set i (a.getD i 0 + 1)) (a.set i (a.getD i 0 + 1))<=Zdc B (a.set r.toNat (a.getD r.toNat 0 + 1)) (a.set r.toNat (a.getD r.toNat 0 + 1)):=(mn.2 r.toNat (by omega)).1
     rw [fq i hi,fq r.toNat (by omega),Jb4 h0] at this
     exact this
    refine ⟨t,rfl,s26.trans s7,_,s7 _ _ ht,(s12.trans (sk.trans s5)).free ft,by rw [Jcy]; exact la,_,fun p hp'=>?_,jn,?_⟩
    ·rw [up_rs la hi p hp']
     exact Zgg hp ef p hp'
    ·have:=(jb _ jn).2.1
     rw [sI_rs hp] at *
     omega
  ·have hc:¬ 0 < Zdc B a a:=fun z=>hc (Ja3 z)
   subst hX
   obtain ⟨p',hp',hz⟩:=(jb f' jf).2.2
   have hp2:=Zas.mp hp'
   exact ⟨_,rfl,q1 g r a H5 (s12.trans (sk.trans s5)) fr' (s5 _ _ hkr) la ra ⟨atZ a p',Zin (by omega),by rw [<- ef p' hp']; exact hz⟩ (low_up bare hin la ra (by omega))⟩
def lf5 (m:Int):Nat->Int
 | 0=>m
 | k + 1=>lf5 m k / 5
def dg5 (x:Int):Int:=(x % 5 + 2) % 5 - 2
def Zgh (m:Int) (k:Nat):List Int:=(List.range k).map fun j=>dg5 (lf5 m j)
theorem Zd3 (m:Int) (k:Nat):(Zgh m k).length = k:=by unfold Zgh; simp
theorem Zkn (m:Int) (k:Nat):Zgh m (k + 1) = Zgh m k ++ [dg5 (lf5 m k)]:=by unfold Zgh; rw [Jcp,Jav]; rfl
theorem Zko {m:Int} {n k:Nat} (h:k < n):atZ (Zgh m n) (k:Nat) = dg5 (lf5 m k):=by
 unfold atZ Zgh
 rw [Jal,Jbc,Ja6,Jab (by rw [Jb2]; exact h),List.getElem_range]
 rfl
theorem Zgs (m:Int):∀ k:Nat,lf5 m (k + 1) = lf5 (m / 5) k
 | 0=>rfl
 | k + 1=>by
  show lf5 m (k + 1) / 5 = lf5 (m / 5) k / 5
  rw [Zgs m k]
theorem dg5_z {x:Int} (h:x % 5 ≠ 0):dg5 x ≠ 0:=by unfold dg5; omega
theorem dg5_le (x:Int):-2<=dg5 x/\dg5 x<=2:=by unfold dg5; omega
def p5:Nat->Int
 | 0=>1
 | k + 1=>5 * p5 k
theorem Zlg:∀ (n:Nat) (m:Int),1<=m->m < p5 n->∃ k,k < n/\dg5 (lf5 m k) ≠ 0
 | 0,m,h1,h2=>by have:p5 0 = 1:=rfl; omega
 | n + 1,m,h1,h2=>by
  have h2:m < 5 * p5 n:=h2
  by_cases h:m % 5 = 0
  ·obtain ⟨k,hk,e⟩:=Zlg n (m / 5) (by omega) (by omega)
   exact ⟨k + 1,by omega,by rw [Zgs]; exact e⟩
  ·exact ⟨0,by omega,dg5_z h⟩
theorem Zlf:∀ (n:Nat) (X:Nat->Int),(∀ k,k < n->0<=X k/\X k<=2)->∃ m,0<=m/\m < p5 n/\∀ k,k < n->dg5 (lf5 m k) = X k
 | 0,X,_=>⟨0,by decide,by decide,fun k hk=>by omega⟩
 | n + 1,X,h=>by
  obtain ⟨m,h1,h2,h3⟩:=Zlf n (fun k=>X (k + 1)) fun k hk=>h (k + 1) (by omega)
  have h0:=h 0 (by omega)
  refine ⟨5 * m + X 0,by omega,by show _ < 5 * p5 n; omega,fun k hk=>?_⟩
  match k with
  | 0=>show dg5 (5 * m + X 0) = X 0; unfold dg5; omega
  | k + 1=>
   rw [Zgs,show (5 * m + X 0) / 5 = m by omega]
   exact h3 k (by omega)
theorem Zi3:∀ k,lf5 0 k = 0
 | 0=>rfl
 | k + 1=>by show lf5 0 k / 5 = 0; rw [Zi3 k]; rfl
theorem Zl3 {n:Nat} {ps:List (Int × Int)} (hin:InP (n:Nat) ps) (n8:n<=8) (g:Zhv n ps) {m:Int} (h1:1<=m) (h2:m < p5 n):0 < Zdc ps (Zgh m n) (Zgh m n):=by
 rw [Zeg (Zd3 m n)]
 obtain ⟨k,hk,hz⟩:=Zlg n m h1 h2
 exact Zew hin n8 g _ ⟨(k:Nat),Zas.mpr ⟨by omega,by omega⟩,by rw [Zko hk]; exact hz⟩
theorem Zn9 {n:Nat} {ps:List (Int × Int)} (hin:InP (n:Nat) ps) (n6:n<=6) (g:Zjz n ps):∃ m,1<=m/\m < p5 n/\Zdc ps (Zgh m n) (Zgh m n)<=0:=by
 obtain ⟨X,⟨h0,⟨p,hp,hz⟩,hq⟩,hx⟩:=Zim hin (by omega) g
 have mp:∀ k:Nat,k < n->((k:Nat):Int) ∈ Zbl n:=fun k hk=>Zas.mpr ⟨by omega,by omega⟩
 obtain ⟨m,m0,m1,hm⟩:=Zlf n (fun k=>X (k:Nat)) fun k hk=>⟨h0 _ (mp k hk),(hx _ (mp k hk)).2 n6⟩
 have eq:∀ p ∈ Zbl n,atZ (Zgh m n) p = X p:=fun p hp=>by
  obtain ⟨a,b⟩:=Zas.mp hp
  have:=Zko (m:=m) (n:=n) (k:=p.toNat) (by omega)
  rw [Jb4 a] at this
  rw [this,hm p.toNat (by omega),Jb4 a]
 refine ⟨m,?_,m1,?_⟩
 ·refine Jag fun z=>?_
  have e0:m = 0:=by omega
  obtain ⟨a,b⟩:=Zas.mp hp
  have:=hm p.toNat (by omega)
  rw [e0,Zi3,Jb4 a] at this
  exact hz this.symm
 ·rw [Zeg (Zd3 m n),L3.Zgi (Zef hin) eq]
  exact hq
theorem Ziv (m:Int) (n:Nat):∀ v ∈ Zgh m n,Big v:=fun v hv=>by
 unfold Zgh at hv
 obtain ⟨j,_,rfl⟩:=Jao.mp hv
 have:=dg5_le (lf5 m j)
 unfold Big
 omega
def Zh5:Sp:=fun vs H Q _=>∃ (e:Addr) (n:Nat) (xs:List V) (ps:List (Int × Int)),vs = [.int (n:Nat),.ref e]/\H e = some (.lst xs)/\xs.length<=9/\Prs H xs ps/\InP (n:Nat) ps/\1<=n/\n<=4 /\
 ((Zhv n ps/\∀ H',Same H H'->Q (.bl true) H')\/(Zjz n ps/\∀ H',Same H H'->Q (.bl false) H'))
theorem Znp {f:Addr} {fd:FuncData} (F:Fun K "_law_all_above" "_law_all_above" Za6 f fd) (T:Txt K mg C) (C_law_form:Cal P w K mg base "_law_form" 1 Zit):FnOk P w K mg base CX0 2 f fd ["_law_many","_law_arrows"] Zh5:=by
 have nd:=Zc9.nd
 refine F.ok Zc9 (fun vs H Q E h=>?_) (fun cdv A outer s H vs Q E hr h=>?_)
 ·obtain ⟨e,n,xs,ps,rfl,_⟩:=h
  rfl
 ·obtain ⟨e,n,xs,ps,rfl,he,h9,hps,hin,n1,n4,q⟩:=h
  refine ⟨_,((Zcp Jbd rfl (Zjk rfl T.n_range (Zaa<&>((Zav<|>(@Zbn _ _ _ _ (Zaa<&>(Zaa<&>(Zaa<&>(Zaa<&>(Zaa<&>Zab))))))<||>(pv 0))<&>Zab))) (@Zag _ _ 2 _ nd rfl (Or.inl rfl) (Or.inl rfl)) ((Zam (i:=3) nd rfl (Or.inl rfl) (@Zbn _ _ _ _ Zab))<*>((Zam (i:=4) nd rfl (Or.inl rfl) (pv 2))<*>((Zcp Jbd rfl (Zfc rfl T.n_range ((pv 0)<&>Zab)) (@Zag _ _ 5 _ nd rfl (Or.inl rfl) (Or.inl rfl)) ((Zdh (Zfq Jbe Jbs Jbt Zbs (pv 3) ((Zcq<|>(Zdj<|>(Za1<|>(Zdj<|>(pv 4)<&&>Zaa)<&&>Zaa)<&&>Zaa)<&&>Zaa)<&>Zab)))<*>(@Zaq _ _ _ (Zam (i:=4) nd rfl (Or.inl rfl) (Zgq<|>(pv 4)<&&>Zaa)))))<*>(@Zaq _ _ _ (@Zbj _ _ _ _ _ _ _ _ (Zai Zk7 (Zb2 C_law_form hr.m rfl ((pv 1)<&>((pv 3)<&>((pv 3)<&>Zab)))) Zaa (Zar _)) (~~~Zfe) Zan))))))<*>(~~~Zfe)),?_⟩
  refine Zdz fun X hX=>?_
  have hn:n = 1\/n = 2\/n = 3\/n = 4:=by omega
  have hat:atI [V.int 1,V.int 5,V.int 25,V.int 125,V.int 625] (n:Nat) = some (V.int (p5 n))/\5<=p5 n/\p5 n<=625:=by
   rcases hn with rfl | rfl | rfl | rfl
   ·exact ⟨rfl,by decide,by decide⟩
   ·exact ⟨rfl,by decide,by decide⟩
   ·exact ⟨rfl,by decide,by decide⟩
   ·exact ⟨rfl,by decide,by decide⟩
  refine ⟨by decide,fun p hp=>⟨_,rfl,p,_,(n:Nat),V.int (p5 n),rfl,rfl,SqL.of Zac,hat.1,1,p5 n,rfl,⟨by decide,by decide,by omega,by omega⟩,Zbm (fun i σ Hi=>∃ v2 v3 v4 v5:Option V,σ = [some (.int (n:Nat)),some (.ref e),v2,v3,v4,v5]/\Same H Hi/\∀ m:Int,1<=m->m < 1 + (i:Nat)->0 < Zdc ps (Zgh m n) (Zgh m n)) ⟨none,none,none,none,rfl,Same.new hp,fun m h1 h2=>by omega⟩ ?_ ?_⟩⟩
  ·rintro i σ Hi hi ⟨v2,v3,v4,v5,rfl,si,dn⟩
   simp only [Zbd,Jau,Jcb]
   refine Zdz fun X1 hX1=>?_
   walk_at "wp"
   refine ⟨by decide,fun r hr0=>?_⟩
   have s1:=si.trans (Same.new (o:=.lst []) hr0)
   have fr:=si.free hr0
   subst hX1
   refine Zdz fun X1 hX1=>?_
   walk_at "wp"
   subst hX1
   refine Zdz fun X1 hX1=>?_
   refine ⟨_,rfl,(n:Nat),rfl,by omega,by omega,Zbm (fun k σ Hk=>∃ v5:Option V,σ = [some (.int (n:Nat)),some (.ref e),some (.int (1 + (i:Nat))),some (.ref r),some (.int (lf5 (1 + (i:Nat)) k)),v5]/\Same H Hk/\Hk r = some (.lst ((Zgh (1 + (i:Nat)) k).map V.int))) ⟨v5,rfl,s1,Zac⟩ ?_ ?_⟩
   ·rintro k σ Hk hk ⟨v5,rfl,sk,hkr⟩
    simp only [Zbd,Jau,Jcb]
    walk_at "wp"
    refine ⟨.inl ⟨rfl,_,SqL.of hkr⟩,by decide,by decide,_,hkr,Zah (by rw [Jaa,Zd3]; omega),⟨by decide,by decide⟩,_,⟨rfl,rfl⟩,sk.upd fr,?_⟩
    rw [Zac,Zkn,Jav]
    rfl
   ·rintro σ Hk ⟨v5,rfl,sk,hkr⟩
    subst hX1
    walk_at "wp"
    rw [Jal] at hkr
    refine ⟨e,r,r,(n:Nat),xs,ps,_,_,rfl,sk _ _ he,h9,hps.same sk,hin,hkr,hkr,by rw [Zd3,Jal],by rw [Zd3,Jal],by omega,Ziv _ _,Ziv _ _,_,rfl,Zdu (fun hc=>?_) (fun hc=>⟨_,_,_,_,⟨rfl,rfl,rfl,rfl⟩,sk,fun m h1 h2=>?_⟩)⟩
    ·have hc:=Jaq hc
     rcases q with ⟨g,q⟩ | ⟨g,q⟩
     ·have:=Zl3 hin (by omega) g (m:=1 + (i:Nat)) (by omega) (by omega)
      omega
     ·exact q Hk sk
    ·have hc:¬ Zdc ps (Zgh (1 + (i:Nat)) n) (Zgh (1 + (i:Nat)) n)<=0:=fun z=>hc (Ja3 z)
     by_cases z:m = 1 + (i:Nat)
     ·rw [z]; omega
     ·exact dn m h1 (by omega)
  ·rintro σ Hi ⟨v2,v3,v4,v5,rfl,si,dn⟩
   subst hX
   rcases q with ⟨g,q⟩ | ⟨g,q⟩
   ·exact q Hi si
   ·obtain ⟨m,m1,m2,hm⟩:=Zn9 hin (by omega) g
    have:=dn m m1 (by omega)
    omega
theorem Zns {H:Hp} {ns:List Int} {A:Prop} (h:A):Zg0 K H 6 (ns.map V.int) (ns.map V.int) (List.replicate ns.length true):=by
 refine ⟨rfl,by rw [Jbj,Jaa],fun j x y b e1 e2 e3=>?_⟩
 obtain ⟨u,eu,rfl⟩:=Zc6 e1
 obtain ⟨v,ev,rfl⟩:=Zc6 e2
 rw [eu] at ev
 cases ev
 rw [Jcr] at e3
 split at e3
 ·cases e3
  have:=Zgu (K:=K) (H:=H) (n:=6) (i:=u) (j:=u)
  rw [Ja3 rfl] at this
  exact this
 ·cases e3
theorem Prs.ext {l:Addr} {H H':Hp} {xs:List V} {ps:List (Int × Int)} (h:Prs H xs ps) (e:Ext l H H') (b:Bag H l):Prs H' xs ps:=
 ⟨h.1,fun i x q h1 h2=>let ⟨t,e1,e2⟩:=h.2 i x q h1 h2; ⟨t,e1,e _ _ (by obtain ⟨a,c,hb,_⟩:=b; exact Zjm e2 hb (by intro z; cases z)) e2⟩⟩
theorem Zku {l e:Addr} {H:Hp} {xs:List V} {ps:List (Int × Int)} (h:Prs H xs ps) (he:H e = some (.lst xs)) (b:Bag H l):e ≠ l:=fun z=>by
 obtain ⟨a,c,hb,_⟩:=b
 rw [z,hb] at he
 have he:Zip a c = .lst xs:=Ja4 he
 have:xs = [.int a,.int c]:=(HO.lst.inj he).symm
 subst this
 have hl:=h.1
 obtain ⟨t,e1,_⟩:=h.2 0 _ (ps[0]'(by simp at hl; omega)) rfl (Jab _)
 cases e1
theorem Drw.ext {l x:Addr} {H H':Hp} {m:Int} {ps:List (Int × Int)} (h:Drw C H x m ps) (e:Ext l H H') (b:Bag H l):Drw C H' x m ps:=by
 obtain ⟨lp,xs,⟨dx,h1,h2⟩,h3,h4⟩:=h
 have n1:x ≠ l:=by obtain ⟨ba,bb,hb,_⟩:=b; exact Zjm h1 hb (by intro z; cases z)
 exact ⟨lp,xs,⟨dx,e _ _ n1 h1,e _ _ (Zku h4 h2 b) h2⟩,h3,h4.ext e b⟩
def Zh0 (C:Addr):Sp:=fun vs H Q _=>∃ (x e l:Addr) (n:Nat) (xs:List V) (ps:List (Int × Int)),vs = [.ref x,.ref e,.ref l]/\Drw C H x (n:Nat) ps/\H e = some (.lst xs)/\xs.length<=9/\Prs H xs ps/\InP (n:Nat) ps/\1<=n/\n<=8/\Zhv n ps/\Bag H l /\
 ∀ H',Ext l H H'->Bag H' l->Q (.bl true) H'
theorem Zni {f:Addr} {fd:FuncData} (F:Fun K "_law_rows_above" "_law_rows_above" Zax f fd) (T:Txt K mg C) (C_law_row:Cal P w K mg base "_law_row" 2 spRow) (C_worth:Cal P w K mg base "worth" 2 (Zez C)) (C_law_form:Cal P w K mg base "_law_form" 1 Zit):FnOk P w K mg base CX0 3 f fd ["_law_drawing","_law_arrows","_law_bag_here"] (Zh0 C):=by
 have nd:=Zct.nd
 refine F.ok Zct (fun vs H Q E h=>?_) (fun cdv A outer s H vs Q E hr h=>?_)
 ·obtain ⟨x,e,l,n,xs,ps,rfl,_⟩:=h
  rfl
 ·obtain ⟨x,e,l,n,xs,ps,rfl,dw,he,h9,hps,hin,n1,n8,g,bg,q⟩:=h
  refine ⟨_,((Zcp Jbd rfl (Zfc rfl T.n_range (Zaa<&>Zab)) (@Zag _ _ 3 _ nd rfl (Or.inl rfl) (Or.inl rfl)) ((Zam (i:=4) nd rfl (Or.inl rfl) (Zb2 C_law_row hr.m rfl ((pv 2)<&>((Zdb (pv 0) rfl)<&>Zab))))<*>((Zam (i:=5) nd rfl (Or.inl rfl) (Zb2 C_worth hr.m rfl ((pv 0)<&>((Zgn Zb7 rfl T.n_list Jd7 ((pv 4)<&>Zab))<&>Zab))))<*>(@Zaq _ _ _ (@Zbj _ _ _ _ _ _ _ _ (PW.pt (Zjj (Zai Zk6 (pv 5) (Zb2 C_law_form hr.m rfl ((pv 1)<&>((pv 4)<&>((pv 4)<&>Zab)))) (Zar _)) (Zfz (PW.pt (Zha (Zai Zk7 (pv 5) Zaa (Zar _)) (Ze9 (Zai (op_neL (Zkp hr)) (pv 4) (Zbc (own:=["_law_number"]) (fr:=[]) rfl (Zcn (by kernel_rfl)) (Zbe (pv 4)) (fun _ _ _ _=>⟨(@Zag _ _ 0 _ (show (["_law_number"]:List Str).Nodup by decide +kernel) rfl (Or.inl rfl) (Or.inr rfl)),Zbi,Zaa⟩)) (Zar _)))))))) (~~~Zfe) Zan)))))<*>(~~~Zfe)),?_⟩
  refine Zdz fun X hX=>?_
  refine ⟨_,rfl,by decide,by decide,Zbm (fun i σ Hi=>∃ v3 v4 v5:Option V,σ = [some (.ref x),some (.ref e),some (.ref l),v3,v4,v5]/\Ext l H Hi/\Bag Hi l) ⟨none,none,none,rfl,Ext.refl _ _,bg⟩ ?_ ?_⟩
  ·rintro i σ Hi hi ⟨v3,v4,v5,rfl,ei,bi⟩
   have di:=dw.ext ei bg
   have ni:=Zku hps he bg
   have hei:=ei _ _ ni he
   have pri:=hps.ext ei bg
   simp only [Zbd,Jau,Jcb]
   refine Zdz fun X1 hX1=>?_
   walk_at "wp"
   obtain ⟨lp,ys,⟨dx,hx,hlp⟩,_,_⟩:=id di
   refine ⟨C,dx,_,hx,T.cl_Drawing,T.nM,_,rfl,l,(n:Nat),rfl,bi,by omega,by omega,fun r ns H1 e1 b1 fr hr1 ln med=>?_⟩
   rw [Jal] at ln
   have d1:=di.ext e1 bi
   have he1:=e1 _ _ (Zku pri hei bi) hei
   have pr1:=pri.ext e1 bi
   have bigN:∀ v ∈ ns,Big v:=fun v hv=>(med v hv).big
   have ei1:=ei.trans e1
   clear hx hlp
   subst hX1
   refine Zdz fun X1 hX1=>?_
   walk_at "wp"
   refine ⟨_,.inl (SqL.of hr1),fun c hc=>⟨x,c,(n:Nat),ps,ns,rfl,d1.same (Same.new hc),hin,Zac,by rw [Jal]; exact ln,by omega,bigN,fun H2 s2=>?_⟩⟩
   have s12:=(Same.new (o:=.lst (ns.map V.int)) hc).trans s2
   have he2:=s12 _ _ he1
   have pr2:=pr1.same s12
   have hr2:=s12 _ _ hr1
   have b2:=b1.same s12
   have ei2:Ext l H H2:=ei1.trans fun a o _ z=>s12 a o z
   subst hX1
   walk_at "wp"
   refine ⟨e,r,r,(n:Nat),xs,ps,ns,ns,rfl,he2,h9,pr2,hin,hr2,hr2,by rw [Jal]; exact ln,by rw [Jal]; exact ln,by omega,bigN,bigN,?_⟩
   refine ⟨rfl,Zi5 (by simp) (Zdu (fun hc'=>?_) (fun _=>⟨_,_,_,⟨rfl,rfl,rfl⟩,ei2,b2⟩))⟩
   have hc':=Jaq hc'
   have zr:∀ v ∈ ns,v = 0:=fun v hv=>Jag fun z=>by
    obtain ⟨k,hk,rfl⟩:=Jbw.mp hv
    have:=Zew hin n8 g (atZ ns) ⟨((k:Nat):Int),Zas.mpr ⟨by omega,by omega⟩,by unfold atZ; rw [Jal]; simpa [hk] using z⟩
    rw [<- Zeg ln] at this
    omega
   have ez:(ns.filter fun _=>true).map (fun _=>(0:Int)) = ns:=by
    rw [List.filter_eq_self.mpr (fun _ _=>rfl)]
    conv=>rhs; rw [<- List.map_id ns]
    exact Jcg fun v hv=>(zr v hv).symm
   refine ⟨_,rfl,r,rfl,⟨_,SqL.of hr2⟩,fun D hD=>comp_gm (fun _=>true) (fun _=>0) hr2 hD (by omega) (fun x H' Q' _ _ k=>k H' (Same.refl _)) (fun x H' Q' _ _ _ k=>k H' (Same.refl _)) fun H3 s3 e3=>?_⟩
   rw [ez] at e3
   refine ⟨D,rfl,_,SqL.of (s3 _ _ hr2),_,SqL.of e3,.inr ⟨_,Zns True.intro,Zi5 (by rw [all_rep]; decide) ⟨_,_,_,⟨rfl,rfl,rfl⟩,ei2.trans fun a o _ z=>s3 a o z,b2.same s3⟩⟩⟩
  ·rintro σ Hi ⟨v3,v4,v5,rfl,ei,bi⟩
   subst hX
   exact q Hi ei bi
theorem trB {H:Hp} {b:Bool}:TruV K (.bl b) H b:=rfl
def Zmy (K:PySem.W.Frag) (PL:Addr):Sp:=fun vs H Q _=>∃ (a:Addr) (ns:List Int),vs = [.ref a]/\SqL K H a (ns.map V.int)/\ns.length<=63/\H PL = some lamO/\∀ H',H' PL = some lamO->Q (.bl true) H'
theorem ok_law {f:Addr} {fd:FuncData} (F:Fun K "law" "law" Zgf f fd) (T:Txt K mg C) (C_law_cell:Cal P w K mg base "_law_cell" 1 (Zkc K)) (C_law_bag:Cal P w K mg base "_law_bag" 1 spBag) (C_law_draw:Cal P w K mg base "_law_draw" 1 Zdd)
  (C_law_drawn:Cal P w K mg base "_law_drawn" 4 (Zes Zms)) (C_Drawing:CalI P w K mg base "Drawing" C 4 (Zg5 C)) (C_is_good:Cal P w K mg base "is_good" 5 (Zg6 C)) (C_law_all_above:Cal P w K mg base "_law_all_above" 2 Zh5) (C_law_rows_above:Cal P w K mg base "_law_rows_above" 3 (Zh0 C)) (C_worth:Cal P w K mg base "worth" 2 (Zez C)) (C_low_row:Cal P w K mg base "low_row" 7 (spLow C PL)):
  FnOk P w K mg base CX0 8 f fd ["_law_script"] (Zmy K PL):=by
 have nd:=Zod.nd
 refine F.ok Zod (fun vs H Q E h=>?_) (fun cdv A outer s H vs Q E hr h=>?_)
 ·obtain ⟨a,ns,rfl,_⟩:=h
  rfl
 ·obtain ⟨a,ns,rfl,hS,hl,hP,q⟩:=h
  refine ⟨_,((Zcp Jbd rfl (Zfc rfl T.n_range ((Za1<|>(Zb6 (Zmn rfl) rfl T.n_min boot_min ((Zb6 Zao rfl T.n_len Jbv ((pv 0)<&>Zab))<&>(Zaa<&>Zab)))<&&>Zaa)<&>Zab)) (@Zag _ _ 1 _ nd rfl (Or.inl rfl) (Or.inl rfl)) ((Zam (i:=2) nd rfl (Or.inl rfl) (Zb2 C_law_bag hr.m rfl ((Zb2 C_law_cell hr.m rfl ((pv 0)<&>((pv 1)<&>Zab)))<&>Zab)))<*>((Zfb (Zb2 C_law_drawn hr.m rfl ((pv 2)<&>((Zb2 C_law_draw hr.m rfl ((pv 2)<&>(Zaa<&>Zab)))<&>Zab))) (@Zf0 _ _ _ _ _ 2 rfl (@Za3 _ _ _ _ _ (@Zag _ _ 3 _ nd rfl (Or.inl rfl) (Or.inl rfl)) (@Za3 _ _ _ _ _ (@Zag _ _ 4 _ nd rfl (Or.inl rfl) (Or.inl rfl)) (@Zdi _) (by rfl)) (by rfl)) (by rfl) (by rfl)))<*>((Zam (i:=5) nd rfl (Or.inl rfl) (pe_n C_Drawing hr.m rfl ((pv 3)<&>((Zgn Zb7 rfl T.n_list Jd7 ((pv 4)<&>Zab))<&>Zab))))<*>((Zam (i:=6) nd rfl (Or.inl rfl) (Zb2 C_is_good hr.m rfl ((pv 5)<&>Zab)))<*>((@Zbj _ _ _ _ _ _ _ _ (PW.pt (Zjj (Zdt (Zeq (Zb6 Zcm rfl T.n_isinstance Jde ((pv 6)<&>((Zk2 rfl T.n_bool boot_bool)<&>Zab))))) (Zfz (PW.pt (Zha (Zai Znf (pv 3) Zaa (Zar _)) (Ze9 (Zai Zk6 (pv 6) (Zb2 C_law_all_above hr.m rfl ((pv 3)<&>((pv 4)<&>Zab))) (Zar _)))))))) (~~~Zfe) Zan)<*>((@Zbj _ _ _ _ _ _ _ _ (PW.pt (Zha (Zgk (pv 6) (fun _=>rfl)) (Ze9 (Zdt (Zeq (Zb2 C_law_rows_above hr.m rfl ((pv 5)<&>((pv 4)<&>((pv 2)<&>Zab))))))))) (~~~Zfe) Zan)<*>(@Zaq _ _ _ (@Zbj _ _ _ _ _ _ _ _ (PW.pt (Zha (Zdt (Zgk (pv 6) (fun _=>rfl))) (Ze9 (Zai Zgp (Zb2 C_worth hr.m rfl ((pv 5)<&>((Zb2 C_low_row hr.m rfl ((pv 5)<&>Zab))<&>Zab))) Zaa (Zar _))))) (~~~Zfe) Zan)))))))))<*>(~~~Zfe)),?_⟩
  refine ⟨_,rfl,a,_,rfl,.inl hS,_,_,rfl,_,_,rfl,rfl,_,rfl,?_,?_,Zbm (fun i σ H2=>∃ v1 v2 v3 v4 v5 v6:Option V,σ = [some (.ref a),v1,v2,v3,v4,v5,v6]/\Same H H2) ⟨none,none,none,none,none,none,rfl,Same.refl H⟩ ?_ ?_⟩
  ·split <;> omega
  ·split <;> omega
  ·rintro i σ H2 hi ⟨v1,v2,v3,v4,v5,v6,rfl,s2⟩
   refine Zdz fun X hX=>?_
   walk_at "wp"
   refine ⟨a,ns,0 + i,rfl,s2.seq hS,hl,by omega,fun c=>⟨c,rfl,fun l xa xb hl0 xb0 xb1=>?_⟩⟩
   have b3:Bag (upd H2 l (Zip xa xb)) l:=Bag.set xb0 xb1
   have s3:Same H (upd H2 l (Zip xa xb)):=s2.trans (Same.new hl0)
   have fl:H l = none:=s2.free hl0
   subst hX
   refine Zdz fun X hX=>?_
   walk_at "wp"
   refine b3.draw (n:=8) (by decide) (by decide) fun r H4 r0 r1 e4 b4=>?_
   refine ⟨l,_,rfl,⟨r,rfl⟩,b4,fun p e m xs H5 O=>⟨p,rfl,_,SqT.of O.tup,rfl,_,_,rfl,_,_,rfl,rfl,?_⟩⟩
   have s5:Same H H5:=Same.thru (Same.thru s3 fl e4) fl O.ext
   have m0:=O.lo
   have m8:=O.hi
   have hl9:=O.len
   obtain ⟨ps,hps,hin⟩:=Zkt O.ed
   obtain ⟨n,rfl⟩:∃ n:Nat,m = n:=⟨m.toNat,by omega⟩
   have hn8:n<=8:=by omega
   have hOl:=O.lst
   have b5:Bag H5 l:=O.bag
   clear O s2 s3 b3 b4 e4
   subst hX
   refine Zdz fun X hX=>?_
   walk_at "wp"
   refine ⟨xs,.inl (SqL.of hOl),fun lc hlc x dx hx hdx ndx=>Zh8 hx hdx ndx Zac hl9 (hps.same (Same.new hlc)) hin (by omega) hn8 fun H8 s8 D8=>⟨rfl,?_⟩⟩
   have s58:Same H5 H8:=(Same.new hlc).trans s8
   have sH8:=s5.trans s58
   have b8:=b5.same s58
   have he8:=s58 _ _ hOl
   have pr8:=hps.same s58
   clear hlc hdx ndx hx s8
   subst hX
   refine Zdz fun X hX=>?_
   walk_at "wp"
   have two:∀ (bo:Bool) (H9:Hp),Same H8 H9->((bo = true/\Zhv n ps)\/(bo = false/\Zjz n ps))->X { nx:=fun σ H2=>∃ v1 v2 v3 v4 v5 v6,σ = [some (V.ref a),v1,v2,v3,v4,v5,v6]/\Same H H2,rt:=Q,bk:=tRet (tC (V.bl true)) { nx:=fun x H'=>Q V.non H',rt:=Q },ct:=fun σ H2=>∃ v1 v2 v3 v4 v5 v6,σ = [some (V.ref a),v1,v2,v3,v4,v5,v6]/\Same H H2 } [some (V.ref a),some (V.int (0 + (i:Nat))),some (V.ref l),some (V.int (n:Nat)),some (V.ref e),some (V.ref x),some (V.bl bo)] H9:=by
    intro bo H9 s9 hb
    have he9:=s9 _ _ he8
    have pr9:=pr8.same s9
    subst hX
    refine Zdz fun X hX=>?_
    walk_at "wp"
    have three:∀ (H10:Hp),Same H8 H10->X { nx:=fun σ H2=>∃ v1 v2 v3 v4 v5 v6,σ = [some (V.ref a),v1,v2,v3,v4,v5,v6]/\Same H H2,rt:=Q,bk:=tRet (tC (V.bl true)) { nx:=fun x H'=>Q V.non H',rt:=Q },ct:=fun σ H2=>∃ v1 v2 v3 v4 v5 v6,σ = [some (V.ref a),v1,v2,v3,v4,v5,v6]/\Same H H2 } [some (V.ref a),some (V.int (0 + (i:Nat))),some (V.ref l),some (V.int (n:Nat)),some (V.ref e),some (V.ref x),some (V.bl bo)] H10:=by
     intro H10 s10
     have D10:=D8.same s10
     have b10:=b8.same s10
     have sH10:=sH8.trans s10
     subst hX
     refine Zdz fun X hX=>?_
     walk_at "wp"
     rcases hb with ⟨rfl,g⟩ | ⟨rfl,g⟩
     ·refine ⟨true,trB,iteP rfl ⟨x,e,l,n,xs,ps,rfl,D10,s10 _ _ he8,hl9,pr8.same s10,hin,by omega,hn8,g,b10,fun H11 e11 b11=>⟨true,rfl,Zi5 (by decide) ?_⟩⟩⟩
      have sH11:=Same.thru sH10 fl e11
      subst hX
      walk_at "wp"
      exact ⟨true,trB,Zi5 (by decide) ⟨_,_,_,_,_,_,⟨rfl,rfl,rfl,rfl,rfl,rfl⟩,sH11⟩⟩
     ·refine ⟨false,trB,Zi5 (by decide) ?_⟩
      subst hX
      walk_at "wp"
      refine ⟨false,trB,iteP rfl ⟨x,n,ps,rfl,D10,hin,by omega,hn8,sH10 _ _ hP,fun g'=>(Znq hin hn8 g (DPos.nn (Zew hin hn8 g'))).elim,fun _ r b H11 s11 fr hr11 lb rb nz lo=>?_⟩⟩
      have hlo:¬ 0 < Zdc ps b b:=by omega
      exact ⟨x,r,(n:Nat),ps,b,rfl,D10.same s11,hin,hr11,by rw [Jal]; exact lb,by omega,Ze0 rb,fun H12 s12=>⟨_,rfl,Zi5 (fun z=>hlo (Jaq z)) ⟨_,_,_,_,_,_,⟨rfl,rfl,rfl,rfl,rfl,rfl⟩,(sH10.trans s11).trans s12⟩⟩⟩
    refine ⟨_,_,⟨rfl,rfl⟩,_,rfl,_,.bl bo,_,Zid K,Zi5 (by decide) (Zdu (fun h5=>?_) (fun _=>three H9 s9))⟩
    have h5:=Jaq h5
    refine ⟨e,n,xs,ps,rfl,he9,hl9,pr9,hin,by omega,by omega,?_⟩
    rcases hb with ⟨rfl,g⟩ | ⟨rfl,g⟩
    ·exact .inl ⟨g,fun H10 s10=>⟨rfl,Zi5 (by simp) (three H10 (s9.trans s10))⟩⟩
    ·exact .inr ⟨g,fun H10 s10=>⟨rfl,Zi5 (by simp) (three H10 (s9.trans s10))⟩⟩
   exact ⟨x,n,ps,rfl,D8,hin,by omega,hn8,fun g H9 s9=>two true H9 s9 (.inl ⟨rfl,g⟩),fun g H9 s9=>two false H9 s9 (.inr ⟨rfl,g⟩)⟩
  ·rintro σ H2 ⟨v1,v2,v3,v4,v5,v6,rfl,s2⟩
   exact q H2 (s2 _ _ hP)
end
end Pf
set_option maxHeartbeats 4000000
namespace Pf
open PySem L2 PyProof.Rows
open PySem.W (nsIn codeIn keepIn fnOf findIn isFn mg_of mg_none_of plainGet hasDictIn plainOver makesIn)
theorem ex1 {us:List Value} (hl:us.length = 1):∃ a0,us = [a0]:=match us,hl with | [a0],_=>⟨a0,rfl⟩
theorem ex2 {us:List Value} (hl:us.length = 2):∃ a0 a1,us = [a0,a1]:=match us,hl with | [a0,a1],_=>⟨a0,a1,rfl⟩
theorem ex3 {us:List Value} (hl:us.length = 3):∃ a0 a1 a2,us = [a0,a1,a2]:=match us,hl with | [a0,a1,a2],_=>⟨a0,a1,a2,rfl⟩
theorem all_mk {l:PySem.W.OpenLaw} {w:World} {K:PySem.W.Frag} {h:Heap} {mg:Str->Option Value} {fa C:Addr} {t1 t2:Tok} (hpt:l.prog.given.tree = none) {cL PL:Addr} (X:K.In h) (G:h.Ns mainGlobals mg) (hfa:mg "law" = some (.ref fa))
  {f1 f2 f3 f4 f5 f6 f7 f8 f9 f10 f11 f12 f13 f14 f15 f16 f17 f18 f19 f20 f21 f22 f23 f24 f25 f26 f27 f28 f29:Addr} {od1 an1 od2 an2 od3 an3 od4 an4 od5 an5 od6 an6 od7 an7 od8 an8 od9 an9 od10 an10 od11 an11 od12 an12 od13 an13 od14 an14 od15 an15 od16 an16 od17 an17 od18 an18 od19 an19 od20 an20 od21 an21 od22 an22 od23 an23 od24 an24 od25 an25 od26 an26 od27 an27 od28 an28 od29 an29:Option Addr} {sl1 sl2 sl3 sl4 sl5 sl6 sl7 sl8 sl9 sl10 sl11 sl12 sl13 sl14 sl15 sl16 sl17 sl18 sl19 sl20 sl21 sl22 sl23 sl24 sl25 sl26 sl27 sl28 sl29:Array (Option Value)} {oc1 kV1 dc1 pm1 ct1 cd1 oc2 kV2 dc2 pm2 ct2 cd2 oc3 kV3 dc3 pm3 ct3 cd3 oc4 kV4 dc4 pm4 ct4 cd4 oc5 kV5 dc5 pm5 ct5 cd5 oc6 kV6 dc6 pm6 ct6 cd6 oc7 kV7 dc7 pm7 ct7 cd7 oc8 kV8 dc8 pm8 ct8 cd8 oc9 kV9 dc9 pm9 ct9 cd9 oc10 kV10 dc10 pm10 ct10 cd10 oc11 kV11 dc11 pm11 ct11 cd11 oc12 kV12 dc12 pm12 ct12 cd12 oc13 kV13 dc13 pm13 ct13 cd13 oc14 kV14 dc14 pm14 ct14 cd14 oc15 kV15 dc15 pm15 ct15 cd15 oc16 kV16 dc16 pm16 ct16 cd16 oc17 kV17 dc17 pm17 ct17 cd17 oc18 kV18 dc18 pm18 ct18 cd18 oc19 kV19 dc19 pm19 ct19 cd19 oc20 kV20 dc20 pm20 ct20 cd20 oc21 kV21 dc21 pm21 ct21 oc22 kV22 dc22 pm22 ct22 cd22 oc23 kV23 dc23 pm23 ct23 cd23 oc24 kV24 dc24 pm24 ct24 cd24 oc25 kV25 dc25 pm25 ct25 cd25 oc26 kV26 dc26 pm26 ct26 cd26 oc27 kV27 dc27 pm27 ct27 cd27 oc28 kV28 dc28 pm28 ct28 cd28 oc29 kV29 dc29 pm29 ct29 cd29:Value}
  (a1:nsIn K mainGlobals "is_whole" = some (some (.ref f1)))
  (l1:K.lookup f1 = some ⟨oc1,od1,.func (fnOf "is_whole" "is_whole" (Zal Zce) (Zaj Zce) (Zad Zce) .none kV1 dc1 pm1 an1 cd1 ct1),sl1⟩)
  (c1:codeIn K cd1 "is_whole" = true)
  (k1:keepIn K (.ref f1) = true)
  (a2:nsIn K mainGlobals "makes_drawing" = some (some (.ref f2)))
  (l2:K.lookup f2 = some ⟨oc2,od2,.func (fnOf "makes_drawing" "makes_drawing" (Zal Za4) (Zaj Za4) (Zad Za4) .none kV2 dc2 pm2 an2 cd2 ct2),sl2⟩)
  (c2:codeIn K cd2 "makes_drawing" = true)
  (k2:keepIn K (.ref f2) = true)
  (a3:nsIn K mainGlobals "is_arrow" = some (some (.ref f3)))
  (l3:K.lookup f3 = some ⟨oc3,od3,.func (fnOf "is_arrow" "is_arrow" (Zal Zcf) (Zaj Zcf) (Zad Zcf) .none kV3 dc3 pm3 an3 cd3 ct3),sl3⟩)
  (c3:codeIn K cd3 "is_arrow" = true)
  (k3:keepIn K (.ref f3) = true)
  (a4:nsIn K mainGlobals "_law_cell" = some (some (.ref f4)))
  (l4:K.lookup f4 = some ⟨oc4,od4,.func (fnOf "_law_cell" "_law_cell" (Zal Zcd) (Zaj Zcd) (Zad Zcd) .none kV4 dc4 pm4 an4 cd4 ct4),sl4⟩)
  (c4:codeIn K cd4 "_law_cell" = true)
  (k4:keepIn K (.ref f4) = true)
  (a5:nsIn K mainGlobals "_law_bag" = some (some (.ref f5)))
  (l5:K.lookup f5 = some ⟨oc5,od5,.func (fnOf "_law_bag" "_law_bag" (Zal Zcx) (Zaj Zcx) (Zad Zcx) .none kV5 dc5 pm5 an5 cd5 ct5),sl5⟩)
  (c5:codeIn K cd5 "_law_bag" = true)
  (k5:keepIn K (.ref f5) = true)
  (a6:nsIn K mainGlobals "_law_draw" = some (some (.ref f6)))
  (l6:K.lookup f6 = some ⟨oc6,od6,.func (fnOf "_law_draw" "_law_draw" (Zal Zcc) (Zaj Zcc) (Zad Zcc) .none kV6 dc6 pm6 an6 cd6 ct6),sl6⟩)
  (c6:codeIn K cd6 "_law_draw" = true)
  (k6:keepIn K (.ref f6) = true)
  (a7:nsIn K mainGlobals "_law_order" = some (some (.ref f7)))
  (l7:K.lookup f7 = some ⟨oc7,od7,.func (fnOf "_law_order" "_law_order" (Zal Zbz) (Zaj Zbz) (Zad Zbz) .none kV7 dc7 pm7 an7 cd7 ct7),sl7⟩)
  (c7:codeIn K cd7 "_law_order" = true)
  (k7:keepIn K (.ref f7) = true)
  (a8:nsIn K mainGlobals "_law_rest_edges" = some (some (.ref f8)))
  (l8:K.lookup f8 = some ⟨oc8,od8,.func (fnOf "_law_rest_edges" "_law_rest_edges" (Zal Zay) (Zaj Zay) (Zad Zay) .none kV8 dc8 pm8 an8 cd8 ct8),sl8⟩)
  (c8:codeIn K cd8 "_law_rest_edges" = true)
  (k8:keepIn K (.ref f8) = true)
  (a9:nsIn K mainGlobals "_law_bad_edges" = some (some (.ref f9)))
  (l9:K.lookup f9 = some ⟨oc9,od9,.func (fnOf "_law_bad_edges" "_law_bad_edges" (Zal Za5) (Zaj Za5) (Zad Za5) .none kV9 dc9 pm9 an9 cd9 ct9),sl9⟩)
  (c9:codeIn K cd9 "_law_bad_edges" = true)
  (k9:keepIn K (.ref f9) = true)
  (a10:nsIn K mainGlobals "_law_edges" = some (some (.ref f10)))
  (l10:K.lookup f10 = some ⟨oc10,od10,.func (fnOf "_law_edges" "_law_edges" (Zal Zb0) (Zaj Zb0) (Zad Zb0) .none kV10 dc10 pm10 an10 cd10 ct10),sl10⟩)
  (c10:codeIn K cd10 "_law_edges" = true)
  (k10:keepIn K (.ref f10) = true)
  (a11:nsIn K mainGlobals "_law_drawn" = some (some (.ref f11)))
  (l11:K.lookup f11 = some ⟨oc11,od11,.func (fnOf "_law_drawn" "_law_drawn" (Zal Zb1) (Zaj Zb1) (Zad Zb1) .none kV11 dc11 pm11 an11 cd11 ct11),sl11⟩)
  (c11:codeIn K cd11 "_law_drawn" = true)
  (k11:keepIn K (.ref f11) = true)
  (a12:nsIn K mainGlobals "hanging" = some (some (.ref f12)))
  (l12:K.lookup f12 = some ⟨oc12,od12,.func (fnOf "hanging" "hanging" (Zal Zc0) (Zaj Zc0) (Zad Zc0) .none kV12 dc12 pm12 an12 cd12 ct12),sl12⟩)
  (c12:codeIn K cd12 "hanging" = true)
  (k12:keepIn K (.ref f12) = true)
  (a13:nsIn K mainGlobals "kind_of" = some (some (.ref f13)))
  (l13:K.lookup f13 = some ⟨oc13,od13,.func (fnOf "kind_of" "kind_of" (Zal Zcy) (Zaj Zcy) (Zad Zcy) .none kV13 dc13 pm13 an13 cd13 ct13),sl13⟩)
  (c13:codeIn K cd13 "kind_of" = true)
  (k13:keepIn K (.ref f13) = true)
  (a14:nsIn K mainGlobals "arms" = some (some (.ref f14)))
  (l14:K.lookup f14 = some ⟨oc14,od14,.func (fnOf "arms" "arms" (Zal Zfx) (Zaj Zfx) (Zad Zfx) .none kV14 dc14 pm14 an14 cd14 ct14),sl14⟩)
  (c14:codeIn K cd14 "arms" = true)
  (k14:keepIn K (.ref f14) = true)
  (a15:nsIn K mainGlobals "forked_kind" = some (some (.ref f15)))
  (l15:K.lookup f15 = some ⟨oc15,od15,.func (fnOf "forked_kind" "forked_kind" (Zal Zbf) (Zaj Zbf) (Zad Zbf) .none kV15 dc15 pm15 an15 cd15 ct15),sl15⟩)
  (c15:codeIn K cd15 "forked_kind" = true)
  (k15:keepIn K (.ref f15) = true)
  (a16:nsIn K mainGlobals "two_sided" = some (some (.ref f16)))
  (l16:K.lookup f16 = some ⟨oc16,od16,.func (fnOf "two_sided" "two_sided" (Zal Zby) (Zaj Zby) (Zad Zby) .none kV16 dc16 pm16 an16 cd16 ct16),sl16⟩)
  (c16:codeIn K cd16 "two_sided" = true)
  (k16:keepIn K (.ref f16) = true)
  (a17:nsIn K mainGlobals "worth" = some (some (.ref f17)))
  (l17:K.lookup f17 = some ⟨oc17,od17,.func (fnOf "worth" "worth" (Zal Zeb) (Zaj Zeb) (Zad Zeb) .none kV17 dc17 pm17 an17 cd17 ct17),sl17⟩)
  (c17:codeIn K cd17 "worth" = true)
  (k17:keepIn K (.ref f17) = true)
  (a18:nsIn K mainGlobals "is_good" = some (some (.ref f18)))
  (l18:K.lookup f18 = some ⟨oc18,od18,.func (fnOf "is_good" "is_good" (Zal Zcz) (Zaj Zcz) (Zad Zcz) .none kV18 dc18 pm18 an18 cd18 ct18),sl18⟩)
  (c18:codeIn K cd18 "is_good" = true)
  (k18:keepIn K (.ref f18) = true)
  (a19:nsIn K mainGlobals "barely_not_good" = some (some (.ref f19)))
  (l19:K.lookup f19 = some ⟨oc19,od19,.func (fnOf "barely_not_good" "barely_not_good" (Zal Zau) (Zaj Zau) (Zad Zau) .none kV19 dc19 pm19 an19 cd19 ct19),sl19⟩)
  (c19:codeIn K cd19 "barely_not_good" = true)
  (k19:keepIn K (.ref f19) = true)
  (a20:nsIn K mainGlobals "raised" = some (some (.ref f20)))
  (l20:K.lookup f20 = some ⟨oc20,od20,.func (fnOf "raised" "raised" (Zal Zdp) (Zaj Zdp) (Zad Zdp) .none kV20 dc20 pm20 an20 cd20 ct20),sl20⟩)
  (c20:codeIn K cd20 "raised" = true)
  (k20:keepIn K (.ref f20) = true)
  (a21:nsIn K mainGlobals "low_row" = some (some (.ref f21)))
  (l21:K.lookup f21 = some ⟨oc21,od21,.func (fnOf "low_row" "low_row" (Zal Zch) (Zaj Zch) (Zad Zch) .none kV21 dc21 pm21 an21 (.ref cL) ct21),sl21⟩)
  (c21:codeIn K (.ref cL) "low_row" = true)
  (k21:keepIn K (.ref f21) = true)
  (a22:nsIn K mainGlobals "_law_form" = some (some (.ref f22)))
  (l22:K.lookup f22 = some ⟨oc22,od22,.func (fnOf "_law_form" "_law_form" (Zal Zcb) (Zaj Zcb) (Zad Zcb) .none kV22 dc22 pm22 an22 cd22 ct22),sl22⟩)
  (c22:codeIn K cd22 "_law_form" = true)
  (k22:keepIn K (.ref f22) = true)
  (a23:nsIn K mainGlobals "_law_row" = some (some (.ref f23)))
  (l23:K.lookup f23 = some ⟨oc23,od23,.func (fnOf "_law_row" "_law_row" (Zal Zcw) (Zaj Zcw) (Zad Zcw) .none kV23 dc23 pm23 an23 cd23 ct23),sl23⟩)
  (c23:codeIn K cd23 "_law_row" = true)
  (k23:keepIn K (.ref f23) = true)
  (a24:nsIn K mainGlobals "_law_all_above" = some (some (.ref f24)))
  (l24:K.lookup f24 = some ⟨oc24,od24,.func (fnOf "_law_all_above" "_law_all_above" (Zal Za6) (Zaj Za6) (Zad Za6) .none kV24 dc24 pm24 an24 cd24 ct24),sl24⟩)
  (c24:codeIn K cd24 "_law_all_above" = true)
  (k24:keepIn K (.ref f24) = true)
  (a25:nsIn K mainGlobals "_law_rows_above" = some (some (.ref f25)))
  (l25:K.lookup f25 = some ⟨oc25,od25,.func (fnOf "_law_rows_above" "_law_rows_above" (Zal Zax) (Zaj Zax) (Zad Zax) .none kV25 dc25 pm25 an25 cd25 ct25),sl25⟩)
  (c25:codeIn K cd25 "_law_rows_above" = true)
  (k25:keepIn K (.ref f25) = true)
  (a26:nsIn K mainGlobals "law" = some (some (.ref f26)))
  (l26:K.lookup f26 = some ⟨oc26,od26,.func (fnOf "law" "law" (Zal Zgf) (Zaj Zgf) (Zad Zgf) .none kV26 dc26 pm26 an26 cd26 ct26),sl26⟩)
  (c26:codeIn K cd26 "law" = true)
  (k26:keepIn K (.ref f26) = true)
  (aC:nsIn K mainGlobals "Drawing" = some (some (.ref C)))
  (a27:findIn K (.ref C) "__init__" = some (some (.ref f27)))
  (i27:isFn K (.ref f27) = true)
  (l27:K.lookup f27 = some ⟨oc27,od27,.func (fnOf "__init__" "Drawing.__init__" (Zal Zbb) (Zaj Zbb) (Zad Zbb) .none kV27 dc27 pm27 an27 cd27 ct27),sl27⟩)
  (c27:codeIn K cd27 "Drawing.__init__" = true)
  (k27:keepIn K (.ref f27) = true)
  (a28:findIn K (.ref C) "pieces" = some (some (.ref f28)))
  (i28:isFn K (.ref f28) = true)
  (l28:K.lookup f28 = some ⟨oc28,od28,.func (fnOf "pieces" "Drawing.pieces" (Zal Zaz) (Zaj Zaz) (Zad Zaz) .none kV28 dc28 pm28 an28 cd28 ct28),sl28⟩)
  (c28:codeIn K cd28 "Drawing.pieces" = true)
  (k28:keepIn K (.ref f28) = true)
  (a29:findIn K (.ref C) "kinds" = some (some (.ref f29)))
  (i29:isFn K (.ref f29) = true)
  (l29:K.lookup f29 = some ⟨oc29,od29,.func (fnOf "kinds" "Drawing.kinds" (Zal Za7) (Zaj Za7) (Zad Za7) .none kV29 dc29 pm29 an29 cd29 ct29),sl29⟩)
  (c29:codeIn K cd29 "Drawing.kinds" = true)
  (k29:keepIn K (.ref f29) = true)
  (pg:plainGet K C Str.empty = true)
  (hd:hasDictIn K C = true)
  (po:plainOver K C = true)
  (sa:findIn K (.ref C) "__setattr__" = some (some (.builtin "object.__setattr__")))
  (mk:makesIn K C = true)
  (kc:keepIn K (.ref C) = true)
  (nM:findIn K (.ref C) "many" = some none)
  (nA:findIn K (.ref C) "arrows" = some none)
  (g1:nsIn K mainGlobals "MOST_POINTS" = some (some (.int 8 t1)))
  (g2:nsIn K mainGlobals "MOST_ARROWS" = some (some (.int 9 t2)))
  (z0:nsIn K mainGlobals "len" = some none)
  (z1:nsIn K mainGlobals "range" = some none)
  (z2:nsIn K mainGlobals "list" = some none)
  (z3:nsIn K mainGlobals "min" = some none)
  (z4:nsIn K mainGlobals "int" = some none)
  (z5:nsIn K mainGlobals "bool" = some none)
  (z6:nsIn K mainGlobals "tuple" = some none)
  (z7:nsIn K mainGlobals "all" = some none)
  (z8:nsIn K mainGlobals "isinstance" = some none)
  (z9:nsIn K mainGlobals "sorted" = some none)
  (z10:nsIn K mainGlobals "sum" = some none)
  (z11:nsIn K mainGlobals "zip" = some none)
  (z12:nsIn K mainGlobals "max" = some none)
  (hcL:hdIn K cL PL = true):
  ∃ fd:FuncData,(∀ (s:Shared) (v:Value),BindsTo s fd ⟨[v],[]⟩ [("_law_script",v)])/\∀ base:Heap,K.In base->base.Ns mainGlobals mg->FnOk l.prog w K mg base CX0 8 fa fd ["_law_script"] (Zmy K PL):=by
 have e:=hfa.symm.trans (mg_of X G a26)
 cases e
 have T:Txt K mg C:=⟨⟨pg,hd,po,sa⟩,nM,nA,mg_none_of X G z0,mg_none_of X G z1,mg_none_of X G z2,mg_none_of X G z3,mg_none_of X G z4,mg_none_of X G z5,mg_none_of X G z6,mg_none_of X G z7,mg_none_of X G z8,mg_none_of X G z9,mg_none_of X G z10,mg_none_of X G z11,mg_none_of X G z12,⟨t1,mg_of X G g1⟩,⟨t2,mg_of X G g2⟩⟩
 have F1:=Za2 (st:=Zce) l1 c1 k1
 have b1:=F1.binds (ps:=["thing"]) fun _ _ _ _ _ _ us hl=>by obtain ⟨_,rfl⟩:=ex1 hl; rfl
 have F2:=Za2 (st:=Za4) l2 c2 k2
 have b2:=F2.binds (ps:=["many","arrows"]) fun _ _ _ _ _ _ us hl=>by obtain ⟨_,_,rfl⟩:=ex2 hl; rfl
 have F3:=Za2 (st:=Zcf) l3 c3 k3
 have b3:=F3.binds (ps:=["many","thing"]) fun _ _ _ _ _ _ us hl=>by obtain ⟨_,_,rfl⟩:=ex2 hl; rfl
 have F4:=Za2 (st:=Zcd) l4 c4 k4
 have b4:=F4.binds (ps:=["_law_script","_law_k"]) fun _ _ _ _ _ _ us hl=>by obtain ⟨_,_,rfl⟩:=ex2 hl; rfl
 have F5:=Za2 (st:=Zcx) l5 c5 k5
 have b5:=F5.binds (ps:=["_law_cell_here"]) fun _ _ _ _ _ _ us hl=>by obtain ⟨_,rfl⟩:=ex1 hl; rfl
 have F6:=Za2 (st:=Zcc) l6 c6 k6
 have b6:=F6.binds (ps:=["_law_bag_here","_law_many"]) fun _ _ _ _ _ _ us hl=>by obtain ⟨_,_,rfl⟩:=ex2 hl; rfl
 have F7:=Za2 (st:=Zbz) l7 c7 k7
 have b7:=F7.binds (ps:=["_law_bag_here","_law_many"]) fun _ _ _ _ _ _ us hl=>by obtain ⟨_,_,rfl⟩:=ex2 hl; rfl
 have F8:=Za2 (st:=Zay) l8 c8 k8
 have b8:=F8.binds (ps:=["_law_bag_here","_law_way"]) fun _ _ _ _ _ _ us hl=>by obtain ⟨_,_,rfl⟩:=ex2 hl; rfl
 have F9:=Za2 (st:=Za5) l9 c9 k9
 have b9:=F9.binds (ps:=["_law_bag_here"]) fun _ _ _ _ _ _ us hl=>by obtain ⟨_,rfl⟩:=ex1 hl; rfl
 have F10:=Za2 (st:=Zb0) l10 c10 k10
 have b10:=F10.binds (ps:=["_law_bag_here","_law_way"]) fun _ _ _ _ _ _ us hl=>by obtain ⟨_,_,rfl⟩:=ex2 hl; rfl
 have F11:=Za2 (st:=Zb1) l11 c11 k11
 have b11:=F11.binds (ps:=["_law_bag_here","_law_way"]) fun _ _ _ _ _ _ us hl=>by obtain ⟨_,_,rfl⟩:=ex2 hl; rfl
 have F12:=Za2 (st:=Zc0) l12 c12 k12
 have b12:=F12.binds (ps:=["points","arrows"]) fun _ _ _ _ _ _ us hl=>by obtain ⟨_,_,rfl⟩:=ex2 hl; rfl
 have F13:=Za2 (st:=Zcy) l13 c13 k13
 have b13:=F13.binds (ps:=["points","arrows"]) fun _ _ _ _ _ _ us hl=>by obtain ⟨_,_,rfl⟩:=ex2 hl; rfl
 have F14:=Za2 (st:=Zfx) l14 c14 k14
 have b14:=F14.binds (ps:=["points","arrows","fork"]) fun _ _ _ _ _ _ us hl=>by obtain ⟨_,_,_,rfl⟩:=ex3 hl; rfl
 have F15:=Za2 (st:=Zbf) l15 c15 k15
 have b15:=F15.binds (ps:=["many","lengths"]) fun _ _ _ _ _ _ us hl=>by obtain ⟨_,_,rfl⟩:=ex2 hl; rfl
 have F16:=Za2 (st:=Zby) l16 c16 k16
 have b16:=F16.binds (ps:=["drawing","one","other"]) fun _ _ _ _ _ _ us hl=>by obtain ⟨_,_,_,rfl⟩:=ex3 hl; rfl
 have F17:=Za2 (st:=Zeb) l17 c17 k17
 have b17:=F17.binds (ps:=["drawing","row"]) fun _ _ _ _ _ _ us hl=>by obtain ⟨_,_,rfl⟩:=ex2 hl; rfl
 have F18:=Za2 (st:=Zcz) l18 c18 k18
 have b18:=F18.binds (ps:=["drawing"]) fun _ _ _ _ _ _ us hl=>by obtain ⟨_,rfl⟩:=ex1 hl; rfl
 have F19:=Za2 (st:=Zau) l19 c19 k19
 have b19:=F19.binds (ps:=["drawing"]) fun _ _ _ _ _ _ us hl=>by obtain ⟨_,rfl⟩:=ex1 hl; rfl
 have F20:=Za2 (st:=Zdp) l20 c20 k20
 have b20:=F20.binds (ps:=["row","point"]) fun _ _ _ _ _ _ us hl=>by obtain ⟨_,_,rfl⟩:=ex2 hl; rfl
 have F21:FunC K "low_row" "low_row" Zch f21 _ cL:=⟨⟨oc21,od21,kV21,dc21,pm21,an21,ct21,sl21,rfl,l21,c21⟩⟩
 have b21:=F21.binds (ps:=["drawing"]) fun _ _ _ _ _ _ us hl=>by obtain ⟨_,rfl⟩:=ex1 hl; rfl
 have F22:=Za2 (st:=Zcb) l22 c22 k22
 have b22:=F22.binds (ps:=["_law_arrows","_law_one","_law_other"]) fun _ _ _ _ _ _ us hl=>by obtain ⟨_,_,_,rfl⟩:=ex3 hl; rfl
 have F23:=Za2 (st:=Zcw) l23 c23 k23
 have b23:=F23.binds (ps:=["_law_bag_here","_law_many"]) fun _ _ _ _ _ _ us hl=>by obtain ⟨_,_,rfl⟩:=ex2 hl; rfl
 have F24:=Za2 (st:=Za6) l24 c24 k24
 have b24:=F24.binds (ps:=["_law_many","_law_arrows"]) fun _ _ _ _ _ _ us hl=>by obtain ⟨_,_,rfl⟩:=ex2 hl; rfl
 have F25:=Za2 (st:=Zax) l25 c25 k25
 have b25:=F25.binds (ps:=["_law_drawing","_law_arrows","_law_bag_here"]) fun _ _ _ _ _ _ us hl=>by obtain ⟨_,_,_,rfl⟩:=ex3 hl; rfl
 have F26:=Za2 (st:=Zgf) l26 c26 k26
 have F27:=Za2 (st:=Zbb) l27 c27 k27
 have b27:=F27.binds (ps:=["self","many","arrows"]) fun _ _ _ _ _ _ us hl=>by obtain ⟨_,_,_,rfl⟩:=ex3 hl; rfl
 have F28:=Za2 (st:=Zaz) l28 c28 k28
 have b28:=F28.binds (ps:=["self"]) fun _ _ _ _ _ _ us hl=>by obtain ⟨_,rfl⟩:=ex1 hl; rfl
 have F29:=Za2 (st:=Za7) l29 c29 k29
 have b29:=F29.binds (ps:=["self"]) fun _ _ _ _ _ _ us hl=>by obtain ⟨_,rfl⟩:=ex1 hl; rfl
 refine ⟨fnOf "law" "law" (Zal Zgf) (Zaj Zgf) (Zad Zgf) .none kV26 dc26 pm26 an26 cd26 ct26,fun s v=>.of_eq rfl,fun base KB _=>?_⟩
 have hcb:=hd_of KB hcL
 have C1:Cal l.prog w K mg base "is_whole" 1 Zga:=⟨_,_,_,Znh F1 T ,mg_of X G a1,k1,b1⟩
 have C3:Cal l.prog w K mg base "is_arrow" 2 Zh4:=⟨_,_,_,Zno F3 T C1,mg_of X G a3,k3,b3⟩
 have C2:Cal l.prog w K mg base "makes_drawing" 3 Zh2:=⟨_,_,_,Znk F2 T C1 C3,mg_of X G a2,k2,b2⟩
 have C4:Cal l.prog w K mg base "_law_cell" 1 (Zkc K):=⟨_,_,_,ok_cell F4 T ,mg_of X G a4,k4,b4⟩
 have C5:Cal l.prog w K mg base "_law_bag" 1 spBag:=⟨_,_,_,ok_bag F5 T ,mg_of X G a5,k5,b5⟩
 have C6:Cal l.prog w K mg base "_law_draw" 1 Zdd:=⟨_,_,_,ok_draw F6 T ,mg_of X G a6,k6,b6⟩
 have C7:Cal l.prog w K mg base "_law_order" 2 Zh1:=⟨_,_,_,Znj F7 T C6,mg_of X G a7,k7,b7⟩
 have C8:Cal l.prog w K mg base "_law_rest_edges" 2 (Zes Zms):=⟨_,_,_,ok_rest F8 T C6,mg_of X G a8,k8,b8⟩
 have C9:Cal l.prog w K mg base "_law_bad_edges" 2 (Zes way0):=⟨_,_,_,ok_bad F9 T C6,mg_of X G a9,k9,b9⟩
 have C10:Cal l.prog w K mg base "_law_edges" 3 (Zes Zms):=⟨_,_,_,Znm F10 T C6 C9 C8,mg_of X G a10,k10,b10⟩
 have C11:Cal l.prog w K mg base "_law_drawn" 4 (Zes Zms):=⟨_,_,_,Znn F11 T C6 C10 C7,mg_of X G a11,k11,b11⟩
 have C27:CalI l.prog w K mg base "Drawing" C 4 (Zg5 C):=⟨_,_,_,ok_init F27 T C2,⟨mk,a27,i27,kc⟩,mg_of X G aC,b27⟩
 have C12:Cal l.prog w K mg base "hanging" 1 spHg:=⟨_,_,_,ok_hg F12 T ,mg_of X G a12,k12,b12⟩
 have C15:Cal l.prog w K mg base "forked_kind" 1 spFk:=⟨_,_,_,ok_fk F15 T ,mg_of X G a15,k15,b15⟩
 have C14:Cal l.prog w K mg base "arms" 2 Zke:=⟨_,_,_,ok_arms F14 T C12,mg_of X G a14,k14,b14⟩
 have C13:Cal l.prog w K mg base "kind_of" 3 spKo:=⟨_,_,_,ok_ko F13 T C14 C15,mg_of X G a13,k13,b13⟩
 have C28:CalM l.prog w K mg base C "pieces" 2 (Zgc C):=⟨_,_,_,ok_pcs F28 T C12,⟨a28,i28,k28⟩,b28⟩
 have C29:CalM l.prog w K mg base C "kinds" 4 (Zh3 C):=⟨_,_,_,Znl F29 T C28 C13,⟨a29,i29,k29⟩,b29⟩
 have C16:Cal l.prog w K mg base "two_sided" 1 (spTwo C):=⟨_,_,_,ok_two F16 T ,mg_of X G a16,k16,b16⟩
 have C17:Cal l.prog w K mg base "worth" 2 (Zez C):=⟨_,_,_,Zng F17 T C16,mg_of X G a17,k17,b17⟩
 have C18:Cal l.prog w K mg base "is_good" 5 (Zg6 C):=⟨_,_,_,ok_good F18 T C29,mg_of X G a18,k18,b18⟩
 have C19:Cal l.prog w K mg base "barely_not_good" 6 (Zkd C):=⟨_,_,_,ok_bare F19 T C18 C27,mg_of X G a19,k19,b19⟩
 have C20:Cal l.prog w K mg base "raised" 1 Zgb:=⟨_,_,_,Zk8 F20 T ,mg_of X G a20,k20,b20⟩
 have C21:Cal l.prog w K mg base "low_row" 7 (spLow C PL):=⟨_,_,_,ok_low F21 T hcb C18 C19 C20 C17,mg_of X G a21,k21,b21⟩
 have C22:Cal l.prog w K mg base "_law_form" 1 Zit:=⟨_,_,_,ok_form F22 T ,mg_of X G a22,k22,b22⟩
 have C23:Cal l.prog w K mg base "_law_row" 2 spRow:=⟨_,_,_,ok_row F23 T C6,mg_of X G a23,k23,b23⟩
 have C24:Cal l.prog w K mg base "_law_all_above" 2 Zh5:=⟨_,_,_,Znp F24 T C22,mg_of X G a24,k24,b24⟩
 have C25:Cal l.prog w K mg base "_law_rows_above" 3 (Zh0 C):=⟨_,_,_,Zni F25 T C23 C17 C22,mg_of X G a25,k25,b25⟩
 exact ok_law F26 T C4 C5 C6 C11 C27 C18 C24 C25 C17 C21
theorem walk {l:PySem.W.OpenLaw} {q:Program} {loose:List Str} {XP:(Str->Option Value)->Heap->Prop} {d:DefRec} {K:Params->PySem.W.Frag} {as:List Addr} {e:∀ (P:Params),as = List.map (fun x=>x.fst) (K P)} {PL:Addr} (hq:importsNone q = true) (hn:l.most = some 63) (hdf:d.params.defaults = [])
  (hN:∀ p,(K p).lookup PL = none) (hC:∀ p,hdIn (K p) (PL + 2) PL = true)
  (F:∀ (w:World) (mg:Str->Option Value) (fa:Addr) (h:Heap),(K w.params).In h->h.Ns mainGlobals mg->mg d.name = some (.ref fa)->
   ∃ fd:FuncData,(∀ (s:Shared) (u:Value),BindsTo s fd ⟨[u],[]⟩ [("_law_script",u)])/\∀ base:Heap,(K w.params).In base->base.Ns mainGlobals mg->FnOk l.prog w (K w.params) mg base CX0 8 fa fd ["_law_script"] (Zmy (K w.params) PL)):
  PySem.W.WalkO q loose XP (PySem.W.kmHook K as e [PL]).says l.row.toRowW d [] (fun f vs=>PySem.call f vs):=
 Zmu (n:=63) (k:=8) (x:="_law_script") (sp:=fun w=>Zmy (K w.params) PL) (PL + 2) PL 99 74 ("low_row.<locals>." ++ "<lambda>") hq hn (by decide) hdf ⟨rfl,by decide,by decide⟩ (fun w h Y=>PySem.W.km_in_of Y) (fun w h Y=>PySem.W.km_tabs_of Y PL (Jbg.mpr rfl)) hN hC F (fun _ H a ns Q E hl hS hT q=>⟨a,ns,rfl,hS,hl,hT,q⟩)
end Pf
def PySem.W.Fast.tw2859301333194131910:Nat:=0
def PySem.W.Fast.tw1674048564245075704:Nat:=0
def PySem.W.Fast.tw3400043425411709661:Nat:=0
def PySem.W.Fast.tw559685445974986202:Nat:=0
def PySem.W.Fast.tw9811643869661267876:Nat:=0
def PySem.W.Fast.tw8067295227235168435:Nat:=0
def PySem.W.Fast.tw11482373350268463757:Nat:=0
def PySem.W.Fast.tw10529748340435614047:Nat:=0
def PySem.W.Fast.tw7253308529335072257:Nat:=0
def PySem.W.Fast.tw17118474773889941737:Nat:=0
def PySem.W.Fast.tw7969089734489654714:Nat:=0
def PySem.W.Fast.tw970684099793218574:Nat:=0
def PySem.W.Fast.tw10933046918132335238:Nat:=0
def PySem.W.Fast.tw15702438394631652980:Nat:=0
def PySem.W.Fast.tw2758087134853303857:Nat:=0
def PySem.W.Fast.tw848177186716854758:Nat:=0
def PySem.W.Fast.tw162413885944709730:Nat:=0
def PySem.W.Fast.tw9281163464946744263:Nat:=0
def PySem.W.Fast.tw8478573114271754751:Nat:=0
def PySem.W.Fast.tw11218653240867990051:Nat:=0
def PySem.W.Fast.tw13810369069088581247:Nat:=0
def PySem.W.Fast.tw2345438572988460436:Nat:=0
def PySem.W.Fast.tw557959650741479581:Nat:=0
def PySem.W.Fast.tw10076513541063167926:Nat:=0
def PySem.W.Fast.tw4989507575009593906:Nat:=0
def PySem.W.Fast.tw9800341267859934836:Nat:=0
def PySem.W.Fast.tw10296072791926078473:Nat:=0
def PySem.W.Fast.tw6742774045081256589:Nat:=0
def PySem.W.Fast.tw787433374465289570:Nat:=0
def PySem.W.Fast.tw12251415455965828155:Nat:=0
def PySem.W.Fast.tw12315203113638640941:Nat:=0
def PySem.W.Fast.tw10426562875328064299:Nat:=0
def PySem.W.Fast.tw3860537840542126861:Nat:=0
def PySem.W.Fast.tw10109546971980052517:Nat:=0
def PySem.W.Fast.tw14290231202585445942:Nat:=0
def PySem.W.Fast.tw7817325217902180641:Nat:=0
def PySem.W.Fast.tw4165537178331064898:Nat:=0
def PySem.W.Fast.tw16681667461937195852:Nat:=0
def PySem.W.Fast.tw6369758697450911109:Nat:=0
def PySem.W.Fast.tw11000909866351401429:Nat:=0
def PySem.W.Fast.tw1847164942927145262:Nat:=0
def PySem.W.Fast.tw2627264711665733659:Nat:=0
def PySem.W.Fast.tw15690777823392297147:Nat:=0
def PySem.W.Fast.tw16289284981503874957:Nat:=0
def PySem.W.Fast.tw5761044981942771536:Nat:=0
def PySem.W.Fast.tw6250027243172755788:Nat:=0
def PySem.W.Fast.tw2197979745827939523:Nat:=0
def PySem.W.Fast.tw9684656286122976783:Nat:=0
def PySem.W.Fast.tw3264921706121437069:Nat:=0
def PySem.W.Fast.tw17136073521588317932:Nat:=0
def PySem.W.Fast.tw5338659463622923406:Nat:=0
def PySem.W.Fast.tw15123086666372240424:Nat:=0
def PySem.W.Fast.tw7371569436292780548:Nat:=0
def PySem.W.Fast.tw4072312042342657476:Nat:=0
def PySem.W.Fast.tw1141710883393982775:Nat:=0
def PySem.W.Fast.tw12720935253366641051:Nat:=0
def PySem.W.Fast.tw17790483992091974209:Nat:=0
def PySem.W.Fast.tw9973848481623244452:Nat:=0
def PySem.W.Fast.tw13225871086540036115:Nat:=0
def PySem.W.Fast.tw11416553571040303173:Nat:=0
def PySem.W.Fast.tw13833686648052251848:Nat:=0
def PySem.W.Fast.tw15723148159904683388:Nat:=0
def PySem.W.Fast.tw7081935728426507200:Nat:=0
def PySem.W.Fast.tw15904233338406750240:Nat:=0
open PySem PySem.W PyProof.Rows
set_option maxRecDepth 100000 in
set_option maxHeartbeats 0 in
theorem PySem.Challenge.cw_limbtables_k20_whole_good_or_low_holds : PySem.Challenge.rw_limbtables_k20_whole_good_or_low.Holds := by
 w_on; o_law; k_head; (case hw=>w_witness2)
 k_fill
 refine Pf.walk (l:=PySem.Challenge.rw_limbtables_k20_whole_good_or_low) (by decide +kernel) rfl rfl (fun p=>by kernel_rfl) (fun p=>by kernel_rfl) ?F
 case F=>
  intro w mg fa h KX G hmg
  refine' Pf.all_mk rfl KX G hmg ?a1 ?l1 ?c1 ?k1 ?a2 ?l2 ?c2 ?k2 ?a3 ?l3 ?c3 ?k3 ?a4 ?l4 ?c4 ?k4 ?a5 ?l5 ?c5 ?k5 ?a6 ?l6 ?c6 ?k6 ?a7 ?l7 ?c7 ?k7 ?a8 ?l8 ?c8 ?k8 ?a9 ?l9 ?c9 ?k9 ?a10 ?l10 ?c10 ?k10 ?a11 ?l11 ?c11 ?k11 ?a12 ?l12 ?c12 ?k12 ?a13 ?l13 ?c13 ?k13 ?a14 ?l14 ?c14 ?k14 ?a15 ?l15 ?c15 ?k15 ?a16 ?l16 ?c16 ?k16 ?a17 ?l17 ?c17 ?k17 ?a18 ?l18 ?c18 ?k18 ?a19 ?l19 ?c19 ?k19 ?a20 ?l20 ?c20 ?k20 ?a21 ?l21 ?c21 ?k21 ?a22 ?l22 ?c22 ?k22 ?a23 ?l23 ?c23 ?k23 ?a24 ?l24 ?c24 ?k24 ?a25 ?l25 ?c25 ?k25 ?a26 ?l26 ?c26 ?k26 ?aC ?a27 ?i27 ?l27 ?c27 ?k27 ?a28 ?i28 ?l28 ?c28 ?k28 ?a29 ?i29 ?l29 ?c29 ?k29 ?pg ?hd ?po ?sa ?mk ?kc ?nM ?nA ?g1 ?g2 ?z0 ?z1 ?z2 ?z3 ?z4 ?z5 ?z6 ?z7 ?z8 ?z9 ?z10 ?z11 ?z12 ?hcL
  (case a1=>k_is)
  (case l1=>k_is)
  (case c1=>k_is)
  (case k1=>k_is)
  (case a2=>k_is)
  (case l2=>k_is)
  (case c2=>k_is)
  (case k2=>k_is)
  (case a3=>k_is)
  (case l3=>k_is)
  (case c3=>k_is)
  (case k3=>k_is)
  (case a4=>k_is)
  (case l4=>k_is)
  (case c4=>k_is)
  (case k4=>k_is)
  (case a5=>k_is)
  (case l5=>k_is)
  (case c5=>k_is)
  (case k5=>k_is)
  (case a6=>k_is)
  (case l6=>k_is)
  (case c6=>k_is)
  (case k6=>k_is)
  (case a7=>k_is)
  (case l7=>k_is)
  (case c7=>k_is)
  (case k7=>k_is)
  (case a8=>k_is)
  (case l8=>k_is)
  (case c8=>k_is)
  (case k8=>k_is)
  (case a9=>k_is)
  (case l9=>k_is)
  (case c9=>k_is)
  (case k9=>k_is)
  (case a10=>k_is)
  (case l10=>k_is)
  (case c10=>k_is)
  (case k10=>k_is)
  (case a11=>k_is)
  (case l11=>k_is)
  (case c11=>k_is)
  (case k11=>k_is)
  (case a12=>k_is)
  (case l12=>k_is)
  (case c12=>k_is)
  (case k12=>k_is)
  (case a13=>k_is)
  (case l13=>k_is)
  (case c13=>k_is)
  (case k13=>k_is)
  (case a14=>k_is)
  (case l14=>k_is)
  (case c14=>k_is)
  (case k14=>k_is)
  (case a15=>k_is)
  (case l15=>k_is)
  (case c15=>k_is)
  (case k15=>k_is)
  (case a16=>k_is)
  (case l16=>k_is)
  (case c16=>k_is)
  (case k16=>k_is)
  (case a17=>k_is)
  (case l17=>k_is)
  (case c17=>k_is)
  (case k17=>k_is)
  (case a18=>k_is)
  (case l18=>k_is)
  (case c18=>k_is)
  (case k18=>k_is)
  (case a19=>k_is)
  (case l19=>k_is)
  (case c19=>k_is)
  (case k19=>k_is)
  (case a20=>k_is)
  (case l20=>k_is)
  (case c20=>k_is)
  (case k20=>k_is)
  (case a21=>k_is)
  (case l21=>k_is)
  (case c21=>k_is)
  (case k21=>k_is)
  (case a22=>k_is)
  (case l22=>k_is)
  (case c22=>k_is)
  (case k22=>k_is)
  (case a23=>k_is)
  (case l23=>k_is)
  (case c23=>k_is)
  (case k23=>k_is)
  (case a24=>k_is)
  (case l24=>k_is)
  (case c24=>k_is)
  (case k24=>k_is)
  (case a25=>k_is)
  (case l25=>k_is)
  (case c25=>k_is)
  (case k25=>k_is)
  (case a26=>k_is)
  (case l26=>k_is)
  (case c26=>k_is)
  (case k26=>k_is)
  (case aC=>k_is)
  (case a27=>k_is)
  (case i27=>k_is)
  (case l27=>k_is)
  (case c27=>k_is)
  (case k27=>k_is)
  (case a28=>k_is)
  (case i28=>k_is)
  (case l28=>k_is)
  (case c28=>k_is)
  (case k28=>k_is)
  (case a29=>k_is)
  (case i29=>k_is)
  (case l29=>k_is)
  (case c29=>k_is)
  (case k29=>k_is)
  (case pg=>k_is)
  (case hd=>k_is)
  (case po=>k_is)
  (case sa=>k_is)
  (case mk=>k_is)
  (case kc=>k_is)
  (case nM=>k_is)
  (case nA=>k_is)
  (case g1=>k_is)
  (case g2=>k_is)
  (case z0=>k_is)
  (case z1=>k_is)
  (case z2=>k_is)
  (case z3=>k_is)
  (case z4=>k_is)
  (case z5=>k_is)
  (case z6=>k_is)
  (case z7=>k_is)
  (case z8=>k_is)
  (case z9=>k_is)
  (case z10=>k_is)
  (case z11=>k_is)
  (case z12=>k_is)
  (case hcL=>kernel_rfl)
#print axioms PySem.Challenge.cw_limbtables_k20_whole_good_or_low_holds