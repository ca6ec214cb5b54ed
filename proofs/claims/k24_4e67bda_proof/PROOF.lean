import PyProof.Rows.All
import Wide.All
import OpenK.AllK
import Wide.FinOn
import Lean
import PyProof.EqAt
import PyProof.EqKinds
import PyProof.TupleCall
import PyProof.DictCompW
import PyProof.Rows.SortWalk
import PyProof.Rows.CountFlat
import PyProof.ZipIter
import PyProof.Rows.ZipGen
import PyProof.SumWalkG
import PyProof.EqAt
import PyProof.P3Eq
import PyProof.FactsAll.int_6
import PyProof.AutoIntG2
import PyProof.RulesAs
import PyProof.Rows.TopTwo
import PyProof.ExcArgsOwn
import PyProof.ExcBaseAll.ValueError
import OpenK.KDescr
import KE.RegKIsAll
import PyProof.Rows.SortRunsK
import PyProof.CollectIter
import PyProof.DictWalks
import KE.KSortTup
import PyProof.SetNew
import PyProof.SetRoads
import PyProof.NeKinds
import PySem.Challenge.RW_limbtables_k24_whole_roots_found
abbrev Jaa:=@PySem.wpAny_bind
abbrev Jab:=@List.length_map
abbrev Jac:=@List.getElem?_eq_getElem
abbrev Jad:=@PySem.Heap.get?_push_of_some
abbrev Jae:=@PySem.wpAny_pure
abbrev Jaf:=@Nat.le_refl
abbrev Jag:=@Classical.byContradiction
abbrev Jah:=@List.mem_append_right
abbrev Jai:=@PyProof.Rows.wpS_bind
abbrev Jaj:=@List.length_append
abbrev Jak:=@List.mem_map
abbrev Jal:=@PySem.Heap.lt_size
abbrev Jam:=@List.mem_cons
abbrev Jan:=@List.mem_of_getElem?
abbrev Jao:=@PyProof.Rows.wpS_pure
abbrev Jap:=@List.getElem?_eq_some_iff
abbrev Jaq:=@List.size_toArray
abbrev Jar:=@Bool.false_ne_true
abbrev Jas:=@List.mem_filter
abbrev Jat:=@PySem.Heap.get?_push_size
abbrev Jau:=@List.length_cons
abbrev Jav:=@of_decide_eq_true
abbrev Jaw:=@Int.toNat_natCast
abbrev Jax:=@List.map_cons
abbrev Jay:=@Nat.le_trans
abbrev Jaz:=@List.mem_singleton
abbrev Ja0:=@List.set_cons_zero
abbrev Ja1:=@List.length_take
abbrev Ja2:=@decide_eq_true
abbrev Ja3:=@Array.getElem?_eq_getElem
abbrev Ja4:=@PySem.F.plainAttrs_list
abbrev Ja5:=@List.getElem?_append_right
abbrev Ja6:=@List.filter_sublist
abbrev Ja7:=@Nat.lt_of_lt_of_le
abbrev Ja8:=@Nat.ne_of_lt
abbrev Ja9:=@List.length_filter_le
abbrev Jba:=@List.append_assoc
abbrev Jbb:=@List.lookup_cons
abbrev Jbc:=@List.Nodup.sublist
abbrev Jbd:=@List.mem_append
abbrev Jbe:=@List.getElem?_map
abbrev Jbf:=@List.map_append
abbrev Jbg:=@List.getElem?_append_left
abbrev Jbh:=@List.extract_eq_take_drop
abbrev Jbi:=@Array.length_toList
abbrev Jbj:=@List.mem_cons_of_mem
abbrev Jbk:=@PySem.wpAny_mono
abbrev Jbl:=@List.getD_eq_getElem?_getD
abbrev Jbm:=@Option.some.inj
abbrev Jbn:=@List.take_add_one
abbrev Jbo:=@List.nodup_cons
abbrev Jbp:=@PySem.PassesOwn.never
abbrev Jbq:=@PySem.F.slot_list_append
abbrev Jbr:=@PySem.F.type_list_append
abbrev Jbs:=@Nat.le_of_lt
abbrev Jbt:=@List.take_append_drop
abbrev Jbu:=@List.take_length
abbrev Jbv:=@PySem.wpAny_holding
abbrev Jbw:=@Array.toList_extract
abbrev Jbx:=@Nat.zero_le
abbrev Jby:=@Array.getElem_mem
abbrev Jbz:=@beq_iff_eq
abbrev Jb0:=@Nat.lt_irrefl
abbrev Jb1:=@List.length_replicate
abbrev Jb2:=@PySem.Heap.get?_update_self
abbrev Jb3:=@PyProof.Rows.wpS_forRange
abbrev Jb4:=@Bool.and_eq_true
abbrev Jb5:=@PySem.wpAny_truthy_bool
abbrev Jb6:=@List.map_map
abbrev Jb7:=@decide_eq_false
abbrev Jb8:=@PySem.mem_of_lookup
abbrev Jb9:=@Array.getElem?_toList
abbrev Jca:=@List.perm_append_comm
abbrev Jcb:=@List.mem_range
abbrev Jcc:=@List.getElem_mem
abbrev Jcd:=@PySem.boot_len
abbrev Jce:=@List.mem_append_left
abbrev Jcf:=@decide_eq_true_iff
abbrev Jcg:=@PySem.Heap.get?_update_other
abbrev Jch:=@List.take_of_length_le
abbrev Jci:=@Bool.eq_iff_iff
abbrev Jcj:=@PySem.W.kia_one
abbrev Jck:=@List.all_eq_true
abbrev Jcl:=@List.getElem_of_mem
abbrev Jcm:=@PySem.wpAny_newObj_type
abbrev Jcn:=@PySem.wpAny_setState_of
abbrev Jco:=@PySem.Heap.size_push
abbrev Jcp:=@Bool.false_eq_true
abbrev Jcq:=@List.cons.injEq
abbrev Jcr:=@PySem.Obj.data_mapFields
abbrev Jcs:=@Array.size_extract
abbrev Jct:=@List.set_cons_succ
abbrev Jcu:=@List.filter_append
abbrev Jcv:=@List.length_drop
abbrev Jcw:=@Array.getElem?_eq_some_iff
abbrev Jcx:=@List.length_range
abbrev Jcy:=@Array.toList_append
abbrev Jcz:=@Array.size_append
abbrev Jc0:=@PySem.Heap.SameBut.update
abbrev Jc1:=@PySem.wpAny_standAt
abbrev Jc2:=@List.mem_cons_self
abbrev Jc3:=@List.mem_iff_getElem
abbrev Jc4:=@List.length_eq_zero_iff
abbrev Jc5:=@Nat.le_of_succ_le
abbrev Jc6:=@Nat.lt_succ_of_lt
abbrev Jc7:=@beq_eq_false_iff_ne
abbrev Jc8:=@List.filterMap_cons
abbrev Jc9:=@List.map_congr_left
abbrev Jda:=@Array.size_push
abbrev Jdb:=@beq_self_eq_true
abbrev Jdc:=@PySem.wpAny_call_entry
abbrev Jdd:=@PyProof.Rows.wpS_mono
abbrev Jde:=@PySem.sizeLine_eq
abbrev Jdf:=@PySem.wpAny_passesOwn
abbrev Jdg:=@List.append_nil
abbrev Jdh:=@Option.isSome_iff_exists
abbrev Jdi:=@List.length_set
abbrev Jdj:=@PySem.wpAny_comprehension_free
abbrev Jdk:=@Array.toList_push
abbrev Jdl:=@List.replicate_succ
abbrev Jdm:=@Int.toNat_of_nonneg
abbrev Jdn:=@PySem.wpAny_askSetting
abbrev Jdo:=@PySem.W.cellsFrom_some
abbrev Jdp:=@PySem.wpAny_Call_Name_kw
abbrev Jdq:=@List.count_pos_iff
abbrev Jdr:=@Nat.eq_or_lt_of_le
abbrev Jds:=@Ne.symm
abbrev Jdt:=@PyProof.Rows.callWith_type1
abbrev Jdu:=@if_true
abbrev Jdv:=@List.length_singleton
abbrev Jdw:=@List.find?_cons
abbrev Jdx:=@PySem.Obj.isFreed_of_fields
abbrev Jdy:=@PySem.F.called_set
abbrev Jdz:=@List.any_cons
abbrev Jd0:=@List.flatten_cons
abbrev Jd1:=@List.pairwise_map
abbrev Jd2:=@bne_self_eq_false
abbrev Jd3:=@Array.toList_setIfInBounds
abbrev Jd4:=@List.mem_of_mem_drop
abbrev Jd5:=@List.mem_of_mem_take
abbrev Jd6:=@Int.mul_nonneg
abbrev Jd7:=@List.exists_mem_of_ne_nil
abbrev Jd8:=@List.nodup_range
abbrev Jd9:=@Nat.succ_le_succ
abbrev Jea:=@List.isEmpty_nil
abbrev Jeb:=@List.take_succ_cons
abbrev Jec:=@PySem.wpAny_rule
abbrev Jed:=@PySem.codeAny_mono
abbrev Jee:=@List.length_erase_of_mem
abbrev Jef:=@Int.add_zero
abbrev Jeg:=@Nat.lt_or_ge
abbrev Jeh:=@congrArg
abbrev Jei:=@List.mem_filterMap
abbrev Jej:=@List.of_mem_zip
abbrev Jek:=@List.getElem?_replicate
abbrev Jel:=@PySem.wpAny_specialOf
abbrev Jem:=@List.Perm.of_eq
abbrev Jen:=@Nat.lt_succ_iff
abbrev Jeo:=@Nat.not_lt_zero
abbrev Jep:=@List.pairwise_cons
abbrev Jeq:=@List.range_succ
abbrev Jer:=@List.getElem?_set_self
abbrev Jes:=@PySem.Calls.callWith_builtin
abbrev Jet:=@List.getElem_cons_drop
abbrev Jeu:=@Array.getElem?_eq_none
abbrev Jev:=@PySem.wpAny_pyIter_list
abbrev Jew:=@List.filter_congr
abbrev Jex:=@Array.getElem?_setIfInBounds_ne
abbrev Jey:=@PyProof.Rows.wpS_modify
abbrev Jez:=@Nat.lt_of_succ_lt
abbrev Je0:=@List.reverse_perm
abbrev Je1:=@PySem.wpAny_setField
abbrev Je2:=@List.Perm.append_left
abbrev Je3:=@PyProof.Rows.boot_list
abbrev Je4:=@Nat.lt_succ_self
abbrev Je5:=@Nat.le_of_not_lt
abbrev Je6:=@List.cons_append
abbrev Je7:=@List.mem_flatten
abbrev Je8:=@Array.mem_toList_iff
abbrev Je9:=@PySem.Calls.evalArgs_plain
abbrev Jfa:=@Nat.pow_le_pow_right
abbrev Jfb:=@Array.getElem_toList
abbrev Jfc:=@List.map_eq_cons_iff
abbrev Jfd:=@PySem.Around.under_plainId
abbrev Jfe:=@PySem.wpAny_execs_nil
abbrev Jff:=@PySem.W.plainGet_of
abbrev Jfg:=@Bool.or_eq_true
abbrev Jfh:=@Option.map_some
abbrev Jfi:=@List.length_nil
abbrev Jfj:=@List.count_cons
abbrev Jfk:=@Int.mul_ne_zero
abbrev Jfl:=@List.zip_eq_zipWith
abbrev Jfm:=@PySem.F.slot_set_contains
abbrev Jfn:=@PySem.wpAny_setEntries_of
abbrev Jfo:=@PySem.codeAny_builtin
abbrev Jfp:=@PyProof.Rows.boot_isinstance
abbrev Jfq:=@Nat.ne_of_gt
abbrev Jfr:=@Nat.le_of_eq
abbrev Jfs:=@if_false
abbrev Jft:=@List.map_nil
abbrev Jfu:=@Nat.lt_of_le_of_lt
abbrev Jfv:=@PySem.SeqAt.EqAt.of_refs
abbrev Jfw:=@PySem.tupleKind_room_in1
abbrev Jfx:=@Nat.pos_of_ne_zero
abbrev Jfy:=@Int.mul_zero
abbrev Jfz:=@Int.zero_mul
abbrev Jf0:=@Nat.lt_of_le_of_ne
abbrev Jf1:=@List.nodup_nil
abbrev Jf2:=@PyProof.Rows.wpS_get
abbrev Jf3:=@List.take_zero
abbrev Jf4:=@PySem.Value.isInt_shape
abbrev Jf5:=@List.take_sublist
abbrev Jf6:=@PySem.call_meets
abbrev Jf7:=@List.mem_range'_1
abbrev Jf8:=@PySem.Obj.cls_mapFields
abbrev Jf9:=@PySem.Paired.length
abbrev Jga:=@List.all_cons
abbrev Jgb:=@List.map_take
set_option compiler.postponeCompile true
set_option bootstrap.genMatcherCode false
set_option genSizeOf false
-- CHANGE: your row's module here,as the last of these rows
set_option Elab.async false
set_option linter.all false
set_option maxRecDepth 100000
namespace L2
open PySem PySem.Spec PyProof.Rows
abbrev Key:=Sum Int Str
def Zle:Key->Value->Bool
 | .inl k,v=>Value.isInt k v
 | .inr x,v=>Value.isStrOf x v
def keyH (w:World):Key->Int
 | .inl k=>hashInt k
 | .inr x=>hashStr w x
theorem Za8:∀ {k:Key} {v:Value},Zle k v = true->(∃ i t,k = Sum.inl i/\v = Value.int i t)\/(∃ x t,k = Sum.inr x/\v = Value.str x t)
 | .inl i,v,h=>by
  obtain ⟨t,e⟩:=Jf4 (k:=i) (v:=v) h
  exact .inl ⟨i,t,rfl,e⟩
 | .inr x,v,h=>by
  obtain ⟨t,e⟩:=Value.isStrOf_shape (x:=x) (v:=v) h
  exact .inr ⟨x,t,rfl,e⟩
theorem Znq (i:Int) (t:Tok):Zle (.inl i) (.int i t) = true:=by simp [Zle,Value.isInt]
theorem Znp (x:Str) (t:Tok):Zle (.inr x) (.str x t) = true:=by simp [Zle,Value.isStrOf]
theorem key_ll (a b:Int):decide ((Sum.inl a:Key) = Sum.inl b) = (a == b):=by
 by_cases e:a = b
 ·subst e; simp
 ·have h:¬ (Sum.inl a:Key) = Sum.inl b:=fun q=>e (Sum.inl.inj q)
  rw [Jb7 h]
  exact (Jc7.mpr e).symm
theorem key_rr (a b:Str):decide ((Sum.inr a:Key) = Sum.inr b) = decide (a = b):=by
 by_cases e:a = b
 ·subst e; simp
 ·have h:¬ (Sum.inr a:Key) = Sum.inr b:=fun q=>e (Sum.inr.inj q)
  rw [Jb7 h,Jb7 e]
theorem key_lr (a:Int) (b:Str):decide ((Sum.inl a:Key) = Sum.inr b) = false:=Jb7 (fun q=>nomatch q)
theorem key_rl (a:Str) (b:Int):decide ((Sum.inr a:Key) = Sum.inl b) = false:=Jb7 (fun q=>nomatch q)
def Zbt (prog:Program) (w:World):PySem.KeyKind prog w Key where
 is:=Zle
 hash:=keyH w
 inj:=fun v a b ha hb=>by
  rcases Za8 ha with ⟨i,t,rfl,rfl⟩ | ⟨x,t,rfl,rfl⟩
  ·rcases Za8 hb with ⟨j,u,rfl,e⟩ | ⟨y,u,rfl,e⟩
   ·injection e with e1 _; rw [e1]
   ·exact nomatch e
  ·rcases Za8 hb with ⟨j,u,rfl,e⟩ | ⟨y,u,rfl,e⟩
   ·exact nomatch e
   ·injection e with e1 _; rw [e1]
 byValue:=fun k v h=>by
  rcases Za8 h with ⟨i,t,rfl,rfl⟩ | ⟨x,t,rfl,rfl⟩ <;> rfl
 pyHash:=fun hv h=>by
  rcases Za8 hv with ⟨i,t,rfl,rfl⟩ | ⟨x,t,rfl,rfl⟩
  ·exact wpAny_pyHash_int h
  ·exact wpAny_pyHash_str h
 eqBool:=fun hu hv h=>by
  rcases Za8 hu with ⟨i,t,rfl,rfl⟩ | ⟨x,t,rfl,rfl⟩
  ·rcases Za8 hv with ⟨j,u,rfl,rfl⟩ | ⟨y,u,rfl,rfl⟩
   ·rw [key_ll] at h; exact wpAny_eqBool_int h
   ·rw [key_lr] at h; exact SeqAt.EqAt.int_str i t y u _ _ _ _ h
  ·rcases Za8 hv with ⟨j,u,rfl,rfl⟩ | ⟨y,u,rfl,rfl⟩
   ·rw [key_rl] at h; exact SeqAt.EqAt.str_int x t j u _ _ _ _ h
   ·rw [key_rr] at h; exact wpAny_eqBool_str h
 «strs»:=fun k x t v h=>by
  rcases Za8 h with ⟨i,u,rfl,e⟩ | ⟨y,u,rfl,e⟩
  ·exact nomatch e
  ·injection e with e1 _
   subst e1
   cases v <;> rfl
theorem Ziz (prog:Program) (w:World) (i:Int) (t:Tok):(Zbt prog w).is (.inl i) (.int i t) = true:=Znq i t
theorem Ziy (prog:Program) (w:World) (x:Str) (t:Tok):(Zbt prog w).is (.inr x) (.str x t) = true:=Znp x t
inductive V where
 | non | bl (b:Bool) | int (i:Int) | str (x:Str) | byt (b:Array UInt8) | flt (b:UInt64) | ref (a:Addr) | ty (n:String)
 deriving DecidableEq
def RelV:V->Value->Prop
 | .non,u=>u = Value.none
 | .bl b,u=>u = Value.bool b
 | .int i,u=>∃ t,u = Value.int i t
 | .str x,u=>∃ t,u = Value.str x t
 | .byt b,u=>∃ t,u = Value.bytes b t
 | .flt b,u=>∃ t,u = Value.float b t
 | .ref a,u=>u = Value.ref a
 | .ty n,u=>u = Value.type n
abbrev Vals:List V->List Value->Prop:=Paired RelV
theorem Vals.length {xs:List V} {us:List Value} (r:Vals xs us):xs.length = us.length:=Jf9 r
theorem Vals.get:∀ {xs:List V} {us:List Value} {i:Nat} {x:V},Vals xs us->xs[i]? = some x->∃ u,us[i]? = some u/\RelV x u
 | _,_,_,_,.nil,e=>by simp at e
 | _,_,0,_,.cons r _,e=>by simp at e; subst e; exact ⟨_,rfl,r⟩
 | _,_,i + 1,x,.cons _ t,e=>by
  obtain ⟨u,h1,h2⟩:=Vals.get (i:=i) (x:=x) t (by simpa using e)
  exact ⟨u,by simpa using h1,h2⟩
theorem Vals.set {x:V} {u:Value} (r:RelV x u):∀ {xs:List V} {us:List Value} (i:Nat),Vals xs us->Vals (xs.set i x) (us.set i u)
 | _,_,_,.nil=>.nil
 | _,_,0,.cons _ t=>.cons r t
 | _,_,i + 1,.cons q t=>.cons q (Vals.set r i t)
theorem Vals.append:∀ {xs ys:List V} {us ws:List Value},Vals xs us->Vals ys ws->Vals (xs ++ ys) (us ++ ws)
 | _,_,_,_,.nil,s=>s
 | _,_,_,_,.cons r t,s=>.cons r (Vals.append t s)
theorem Vals.take:∀ {xs:List V} {us:List Value} (n:Nat),Vals xs us->Vals (xs.take n) (us.take n)
 | _,_,0,_=>.nil
 | _,_,_ + 1,.nil=>.nil
 | _,_,n + 1,.cons r t=>.cons r (Vals.take n t)
theorem Vals.drop:∀ {xs:List V} {us:List Value} (n:Nat),Vals xs us->Vals (xs.drop n) (us.drop n)
 | _,_,0,r=>r
 | _,_,_ + 1,.nil=>.nil
 | _,_,n + 1,.cons _ t=>Vals.drop n t
def RelO:Option V->Option Value->Prop
 | some v,some u=>RelV v u
 | none,none=>True
 | _,_=>False
def KV {κ:Type}:List (κ × V)->List (κ × Value)->Prop:=Paired fun (p:κ × V) (q:κ × Value)=>p.1 = q.1/\RelV p.2 q.2
def kV:Key->V
 | .inl i=>.int i
 | .inr x=>.str x
inductive HO where
  | lst (xs:List V)
  | tup (xs:List V)
  | dK (kvs:List (Key × V)) | dT (kvs:List (List Key × V))
  | set (S:Int->Bool) (n:Nat)
  | ins (C dx:Addr) (fs:List (Str × V))
  | own (x:Addr)
  | xd (fs:List (Str × V))
  | met (f x:Addr)
  | rng (lo hi:Int)
  | frz (o:Obj) (u:HO)
  | tbl (ps:Array Value)
  | ext (φ:Heap->Prop)
  | tab (l c:Int) (q:Str)
abbrev Hp:=Addr->Option HO
def upd (H:Hp) (a:Addr) (o:HO):Hp:=fun b=>if b = a then some o else H b
theorem Zaa {H:Hp} {a:Addr} {o:HO}:upd H a o a = some o:=by unfold upd; rw [if_pos rfl]
theorem Zaf {H:Hp} {a b:Addr} {o:HO} (h:b ≠ a):upd H a o b = H b:=by unfold upd; rw [if_neg h]
theorem upd_upd {H:Hp} {a:Addr} {o u:HO}:upd (upd H a o) a u = upd H a u:=by
 funext b; unfold upd; split <;> rfl
theorem Zf7 {H:Hp} {a b:Addr} {o u:HO} (h:H a = some o) (h':H b = some u) (d:o ≠ u):a ≠ b:=by
 intro e; subst e; rw [h] at h'; exact d (Jbm h')
theorem Zad {H:Hp} {a b:Addr} {o:HO} (h:H a = some o) (h':H b = none):a ≠ b:=by
 intro e; subst e; rw [h] at h'; cases h'
section
variable (P:Program) (w:World)
def ObjOk (H:Hp) (h:Heap) (a:Addr):HO->Prop
 | .lst xs=>xs.length<=sizeLine/\∃ (its:List Value) (n:Nat),Vals xs its/\h.get? a = some { cls:=.type "list",data:=.seq its.toArray n }
 | .tup xs=>xs.length<=sizeLine/\∃ its:List Value,Vals xs its/\IsTup h a its.toArray
 | .dK kvs=>kvs.length<=sizeLine/\(a == sysModules) = false/\∃ vs,KV kvs vs/\h.DictOf (Zbt P w) a vs
 | .dT kvs=>kvs.length<=sizeLine/\(a == sysModules) = false/\∃ xs:List (List Key × Addr × Value),
   Paired (fun (p:List Key × V) (q:List Key × Addr × Value)=>p.1 = q.1/\H q.2.1 = some (.tup (p.1.map kV))/\RelV p.2 q.2.2) kvs xs /\
   ∃ o es ep,h.get? a = some o/\o.ExactDict/\o.data = .dict es ep/\es.toList = xs.map (entryOfKey (tupleKind (Zbt P w)))/\(xs.map (·.1)).Nodup
 | .set S n=>h.SetOf (intKind P w) a S n
 | .ins C dx fs=>H dx = some (.own a)/\fs.length<=1000/\dx ≠ a/\h.get? a = some (PySem.W.instObj C dx) /\
   ∃ mA,h.Ns1 dx mA/\(∀ f,RelO (fs.lookup f) (mA f))/\PySem.Within mA (fs.map (·.1))
 | .own _=>∃ o,h.get? a = some o
 | .xd fs=>∃ mA,h.Ns1 a mA/\∀ f,RelO (fs.lookup f) (mA f)
 | .rng lo hi=>∃ t u v,h.get? a = some { cls:=.type "range",data:=.fields #[.int lo t,.int hi u,.int 1 v] }
 | .frz o u=>h.get? a = some o/\ObjOk H h a u
 | .tbl ps=>h.get? a = some { cls:=.none,data:=.fields ps }
 | .met f x=>h.get? a = some (PySem.W.methodObj (.ref f) (.ref x))
 | .ext φ=>φ h/\(∃ o,h.get? a = some o)/\∀ h1 h2:Heap,φ h1->(∀ o,h1.get? a = some o->h2.get? a = some o)->φ h2
 | .tab l c q=>h.get? a = some { cls:=.none,data:=.fields #[] }\/∃ c' oc vs t,h.get? a = some { cls:=.none,data:=.fields #[rawInt l,rawInt c,.ref c'] }/\c' ≠ a/\H c' = some (.frz oc (.own a))/\oc.data = .fields vs/\vs[1]? = some (.str q t)
def HOk (H:Hp) (h:Heap):Prop:=∀ a o,H a = some o->ObjOk P w H h a o
end
section
variable {P:Program} {w:World} {H H':Hp} {h h':Heap} {a:Addr} {o:HO}
theorem ObjOk.lt (x:ObjOk P w H h a o):a < h.objs.size:=by
 cases o with
 | lst xs=>obtain ⟨_,_,_,_,e⟩:=x; exact Jal e
 | tup xs=>obtain ⟨_,_,_,p⟩:=x; exact p.lt
 | dK kvs=>obtain ⟨_,_,_,_,o,_,_,e,_⟩:=x; exact Jal e
 | dT kvs=>obtain ⟨_,_,_,_,o,_,_,e,_⟩:=x; exact Jal e
 | set S n=>obtain ⟨o,_,_,_,e,_⟩:=x; exact Jal e
 | ins C dx fs=>obtain ⟨_,_,_,e,_⟩:=x; exact Jal e
 | own y=>obtain ⟨_,e⟩:=x; exact Jal e
 | xd fs=>obtain ⟨_,⟨_,_,_,e,_⟩,_⟩:=x; exact Jal e
 | rng lo hi=>obtain ⟨_,_,_,e⟩:=x; exact Jal e
 | frz ob u=>obtain ⟨e,_⟩:=x; exact Jal e
 | tbl ps=>exact Jal (show h.get? a = some _ from x)
 | met f y=>exact Jal (show h.get? a = some _ from x)
 | ext φ=>obtain ⟨_,⟨_,e⟩,_⟩:=x; exact Jal e
 | tab l c q=>
  rcases x with e | ⟨_,_,_,_,e,_⟩
  ·exact Jal e
  ·exact Jal e
theorem Paired.mapP {α β:Type} {F G:α->β->Prop}:∀ {l₁:List α} {l₂:List β},Paired F l₁ l₂->(∀ a b,F a b->G a b)->Paired G l₁ l₂
 | _,_,.nil,_=>.nil
 | _,_,.cons r t,f=>.cons (f _ _ r) (Paired.mapP t f)
theorem ObjOk.stay (x:ObjOk P w H h a o) (k:∀ b u,(b = a\/H b = some (.own a))->h.get? b = some u->h'.get? b = some u)
  (ho:∀ b,H b = some (.own a)->H' b = some (.own a)) (ht:∀ b xs,H b = some (.tup xs)->H' b = some (.tup xs)) (hz:∀ b o' u,H b = some (.frz o' u)->H' b = some (.frz o' u)):ObjOk P w H' h' a o:=by
 induction o with
 | lst xs=>obtain ⟨z,its,n,r,e⟩:=x; exact ⟨z,its,n,r,k _ _ (.inl rfl) e⟩
 | tup xs=>obtain ⟨z,its,r,ob,e,c⟩:=x; exact ⟨z,its,r,ob,k _ _ (.inl rfl) e,c⟩
 | dK kvs=>obtain ⟨z,y,vs,r,ob,es,ep,e,c⟩:=x; exact ⟨z,y,vs,r,ob,es,ep,k _ _ (.inl rfl) e,c⟩
 | dT kvs=>
  obtain ⟨z,y,xs,r,ob,es,ep,e,c⟩:=x
  exact ⟨z,y,xs,Paired.mapP r fun p q z=>⟨z.1,ht _ _ z.2.1,z.2.2⟩,ob,es,ep,k _ _ (.inl rfl) e,c⟩
 | set S n=>obtain ⟨ob,es,ep,t,e,c⟩:=x; exact ⟨ob,es,ep,t,k _ _ (.inl rfl) e,c⟩
 | ins C dx fs=>
  obtain ⟨d,z,ne,e,mA,⟨od,es,ep,e2,c⟩,r⟩:=x
  exact ⟨ho _ d,z,ne,k _ _ (.inl rfl) e,mA,⟨od,es,ep,k _ _ (.inr d) e2,c⟩,r⟩
 | own y=>obtain ⟨ob,e⟩:=x; exact ⟨ob,k _ _ (.inl rfl) e⟩
 | xd fs=>obtain ⟨mA,⟨od,es,ep,e,c⟩,r⟩:=x; exact ⟨mA,⟨od,es,ep,k _ _ (.inl rfl) e,c⟩,r⟩
 | rng lo hi=>obtain ⟨t,u,v,e⟩:=x; exact ⟨t,u,v,k _ _ (.inl rfl) e⟩
 | frz ob u ih=>obtain ⟨e,q⟩:=x; exact ⟨k _ _ (.inl rfl) e,ih q⟩
 | tbl ps=>
  have e:h.get? a = some { cls:=.none,data:=.fields ps }:=x
  show h'.get? a = some { cls:=.none,data:=.fields ps }
  exact k a _ (.inl rfl) e
 | met f y=>
  have e:h.get? a = some (PySem.W.methodObj (.ref f) (.ref y)):=x
  show h'.get? a = some (PySem.W.methodObj (.ref f) (.ref y))
  exact k a _ (.inl rfl) e
 | ext φ=>obtain ⟨p,⟨o,e⟩,st⟩:=x; exact ⟨st _ _ p fun o q=>k _ _ (.inl rfl) q,⟨o,k _ _ (.inl rfl) e⟩,st⟩
 | tab l c q=>
  rcases x with e | ⟨c',oc,vs,t,e,ne,e2,r⟩
  ·exact .inl (k _ _ (.inl rfl) e)
  ·exact .inr ⟨c',oc,vs,t,k _ _ (.inl rfl) e,ne,hz _ _ _ e2,r⟩
theorem HOk.lt (x:HOk P w H h) (e:H a = some o):a < h.objs.size:=(x a o e).lt
theorem HOk.fresh (x:HOk P w H h) (e:h.objs.size<=a):H a = none:=by
 cases q:H a with
 | none=>rfl
 | some u=>exact absurd (Ja7 (x.lt q) e) (Jb0 _)
theorem HOk.kept (x:HOk P w H h) (k:∀ b u,h.get? b = some u->h'.get? b = some u):HOk P w H h':=fun a o e=>
 (x a o e).stay (fun b u _ q=>k b u q) (fun _ q=>q) (fun _ _ q=>q) fun _ _ _ q=>q
theorem HOk.laid (x:HOk P w H h) (k:∀ b u,h.get? b = some u->h'.get? b = some u) (hp:h.objs.size<=a) (new:ObjOk P w (upd H a o) h' a o):HOk P w (upd H a o) h':=fun b u e=>by
 have hn:=x.fresh hp
 by_cases hb:b = a
 ·subst hb; rw [Zaa] at e; cases e; exact new
 ·rw [Zaf hb] at e
  exact (x b u e).stay (fun c v _ q=>k c v q) (fun c q=>by rw [Zaf (Zad q hn)]; exact q) (fun c xs q=>by rw [Zaf (Zad q hn)]; exact q) fun c _ _ q=>by rw [Zaf (Zad q hn)]; exact q
end
def Rd (H:Hp) (a:Addr) (u:HO):Prop:=H a = some u\/∃ o,H a = some (.frz o u)
theorem Rd.ok {P:Program} {w:World} {H:Hp} {h:Heap} {a:Addr} {u:HO} (r:Rd H a u) (x:HOk P w H h):ObjOk P w H h a u:=by
 rcases r with r | ⟨o,r⟩
 ·exact x a u r
 ·obtain ⟨_,q⟩:=x a _ r
  exact q
def Mut:Option HO->Prop
 | some (.lst _)=>True
 | some (.dK _)=>True
 | some (.dT _)=>True
 | some (.set _ _)=>True
 | some (.ins _ _ _)=>True
 | some (.ext _)=>True
 | some (.tab _ _ _)=>True
 | _=>False
section
variable {P:Program} {w:World} {H:Hp} {h h':Heap} {x e:Addr} {o':HO}
theorem HOk.write (ok:HOk P w H h) (mu:Mut (H x)) (he:e = x\/H e = some (.own x)) (k:∀ b u,b ≠ e->h.get? b = some u->h'.get? b = some u) (heo:∃ u,h'.get? e = some u)
  (new:ObjOk P w (upd H x o') h' x o'):HOk P w (upd H x o') h':=fun b u q=>by
 have nown:∀ c y,H c = some (.own y)->c ≠ x:=fun c y r z=>by subst z; rw [r] at mu; exact mu
 have ntup:∀ c xs,H c = some (.tup xs)->c ≠ x:=fun c xs r z=>by subst z; rw [r] at mu; exact mu
 have nfrz:∀ c o' u',H c = some (.frz o' u')->c ≠ x:=fun c o' u' r z=>by subst z; rw [r] at mu; exact mu
 by_cases hb:b = x
 ·subst hb; rw [Zaa] at q; cases q; exact new
 ·rw [Zaf hb] at q
  by_cases hbe:b = e
  ·have q':H b = some (.own x):=by
    rcases he with z | z
    ·exact absurd (hbe.trans z) hb
    ·rw [hbe]; exact z
   rw [q] at q'; cases q'
   obtain ⟨v,hv⟩:=heo
   exact ⟨v,by rw [hbe]; exact hv⟩
  ·refine (ok b u q).stay (fun c v hc r=>k c v ?_ r) (fun c r=>by rw [Zaf (nown c b r)]; exact r) (fun c xs r=>by rw [Zaf (ntup c xs r)]; exact r) fun c o' u' r=>by rw [Zaf (nfrz c o' u' r)]; exact r
   rcases hc with rfl | hc
   ·exact hbe
   ·rintro rfl
    rcases he with z | z
    ·exact nown c b hc z
    ·rw [hc] at z; cases z; exact hb rfl
end
structure Un (fs ex:List Addr) (H H':Hp) (h h':Heap):Prop where
 keep:∀ b o,h.get? b = some o->H b = none->b ∉ fs->b ∉ ex->h'.get? b = some o
 slot:∀ b o,h.get? b = some o->H b = none->b ∈ fs->b ∉ ex->∃ sl,h'.get? b = some { o with slots:=sl }
 free:∀ b o,h.get? b = some o->H b = none->b ∉ ex->H' b = none
 there:∀ b o,h.get? b = some o->b ∉ ex->∃ o',h'.get? b = some o'
 tups:∀ b xs,H b = some (.tup xs)->H' b = some (.tup xs)
 frzs:∀ b o u,H b = some (.frz o u)->H' b = some (.frz o u)
 tbls:∀ b ps,H b = some (.tbl ps)->∃ more,H' b = some (.tbl (ps ++ more))
section
variable {fs fs' ex ex':List Addr} {H H1 H2:Hp} {h h1 h2 h':Heap} {a x e:Addr} {o:HO}
theorem Un.any (u:Un fs ex H H1 h h1) {b:Addr} {ob:Obj} (q:h.get? b = some ob) (n:H b = none) (hx:b ∉ ex):∃ sl,h1.get? b = some { ob with slots:=sl }:=by
 by_cases hb:b ∈ fs
 ·exact u.slot b ob q n hb hx
 ·exact ⟨ob.slots,u.keep b ob q n hb hx⟩
theorem Un.kept (k:∀ b u,h.get? b = some u->h'.get? b = some u):Un fs ex H H h h':=
 ⟨fun b ob q _ _ _=>k b ob q,fun b ob q _ _ _=>⟨ob.slots,k b ob q⟩,fun _ _ _ n _=>n,fun b ob q _=>⟨ob,k b ob q⟩,fun _ _ q=>q,fun _ _ _ q=>q,fun _ ps q=>⟨#[],by rw [q]; simp⟩⟩
theorem Un.refl:Un fs ex H H h h:=Un.kept fun _ _ q=>q
theorem Un.laid (k:∀ b u,h.get? b = some u->h'.get? b = some u) (hp:h.objs.size<=a) (hn:H a = none):Un fs ex H (upd H a o) h h' where
 keep:=fun b u q _ _ _=>k b u q
 slot:=fun b u q _ _ _=>⟨u.slots,k b u q⟩
 free:=fun b u q n _=>by rw [Zaf (Ja8 (Ja7 (Jal q) hp))]; exact n
 there:=fun b u q _=>⟨u,k b u q⟩
 tups:=fun b xs q=>by rw [Zaf (Zad q hn)]; exact q
 frzs:=fun b u xs q=>by rw [Zaf (Zad q hn)]; exact q
 tbls:=fun b ps q=>⟨#[],by rw [Zaf (Zad q hn),q]; simp⟩
theorem Un.write (mu:Mut (H x)) (he:e = x\/H e = some (.own x)) (k:∀ b u,b ≠ e->h.get? b = some u->h'.get? b = some u) (heo:∃ u,h'.get? e = some u):Un fs ex H (upd H x o) h h':=by
 have hx:∀ b,H b = none->b ≠ x:=fun b n z=>by subst z; rw [n] at mu; exact mu
 have hb:∀ b,H b = none->b ≠ e:=fun b n z=>by
  subst z
  rcases he with r | r
  ·exact hx b n r
  ·rw [n] at r; cases r
 have hm:∀ b u,H b = some u->¬ Mut (some u)->b ≠ x:=fun b u q nm z=>by subst z; rw [q] at mu; exact nm mu
 refine ⟨fun b u q n _ _=>k b u (hb b n) q,fun b u q n _ _=>⟨u.slots,k b u (hb b n) q⟩,fun b u q n _=>by rw [Zaf (hx b n)]; exact n,fun b u q _=>?_,
  fun b xs q=>by rw [Zaf (hm b _ q fun z=>z)]; exact q,fun b u xs q=>by rw [Zaf (hm b _ q fun z=>z)]; exact q,fun b ps q=>⟨#[],by rw [Zaf (hm b _ q fun z=>z),q]; simp⟩⟩
 by_cases hbe:b = e
 ·subst hbe; exact heo
 ·exact ⟨u,k b u hbe q⟩
end
def trk (h:Heap) (H:Hp):List Addr:=(List.range h.objs.size).filter fun a=>(H a).isSome
def Zow (h:Heap) (H:Hp):Heap:=PySem.W.hideAll h (trk h H)
theorem Zn1 (h:Heap) (H:Hp):(Zow h H).objs.size = h.objs.size:=PySem.W.hideAll_size _ _
theorem Zp6 {h:Heap} {H:Hp} {b:Addr} {o:Obj} (e:h.get? b = some o) (n:H b = none):(Zow h H).get? b = some o:=
 PySem.W.hideAll_get _ e fun hm=>by
  have q:(H b).isSome = true:=(Jas.mp hm).2
  rw [n] at q; simp at q
theorem of_hidT {h:Heap} {H:Hp} {b:Addr} {o:Obj} (e:(Zow h H).get? b = some o):h.get? b = some o/\H b = none:=by
 have e':h.get? b = some o:=PySem.W.of_hideAll (trk h H) e
 refine ⟨e',?_⟩
 cases q:H b with
 | none=>rfl
 | some x=>
  have hm:b ∈ trk h H:=Jas.mpr ⟨Jcb.mpr (Jal e'),by simp [q]⟩
  have z:(Zow h H).get? b = none:=PySem.W.hideAll_none (trk h H) hm
  rw [z] at e; cases e
def allNews (g h:Heap) (L:Addr):List (Addr × Obj):=(List.range h.objs.size).filterMap fun a=>if a = L\/(g.get? a).isSome = true then none else (h.get? a).map fun o=>(a,o)
def rest (g h:Heap) (L d:Addr):List (Addr × Obj):=(allNews g h L).filter fun p=>decide (p.1 ≠ d)
structure Mod (K:PySem.W.Frag) (mg:Str->Option Value) (base:Heap):Prop where
 kin:K.In base
 glob:base.Ns mainGlobals mg
 blt:∃ mb,base.Ns builtinsNs mb/\∀ x:Str,x ≠ "__name__" -> mb x = bootBuiltins x
 nolimit:base.NoLimit
 seer:base.NoSeer
 bmain:∃ bm ob,mg "__builtins__" = some (.ref bm)/\bm ≠ builtinsNs/\base.get? bm = some ob/\ob.cls = .type "module" /\ ob.dict = some builtinsNs/\ob.data = .plain
def Seen (l:List Env):Prop:=∃ e r,l = e :: r/\e.scope.isGenerator = false/\e.scope.isCoroutine = false/\e.builtins = builtinsNs/\e.globals = mainGlobals
structure Cx where
 prog:Program
 w:World
 K:PySem.W.Frag
 mg:Str->Option Value
 base:Heap
 A:Around
 N:List Str
 s₀:Shared
 H₀:Hp
 env:Env
 outer:List Env
 stack:List Env
 ex:List Addr
 fn:Str->Bool
 calm:Bool
 pn:List (Addr × Obj)
 xe:Value->Shared->Prop
def frs (l:List Env):List Addr:=l.filterMap (·.frame)
abbrev Cx.fs (X:Cx):List Addr:=frs X.outer
def Vis (sc:Scope) (x:Str):Prop:=sc.names.lookup x = some .local\/sc.names.lookup x = some .cell\/sc.names.lookup x = some .free
def Loc (sc:Scope) (x:Str):Prop:=sc.names.lookup x = some .local\/sc.names.lookup x = some .cell
def Look (env:Env) (h:Heap) (m:Str->Option Value) (x:Str) (u:Value):Prop:=
 (env.kindOf x = some .local/\m x = some u)\/((env.kindOf x = some .cell\/env.kindOf x = some .free)/\∃ c,env.cells.lookup x = some c/\h.IsCell c (some u))
structure Cx.Ok (X:Cx):Prop where
 mod:Mod X.K X.mg X.base
 kind:X.env.scope.kind = .function
 glob:X.env.globals = mainGlobals
 blt:X.env.builtins = builtinsNs
 above:X.s₀.heap.objs.size<=X.env.locals
 inj:∀ x y c,X.env.cells.lookup x = some c->X.env.cells.lookup y = some c->x = y
 has:∀ x,(X.env.kindOf x = some .cell\/X.env.kindOf x = some .free)->∃ c,X.env.cells.lookup x = some c
 cab:∀ x c,X.fn x = true->X.env.cells.lookup x = some c->X.s₀.heap.objs.size<=c
 hd:X.calm = true->X.A.handled = none
 frames:X.A.frames = some X.stack
 stk:X.stack = X.outer\/(X.stack = X.env :: X.outer/\X.env.frame = some X.env.locals)
 exf:∀ b ∈ X.ex,b ≠ X.env.locals/\∀ x c,X.env.cells.lookup x = some c->c ≠ b
 bs:∀ b o,X.base.get? b = some o->X.s₀.heap.get? b = some o/\X.H₀ b = none
 bsz:X.base.objs.size<=X.s₀.heap.objs.size
 noex:∀ b o,X.base.get? b = some o->b ∉ X.ex
 exfs:∀ b ∈ X.ex,b ∉ X.fs
 funs:X.s₀.heap.FunFrames X.base X.outer
 frf:∀ b ∈ X.fs,X.H₀ b = none
 top:Seen X.stack
structure Inv (X:Cx) (pins:List (Addr × Obj)) (σ:List (Option V)) (H:Hp) (s:Shared):Prop where
 ok:X.Ok
 os:s.os = X.s₀.os
 bare:AllBare s.gens
 base:Un X.fs X.ex X.H₀ H X.s₀.heap s.heap
 loc:∃ m,s.heap.Ns X.env.locals m/\∀ (i:Nat) (x:Str) (v:V),X.N[i]? = some x->σ[i]? = some (some v)->Vis X.env.scope x->∃ u,RelV v u/\Look X.env s.heap m x u
 cell:∀ x c,X.env.cells.lookup x = some c->∃ v,s.heap.IsCell c v
 free:H X.env.locals = none
 freeC:∀ x c,X.env.cells.lookup x = some c->H c = none
 pin:∀ p ∈ X.pn ++ pins,s.heap.get? p.1 = some p.2/\H p.1 = none/\p.1 ≠ X.env.locals/\p.1 ∉ X.fs/\∀ v,p.2.data ≠ .cell v
 hok:HOk X.prog X.w H s.heap
 len:σ.length = X.N.length
section
variable {X:Cx} {pins:List (Addr × Obj)} {σ:List (Option V)} {H H':Hp} {s:Shared} {h':Heap}
theorem Cx.Ok.nofr (ok:X.Ok) {b:Addr} {o:Obj} (e:X.base.get? b = some o):b ∉ X.fs:=fun hb=>by
 have:=(ok.funs.mem hb).1
 rw [e] at this; cases this
theorem Inv.bs (I:Inv X pins σ H s):∀ b o,X.base.get? b = some o->s.heap.get? b = some o/\H b = none:=fun b o e=>
 ⟨I.base.keep b o (I.ok.bs b o e).1 (I.ok.bs b o e).2 (I.ok.nofr e) (I.ok.noex b o e),I.base.free b o (I.ok.bs b o e).1 (I.ok.bs b o e).2 (I.ok.noex b o e)⟩
theorem Inv.bk (I:Inv X pins σ H s):∀ b o,X.base.get? b = some o->s.heap.get? b = some o:=fun b o e=>(I.bs b o e).1
theorem Inv.mod (I:Inv X pins σ H s):Mod X.K X.mg X.base:=I.ok.mod
theorem Inv.kIn (I:Inv X pins σ H s):X.K.In s.heap:=I.ok.mod.kin.keeps I.bk
theorem Inv.lt (I:Inv X pins σ H s):X.env.locals < s.heap.objs.size:=let ⟨_,hn,_⟩:=I.loc; hn.lt
theorem Inv.sz (I:Inv X pins σ H s):X.s₀.heap.objs.size<=s.heap.objs.size:=Jay I.ok.above (Jbs I.lt)
theorem Inv.nofs (I:Inv X pins σ H s) {a:Addr} (h:s.heap.objs.size<=a):a ∉ X.fs:=fun hb=>by
 obtain ⟨_,o,ho,_⟩:=I.ok.funs.mem hb
 exact absurd (Ja7 (Jal ho) (Jay I.sz h)) (Jb0 _)
theorem Inv.cne (I:Inv X pins σ H s):∀ x c,X.env.cells.lookup x = some c->c ≠ X.env.locals:=fun x c e z=>by
 obtain ⟨v,o,ho,hd⟩:=I.cell x c e
 obtain ⟨m,⟨o',es,ep,ho',hd',_⟩,_⟩:=I.loc
 rw [z,ho'] at ho; cases ho; rw [hd'] at hd; cases hd
theorem Inv.funs (I:Inv X pins σ H s):s.heap.FunFrames X.base X.outer:=by
 have all:∀ (l:List Env),(∀ b ∈ frs l,b ∈ X.fs)->X.s₀.heap.FunFrames X.base l->s.heap.FunFrames X.base l:=by
  intro l
  induction l with
  | nil=>intro _ _; trivial
  | cons env r ih=>
   intro hs hl
   obtain ⟨hk,⟨L,o,hf,hn,ho,hd⟩,hr⟩:=hl
   have hL:L ∈ X.fs:=hs L (by unfold frs; rw [Jc8,hf]; exact Jc2)
   obtain ⟨sl,e⟩:=I.base.slot L o ho (I.ok.frf L hL) hL fun z=>I.ok.exfs L z hL
   exact ⟨hk,⟨L,_,hf,hn,e,hd⟩,ih (fun b hb=>hs b (by unfold frs; rw [Jc8,hf]; exact Jbj _ hb)) hr⟩
 exact all X.outer (fun _ hb=>hb) I.ok.funs
theorem Inv.stack (I:Inv X pins σ H s):s.heap.FunFrames X.base X.stack:=by
 rcases I.ok.stk with e | ⟨e,hf⟩
 ·rw [e]; exact I.funs
 ·rw [e]
  obtain ⟨m,hn,_⟩:=I.loc
  refine .cons (by rw [I.ok.kind]; decide) hf hn ?_ I.funs
  exact Heap.get?_none_of_le (Jay I.ok.bsz I.ok.above)
theorem Inv.stkSub (I:Inv X pins σ H s):∀ b ∈ frs X.stack,b ∈ X.env.locals :: X.fs:=fun b hb=>by
 rcases I.ok.stk with e | ⟨e,hf⟩
 ·rw [e] at hb; exact Jbj _ hb
 ·rw [e] at hb
  unfold frs at hb
  rw [Jc8,hf] at hb
  exact hb
theorem Inv.stkFree (I:Inv X pins σ H s):∀ b ∈ frs X.stack,H b = none:=fun b hb=>by
 rcases Jam.mp (I.stkSub b hb) with e | hb
 ·rw [e]; exact I.free
 ·obtain ⟨_,o,ho,_⟩:=I.ok.funs.mem hb
  exact I.base.free b o ho (I.ok.frf b hb) fun z=>I.ok.exfs b z hb
theorem Inv.step {g':Array GenState} {t':Nat} {d':Drawn} {ch:List Addr} (I:Inv X pins σ H s)
  (hch:∀ b ∈ ch,(b ∈ X.ex\/X.s₀.heap.objs.size<=b)/\b ≠ X.env.locals/\(∀ x c,X.env.cells.lookup x = some c->c ≠ b)/\∀ p ∈ X.pn ++ pins,p.1 ≠ b)
  (keep:∀ b o,b ≠ X.env.locals->b ∉ X.fs->b ∉ ch->s.heap.get? b = some o->H b = none->h'.get? b = some o)
  (slot:∀ b o,b ≠ X.env.locals->b ∈ X.fs->b ∉ ch->s.heap.get? b = some o->H b = none->∃ sl,h'.get? b = some { o with slots:=sl }) (free:∀ b o,b ∉ ch->s.heap.get? b = some o->H b = none->H' b = none)
  (there:∀ b o,b ∉ ch->s.heap.get? b = some o->∃ o',h'.get? b = some o')
  (tups:∀ b xs,H b = some (.tup xs)->H' b = some (.tup xs)) (frzs:∀ b o u,H b = some (.frz o u)->H' b = some (.frz o u)) (tbls:∀ b ps,H b = some (.tbl ps)->∃ more,H' b = some (.tbl (ps ++ more)))
  (ns:∀ m,s.heap.Ns X.env.locals m->h'.Ns X.env.locals m) (hok:HOk X.prog X.w H' h') (hg:AllBare g'):
  Inv X pins σ H' { s with heap:=h',gens:=g',drawn:=d',toks:=t' }:=by
 have neL:∀ b o,X.s₀.heap.get? b = some o->b ≠ X.env.locals:=fun b o e=>Ja8 (Ja7 (Jal e) I.ok.above)
 have neC:∀ b o,X.s₀.heap.get? b = some o->b ∉ X.ex->b ∉ ch:=fun b o e hx hb=>by
  rcases (hch b hb).1 with z | z
  ·exact hx z
  ·exact absurd (Ja7 (Jal e) z) (Jb0 _)
 have cellK:∀ x c,X.env.cells.lookup x = some c->∀ v,s.heap.IsCell c v->h'.IsCell c v:=fun x c e v ⟨o,ho,hd⟩=>by
  have nch:c ∉ ch:=fun z=>(hch c z).2.2.1 x c e rfl
  by_cases hc:c ∈ X.fs
  ·obtain ⟨sl,q⟩:=slot c o (I.cne x c e) hc nch ho (I.freeC x c e)
   exact ⟨_,q,hd⟩
  ·exact ⟨o,keep c o (I.cne x c e) hc nch ho (I.freeC x c e),hd⟩
 refine ⟨I.ok,I.os,hg,⟨fun b o e n hb hx=>?_,fun b o e n hb hx=>?_,fun b o e n hx=>?_,fun b o e hx=>?_,fun b xs e=>tups b xs (I.base.tups b xs e),fun b o xs e=>frzs b o xs (I.base.frzs b o xs e),fun b ps e=>?_⟩,?_,fun x c e=>?_,?_,fun x c e=>?_,fun p hp=>?_,hok,I.len⟩
 ·exact keep b o (neL b o e) hb (neC b o e hx) (I.base.keep b o e n hb hx) (I.base.free b o e n hx)
 ·obtain ⟨sl,e1⟩:=I.base.slot b o e n hb hx
  obtain ⟨sl',e2⟩:=slot b _ (neL b o e) hb (neC b o e hx) e1 (I.base.free b o e n hx)
  exact ⟨sl',e2⟩
 ·obtain ⟨o',e1⟩:=I.base.there b o e hx
  exact free b o' (neC b o e hx) e1 (I.base.free b o e n hx)
 ·obtain ⟨o',e1⟩:=I.base.there b o e hx
  exact there b o' (neC b o e hx) e1
 ·obtain ⟨m1,e1⟩:=I.base.tbls b ps e
  obtain ⟨m2,e2⟩:=tbls b _ e1
  exact ⟨m1 ++ m2,by rw [e2,Array.append_assoc]⟩
 ·obtain ⟨m,hn,hl⟩:=I.loc
  refine ⟨m,ns m hn,fun i x v e1 e2 e3=>?_⟩
  obtain ⟨u,r,l⟩:=hl i x v e1 e2 e3
  refine ⟨u,r,?_⟩
  rcases l with l | ⟨k,c,e,z⟩
  ·exact .inl l
  ·exact .inr ⟨k,c,e,cellK x c e _ z⟩
 ·obtain ⟨v,z⟩:=I.cell x c e
  exact ⟨v,cellK x c e v z⟩
 ·obtain ⟨m,⟨o,_,_,ho,_⟩,_⟩:=I.loc
  exact free _ o (fun z=>(hch _ z).2.1 rfl) ho I.free
 ·obtain ⟨v,o,ho,hd⟩:=I.cell x c e
  exact free c o (fun z=>(hch c z).2.2.1 x c e rfl) ho (I.freeC x c e)
 ·obtain ⟨e,n,ne,nf,d⟩:=I.pin p hp
  have nch:p.1 ∉ ch:=fun z=>(hch p.1 z).2.2.2 p hp rfl
  exact ⟨keep p.1 p.2 ne nf nch e n,free p.1 p.2 nch e n,ne,nf,d⟩
theorem Inv.un {t':Nat} (I:Inv X pins σ H s) (u:Un X.fs [] H H' s.heap h') (hok:HOk X.prog X.w H' h'):Inv X pins σ H' { s with heap:=h',toks:=t' }:=by
 obtain ⟨m,⟨o,es,ep,ho,r⟩,_⟩:=id I.loc
 obtain ⟨sl,hL⟩:=u.any ho I.free (by simp)
 exact I.step (g':=s.gens) (d':=s.drawn) (ch:=[]) (fun _ z=>nomatch z) (fun b o _ hb _ e n=>u.keep b o e n hb (by simp)) (fun b o _ hb _ e n=>u.slot b o e n hb (by simp)) (fun b o _ e n=>u.free b o e n (by simp)) (fun b o _ e=>u.there b o e (by simp)) u.tups u.frzs u.tbls (fun m' hm=>by
  obtain ⟨o',es',ep',ho',r'⟩:=hm
  rw [ho] at ho'; cases ho'
  exact ⟨_,es',ep',hL,r'⟩) hok I.bare
theorem Inv.call {g':Array GenState} {t':Nat} {d':Drawn} {ch:List Addr} (I:Inv X pins σ H s) (u:Un (frs X.stack) ch H H' s.heap h') (hok:HOk X.prog X.w H' h') (hg:AllBare g')
  (hch:∀ b ∈ ch,(b ∈ X.ex\/X.s₀.heap.objs.size<=b)/\b ≠ X.env.locals/\(∀ x c,X.env.cells.lookup x = some c->c ≠ b)/\∀ p ∈ X.pn ++ pins,p.1 ≠ b):
  Inv X pins σ H' { s with heap:=h',gens:=g',drawn:=d',toks:=t' }:=by
 obtain ⟨m,⟨o,es,ep,ho,r⟩,_⟩:=id I.loc
 obtain ⟨sl,hL⟩:=u.any ho I.free fun z=>(hch _ z).2.1 rfl
 exact I.step (ch:=ch) hch (fun b o hL hb hc e n=>u.keep b o e n (fun z=>(Jam.mp (I.stkSub b z)).elim hL hb) hc) (fun b o _ _ hc e n=>u.any e n hc) (fun b o hc e n=>u.free b o e n hc) (fun b o hc e=>u.there b o e hc) u.tups u.frzs u.tbls (fun m' hm=>by
  obtain ⟨o',es',ep',ho',r'⟩:=hm
  rw [ho] at ho'; cases ho'
  exact ⟨_,es',ep',hL,r'⟩) hok hg
theorem Inv.turned {t':Nat} {it:Addr} (I:Inv X pins σ H s) (k:∀ b o,b ≠ it->s.heap.get? b = some o->h'.get? b = some o) (hn:H it = none) (hL:it ≠ X.env.locals)
  (h1:it ∈ X.ex\/X.s₀.heap.objs.size<=it) (h2:∀ x c,X.env.cells.lookup x = some c->c ≠ it) (h3:∀ p ∈ X.pn ++ pins,p.1 ≠ it):Inv X pins σ H { s with heap:=h',toks:=t' }:=by
 have nit:∀ b u,H b = some u->b ≠ it:=fun b u e z=>by rw [z,hn] at e; cases e
 refine I.step (g':=s.gens) (d':=s.drawn) (ch:=[it]) (fun b hb=>?_) (fun b o _ _ hc e _=>k b o (fun z=>hc (by simp [z])) e) (fun b o _ _ hc e _=>⟨o.slots,k b o (fun z=>hc (by simp [z])) e⟩) (fun _ _ _ _ n=>n)
  (fun b o hc e=>⟨o,k b o (fun z=>hc (by simp [z])) e⟩) (fun _ _ e=>e) (fun _ _ _ e=>e) (fun b ps e=>⟨#[],by rw [e]; simp⟩) (fun m hm=>?_) (fun b u e=>?_) I.bare
 ·have e:b = it:=by simpa using hb
  subst e
  exact ⟨h1,hL,h2,h3⟩
 ·obtain ⟨o,es,ep,ho,r⟩:=hm
  exact ⟨o,es,ep,k _ o (Jds hL) ho,r⟩
 ·refine (I.hok b u e).stay (fun c v hc q=>k c v ?_ q) (fun _ q=>q) (fun _ _ q=>q) fun _ _ _ q=>q
  rcases hc with z | z
  ·rw [z]; exact nit b u e
  ·exact nit c _ z
theorem Inv.tok (I:Inv X pins σ H s) (t:Nat):Inv X pins σ H { s with toks:=t }:=I.un (h':=s.heap) (t':=t) Un.refl I.hok
theorem Inv.kept {t':Nat} (I:Inv X pins σ H s) (k:∀ b u,s.heap.get? b = some u->h'.get? b = some u):Inv X pins σ H { s with heap:=h',toks:=t' }:=I.un (Un.kept k) (I.hok.kept k)
theorem Inv.laid {a:Addr} {o:HO} {t':Nat} (I:Inv X pins σ H s) (k:∀ b u,s.heap.get? b = some u->h'.get? b = some u) (hp:s.heap.objs.size<=a) (new:ObjOk X.prog X.w (upd H a o) h' a o):
  Inv X pins σ (upd H a o) { s with heap:=h',toks:=t' }:=I.un (Un.laid k hp (I.hok.fresh hp)) (I.hok.laid k hp new)
theorem Inv.write {x e:Addr} {o:HO} {t':Nat} (I:Inv X pins σ H s) (mu:Mut (H x)) (he:e = x\/H e = some (.own x)) (k:∀ b u,b ≠ e->s.heap.get? b = some u->h'.get? b = some u) (heo:∃ u,h'.get? e = some u)
  (new:ObjOk X.prog X.w (upd H x o) h' x o):Inv X pins σ (upd H x o) { s with heap:=h',toks:=t' }:=I.un (Un.write mu he k heo) (I.hok.write mu he k heo new)
theorem Inv.pins_of {pins':List (Addr × Obj)} (I:Inv X pins σ H s) (h:∀ p ∈ pins',s.heap.get? p.1 = some p.2/\H p.1 = none/\p.1 ≠ X.env.locals/\p.1 ∉ X.fs/\∀ v,p.2.data ≠ .cell v):Inv X pins' σ H s:=
 ⟨I.ok,I.os,I.bare,I.base,I.loc,I.cell,I.free,I.freeC,fun p hp=>(Jbd.mp hp).elim (fun z=>I.pin p (Jce _ z)) (h p),I.hok,I.len⟩
theorem Zka {N:List Str} (hN:N.Nodup) {i j:Nat} {x:Str} (a:N[i]? = some x) (b:N[j]? = some x):i = j:=by
 obtain ⟨h1,e1⟩:=Jap.mp a
 obtain ⟨h2,e2⟩:=Jap.mp b
 exact (List.getElem_inj hN).mp (e1.trans e2.symm)
theorem Zhq {M:Model} {A:Around} {E:Value->Shared->Prop} {i:Nat} {x:Str} {v:V} {u:Value} {Q:Unit->Shared->Prop} (I:Inv X pins σ H s) (hN:X.N.Nodup) (hi:X.N[i]? = some x) (hx:Loc X.env.scope x) (r:RelV v u)
  (h:∀ s',Inv X pins (σ.set i (some v)) H s'->(∃ a,Heap.SameBut a s.heap s'.heap/\(a = X.env.locals\/X.env.cells.lookup x = some a))->Q () s') (hf:X.fn x = true\/X.env.scope.names.lookup x = some .local:=by first | exact .inl rfl | exact .inr rfl | assumption):wpAny M A (storeName X.env x u) Q E s:=by
 obtain ⟨m,hn,hl⟩:=id I.loc
 have hcls:(X.env.scope.kind == .class || (X.env.scope.kind == .module && X.env.locals != X.env.globals)) = false:=by rw [I.ok.kind]; rfl
 have hiσ:i < σ.length:=by rw [I.len]; exact (Jap.mp hi).1
 have cne:=I.cne
 have tracked:∀ {a:Addr} {h':Heap},(∃ o,s.heap.get? a = some o/\H a = none)->Heap.SameBut a s.heap h'->HOk X.prog X.w H h':=fun {a h'} ha hs b ob e=>by
  obtain ⟨_,_,hfree⟩:=ha
  refine (I.hok b ob e).stay (fun c w' hc q=>(hs.2 c ?_).trans q) (fun _ q=>q) (fun _ _ q=>q) fun _ _ _ q=>q
  rintro rfl
  rcases hc with rfl | hc
  ·rw [hfree] at e; cases e
  ·rw [hfree] at hc; cases hc
 rcases hx with hk | hk
 ·refine wpAny_storeName_local hk hn (fun h' hn' hs=>?_) hcls
  obtain ⟨oL,_,_,hoL,_⟩:=id hn
  refine h _ ⟨I.ok,I.os,I.bare,⟨fun b o e n hb hx=>?_,fun b o e n hb hx=>?_,I.base.free,fun b o e hx=>?_,I.base.tups,I.base.frzs,I.base.tbls⟩,⟨_,hn',fun j y v' e1 e2 e3=>?_⟩,fun y c e=>?_,I.free,I.freeC,fun p hp=>?_,tracked ⟨oL,hoL,I.free⟩ hs,by simpa using I.len⟩ ⟨_,hs,.inl rfl⟩
  ·exact (hs.2 b (Ja8 (Ja7 (Jal e) I.ok.above))).trans (I.base.keep b o e n hb hx)
  ·obtain ⟨sl,e1⟩:=I.base.slot b o e n hb hx
   exact ⟨sl,(hs.2 b (Ja8 (Ja7 (Jal e) I.ok.above))).trans e1⟩
  ·obtain ⟨o',e1⟩:=I.base.there b o e hx
   exact ⟨o',(hs.2 b (Ja8 (Ja7 (Jal e) I.ok.above))).trans e1⟩
  ·by_cases hj:j = i
   ·subst hj
    rw [hi] at e1; cases e1
    rw [Jer hiσ] at e2
    cases e2
    exact ⟨u,r,.inl ⟨hk,by simp⟩⟩
   ·rw [List.getElem?_set_ne (Jds hj)] at e2
    obtain ⟨u',r',q⟩:=hl j y v' e1 e2 e3
    refine ⟨u',r',?_⟩
    rcases q with ⟨k,e⟩ | ⟨k,c,e,z⟩
    ·refine .inl ⟨k,?_⟩
     have:y ≠ x:=fun e=>hj (Zka hN e1 (e ▸ hi))
     simp [this,e]
    ·exact .inr ⟨k,c,e,z.sameBut hs (cne y c e)⟩
  ·obtain ⟨w',z⟩:=I.cell y c e
   exact ⟨w',z.sameBut hs (cne y c e)⟩
  ·obtain ⟨e,n,ne,nf,d⟩:=I.pin p hp
   exact ⟨(hs.2 p.1 ne).trans e,n,ne,nf,d⟩
 ·have hfn:X.fn x = true:=by
   rcases hf with z | z
   ·exact z
   ·rw [z] at hk; cases hk
  obtain ⟨c,hc⟩:=I.ok.has x (.inl hk)
  obtain ⟨w',z⟩:=I.cell x c hc
  refine wpAny_storeName_cell I.ok.kind hk hc z (fun h' hc' hs=>?_)
  obtain ⟨oc,hoc,hocd⟩:=id z
  refine h { s with heap:=h' } ⟨I.ok,I.os,I.bare,⟨fun b o e n hb hx=>?_,fun b o e n hb hx=>?_,I.base.free,fun b o e hx=>?_,I.base.tups,I.base.frzs,I.base.tbls⟩,⟨m,hn.sameBut hs (Jds (cne x c hc)),fun j y v' e1 e2 e3=>?_⟩,fun y c' e=>?_,I.free,I.freeC,fun p hp=>?_,tracked ⟨oc,hoc,I.freeC x c hc⟩ hs,by simpa using I.len⟩ ⟨c,hs,.inr hc⟩
  ·exact (hs.2 b (Ja8 (Ja7 (Jal e) (I.ok.cab x c hfn hc)))).trans (I.base.keep b o e n hb hx)
  ·obtain ⟨sl,e1⟩:=I.base.slot b o e n hb hx
   exact ⟨sl,(hs.2 b (Ja8 (Ja7 (Jal e) (I.ok.cab x c hfn hc)))).trans e1⟩
  ·obtain ⟨o',e1⟩:=I.base.there b o e hx
   exact ⟨o',(hs.2 b (Ja8 (Ja7 (Jal e) (I.ok.cab x c hfn hc)))).trans e1⟩
  ·by_cases hj:j = i
   ·subst hj
    rw [hi] at e1; cases e1
    rw [Jer hiσ] at e2
    cases e2
    exact ⟨u,r,.inr ⟨.inl hk,c,hc,hc'⟩⟩
   ·rw [List.getElem?_set_ne (Jds hj)] at e2
    obtain ⟨u',r',q⟩:=hl j y v' e1 e2 e3
    refine ⟨u',r',?_⟩
    rcases q with q | ⟨k,c',e,z'⟩
    ·exact .inl q
    ·refine .inr ⟨k,c',e,z'.sameBut hs ?_⟩
     rintro rfl
     exact hj (Zka hN e1 (I.ok.inj _ _ _ e hc ▸ hi))
  ·by_cases hcc:c' = c
   ·subst hcc; exact ⟨_,hc'⟩
   ·obtain ⟨w2,z2⟩:=I.cell y c' e
    exact ⟨w2,z2.sameBut hs hcc⟩
  ·obtain ⟨e,n,ne,nf,d⟩:=I.pin p hp
   refine ⟨(hs.2 p.1 ?_).trans e,n,ne,nf,d⟩
   intro q
   rw [q,hoc] at e
   have q':oc = p.2:=Jbm e
   exact d w' (by rw [<- q']; exact hocd)
theorem Ze6 {M:Model} {A:Around} {E:Value->Shared->Prop} {i:Nat} {x:Str} {v:V} {u:Value} {Q:Unit->Shared->Prop} (I:Inv X pins σ H s) (hN:X.N.Nodup) (hi:X.N[i]? = some x) (hx:Loc X.env.scope x) (r:RelV v u)
  (h:∀ s',Inv X pins (σ.set i (some v)) H s'->Q () s') (hf:X.fn x = true\/X.env.scope.names.lookup x = some .local:=by first | exact .inl rfl | exact .inr rfl | assumption):wpAny M A (storeName X.env x u) Q E s:=
 Zhq I hN hi hx r (fun s' I' _=>h s' I') hf
theorem Inv.call' {s':Shared} {ch:List Addr} (I:Inv X pins σ H s) (ho:s'.os = s.os) (u:Un (frs X.stack) ch H H' s.heap s'.heap) (hok:HOk X.prog X.w H' s'.heap) (hg:AllBare s'.gens)
  (hch:∀ b ∈ ch,(b ∈ X.ex\/X.s₀.heap.objs.size<=b)/\b ≠ X.env.locals/\(∀ x c,X.env.cells.lookup x = some c->c ≠ b)/\∀ p ∈ X.pn ++ pins,p.1 ≠ b):Inv X pins σ H' s':=by
 obtain ⟨h',g',d',t',o'⟩:=s'
 have e:o' = s.os:=ho
 subst e
 exact I.call (g':=g') (t':=t') (d':=d') u hok hg hch
end
abbrev XK:=Value->Option Addr->Hp->Prop
abbrev St:=List (Option V)
abbrev VK:=V->Hp->Prop
abbrev TE:=St->Hp->VK->Prop
abbrev TT:=St->Hp->(Bool->Hp->Prop)->Prop
abbrev TA:=St->Hp->(List V->Hp->Prop)->Prop
structure Ends where
 nx:St->Hp->Prop
 rt:VK
 bk:St->Hp->Prop:=fun _ _=>False
 ct:St->Hp->Prop:=fun _ _=>False
abbrev TS:=Ends->St->Hp->Prop
def EP (X:Cx) (pins:List (Addr × Obj)) (σ:St) (Q:VK) (u:Value) (s':Shared):Prop:=∃ v H',Inv X pins σ H' s'/\RelV v u/\Q v H'
def TP (X:Cx) (pins:List (Addr × Obj)) (σ:St) (Q:Bool->Hp->Prop) (b:Bool) (s':Shared):Prop:=∃ H',Inv X pins σ H' s'/\Q b H'
def AP (X:Cx) (pins:List (Addr × Obj)) (σ:St) (Q:List V->Hp->Prop) (us:List Value) (s':Shared):Prop:=∃ vs H',Inv X pins σ H' s'/\Vals vs us/\Q vs H'
def SP (X:Cx) (pins:List (Addr × Obj)) (D:Ends) (f:Flow) (s':Shared):Prop:=
 match f with
 | .next=>∃ σ' H',Inv X pins σ' H' s'/\D.nx σ' H'
 | .brk=>∃ σ' H',Inv X pins σ' H' s'/\D.bk σ' H'
 | .cont=>∃ σ' H',Inv X pins σ' H' s'/\D.ct σ' H'
 | .ret u=>∃ v σ' H',Inv X pins σ' H' s'/\RelV v u/\D.rt v H'
def PE (X:Cx) (e:Expr) (t:TE):Prop:=
 ∀ (pins:List (Addr × Obj)) (s:Shared) (σ:St) (H:Hp) (Q:VK),Inv X pins σ H s->t σ H Q->wpAny (model X.prog X.w) X.A (eval e X.env) (EP X pins σ Q) X.xe s
def PT (X:Cx) (e:Expr) (t:TT):Prop:=
 ∀ (pins:List (Addr × Obj)) (s:Shared) (σ:St) (H:Hp) (Q:Bool->Hp->Prop),Inv X pins σ H s->t σ H Q->wpAny (model X.prog X.w) X.A (isTrue e X.env (eval e X.env)) (TP X pins σ Q) X.xe s
def PW (X:Cx) (e:Expr) (t:TT):Prop:=
 ∀ (whole:Sem Value) (pins:List (Addr × Obj)) (s:Shared) (σ:St) (H:Hp) (Q:Bool->Hp->Prop),Inv X pins σ H s->t σ H Q->wpAny (model X.prog X.w) X.A (isTrue e X.env whole) (TP X pins σ Q) X.xe s
theorem PW.pt {X:Cx} {e:Expr} {t:TT} (h:PW X e t):PT X e t:=h _
def PA (X:Cx) (es:List Expr) (t:TA):Prop:=
 ∀ (pos:Pos) (pins:List (Addr × Obj)) (s:Shared) (σ:St) (H:Hp) (Q:List V->Hp->Prop),Inv X pins σ H s->t σ H Q->wpAny (model X.prog X.w) X.A (spliced (backTo pos (starEach es X.env))) (AP X pins σ Q) X.xe s
def PS (X:Cx) (st:Stmt) (t:TS):Prop:=
 ∀ (pins:List (Addr × Obj)) (s:Shared) (σ:St) (H:Hp) (D:Ends),Inv X pins σ H s->t D σ H->wpAny (model X.prog X.w) X.A (exec st X.env) (SP X pins D) X.xe s
def PSs (X:Cx) (st:List Stmt) (t:TS):Prop:=
 ∀ (pins:List (Addr × Obj)) (s:Shared) (σ:St) (H:Hp) (D:Ends),Inv X pins σ H s->t D σ H->wpAny (model X.prog X.w) X.A (execs st X.env) (SP X pins D) X.xe s
theorem thn {α:Type} {t:Sem α} {Q Q':α->Shared->Prop} {M:Model} {A:Around} {E:Value->Shared->Prop} {s:Shared} (h:wpAny M A t Q E s) (hQ:∀ a s,Q a s->Q' a s):wpAny M A t Q' E s:=Jbk h hQ fun _ _ x=>x
section
variable {X:Cx}
theorem bin {a b:Expr} {ta tb:TE} (ha:PE X a ta) (hb:PE X b tb) {pins:List (Addr × Obj)} {s:Shared} {σ:St} {H:Hp} {R:V->V->Hp->Prop} (I:Inv X pins σ H s) (h:ta σ H fun x H1=>tb σ H1 fun y H2=>R x y H2)
  {α:Type} {Q:α->Shared->Prop} {f:Value->Value->Sem α}
  (hf:∀ v u s2 x y H2,Inv X pins σ H2 s2->RelV x v->RelV y u->R x y H2->wpAny (model X.prog X.w) X.A (f v u) Q X.xe s2):
  wpAny (model X.prog X.w) X.A (eval a X.env) (fun v s₁=>wpAny (model X.prog X.w) X.A (eval b X.env) (fun u s₂=>wpAny (model X.prog X.w) X.A (f v u) Q X.xe s₂) X.xe s₁) X.xe s:=by
 refine thn (ha pins s σ H _ I h) fun v s1 ⟨x,H1,I1,r1,q1⟩=>?_
 refine thn (hb pins s1 σ H1 _ I1 q1) fun u s2 ⟨y,H2,I2,r2,q2⟩=>?_
 exact hf v u s2 x y H2 I2 r1 r2 q2
def Zjp (i:Nat):TE:=fun σ H Q=>∃ v,σ[i]? = some (some v)/\Q v H
def tC (v:V):TE:=fun _ H Q=>Q v H
theorem pe_var {i:Nat} {x:Str} {pos:Pos} (hN:X.N[i]? = some x) (hv:Vis X.env.scope x) (hd:(x == ("__debug__" : Str)) = false:=by decide) (hcd:(x == ("__classdict__" : Str)) = false:=by decide):PE X (.Name x pos) (Zjp i):=by
 intro pins s σ H Q I h
 obtain ⟨v,e,h⟩:=h
 obtain ⟨m,hn,hl⟩:=I.loc
 obtain ⟨u,r,l⟩:=hl i x v hN e hv
 have fin:EP X pins σ Q u s:=⟨v,H,I,r,h⟩
 rcases l with ⟨hk,hm⟩ | ⟨hk,c,hc,hcell⟩
 ·exact wpAny_Name (wpAny_loadName_local I.ok.kind hk hn hm fin) hd
 ·rcases hk with hk | hk
  ·exact wpAny_Name (wpAny_loadName_cell I.ok.kind hk hc hcell fin) hd
  ·exact wpAny_Name (wpAny_loadName_free I.ok.kind hk hc hcell fin hcd) hd
theorem Zac {i j pos}:PE X (.Constant (.int i) j pos) (tC (.int i)):=fun _ _ _ H _ I h=>wpAny_Constant_int ⟨.int i,H,I.tok _,⟨_,rfl⟩,h⟩
theorem Zk4 {b j pos}:PE X (.Constant (.bool b) j pos) (tC (.bl b)):=fun _ _ _ H _ I h=>Constant_bool ⟨.bl b,H,I,rfl,h⟩
theorem Zj5 {j pos}:PE X (.Constant .none j pos) (tC .non):=fun _ _ _ H _ I h=>Constant_none ⟨.non,H,I,rfl,h⟩
theorem Zj4 {x j pos}:PE X (.Constant (.str x) j pos) (tC (.str x)):=fun _ _ _ H _ I h=>Calls.Constant_str ⟨.str x,H,I.tok _,⟨_,rfl⟩,h⟩
def Gl (X:Cx) (x:Str):Prop:=X.env.kindOf x = some .globalImplicit
theorem Zg8 {E:Value->Shared->Prop} {pins:List (Addr × Obj)} {s:Shared} {σ:St} {H:Hp} {x:Str} {u:Value} {pos:Pos} {Q:Value->Shared->Prop} (I:Inv X pins σ H s) (hg:Gl X x) (hm:X.mg x = some u) (h:Q u s)
  (hd:(x == ("__debug__" : Str)) = false:=by decide):wpAny (model X.prog X.w) X.A (eval (.Name x pos) X.env) Q E s:=
 Calls.Name_function_global I.ok.kind hg (Calls.loadGlobal_global (by rw [I.ok.glob]; exact I.mod.glob.keeps I.bk) hm h) hd
theorem Zgi {E:Value->Shared->Prop} {pins:List (Addr × Obj)} {s:Shared} {σ:St} {H:Hp} {x:Str} {u:Value} {pos:Pos} {Q:Value->Shared->Prop} (I:Inv X pins σ H s) (hg:Gl X x) (hm:X.mg x = none) (hv:bootBuiltins x = some u) (h:Q u s)
  (hn:x ≠ "__name__" := by decide) (hd:(x == ("__debug__" : Str)) = false:=by decide):wpAny (model X.prog X.w) X.A (eval (.Name x pos) X.env) Q E s:=by
 obtain ⟨mb,h1,h2⟩:=I.mod.blt
 exact Calls.Name_function_global I.ok.kind hg (Calls.loadGlobal_builtin (by rw [I.ok.glob]; exact I.mod.glob.keeps I.bk) hm (by rw [I.ok.blt]; exact h1.keeps I.bk) ((h2 x hn).trans hv) h) hd
theorem pe_glob {x:Str} {v:V} {u:Value} {pos:Pos} (hg:Gl X x) (hm:X.mg x = some u) (r:RelV v u) (hd:(x == ("__debug__" : Str)) = false:=by decide):PE X (.Name x pos) (tC v):=
 fun _ _ _ H _ I h=>Zg8 I hg hm ⟨v,H,I,r,h⟩ hd
theorem pe_bltn {x:Str} {v:V} {u:Value} {pos:Pos} (hg:Gl X x) (hm:X.mg x = none) (hv:bootBuiltins x = some u) (r:RelV v u) (hn:x ≠ "__name__" := by decide) (hd:(x == ("__debug__" : Str)) = false:=by decide):PE X (.Name x pos) (tC v):=
 fun _ _ _ H _ I h=>Zgi I hg hm hv ⟨v,H,I,r,h⟩ hn hd
variable {a b:Expr} {ta tb:TE} {pos:Pos}
def PC (X:Cx) (op:CmpOp) (a b:Expr) (t:TE):Prop:=
 ∀ (pins:List (Addr × Obj)) (s:Shared) (σ:St) (H:Hp) (Q:VK),Inv X pins σ H s->t σ H Q->
  wpAny (model X.prog X.w) X.A (eval a X.env) (fun v s₁=>wpAny (model X.prog X.w) X.A (eval b X.env) (fun u s₂=>wpAny (model X.prog X.w) X.A (compareOp op v u) (EP X pins σ Q) X.xe s₂) X.xe s₁) X.xe s
theorem Zpw (b:Expr) {op:CmpOp} (h:op ≠ .In) (h2:op ≠ .NotIn):behindInMarks op b = false:=by
 have e1:(op == CmpOp.In) = false:=by cases op <;> first | rfl | exact absurd rfl h
 have e2:(op == CmpOp.NotIn) = false:=by cases op <;> first | rfl | exact absurd rfl h2
 cases b <;> simp [behindInMarks,e1,e2]
def tB (t:TE):TT:=fun σ H Q=>t σ H fun x H1=>∃ c,x = .bl c/\Q c H1
theorem pt_cmp {op:CmpOp} {t:TE} (h:PC X op a b t) (h1:behindInMarks op b = false:=by first | exact Zpw _ (by decide) (by decide) | rfl):PT X (.Compare a [op] [b] pos) (tB t):=by
 intro pins s σ H Q I hw
 refine wpAny_isTrue_Compare1 (thn (h pins s σ H _ I hw) fun v s1 h1=>thn h1 fun u s2 h2=>thn h2 fun c s3 ⟨x,H1,I1,r1,q1⟩=>?_) h1
 obtain ⟨d,rfl,q⟩:=q1
 cases r1
 exact Jb5 ⟨H1,I1,q⟩
theorem Zhu {e:Expr} {t:TE} (h:PE X e t) (he:∀ whole,isTrue e X.env whole = (do let v <- whole; standAt e.pos; holding [v] (truthy v)):=by intro _; rfl):PT X e (tB t):=by
 intro pins s σ H Q I hw
 refine isTrue_plain (thn (h pins s σ H _ I hw) fun v s1 ⟨x,H1,I1,r1,q1⟩=>?_) (he _)
 obtain ⟨d,rfl,q⟩:=q1
 cases r1
 exact Jb5 ⟨H1,I1,q⟩
variable {tA tB':TT} {rest:List Expr}
def tAnd (t u:TT):TT:=fun σ H Q=>t σ H fun c H1=>if c = true then u σ H1 Q else Q false H1
def tOr (t u:TT):TT:=fun σ H Q=>t σ H fun c H1=>if c = true then Q true H1 else u σ H1 Q
def tNot (t:TT):TT:=fun σ H Q=>t σ H fun c H1=>Q (!c) H1
theorem pw_and1 (ha:PT X a tA):PW X (.BoolOp .And [a] pos) tA:=by
 intro wh pins s σ H Q I h
 refine isTrue_and (thn (ha pins s σ H Q I h) fun c s1 e=>?_)
 cases c with
 | true=>exact isTrue_and_nil e
 | false=>exact e
theorem Zjz (ha:PT X a tA):PW X (.BoolOp .Or [a] pos) tA:=by
 intro wh pins s σ H Q I h
 refine isTrue_or (thn (ha pins s σ H Q I h) fun c s1 e=>?_)
 cases c with
 | false=>exact isTrue_or_nil e
 | true=>exact e
theorem pw_and (ha:PT X a tA) (hb:PW X (.BoolOp .And (b :: rest) pos) tB'):PW X (.BoolOp .And (a :: b :: rest) pos) (tAnd tA tB'):=by
 intro wh pins s σ H Q I h
 refine isTrue_and (thn (ha pins s σ H _ I h) fun c s1 ⟨H1,I1,q1⟩=>?_)
 cases c with
 | true=>exact hb wh pins s1 σ H1 Q I1 q1
 | false=>exact ⟨H1,I1,q1⟩
theorem Zo7 (ha:PT X a tA) (hb:PW X (.BoolOp .Or (b :: rest) pos) tB'):PW X (.BoolOp .Or (a :: b :: rest) pos) (tOr tA tB'):=by
 intro wh pins s σ H Q I h
 refine isTrue_or (thn (ha pins s σ H _ I h) fun c s1 ⟨H1,I1,q1⟩=>?_)
 cases c with
 | true=>exact ⟨H1,I1,q1⟩
 | false=>exact hb wh pins s1 σ H1 Q I1 q1
theorem Zfn (ha:PT X a tA):PT X (.UnaryOp .Not a pos) (tNot tA):=by
 intro pins s σ H Q I h
 exact isTrue_not (ha pins s σ H (fun c H1=>Q (!c) H1) I h)
def tAndV (ta tb:TE):TE:=fun σ H Q=>ta σ H fun x H1=>∃ c,x = .bl c/\if c = true then tb σ H1 Q else Q (.bl false) H1
def tOrV (ta tb:TE):TE:=fun σ H Q=>ta σ H fun x H1=>∃ c,x = .bl c/\if c = true then Q (.bl true) H1 else tb σ H1 Q
def tNotV (ta:TE):TE:=fun σ H Q=>ta σ H fun x H1=>∃ c,x = .bl c/\Q (.bl (!c)) H1
theorem Zq5 {op} {t:TE} (h:PE X a t):PE X (.BoolOp op [a] pos) t:=fun pins s σ H Q I hw=>BoolOp_one (h pins s σ H Q I hw)
theorem Zq6 (ha:PE X a ta) (hb:PE X (.BoolOp .And (b :: rest) pos) tb):PE X (.BoolOp .And (a :: b :: rest) pos) (tAndV ta tb):=by
 intro pins s σ H Q I h
 refine BoolOp_and (thn (ha pins s σ H _ I h) fun v s1 ⟨x,H1,I1,r1,q1⟩=>?_)
 obtain ⟨c,rfl,q1⟩:=q1
 cases r1
 refine Jb5 ?_
 cases c with
 | true=>exact hb pins s1 σ H1 Q I1 q1
 | false=>exact ⟨.bl false,H1,I1,rfl,q1⟩
theorem pe_not (ha:PE X a ta):PE X (.UnaryOp .Not a pos) (tNotV ta):=by
 intro pins s σ H Q I h
 refine UnaryOp_ (thn (ha pins s σ H _ I h) fun v s1 ⟨x,H1,I1,r1,q1⟩=>?_)
 obtain ⟨c,rfl,q1⟩:=q1
 cases r1
 exact not_of (Jb5 ⟨.bl (!c),H1,I1,rfl,q1⟩)
def tIf (t:TT) (ta tb:TE):TE:=fun σ H Q=>t σ H fun c H1=>if c = true then ta σ H1 Q else tb σ H1 Q
end
def SqL (K:PySem.W.Frag) (H:Hp) (a:Addr) (xs:List V):Prop:=
 Rd H a (.lst xs) \/
  ∃ (o:Obj) (its:Array Value) (n:Nat),K.lookup a = some o/\o.cls = .type "list" /\ o.dict = none/\o.data = .seq its n/\its.size<=sizeLine/\Vals xs its.toList
def SqT (K:PySem.W.Frag) (H:Hp) (a:Addr) (xs:List V):Prop:=
 Rd H a (.tup xs) \/
  ∃ (o:Obj) (its:Array Value) (n:Nat),K.lookup a = some o/\o.cls = .type "tuple" /\ o.data = .seq its n/\its.size<=sizeLine/\Vals xs its.toList
def absV:Value->Option V
 | .none=>some .non
 | .bool b=>some (.bl b)
 | .int i _=>some (.int i)
 | .str x _=>some (.str x)
 | .bytes b _=>some (.byt b)
 | .float b _=>some (.flt b)
 | .ref a=>some (.ref a)
 | .type n=>some (.ty n)
 | _=>none
theorem RelV.abs {x:V} {u:Value} (r:RelV x u):absV u = some x:=by
 cases x with
 | non=>cases r; rfl
 | bl _=>cases r; rfl
 | int _=>obtain ⟨t,rfl⟩:=r; rfl
 | str _=>obtain ⟨t,rfl⟩:=r; rfl
 | byt _=>obtain ⟨t,rfl⟩:=r; rfl
 | flt _=>obtain ⟨t,rfl⟩:=r; rfl
 | ref _=>cases r; rfl
 | ty _=>cases r; rfl
theorem RelV.inj {x y:V} {u:Value} (r:RelV x u) (q:RelV y u):x = y:=Jbm (r.abs.symm.trans q.abs)
theorem Vals.inj:∀ {xs ys:List V} {us:List Value},Vals xs us->Vals ys us->xs = ys
 | _,_,_,.nil,.nil=>rfl
 | _,_,_,.cons r t,.cons r' t'=>by rw [r.inj r',Vals.inj t t']
section
variable {X:Cx} {pins:List (Addr × Obj)} {σ:St} {H:Hp} {s:Shared} {a:Addr} {xs ys:List V}
theorem SqL.of {K:PySem.W.Frag} (h:H a = some (.lst xs)):SqL K H a xs:=.inl (.inl h)
theorem SqT.of {K:PySem.W.Frag} (h:H a = some (.tup xs)):SqT K H a xs:=.inl (.inl h)
theorem Inv.list (I:Inv X pins σ H s) (h:SqL X.K H a xs):∃ its:List Value,Vals xs its/\PlainL s.heap a its.toArray/\xs.length<=sizeLine:=by
 rcases h with h | ⟨o,its,n,hk,hc,hd,hs,hz,r⟩
 ·obtain ⟨z,its,n,r,e⟩:=h.ok I.hok
  exact ⟨its,r,⟨_,n,e,rfl,rfl,rfl⟩,z⟩
 ·refine ⟨its.toList,r,⟨o,n,I.kIn a o hk,hc,hd,by simpa using hs⟩,?_⟩
  have e:=r.length
  simp only [Jbi] at e
  omega
theorem Inv.tuple (I:Inv X pins σ H s) (h:SqT X.K H a xs):∃ its:List Value,Vals xs its/\IsTup s.heap a its.toArray/\xs.length<=sizeLine:=by
 rcases h with h | ⟨o,its,n,hk,hc,hs,hz,r⟩
 ·obtain ⟨z,its,r,p⟩:=h.ok I.hok
  exact ⟨its,r,p,z⟩
 ·refine ⟨its.toList,r,⟨o,I.kIn a o hk,hc,n,by simpa using hs⟩,?_⟩
  have e:=r.length
  simp only [Jbi] at e
  omega
theorem Inv.list_inj (I:Inv X pins σ H s) (h:SqL X.K H a xs) (h':SqL X.K H a ys):xs = ys:=by
 obtain ⟨its,r,⟨o,n,e,_,_,d⟩,_⟩:=I.list h
 obtain ⟨its',r',⟨o',n',e',_,_,d'⟩,_⟩:=I.list h'
 rw [e] at e'; cases e'
 rw [d] at d'
 injection d' with d1 _
 have:its = its':=by simpa using Jeh Array.toList d1
 subst this
 exact r.inj r'
theorem Inv.tuple_inj (I:Inv X pins σ H s) (h:SqT X.K H a xs) (h':SqT X.K H a ys):xs = ys:=by
 obtain ⟨its,r,⟨o,e,_,n,d⟩,_⟩:=I.tuple h
 obtain ⟨its',r',⟨o',e',_,n',d'⟩,_⟩:=I.tuple h'
 rw [e] at e'; cases e'
 rw [d] at d'
 injection d' with d1 _
 have:its = its':=by simpa using Jeh Array.toList d1
 subst this
 exact r.inj r'
end
abbrev Cx.wish (X:Cx) (E:Value->Shared->Prop):Cx:={ X with xe:=E }
abbrev Cx.nox (X:Cx):Cx:=X.wish fun _ _=>False
theorem Cx.Ok.wish {X:Cx} (ok:X.Ok) (E:Value->Shared->Prop):(X.wish E).Ok:=
 ⟨ok.mod,ok.kind,ok.glob,ok.blt,ok.above,ok.inj,ok.has,ok.cab,ok.hd,ok.frames,ok.stk,ok.exf,ok.bs,ok.bsz,ok.noex,ok.exfs,ok.funs,ok.frf,ok.top⟩
theorem Cx.Ok.unwish {X:Cx} {E:Value->Shared->Prop} (ok:(X.wish E).Ok):X.Ok:=
 ⟨ok.mod,ok.kind,ok.glob,ok.blt,ok.above,ok.inj,ok.has,ok.cab,ok.hd,ok.frames,ok.stk,ok.exf,ok.bs,ok.bsz,ok.noex,ok.exfs,ok.funs,ok.frf,ok.top⟩
section
variable {X:Cx} {pins:List (Addr × Obj)} {σ:St} {H:Hp} {s:Shared} {E:Value->Shared->Prop}
theorem Inv.wish (I:Inv X pins σ H s) (E:Value->Shared->Prop):Inv (X.wish E) pins σ H s:=⟨I.ok.wish E,I.os,I.bare,I.base,I.loc,I.cell,I.free,I.freeC,I.pin,I.hok,I.len⟩
theorem Inv.unwish (I:Inv (X.wish E) pins σ H s):Inv X pins σ H s:=⟨I.ok.unwish,I.os,I.bare,I.base,I.loc,I.cell,I.free,I.freeC,I.pin,I.hok,I.len⟩
theorem SP.unwish {D:Ends} {f:Flow} {s':Shared} (h:SP (X.wish E) pins D f s'):SP X pins D f s':=by
 cases f with
 | next=>obtain ⟨σ',H',I,q⟩:=h; exact ⟨σ',H',I.unwish,q⟩
 | brk=>obtain ⟨σ',H',I,q⟩:=h; exact ⟨σ',H',I.unwish,q⟩
 | cont=>obtain ⟨σ',H',I,q⟩:=h; exact ⟨σ',H',I.unwish,q⟩
 | ret u=>obtain ⟨v,σ',H',I,r,q⟩:=h; exact ⟨v,σ',H',I.unwish,r,q⟩
theorem PSs.nox {st:List Stmt} {t:TS} (h:PSs X.nox st t):PSs X st t:=fun pins s σ H D I hw=>
 Jbk (h pins s σ H D (I.wish _) hw) (fun _ _ q=>q.unwish) fun _ _ z=>False.elim z
end
section
variable {X:Cx} {st:Stmt} {rest:List Stmt} {t u:TS} {e:Expr} {te:TE} {pos:Pos}
def tNext:TS:=fun D σ H=>D.nx σ H
def tSeq (t u:TS):TS:=fun D σ H=>t { D with nx:=u D } σ H
theorem Zas:PSs X [] tNext:=fun _ _ σ H _ I h=>Jfe ⟨σ,H,I,h⟩
theorem Zpb (h1:PS X st t) (h2:PSs X rest u):PSs X (st :: rest) (tSeq t u):=by
 intro pins s σ H D I h
 refine wpAny_execs_cons (thn (h1 pins s σ H { D with nx:=u D } I h) fun f s1 q=>?_)
 cases f with
 | next=>
  obtain ⟨σ',H',I',q⟩:=q
  exact h2 pins s1 σ' H' D I' q
 | ret v=>exact q
 | brk=>exact q
 | cont=>exact q
theorem Zal (h1:PS X st t):PSs X [st] t:=by
 intro pins s σ H D I h
 refine wpAny_execs_cons (thn (h1 pins s σ H D I h) fun f s1 q=>?_)
 cases f with
 | next=>exact Jfe q
 | ret v=>exact q
 | brk=>exact q
 | cont=>exact q
theorem Inv.quiet {pins:List (Addr × Obj)} {σ:St} {H:Hp} {s:Shared} (I:Inv X pins σ H s):interactive X.env = false:=by simp [interactive,I.ok.kind]
def tDrop (te:TE):TS:=fun D σ H=>te σ H fun _ H1=>D.nx σ H1
theorem Zb5 (he:PE X e te) (hs:swapsWith e none pos.line X.env = pure false:=by rfl):PS X (.Expr e pos) (tDrop te):=by
 intro pins s σ H D I h
 exact wpAny_Expr_any (thn (he pins s σ H _ I h) fun v s1 ⟨x,H1,I1,r1,q1⟩=>⟨σ,H1,I1,q1⟩) I.quiet hs
def tRet (te:TE):TS:=fun D σ H=>te σ H D.rt
theorem ps_ret (he:PE X e te):PS X (.Return (some e) pos) (tRet te):=by
 intro pins s σ H D I h
 exact wpAny_Return_some (thn (he pins s σ H _ I h) fun v s1 ⟨x,H1,I1,r1,q1⟩=>⟨x,σ,H1,I1,r1,q1⟩)
def tRetN:TS:=fun D _ H=>D.rt .non H
def tIfS (c:TT) (t u:TS):TS:=fun D σ H=>c σ H fun b H1=>if b = true then t D σ H1 else u D σ H1
theorem Zbl {c:Expr} {a b:List Stmt} {tc:TT} (hc:PT X c tc) (ha:PSs X a t) (hb:PSs X b u):PS X (.If c a b pos) (tIfS tc t u):=by
 intro pins s σ H D I h
 refine wpAny_If (thn (hc pins s σ H _ I h) fun d s1 ⟨H1,I1,q1⟩=>?_)
 cases d with
 | true=>exact ha pins s1 σ H1 D I1 q1
 | false=>exact hb pins s1 σ H1 D I1 q1
def tNever:TS:=fun _ _ _=>False
theorem Zpd:PS X st tNever:=fun _ _ _ _ _ _ h=>h.elim
end
abbrev TG:=V->St->Hp->(St->Hp->Prop)->Prop
abbrev TGs:=List V->St->Hp->(St->Hp->Prop)->Prop
def PG (X:Cx) (target:Expr) (t:TG):Prop:=
 ∀ (pins:List (Addr × Obj)) (s:Shared) (σ:St) (H:Hp) (v:V) (u:Value) (Q:St->Hp->Prop),Inv X pins σ H s->RelV v u->t v σ H Q->
  wpAny (model X.prog X.w) X.A (assign target X.env u) (fun _ s'=>∃ σ' H',Inv X pins σ' H' s'/\Q σ' H') X.xe s
def PGs (X:Cx) (ts:List Expr) (t:TGs):Prop:=
 ∀ (pins:List (Addr × Obj)) (s:Shared) (σ:St) (H:Hp) (vs:List V) (us:List Value) (Q:St->Hp->Prop),Inv X pins σ H s->Vals vs us->t vs σ H Q->
  wpAny (model X.prog X.w) X.A (assignInOrder ((assignEach ts X.env).map (·.2)) us) (fun _ s'=>∃ σ' H',Inv X pins σ' H' s'/\Q σ' H') X.xe s
abbrev TSet:=V->V->V->Hp->(Hp->Prop)->Prop
def PSet (X:Cx) (t:TSet):Prop:=
 ∀ (pins:List (Addr × Obj)) (s:Shared) (σ:St) (H:Hp) (o i v:V) (ov iv u:Value) (Q:Hp->Prop),Inv X pins σ H s->RelV o ov->RelV i iv->RelV v u->t o i v H Q->
  wpAny (model X.prog X.w) X.A (setItem ov iv u) (fun _ s'=>∃ H',Inv X pins σ H' s'/\Q H') X.xe s
abbrev TIp:=V->V->Hp->VK->Prop
def PIp (X:Cx) (op:Operator) (t:TIp):Prop:=
 ∀ (pins:List (Addr × Obj)) (s:Shared) (σ:St) (H:Hp) (x y:V) (v u:Value) (Q:VK),Inv X pins σ H s->RelV x v->RelV y u->t x y H Q->
  wpAny (model X.prog X.w) X.A (inplaceOp op v u) (EP X pins σ Q) X.xe s
section
variable {X:Cx} {pos:Pos}
def Zbe (i:Nat):TG:=fun v σ H Q=>Q (σ.set i (some v)) H
theorem Zag {i:Nat} {x:Str} (hN:X.N.Nodup) (hi:X.N[i]? = some x) (hx:Loc X.env.scope x) (hf:X.fn x = true\/X.env.scope.names.lookup x = some .local:=by first | exact .inl rfl | exact .inr rfl | assumption):PG X (.Name x pos) (Zbe i):=by
 intro pins s σ H v u Q I r h
 exact wpAny_assign_Name (Ze6 I hN hi hx r (fun s' I'=>⟨_,H,I',h⟩) hf)
def gNil:TGs:=fun vs σ H Q=>vs = []/\Q σ H
def gCons (t:TG) (u:TGs):TGs:=fun vs σ H Q=>∃ v r,vs = v :: r/\t v σ H fun σ' H'=>u r σ' H' Q
theorem Zd6:PGs X [] gNil:=by
 intro pins s σ H vs us Q I r h
 obtain ⟨e,h⟩:=h
 subst e
 cases r
 exact assignInOrder_nil ⟨σ,H,I,h⟩
theorem Zbf {e:Expr} {es:List Expr} {t:TG} {u:TGs} (h1:PG X e t) (h2:PGs X es u)
  (hs:(assignEach (e :: es) X.env).map (·.2) = assign e X.env :: (assignEach es X.env).map (·.2):=by rfl):PGs X (e :: es) (gCons t u):=by
 intro pins s σ H vs us Q I r h
 obtain ⟨v,vr,e1,h⟩:=h
 subst e1
 cases r with
 | cons r rr=>
  rw [hs]
  refine assignInOrder_cons (thn (h1 pins s σ H _ _ _ I r h) fun _ s1 ⟨σ1,H1,I1,q1⟩=>?_)
  exact h2 pins s1 σ1 H1 _ _ Q I1 rr q1
def gTup (K:PySem.W.Frag) (n:Nat) (t:TGs):TG:=fun v σ H Q=>∃ a xs,v = .ref a/\SqT K H a xs/\xs.length = n/\t xs σ H Q
theorem Zgd {es:List Expr} {k:Nat} {t:TGs} {n:Nat} (hc:X.calm = true) (h:PGs X es t)
  (hn:(assignEach es X.env).length = n:=by rfl) (hst:(assignEach es X.env).findIdx? (·.1) = none:=by rfl):PG X (.Tuple es k pos) (gTup X.K n t):=by
 intro pins s σ H v u Q I r hw
 obtain ⟨a,xs,e1,hq,hl,hw⟩:=hw
 subst e1
 cases r
 obtain ⟨its,rv,ht,hz⟩:=I.tuple hq
 refine assign_Tuple_tuple (I.ok.hd hc) ht (by simp [hn,<- hl,rv.length]) hst fun h' hx=>?_
 have I1:Inv X pins σ H { s with heap:=h' }:=I.kept (t':=s.toks) fun b o e=>hx b o (Ja8 (Jal e)) e
 exact h pins _ σ H xs _ Q I1 (by simpa using rv) hw
def gSub (to ti:TE) (t:TSet):TG:=fun v σ H Q=>to σ H fun o H1=>ti σ H1 fun i H2=>t o i v H2 fun H3=>Q σ H3
theorem Zhv {o i:Expr} {to ti:TE} {t:TSet} (ho:PE X o to) (hi:PE X i ti) (hs:PSet X t)
  (ha:∀ v,assign (.Subscript o i pos) X.env v = (do
   let ov <- holding [v] (eval o X.env)
   let iv <- holding [v,ov] (eval i X.env)
   standAt pos
   holding [v,ov,iv] (setItem ov iv v)
   release [v,ov,iv] []):=by intro _; rfl):PG X (.Subscript o i pos) (gSub to ti t):=by
 intro pins s σ H v u Q I r h
 rw [ha]
 refine Jaa (Jbv (thn (ho pins s σ H _ I h) fun ov s1 ⟨x,H1,I1,r1,q1⟩=>?_))
 refine Jaa (Jbv (thn (hi pins s1 σ H1 _ I1 q1) fun iv s2 ⟨y,H2,I2,r2,q2⟩=>?_))
 refine Jaa (Jc1 (Jaa (Jbv (thn (hs pins s2 σ H2 x y v ov iv u _ I2 r1 r2 r q2) fun _ s3 ⟨H3,I3,q3⟩=>?_))))
 exact wpAny_release ⟨σ,H3,I3,q3⟩
def tAsg (te:TE) (g:TG):TS:=fun D σ H=>te σ H fun x H1=>g x σ H1 D.nx
theorem Zeg {tg e:Expr} {te:TE} {g:TG} (he:PE X e te) (hg:PG X tg g) (hs:swapsWithSole [tg] e pos.line X.env = pure false:=by rfl) (hw:swappedStores [tg] e X.env = pure none:=by rfl)
  (h1:(assignEach [tg] X.env).map (·.2) = [assign tg X.env]:=by rfl):PS X (.Assign [tg] e pos) (tAsg te g):=by
 intro pins s σ H D I h
 refine wpAny_Assign_stores (thn (he pins s σ H _ I h) fun v s1 ⟨x,H1,I1,r1,q1⟩=>?_) hs hw
 rw [h1]
 exact thn (hg pins s1 σ H1 x v _ I1 r1 q1) fun _ s2 q=>q
theorem Zao {i:Nat} {x:Str} {e:Expr} {te:TE} {pos':Pos} (hN:X.N.Nodup) (hi:X.N[i]? = some x) (hx:Loc X.env.scope x) (he:PE X e te) (hs:swapsWith e (some (.Name x pos')) pos.line X.env = pure false:=by rfl) (hf:X.fn x = true\/X.env.scope.names.lookup x = some .local:=by first | exact .inl rfl | exact .inr rfl | assumption):
  PS X (.Assign [.Name x pos'] e pos) (tAsg te (Zbe i)):=by
 intro pins s σ H D I h
 refine wpAny_Assign_Name (thn (he pins s σ H _ I h) fun v s1 ⟨y,H1,I1,r1,q1⟩=>?_) hs
 exact Ze6 I1 hN hi hx r1 (fun s2 I2=>⟨_,H1,I2,q1⟩) hf
def tPar (i j:Nat) (ta:TA):TS:=fun D σ H=>ta σ H fun vs H1=>∃ v w,vs = [v,w]/\D.nx ((σ.set i (some v)).set j (some w)) H1
theorem ps_par {i j:Nat} {x y:Str} {a b:Expr} {ta:TA} {px py pt:Pos} {kt k2 pt2} (hc:X.calm = true) (hN:X.N.Nodup) (hi:X.N[i]? = some x) (hj:X.N[j]? = some y) (hij:i ≠ j)
  (hx:X.env.scope.names.lookup x = some .local) (hy:X.env.scope.names.lookup y = some .local) (ha:PA X [a,b] ta)
  (hw:swappedStores [.Tuple [.Name x px,.Name y py] kt pt] (.Tuple [a,b] k2 pt2) X.env = pure (some [x,y]))
  (hs:swapsWithSole [.Tuple [.Name x px,.Name y py] kt pt] (.Tuple [a,b] k2 pt2) pos.line X.env = pure false:=by rfl):
  PS X (.Assign [.Tuple [.Name x px,.Name y py] kt pt] (.Tuple [a,b] k2 pt2) pos) (tPar i j ta):=by
 intro pins s σ H D I h
 rw [exec_Assign_arm]
 refine Jaa (Jc1 ?_)
 rw [hs]
 refine Jaa (Jae ?_)
 rw [if_neg (by decide)]
 refine Jaa (Tuple_ (thn (ha _ pins s σ H _ I h) fun us s1 ⟨vs,H1,I1,r1,q1⟩=>?_))
 obtain ⟨v,w,e1,q1⟩:=q1
 subst e1
 obtain ⟨u1,u2,rfl,rv,rw'⟩:∃ u1 u2,us = [u1,u2]/\RelV v u1/\RelV w u2:=by
  cases r1 with
  | cons p q=>
   cases q with
   | cons p' q'=>
    cases q'
    exact ⟨_,_,rfl,p,p'⟩
 refine Jcm ?_ (by show 2<=sizeLine; decide)
 have I2:Inv X pins σ H1 { s1 with heap:=s1.heap.push { cls:=.type "tuple",data:=.seq [u1,u2].toArray } }:=I1.kept (t':=s1.toks) fun b o e=>Jad _ e
 rw [hw]
 refine Jaa (Jae ?_)
 show wpAny (model X.prog X.w) X.A (do rule "assign.swapped-stores"; let items <- unpackItems (.ref s1.heap.objs.size) 2 none; assignInOrder [fun v=>bindName X.env y v,fun v=>bindName X.env x v] items.reverse; pure Flow.next) _ _ _
 refine Jaa (Jec (Jaa (unpackItems_tuple (items:=#[u1,u2]) (I.ok.hd hc) (IsTup.new s1.heap _) fun h' hx'=>?_)))
 have I3:=I2.kept (h':=h') (t':=s1.toks) fun b o e=>hx' b o (Ja8 (Jal e)) e
 show wpAny _ _ (assignInOrder [fun v=>bindName X.env y v,fun v=>bindName X.env x v] [u2,u1] >>= fun _=>pure Flow.next) _ _ _
 refine Jaa (assignInOrder_cons (wpAny_bindName (Ze6 I3 hN hj (.inl hy) rw' (fun s2 I4=>?_) (.inr hy))))
 refine assignInOrder_cons (wpAny_bindName (Ze6 I4 hN hi (.inl hx) rv (fun s3 I5=>assignInOrder_nil (Jae ?_)) (.inr hx)))
 rw [List.set_comm _ _ (Jds hij)] at I5
 exact ⟨_,H1,I5,q1⟩
def tAug (i:Nat) (te:TE) (ti:TIp):TS:=fun D σ H=>∃ x,σ[i]? = some (some x)/\te σ H fun y H1=>ti x y H1 fun z H2=>D.nx (σ.set i (some z)) H2
def tAugS (to ti te:TE) (tget:V->V->Hp->VK->Prop) (tip:TIp) (tset:TSet):TS:=fun D σ H=>to σ H fun o H1=>ti σ H1 fun i H2=>tget o i H2 fun x H3=>te σ H3 fun y H4=>tip x y H4 fun z H5=>tset o i z H5 fun H6=>D.nx σ H6
def PGet (X:Cx) (t:V->V->Hp->VK->Prop):Prop:=
 ∀ (pins:List (Addr × Obj)) (s:Shared) (σ:St) (H:Hp) (o i:V) (ov iv:Value) (Q:VK),Inv X pins σ H s->RelV o ov->RelV i iv->t o i H Q->
  wpAny (model X.prog X.w) X.A (getItem ov iv) (EP X pins σ Q) X.xe s
theorem Zmq {o i e:Expr} {to ti te:TE} {tget:V->V->Hp->VK->Prop} {tip:TIp} {tset:TSet} {op:Operator} {tpos:Pos} (ho:PE X o to) (hi:PE X i ti) (hg:PGet X tget) (he:PE X e te) (hp:PIp X op tip) (hs:PSet X tset)
  (ha:∀ ov iv new,augStore i ov iv new = (do holding [new,ov,iv] (setItem ov iv new); release [new,ov,iv] []; pure .next):=by intros; rfl):PS X (.AugAssign (.Subscript o i tpos) op e pos) (tAugS to ti te tget tip tset):=by
 intro pins s σ H D I h
 refine wpAny_AugAssign_SubscriptAny (thn (ho pins s σ H _ I h) fun ov s1 ⟨x1,H1,I1,r1,q1⟩=>?_) ha
 refine thn (hi pins s1 σ H1 _ I1 q1) fun iv s2 ⟨x2,H2,I2,r2,q2⟩=>?_
 refine thn (hg pins s2 σ H2 x1 x2 ov iv _ I2 r1 r2 q2) fun old s3 ⟨x3,H3,I3,r3,q3⟩=>?_
 refine thn (he pins s3 σ H3 _ I3 q3) fun v s4 ⟨x4,H4,I4,r4,q4⟩=>?_
 refine thn (hp pins s4 σ H4 x3 x4 old v _ I4 r3 r4 q4) fun new s5 ⟨x5,H5,I5,r5,q5⟩=>?_
 exact thn (hs pins s5 σ H5 x1 x2 x5 ov iv new _ I5 r1 r2 r5 q5) fun _ s6 ⟨H6,I6,q6⟩=>⟨σ,H6,I6,q6⟩
def ipI (f:Int->Int->Int):TIp:=fun x y H Q=>∃ i j,x = .int i/\y = .int j/\Q (.int (f i j)) H
theorem Zrf:PIp X .Add (ipI fun i j=>i + j):=by
 intro pins s σ H x y v u Q I r1 r2 h
 obtain ⟨i,j,e1,e2,q⟩:=h
 subst e1; subst e2
 obtain ⟨t,rfl⟩:=r1
 obtain ⟨t',rfl⟩:=r2
 exact iadd_int ⟨.int _,H,I.tok _,⟨_,rfl⟩,q⟩
end
section
variable {X:Cx} {pos:Pos}
def tWhile (c:TT) (tb:TS):TS:=fun D σ H=>∃ W:Nat->St->Hp->Prop,(∃ m,W m σ H)/\∀ m σ H,W m σ H->
 c σ H fun b H1=>if b = true then ∃ N:St->Hp->Prop,(∀ σ' H',N σ' H'->∃ m',m' < m/\W m' σ' H')/\tb { D with nx:=N,ct:=N,bk:=D.nx } σ H1 else D.nx σ H1
theorem Zg2 {c:Expr} {body:List Stmt} {tc:TT} {tb:TS} (hp:PassesOwn (model X.prog X.w) X.A X.env X.xe) (hc:PT X c tc) (hb:PSs X body tb):PS X (.While c body [] pos) (tWhile tc tb):=by
 intro pins s σ H D I h
 obtain ⟨W,⟨m0,w0⟩,turn⟩:=h
 refine wpAny_While (codeAny_whileLoop (fun n s'=>∃ σ' H',Inv X pins σ' H' s'/\W n σ' H') ?_ m0 ⟨σ,H,I,w0⟩)
 rintro n s1 ⟨σ1,H1,I1,w1⟩
 refine Jdf hp (thn (hc pins s1 σ1 H1 _ I1 (turn n σ1 H1 w1)) fun b s2 ⟨H2,I2,q2⟩=>?_)
 cases b with
 | true=>
  obtain ⟨N,hN,q2⟩:=q2
  rw [if_pos rfl]
  refine Jdf hp (thn (hb pins s2 σ1 H2 _ I2 q2) fun f s3 q3=>?_)
  cases f with
  | next=>
   obtain ⟨σ3,H3,I3,n3⟩:=q3
   obtain ⟨m',hm,w3⟩:=hN σ3 H3 n3
   exact ⟨m',hm,σ3,H3,I3,w3⟩
  | cont=>
   obtain ⟨σ3,H3,I3,n3⟩:=q3
   obtain ⟨m',hm,w3⟩:=hN σ3 H3 n3
   exact ⟨m',hm,σ3,H3,I3,w3⟩
  | brk=>exact q3
  | ret v=>exact q3
 | false=>
  rw [if_neg Jar]
  exact Jfe ⟨σ1,H2,I2,q2⟩
end
structure It where
 go:Nat->Hp->Prop
 yld:Nat->Hp->V->Hp->Prop
 stop:Nat->Hp->Prop
def Zij (X:Cx) (pins:List (Addr × Obj)) (H:Hp) (b:Addr):Prop:=
 H b = none/\b ≠ X.env.locals/\b ∉ X.fs/\(b ∈ X.ex\/X.s₀.heap.objs.size<=b)/\(∀ x c,X.env.cells.lookup x = some c->c ≠ b)/\∀ p ∈ X.pn ++ pins,p.1 ≠ b
theorem Inv.fpOk {X:Cx} {pins:List (Addr × Obj)} {σ:St} {H H':Hp} {s:Shared} {b:Addr} (I:Inv X pins σ H s) (hb:s.heap.objs.size<=b) (hn:H' b = none):Zij X pins H' b:=by
 refine ⟨hn,Jfq (Ja7 I.lt hb),I.nofs hb,.inr (Jay I.sz hb),fun x c e z=>?_,fun p hp z=>?_⟩
 ·obtain ⟨v,q⟩:=I.cell x c e
  exact absurd (Ja7 q.lt (by rw [z]; exact hb)) (Jb0 _)
 ·exact absurd (Ja7 (Jal (I.pin p hp).1) (by rw [z]; exact hb)) (Jb0 _)
structure Turn (P:Program) (w:World) (K:PySem.W.Frag) (tg:Expr) (J:It) (fp:List Addr) (it:Addr) (tn:Nat->Heap->Prop):Prop where
 mem:it ∈ fp
 obj:∀ i h,tn i h->∀ b ∈ fp,∃ o,h.get? b = some o/\∀ v,o.data ≠ .cell v
 keep:∀ i h h',tn i h->(∀ b ∈ fp,∀ o,h.get? b = some o->h'.get? b = some o)->tn i h'
 item:∀ (X:Cx),X.prog = P->X.w = w->X.K = K->X.calm = true->∀ (i:Nat) (pins:List (Addr × Obj)) (s:Shared) (σ:St) (H:Hp) (E:Value->Shared->Prop),Inv X pins σ H s->(∀ b ∈ fp,Zij X pins H b)->tn i s.heap->J.go i H->
  wpAny (model P w) X.A (pyNext (.ref it)) (fun r s1=>∃ u,r = some u /\
   wpAny (model P w) X.A (letOwnedTupleGo tg (.ref it) u) (fun _ s2=>∃ x H',Inv X pins σ H' s2/\RelV x u/\J.yld i H x H'/\tn (i + 1) s2.heap/\∀ b ∈ fp,H' b = none) E s1) E s
 done:∀ (X:Cx),X.prog = P->X.w = w->X.K = K->X.calm = true->∀ (i:Nat) (pins:List (Addr × Obj)) (s:Shared) (σ:St) (H:Hp) (E:Value->Shared->Prop),Inv X pins σ H s->(∀ b ∈ fp,Zij X pins H b)->tn i s.heap->J.stop i H->
  wpAny (model P w) X.A (pyNext (.ref it)) (fun r s1=>r = none/\Inv X pins σ H s1) E s
 self:∀ (A:Around) (i:Nat) (s:Shared) (Q:Value->Shared->Prop) (E:Value->Shared->Prop),tn i s.heap->Q (.ref it) s->wpAny (model P w) A (pyIter (.ref it)) Q E s
abbrev TI:=St->Hp->(It->Hp->Prop)->Prop
def PIE (X:Cx) (pins:List (Addr × Obj)) (σ:St) (tg:Expr) (R:It->Hp->Prop) (itv:Value) (s2:Shared):Prop:=
 ∃ (it:Addr) (fp:List Addr) (tn:Nat->Heap->Prop) (J:It) (H':Hp),itv = .ref it/\Inv X pins σ H' s2/\Turn X.prog X.w X.K tg J fp it tn/\tn 0 s2.heap/\(∀ b ∈ fp,Zij X pins H' b)/\R J H'
def PI (X:Cx) (tg iter:Expr) (wi:TI):Prop:=
 ∀ (pins:List (Addr × Obj)) (s:Shared) (σ:St) (H:Hp) (R:It->Hp->Prop),Inv X pins σ H s->wi σ H R->
  wpAny (model X.prog X.w) X.A (eval iter X.env) (fun v s1=>wpAny (model X.prog X.w) X.A (pyIter v) (PIE X pins σ tg R) X.xe s1) X.xe s
theorem go_of {M:Model} {A:Around} {E:Value->Shared->Prop} {s:Shared} {tg:Expr} {it:Addr} {u:Value} {o:Obj} {n:String} {vs:Array Value} {Q:Unit->Shared->Prop} (ho:s.heap.get? it = some o) (hc:o.cls = .type n) (hd:o.data = .fields vs)
  (hn:["enumerate","zip","dict_itemiterator","dict_reverseitemiterator","odict_iterator","itertools.zip_longest","itertools.pairwise"].contains n = false) (hQ:Q () s):wpAny M A (letOwnedTupleGo tg (.ref it) u) Q E s:=by
 unfold letOwnedTupleGo
 cases tg <;> first
  | exact Jae hQ
  | (cases u <;> first
    | exact Jae hQ
    | (refine Jaa (wpAny_load ho ?_); rw [hc,hd]; show wpAny M A (if (["enumerate","zip","dict_itemiterator","dict_reverseitemiterator","odict_iterator","itertools.zip_longest","itertools.pairwise"].contains n && vs[0]? == some (rawInt _)) = true then _ else _) Q E s; rw [if_neg (by intro h; rw [hn,Bool.false_and] at h; cases h)]; exact Jae hQ))
def Itl (K:PySem.W.Frag) (a:Addr):It:=
 ⟨fun i H=>∃ xs x,SqL K H a xs/\xs[i]? = some x,fun i H x H'=>H' = H/\∀ xs,SqL K H a xs->xs[i]? = some x,fun i H=>∃ xs,SqL K H a xs/\xs.length<=i⟩
def Itt (K:PySem.W.Frag) (a:Addr):It:=
 ⟨fun i H=>∃ xs x,SqT K H a xs/\xs[i]? = some x,fun i H x H'=>H' = H/\∀ xs,SqT K H a xs->xs[i]? = some x,fun i H=>∃ xs,SqT K H a xs/\xs.length<=i⟩
def Itr (lo:Int) (n:Nat):It:=⟨fun i _=>i < n,fun i H x H'=>H' = H/\x = .int (lo + i),fun i _=>n<=i⟩
theorem Zlu {P:Program} {w:World} {K:PySem.W.Frag} {tg:Expr} (a it:Addr):Turn P w K tg (Itl K a) [it] it (fun i h=>h.IsListIter it a i) where
 mem:=by simp
 obj:=fun i h st b hb=>by
  have e:b = it:=by simpa using hb
  subst e
  obtain ⟨o,e,c,d⟩:=st
  exact ⟨o,e,fun v z=>by rw [d] at z; cases z⟩
 keep:=fun i h h' st k=>st.at fun o e=>k it (by simp) o e
 item:=by
  intro X hP hw hK hc i pins s σ H E I hf st hg
  subst hP hw hK
  obtain ⟨xs,x,hq,hx⟩:=hg
  obtain ⟨its,rv,p,hz⟩:=I.list hq
  obtain ⟨u,hu,ru⟩:=rv.get hx
  obtain ⟨f0,f1,f2,f3,f4,f5⟩:=hf it (by simp)
  refine wpAny_pyNext_list_item st p.isList (x:=u) (by simpa using hu) fun h' st' sb=>?_
  have I1:Inv X pins σ H { s with heap:=h' }:=I.turned (t':=s.toks) (fun b o hb e=>(sb.2 b hb).trans e) f0 f1 f3 f4 f5
  obtain ⟨o,e,c,d⟩:=id st'
  exact ⟨u,rfl,go_of (s:={ s with heap:=h' }) e c d (by decide) ⟨x,H,I1,ru,⟨rfl,fun ys hy=>by rw [I.list_inj hy hq]; exact hx⟩,st',fun b hb=>(hf b hb).1⟩⟩
 done:=by
  intro X hP hw hK hc i pins s σ H E I hf st hg
  subst hP hw hK
  obtain ⟨xs,hq,hx⟩:=hg
  obtain ⟨its,rv,p,hz⟩:=I.list hq
  obtain ⟨f0,f1,f2,f3,f4,f5⟩:=hf it (by simp)
  have hl:=rv.length
  exact wpAny_pyNext_list_end (I.ok.hd hc) st p.isList (by simp; omega) fun h' eb=>⟨rfl,I.turned (t':=s.toks) (fun b o hb e=>eb b o hb e) f0 f1 f3 f4 f5⟩
 self:=fun _ _ _ _ _ st h=>wpAny_pyIter_listiter st h
theorem Zku {P:Program} {w:World} {K:PySem.W.Frag} {tg:Expr} (a it:Addr):Turn P w K tg (Itt K a) [it] it (fun i h=>h.IsTupleIter it a i) where
 mem:=by simp
 obj:=fun i h st b hb=>by
  have e:b = it:=by simpa using hb
  subst e
  obtain ⟨o,e,c,d⟩:=st
  exact ⟨o,e,fun v z=>by rw [d] at z; cases z⟩
 keep:=fun i h h' st k=>st.at fun o e=>k it (by simp) o e
 item:=by
  intro X hP hw hK hc i pins s σ H E I hf st hg
  subst hP hw hK
  obtain ⟨xs,x,hq,hx⟩:=hg
  obtain ⟨its,rv,p,hz⟩:=I.tuple hq
  obtain ⟨u,hu,ru⟩:=rv.get hx
  obtain ⟨f0,f1,f2,f3,f4,f5⟩:=hf it (by simp)
  refine wpAny_pyNext_tuple_item st (show s.heap.IsTuple a its.toArray from p) (x:=u) (by simpa using hu) fun h' st' sb=>?_
  have I1:Inv X pins σ H { s with heap:=h' }:=I.turned (t':=s.toks) (fun b o hb e=>(sb.2 b hb).trans e) f0 f1 f3 f4 f5
  obtain ⟨o,e,c,d⟩:=id st'
  exact ⟨u,rfl,go_of (s:={ s with heap:=h' }) e c d (by decide) ⟨x,H,I1,ru,⟨rfl,fun ys hy=>by rw [I.tuple_inj hy hq]; exact hx⟩,st',fun b hb=>(hf b hb).1⟩⟩
 done:=by
  intro X hP hw hK hc i pins s σ H E I hf st hg
  subst hP hw hK
  obtain ⟨xs,hq,hx⟩:=hg
  obtain ⟨its,rv,p,hz⟩:=I.tuple hq
  obtain ⟨f0,f1,f2,f3,f4,f5⟩:=hf it (by simp)
  have hl:=rv.length
  exact wpAny_pyNext_tuple_end (I.ok.hd hc) st (show s.heap.IsTuple a its.toArray from p) (by simp; omega) fun h' eb=>⟨rfl,I.turned (t':=s.toks) (fun b o hb e=>eb b o hb e) f0 f1 f3 f4 f5⟩
 self:=fun _ _ _ _ _ st h=>wpAny_pyIter_tupleiter st h
theorem Zkv {P:Program} {w:World} {K:PySem.W.Frag} {tg:Expr} (it:Addr) (lo:Int) (n:Nat):Turn P w K tg (Itr lo n) [it] it (fun i h=>IsRangeIter h it (lo + (i:Nat) * 1) ((n:Int) - (i:Nat)) 1) where
 mem:=by simp
 obj:=fun i h st b hb=>by
  have e:b = it:=by simpa using hb
  subst e
  exact ⟨_,st,fun v z=>by
   have z':Data.fields _ = Data.cell v:=z
   cases z'⟩
 keep:=fun i h h' st k=>k it (by simp) _ st
 item:=by
  intro X hP hw hK hc i pins s σ H E I hf st hg
  subst hP hw hK
  obtain ⟨f0,f1,f2,f3,f4,f5⟩:=hf it (by simp)
  have W:=Walks.range (prog:=X.prog) (w:=X.w) (I.ok.hd hc) it lo 1 n
  refine W.item i s _ _ hg st fun v h' tk hv st' kk=>?_
  obtain ⟨t,rfl⟩:=hv
  have I1:Inv X pins σ H { s with heap:=h',toks:=tk }:=I.turned (fun b o hb e=>kk b o (by simpa using hb) e) f0 f1 f3 f4 f5
  refine ⟨_,rfl,go_of (s:={ s with heap:=h',toks:=tk }) (n:="range_iterator") st' rfl rfl (by decide) ⟨.int (lo + i),H,I1,⟨t,?_⟩,⟨rfl,rfl⟩,st',fun b hb=>(hf b hb).1⟩⟩
  rw [Int.mul_one]
 done:=by
  intro X hP hw hK hc i pins s σ H E I hf st hg
  subst hP hw hK
  obtain ⟨f0,f1,f2,f3,f4,f5⟩:=hf it (by simp)
  exact wpAny_pyNext_range_end (I.ok.hd hc) st (by have:n<=i:=hg; omega) fun h' eb=>⟨rfl,I.turned (t':=s.toks) (fun b o hb e=>eb b o hb e) f0 f1 f3 f4 f5⟩
 self:=fun _ _ _ _ _ st h=>wpAny_pyIter_rangeiter st h
section
variable {X:Cx} {tg:Expr}
def Zi5 (K:PySem.W.Frag) (tl:TE):TI:=fun σ H R=>tl σ H fun x H1=>∃ a,x = .ref a/\(∃ xs,SqL K H1 a xs)/\R (Itl K a) H1
def iTup (K:PySem.W.Frag) (tl:TE):TI:=fun σ H R=>tl σ H fun x H1=>∃ a,x = .ref a/\(∃ xs,SqT K H1 a xs)/\R (Itt K a) H1
theorem Zaz {l:Expr} {tl:TE} (hl:PE X l tl):PI X tg l (Zi5 X.K tl):=by
 intro pins s σ H R I h
 refine thn (hl pins s σ H _ I h) fun v s1 ⟨x,H1,I1,r1,q1⟩=>?_
 obtain ⟨a,e,⟨xs,hq⟩,q⟩:=q1
 subst e
 cases r1
 obtain ⟨its,rv,p,hz⟩:=I1.list hq
 refine Jev p.isList ?_
 refine ⟨s1.heap.objs.size,[s1.heap.objs.size],_,_,H1,rfl,I1.kept (t':=s1.toks) fun b o e=>Jad _ e,Zlu a _,⟨_,Jat _ rfl,rfl,rfl⟩,fun b hb=>?_,q⟩
 have e:b = s1.heap.objs.size:=by simpa using hb
 subst e
 exact I1.fpOk (Jaf _) (I1.hok.fresh (Jaf _))
theorem Zq4 {l:Expr} {tl:TE} (hl:PE X l tl):PI X tg l (iTup X.K tl):=by
 intro pins s σ H R I h
 refine thn (hl pins s σ H _ I h) fun v s1 ⟨x,H1,I1,r1,q1⟩=>?_
 obtain ⟨a,e,⟨xs,hq⟩,q⟩:=q1
 subst e
 cases r1
 obtain ⟨its,rv,p,hz⟩:=I1.tuple hq
 refine wpAny_pyIter_tuple (show s1.heap.IsTuple a its.toArray from p) ?_
 refine ⟨s1.heap.objs.size,[s1.heap.objs.size],_,_,H1,rfl,I1.kept (t':=s1.toks) fun b o e=>Jad _ e,Zku a _,⟨_,Jat _ rfl,rfl,rfl⟩,fun b hb=>?_,q⟩
 have e:b = s1.heap.objs.size:=by simpa using hb
 subst e
 exact I1.fpOk (Jaf _) (I1.hok.fresh (Jaf _))
theorem Zjy {pins:List (Addr × Obj)} {σ:St} {H:Hp} {s:Shared} {R:It->Hp->Prop} {E:Value->Shared->Prop} {lo hi:Int} {t u v:Tok} {tk:Nat} (I:Inv X pins σ H s) (h1:-(2 ^ 62)<=lo) (h2:lo < 2 ^ 62) (h3:-(2 ^ 62)<=hi) (h4:hi < 2 ^ 62)
  (q:R (Itr lo (hi - lo).toNat) H):wpAny (model X.prog X.w) X.A (pyIter (.ref s.heap.objs.size)) (PIE X pins σ tg R) E { s with heap:=s.heap.push { cls:=.type "range",data:=.fields #[.int lo t,.int hi u,.int 1 v] },toks:=tk }:=by
 refine wpAny_pyIter_range (IsRange.new ..) (small_one h1 h2 h3 h4) ?_
 have I1:Inv X pins σ H { s with heap:=s.heap.push { cls:=.type "range",data:=.fields #[.int lo t,.int hi u,.int 1 v] },toks:=tk }:=I.kept fun b o e=>Jad _ e
 refine ⟨(s.heap.push { cls:=.type "range",data:=.fields #[.int lo t,.int hi u,.int 1 v] }).objs.size,[(s.heap.push { cls:=.type "range",data:=.fields #[.int lo t,.int hi u,.int 1 v] }).objs.size],_,_,H,rfl,
  I1.kept (t':=tk) fun b o e=>Jad _ e,Zkv _ lo (hi - lo).toNat,?_,fun b hb=>?_,q⟩
 ·have e1:lo + ((0:Nat):Int) * 1 = lo:=by simp
  have e2:(((hi - lo).toNat:Nat):Int) - ((0:Nat):Int) = Builtin.Range.rangeSize lo hi 1:=by rw [rangeSize_one]; split <;> omega
  show IsRangeIter _ _ (lo + ((0:Nat):Int) * 1) ((((hi - lo).toNat:Nat):Int) - ((0:Nat):Int)) 1
  rw [e1,e2]
  exact Jat _ rfl
 ·have e:b = (s.heap.push { cls:=.type "range",data:=.fields #[.int lo t,.int hi u,.int 1 v] }).objs.size:=by simpa using hb
  subst e
  exact I1.fpOk (Jaf _) (I1.hok.fresh (Jaf _))
def iRng1 (ta:TA):TI:=fun σ H R=>ta σ H fun vs H1=>∃ j:Int,vs = [.int j]/\-(2 ^ 62)<=j/\j < 2 ^ 62/\R (Itr 0 j.toNat) H1
def iRng2 (ta:TA):TI:=fun σ H R=>ta σ H fun vs H1=>∃ i j:Int,vs = [.int i,.int j]/\(-(2 ^ 62)<=i/\i < 2 ^ 62/\-(2 ^ 62)<=j/\j < 2 ^ 62)/\R (Itr i (j - i).toNat) H1
theorem Zmw {a:Expr} {ta:TA} {p pos:Pos} (hg:Gl X "range") (hm:X.mg "range" = none) (ha:PA X [a] ta) (hs:starEach [a] X.env = [(false,eval a X.env)]:=by rfl):PI X tg (.Call (.Name "range" p) [a] [] pos) (iRng1 ta):=by
 intro pins s σ H R I h
 refine Call_ (Zgi I hg hm boot_range (Jdt (thn (ha pos pins s σ H _ I h) fun us s1 ⟨vs,H1,I1,r1,q1⟩=>?_) hs rfl))
 obtain ⟨j,e,q1,q2,q⟩:=q1
 subst e
 cases r1 with
 | cons r rr=>
  cases rr
  obtain ⟨t,rfl⟩:=r
  exact call_range_1 (Zjy I1 (by omega) (by omega) q1 q2 (by simpa using q))
theorem Zmv {a b:Expr} {ta:TA} {p pos:Pos} (hg:Gl X "range") (hm:X.mg "range" = none) (ha:PA X [a,b] ta) (hs:starEach [a,b] X.env = [(false,eval a X.env),(false,eval b X.env)]:=by rfl) (hs2:starEach [b] X.env = [(false,eval b X.env)]:=by rfl):
  PI X tg (.Call (.Name "range" p) [a,b] [] pos) (iRng2 ta):=by
 intro pins s σ H R I h
 refine Call_ (Zgi I hg hm boot_range (Jdt (thn (ha pos pins s σ H _ I h) fun us s1 ⟨vs,H1,I1,r1,q1⟩=>?_) (by rw [hs,hs2]) (by rw [hs2]; rfl)))
 obtain ⟨i,j,e,⟨q1,q2,q3,q4⟩,q⟩:=q1
 subst e
 cases r1 with
 | cons r rr=>
  cases rr with
  | cons r' rr=>
   cases rr
   obtain ⟨t,rfl⟩:=r
   obtain ⟨t',rfl⟩:=r'
   exact call_range_2 (Zjy I1 q1 q2 q3 q4 q)
def tFor (wi:TI) (g:TG) (tb:TS):TS:=fun D σ H=>wi σ H fun J H1=>∃ W:Nat->Nat->St->Hp->Prop,(∃ m,W 0 m σ H1)/\∀ i m σ H,W i m σ H->
 (J.stop i H/\D.nx σ H)\/(J.go i H/\∃ N:St->Hp->Prop,(∀ σ' H',N σ' H'->∃ m',m' < m/\W (i + 1) m' σ' H')/\∀ x H',J.yld i H x H'->g x σ H' fun σ2 H2=>tb { D with nx:=N,ct:=N,bk:=D.nx } σ2 H2)
def Zeh (fp:List Addr) (h:Heap):List (Addr × Obj):=fp.filterMap fun b=>(h.get? b).map fun o=>(b,o)
theorem Zbc {fp:List Addr} {h:Heap} {b:Addr} {o:Obj} (hb:b ∈ fp) (e:h.get? b = some o):(b,o) ∈ Zeh fp h:=Jei.mpr ⟨b,hb,by rw [e]; rfl⟩
theorem Znb {fp:List Addr} {h:Heap} {p:Addr × Obj} (hp:p ∈ Zeh fp h):p.1 ∈ fp/\h.get? p.1 = some p.2:=by
 obtain ⟨b,hb,e⟩:=Jei.mp hp
 cases q:h.get? b with
 | none=>rw [q] at e; cases e
 | some o=>
  rw [q] at e
  have e':(b,o) = p:=Jbm e
  subst e'
  exact ⟨hb,q⟩
theorem Inv.pinned {pins:List (Addr × Obj)} {σ:St} {H:Hp} {s:Shared} {fp:List Addr} (I:Inv X pins σ H s) (hf:∀ b ∈ fp,Zij X pins H b) (ho:∀ b ∈ fp,∃ o,s.heap.get? b = some o/\∀ v,o.data ≠ .cell v):Inv X (pins ++ Zeh fp s.heap) σ H s:=
 I.pins_of fun p hp=>(Jbd.mp hp).elim (fun z=>I.pin p (Jah _ z)) fun z=>by
  obtain ⟨hb,e⟩:=Znb z
  obtain ⟨f0,f1,f2,_⟩:=hf p.1 hb
  obtain ⟨o,e',d⟩:=ho p.1 hb
  rw [e] at e'; cases e'
  exact ⟨e,f0,f1,f2,d⟩
theorem Inv.unpinned {pins pl:List (Addr × Obj)} {σ:St} {H:Hp} {s:Shared} (I:Inv X (pins ++ pl) σ H s):Inv X pins σ H s:=I.pins_of fun p hp=>I.pin p (Jah _ (Jce _ hp))
theorem Zb7 {iter:Expr} {body:List Stmt} {wi:TI} {g:TG} {tb:TS} {pos:Pos} (hp:PassesOwn (model X.prog X.w) X.A X.env X.xe) (hc:X.calm = true) (hi:PI X tg iter wi) (hg:PG X tg g) (hb:PSs X body tb)
  (hs:∀ x,foldedSetIterable iter X.env x = pure x:=by intro _; rfl):PS X (.For tg iter body [] pos) (tFor wi g tb):=by
 intro pins s σ H D I h
 refine wpAny_For (thn (hi pins s σ H _ I h) fun v s1 h1=>thn h1 fun itv s2 h2=>?_) hs
 obtain ⟨it,fp,tn,J,H2,e,I2,T,st2,f2,W,⟨m0,w0⟩,turn⟩:=h2
 subst e
 -- what stays true of the iterator's objects through the loop
 have stat:∀ {H':Hp},(∀ b ∈ fp,H' b = none)->∀ b ∈ fp,Zij X pins H' b:=fun hn b hb=>⟨hn b hb,(f2 b hb).2⟩
 refine codeAny_forLoop_any (fun n s'=>∃ i σ' H',Inv X pins σ' H' s'/\tn i s'.heap/\(∀ b ∈ fp,H' b = none)/\W i n σ' H') ?_ m0 ⟨0,σ,H2,I2,st2,fun b hb=>(f2 b hb).1,w0⟩
 rintro n s3 ⟨i,σ3,H3,I3,st3,fr3,w3⟩
 rcases turn i n σ3 H3 w3 with ⟨stop,qn⟩ | ⟨go,N,hN,step⟩
 ·refine Jdf hp (thn (T.done X rfl rfl rfl hc i pins s3 σ3 H3 X.xe I3 (stat fr3) st3 stop) fun r s4 ⟨hr,I4⟩=>?_)
  subst hr
  exact Jfe ⟨σ3,H3,I4,qn⟩
 ·refine Jdf hp (thn (T.item X rfl rfl rfl hc i pins s3 σ3 H3 X.xe I3 (stat fr3) st3 go) fun r s4 ⟨u,hr,h4⟩=>?_)
  subst hr
  refine Jdf hp (thn h4 fun _ s5 ⟨x,H5,I5,r5,y5,st5,fr5⟩=>?_)
  have I5':=I5.pinned (stat fr5) (T.obj _ _ st5)
  refine Jdf hp (thn (hg _ s5 σ3 H5 x u _ I5' r5 (step x H5 y5)) fun _ s6 ⟨σ6,H6,I6,q6⟩=>?_)
  refine Jdf hp (thn (hb _ s6 σ6 H6 _ I6 q6) fun f s7 q7=>?_)
  have again:∀ {σ7:St} {H7:Hp},Inv X (pins ++ Zeh fp s5.heap) σ7 H7 s7->N σ7 H7->∃ m,m < n/\∃ i σ' H',Inv X pins σ' H' s7/\tn i s7.heap/\(∀ b ∈ fp,H' b = none)/\W i m σ' H':=fun {σ7 H7} I7 n7=>by
   obtain ⟨m',hm,w7⟩:=hN σ7 H7 n7
   refine ⟨m',hm,i + 1,σ7,H7,I7.unpinned,T.keep _ _ _ st5 fun b hb o e=>(I7.pin (b,o) (Jah _ (Jah _ (Zbc hb e)))).1,fun b hb=>?_,w7⟩
   obtain ⟨o,e,d⟩:=T.obj _ _ st5 b hb
   exact (I7.pin (b,o) (Jah _ (Jah _ (Zbc hb e)))).2.1
  cases f with
  | next=>obtain ⟨σ7,H7,I7,n7⟩:=q7; exact again I7 n7
  | cont=>obtain ⟨σ7,H7,I7,n7⟩:=q7; exact again I7 n7
  | brk=>obtain ⟨σ7,H7,I7,q7⟩:=q7; exact ⟨σ7,H7,I7.unpinned,q7⟩
  | ret v=>obtain ⟨x7,σ7,H7,I7,r7,q7⟩:=q7; exact ⟨x7,σ7,H7,I7.unpinned,r7,q7⟩
end
theorem Zdb {K:PySem.W.Frag} {a:Addr} {xs:List V} {g:TG} {tb:TS} {D:Ends} {σ:St} {H:Hp} (Pv:Nat->St->Hp->Prop) (h0:Pv 0 σ H) (hl:∀ i σ H,i<=xs.length->Pv i σ H->SqL K H a xs)
  (hs:∀ i x σ H,xs[i]? = some x->Pv i σ H->g x σ H fun σ2 H2=>tb { D with nx:=Pv (i + 1),ct:=Pv (i + 1),bk:=D.nx } σ2 H2) (hd:∀ σ H,Pv xs.length σ H->D.nx σ H):
  ∃ W:Nat->Nat->St->Hp->Prop,(∃ m,W 0 m σ H)/\∀ i m σ H,W i m σ H->
   ((Itl K a).stop i H/\D.nx σ H)\/((Itl K a).go i H/\∃ N:St->Hp->Prop,(∀ σ' H',N σ' H'->∃ m',m' < m/\W (i + 1) m' σ' H')/\∀ x H',(Itl K a).yld i H x H'->g x σ H' fun σ2 H2=>tb { D with nx:=N,ct:=N,bk:=D.nx } σ2 H2):=by
 refine ⟨fun i m σ H=>m = xs.length - i/\i<=xs.length/\Pv i σ H,⟨xs.length,by simp,Jbx _,h0⟩,?_⟩
 rintro i m σ H ⟨rfl,hi,p⟩
 have q:=hl i σ H hi p
 by_cases hlt:i < xs.length
 ·refine .inr ⟨⟨xs,xs[i],q,by simp [hlt]⟩,Pv (i + 1),fun σ' H' p'=>⟨xs.length - (i + 1),by omega,rfl,hlt,p'⟩,fun x H' y=>?_⟩
  obtain ⟨e,y⟩:=y
  subst e
  exact hs i x σ _ (y xs q) p
 ·have e:i = xs.length:=by omega
  subst e
  exact .inl ⟨⟨xs,q,Jaf _⟩,hd σ H p⟩
theorem Zcn {lo:Int} {n:Nat} {g:TG} {tb:TS} {D:Ends} {σ:St} {H:Hp} (Pv:Nat->St->Hp->Prop) (h0:Pv 0 σ H)
  (hs:∀ i σ H,i < n->Pv i σ H->g (.int (lo + i)) σ H fun σ2 H2=>tb { D with nx:=Pv (i + 1),ct:=Pv (i + 1),bk:=D.nx } σ2 H2) (hd:∀ σ H,Pv n σ H->D.nx σ H):
  ∃ W:Nat->Nat->St->Hp->Prop,(∃ m,W 0 m σ H)/\∀ i m σ H,W i m σ H->
   ((Itr lo n).stop i H/\D.nx σ H)\/((Itr lo n).go i H/\∃ N:St->Hp->Prop,(∀ σ' H',N σ' H'->∃ m',m' < m/\W (i + 1) m' σ' H')/\∀ x H',(Itr lo n).yld i H x H'->g x σ H' fun σ2 H2=>tb { D with nx:=N,ct:=N,bk:=D.nx } σ2 H2):=by
 refine ⟨fun i m σ H=>m = n - i/\i<=n/\Pv i σ H,⟨n,by simp,Jbx _,h0⟩,?_⟩
 rintro i m σ H ⟨rfl,hi,p⟩
 by_cases hlt:i < n
 ·refine .inr ⟨hlt,Pv (i + 1),fun σ' H' p'=>⟨n - (i + 1),by omega,rfl,hlt,p'⟩,fun x H' y=>?_⟩
  obtain ⟨e,y⟩:=y
  subst e y
  exact hs i σ _ hlt p
 ·have e:i = n:=by omega
  subst e
  exact .inl ⟨Jaf _,hd σ H p⟩
abbrev R2:=V->V->Hp->VK->Prop
def OpR (X:Cx) (f:Value->Value->Sem Value) (r:R2):Prop:=
 ∀ (pins:List (Addr × Obj)) (s:Shared) (σ:St) (H:Hp) (x y:V) (v u:Value) (Q:VK),Inv X pins σ H s->RelV x v->RelV y u->r x y H Q->
  wpAny (model X.prog X.w) X.A (f v u) (EP X pins σ Q) X.xe s
def UnR (X:Cx) (f:Value->Sem Value) (r:V->Hp->VK->Prop):Prop:=
 ∀ (pins:List (Addr × Obj)) (s:Shared) (σ:St) (H:Hp) (x:V) (v:Value) (Q:VK),Inv X pins σ H s->RelV x v->r x H Q->
  wpAny (model X.prog X.w) X.A (f v) (EP X pins σ Q) X.xe s
def Zc3 (X:Cx) (f:Value) (r:List V->Hp->VK->Prop):Prop:=
 ∀ (pins:List (Addr × Obj)) (s:Shared) (σ:St) (H:Hp) (xs:List V) (us:List Value) (Q:VK),Inv X pins σ H s->Vals xs us->r xs H Q->
  wpAny (model X.prog X.w) X.A (call f us) (EP X pins σ Q) X.xe s
def TruR (X:Cx) (r:V->Hp->(Bool->Hp->Prop)->Prop):Prop:=
 ∀ (pins:List (Addr × Obj)) (s:Shared) (σ:St) (H:Hp) (x:V) (v:Value) (Q:Bool->Hp->Prop),Inv X pins σ H s->RelV x v->r x H Q->
  wpAny (model X.prog X.w) X.A (truthy v) (TP X pins σ Q) X.xe s
def tOp (r:R2) (ta tb:TE):TE:=fun σ H Q=>ta σ H fun x H1=>tb σ H1 fun y H2=>r x y H2 Q
def tUn (r:V->Hp->VK->Prop) (ta:TE):TE:=fun σ H Q=>ta σ H fun x H1=>r x H1 Q
def rI (C:Int->Int->Prop) (g:Int->Int->V):R2:=fun x y H Q=>∃ i j,x = .int i/\y = .int j/\C i j/\Q (g i j) H
def rI0 (g:Int->Int->V):R2:=fun x y H Q=>∃ i j,x = .int i/\y = .int j/\Q (g i j) H
def rU (g:Int->V):V->Hp->VK->Prop:=fun x H Q=>∃ i,x = .int i/\Q (g i) H
section
variable {X:Cx} {a b c:Expr} {ta tb tc:TE} {pos:Pos}
theorem binT (ha:PE X a ta) (hb:PE X b tb) {pins:List (Addr × Obj)} {s:Shared} {σ:St} {H:Hp} {R:V->V->Hp->Prop} (I:Inv X pins σ H s)
  (h:ta σ H fun x H1=>tb σ H1 fun y H2=>R x y H2) {Q:Value->Shared->Prop} {f:Value->Value->Sem Value}
  (hf:∀ v u s2 x y H2,Inv X pins σ H2 s2->RelV x v->RelV y u->R x y H2->wpAny (model X.prog X.w) X.A (f v u) Q X.xe s2):
  wpAny (model X.prog X.w) X.A (eval a X.env) (fun v s₁=>wpAny (model X.prog X.w) X.A (eval b X.env) (fun u s₂=>wpAny (model X.prog X.w) X.A (f v u) Q X.xe s₂) X.xe s₁) X.xe s:=by
 refine thn (ha pins s σ H _ I h) fun v s1 ⟨x,H1,I1,r1,q1⟩=>?_
 refine thn (hb pins s1 σ H1 _ I1 q1) fun u s2 ⟨y,H2,I2,r2,q2⟩=>?_
 exact hf v u s2 x y H2 I2 r1 r2 q2
theorem pe_op {op:Operator} {r:R2} (ho:OpR X (binaryOp op) r) (ha:PE X a ta) (hb:PE X b tb):PE X (.BinOp a op b pos) (tOp r ta tb):=by
 intro pins s σ H Q I h
 exact wpAny_BinOp (binT ha hb I h fun v u s2 x y H2 I2 rx ry q=>ho pins s2 σ H2 x y v u Q I2 rx ry q)
theorem pe_un {op:UnaryOp} {r:V->Hp->VK->Prop} (ho:UnR X (unaryOp op) r) (ha:PE X a ta):PE X (.UnaryOp op a pos) (tUn r ta):=by
 intro pins s σ H Q I h
 exact UnaryOp_ (thn (ha pins s σ H _ I h) fun v s1 ⟨x,H1,I1,r1,q1⟩=>ho pins s1 σ H1 x v Q I1 r1 q1)
theorem opI {f:Value->Value->Sem Value} {C:Int->Int->Prop} {g:Int->Int->Int}
  (rule:∀ (i j:Int) (t u:Tok) (s:Shared) (Q:Value->Shared->Prop) (E:Value->Shared->Prop),C i j->Q (.int (g i j) s.toks) { s with toks:=s.toks + 1 }->wpAny (model X.prog X.w) X.A (f (.int i t) (.int j u)) Q E s):
  OpR X f (rI C fun i j=>.int (g i j)):=by
 intro pins s σ H x y v u Q I rx ry h
 obtain ⟨i,j,rfl,rfl,hc,q⟩:=h
 obtain ⟨t,rfl⟩:=rx
 obtain ⟨t',rfl⟩:=ry
 exact rule i j t t' s _ _ hc ⟨.int (g i j),H,I.tok _,⟨_,rfl⟩,q⟩
theorem opI0 {f:Value->Value->Sem Value} {g:Int->Int->Int}
  (rule:∀ (i j:Int) (t u:Tok) (s:Shared) (Q:Value->Shared->Prop) (E:Value->Shared->Prop),Q (.int (g i j) s.toks) { s with toks:=s.toks + 1 }->wpAny (model X.prog X.w) X.A (f (.int i t) (.int j u)) Q E s):
  OpR X f (rI0 fun i j=>.int (g i j)):=by
 intro pins s σ H x y v u Q I rx ry h
 obtain ⟨i,j,rfl,rfl,q⟩:=h
 obtain ⟨t,rfl⟩:=rx
 obtain ⟨t',rfl⟩:=ry
 exact rule i j t t' s _ _ ⟨.int (g i j),H,I.tok _,⟨_,rfl⟩,q⟩
theorem opB0 {f:Value->Value->Sem Value} {g:Int->Int->Bool}
  (rule:∀ (i j:Int) (t u:Tok) (s:Shared) (Q:Value->Shared->Prop) (E:Value->Shared->Prop),Q (.bool (g i j)) s->wpAny (model X.prog X.w) X.A (f (.int i t) (.int j u)) Q E s):
  OpR X f (rI0 fun i j=>.bl (g i j)):=by
 intro pins s σ H x y v u Q I rx ry h
 obtain ⟨i,j,rfl,rfl,q⟩:=h
 obtain ⟨t,rfl⟩:=rx
 obtain ⟨t',rfl⟩:=ry
 exact rule i j t t' s _ _ ⟨.bl (g i j),H,I,rfl,q⟩
def CDiv (i j:Int):Prop:=0 < j/\j < 1073741824
def CPow (i j:Int):Prop:=0<=j/\j<=1000000/\i.natAbs < 2 ^ 64
def CMul (i j:Int):Prop:=(-(2 ^ 64) < i/\i < 2 ^ 64)\/(-(2 ^ 64) < j/\j < 2 ^ 64)
theorem CMul.ok {i j:Int} (h:CMul i j):IntMulOk i j:=by
 rcases h with ⟨h1,h2⟩ | ⟨h1,h2⟩
 ·exact .of_left (intBits_le_64 h1 h2)
 ·exact .of_right (intBits_le_64 h1 h2)
theorem Za5:OpR X (binaryOp .Add) (rI0 fun i j=>.int (i + j)):=opI0 fun _ _ _ _ _ _ _ q=>add_int q
theorem Zdp:OpR X (binaryOp .Sub) (rI0 fun i j=>.int (i - j)):=opI0 fun _ _ _ _ _ _ _ q=>sub_int q
theorem Zj8:OpR X (binaryOp .Mult) (rI CMul fun i j=>.int (i * j)):=opI fun _ _ _ _ _ _ _ hc q=>mul_int q hc.ok
theorem Zg6:OpR X (binaryOp .FloorDiv) (rI CDiv fun i j=>.int (i / j)):=opI fun i j _ _ _ _ _ hc q=>by
 have h1:(0:Int) < j:=hc.1
 have h2:j < 1073741824:=hc.2
 exact floordiv_int (by omega) (by rw [Int.fdiv_eq_ediv_of_nonneg i (by omega)]; exact q) (.inl (PyProof.noPylong_small (by omega)))
theorem Zd0:OpR X (binaryOp .Mod) (rI (fun _ j=>0 < j) fun i j=>.int (i % j)):=opI fun i j _ _ _ _ _ hc q=>by
 have h1:(0:Int) < j:=hc
 exact mod_int' (by omega) (by rw [Int.fmod_eq_emod_of_nonneg i (by omega)]; exact q)
theorem Zm5:OpR X (binaryOp .Pow) (rI CPow fun i j=>.int (i ^ j.toNat)):=opI fun _ _ _ _ _ _ _ hc q=>pow_int_small hc.1 hc.2.1 hc.2.2 q
theorem unI {f:Value->Sem Value} {g:Int->Int}
  (rule:∀ (i:Int) (t:Tok) (s:Shared) (Q:Value->Shared->Prop) (E:Value->Shared->Prop),Q (.int (g i) s.toks) { s with toks:=s.toks + 1 }->wpAny (model X.prog X.w) X.A (f (.int i t)) Q E s):
  UnR X f (rU fun i=>.int (g i)):=by
 intro pins s σ H x v Q I rx h
 obtain ⟨i,rfl,q⟩:=h
 obtain ⟨t,rfl⟩:=rx
 exact rule i t s _ _ ⟨.int (g i),H,I.tok _,⟨_,rfl⟩,q⟩
theorem un_neg:UnR X (unaryOp .USub) (rU fun i=>.int (-i)):=unI fun _ _ _ _ _ q=>neg_int q
end
def scal:V->V->Bool
 | .non,.non=>true | .non,.int _=>true | .int _,.non=>true | .non,.bl _=>true | .bl _,.non=>true | .non,.str _=>true | .str _,.non=>true
 | .int _,.int _=>true | .bl _,.bl _=>true | .str _,.str _=>true | .byt _,.byt _=>true
 | .int _,.str _=>true | .str _,.int _=>true | .bl _,.str _=>true | .str _,.bl _=>true
 | _,_=>false
def rEq:R2:=fun x y H Q=>scal x y = true/\Q (.bl (decide (x = y))) H
def rNe:R2:=fun x y H Q=>scal x y = true/\Q (.bl (!decide (x = y))) H
theorem Zoa {i j:Int}:decide (V.int i = V.int j) = (i == j):=by
 rw [Jci]
 simp
theorem Zro {i j:Bool}:decide (V.bl i = V.bl j) = (i == j):=by
 rw [Jci]
 simp
theorem Zn9 {i j:Str}:decide (V.str i = V.str j) = (i == j):=by
 rw [Jci]
 simp
theorem Zob {i j:Array UInt8}:decide (V.byt i = V.byt j) = (i.toList == j.toList):=by
 rw [Jci]
 cases i
 cases j
 simp
section
variable {X:Cx} {a b c:Expr} {ta tb tc:TE} {pos:Pos}
theorem Zax {pins:List (Addr × Obj)} {σ:St} {H:Hp} {s:Shared} {Q:VK} {k k':Bool} (I:Inv X pins σ H s) (q:Q (.bl k) H) (e:k = k'):EP X pins σ Q (.bool k') s:=by
 subst e
 exact ⟨.bl k,H,I,rfl,q⟩
theorem Zdw:OpR X (compareOp .Eq) rEq:=by
 intro pins s σ H x y v u Q I rx ry h
 obtain ⟨hs,q⟩:=h
 cases x with
 | non=>
  cases rx
  cases y with
  | non=>cases ry; exact PySem.EqNone.eq_none_none (Zax I q (by simp))
  | bl j=>cases ry; exact PySem.EqNone.eq_none_bool (Zax I q (by simp))
  | int j=>obtain ⟨t',rfl⟩:=ry; exact PySem.EqNone.eq_none_int (Zax I q (by simp))
  | str j=>obtain ⟨t',rfl⟩:=ry; exact PySem.EqNone.eq_none_str (Zax I q (by simp))
  | _=>exact absurd (show false = true from hs) Jar
 | bl i=>
  cases rx
  cases y with
  | non=>cases ry; exact PySem.EqNone.eq_bool_none (Zax I q (by simp))
  | bl j=>cases ry; exact eq_bool (Zax I q Zro)
  | str j=>obtain ⟨t',rfl⟩:=ry; exact PySem.EqMixed.eq_bool_str (Zax I q (by simp))
  | _=>exact absurd (show false = true from hs) Jar
 | int i=>
  obtain ⟨t,rfl⟩:=rx
  cases y with
  | non=>cases ry; exact PySem.EqNone.eq_int_none (Zax I q (by simp))
  | int j=>obtain ⟨t',rfl⟩:=ry; exact eq_int (Zax I q Zoa)
  | str j=>obtain ⟨t',rfl⟩:=ry; exact PySem.EqMixed.eq_int_str (Zax I q (by simp))
  | _=>exact absurd (show false = true from hs) Jar
 | str i=>
  obtain ⟨t,rfl⟩:=rx
  cases y with
  | non=>cases ry; exact PySem.EqNone.eq_str_none (Zax I q (by simp))
  | bl j=>cases ry; exact PySem.EqMixed.eq_str_bool (Zax I q (by simp))
  | int j=>obtain ⟨t',rfl⟩:=ry; exact PySem.EqMixed.eq_str_int (Zax I q (by simp))
  | str j=>obtain ⟨t',rfl⟩:=ry; exact eq_str (Zax I q Zn9)
  | _=>exact absurd (show false = true from hs) Jar
 | byt i=>
  obtain ⟨t,rfl⟩:=rx
  cases y with
  | byt j=>obtain ⟨t',rfl⟩:=ry; exact PySem.W.eq_bytes (Zax I q Zob)
  | _=>exact absurd (show false = true from hs) Jar
 | _=>cases y <;> exact absurd (show false = true from hs) Jar
theorem Zpm:OpR X (compareOp .NotEq) rNe:=by
 intro pins s σ H x y v u Q I rx ry h
 obtain ⟨hs,q⟩:=h
 cases x with
 | non=>
  cases rx
  cases y with
  | non=>cases ry; exact PySem.EqNone.ne_none_none (Zax I q (by simp))
  | bl j=>cases ry; exact PySem.EqNone.ne_none_bool (Zax I q (by simp))
  | int j=>obtain ⟨t',rfl⟩:=ry; exact PySem.EqNone.ne_none_int (Zax I q (by simp))
  | str j=>obtain ⟨t',rfl⟩:=ry; exact PySem.EqNone.ne_none_str (Zax I q (by simp))
  | _=>exact absurd (show false = true from hs) Jar
 | bl i=>
  cases rx
  cases y with
  | non=>cases ry; exact PySem.EqNone.ne_bool_none (Zax I q (by simp))
  | bl j=>cases ry; exact ne_bool (Zax I q (Jeh not Zro))
  | str j=>obtain ⟨t',rfl⟩:=ry; exact PySem.EqMixed.ne_bool_str (Zax I q (by simp))
  | _=>exact absurd (show false = true from hs) Jar
 | int i=>
  obtain ⟨t,rfl⟩:=rx
  cases y with
  | non=>cases ry; exact PySem.EqNone.ne_int_none (Zax I q (by simp))
  | int j=>obtain ⟨t',rfl⟩:=ry; exact ne_int (Zax I q (Jeh not Zoa))
  | str j=>obtain ⟨t',rfl⟩:=ry; exact PySem.EqMixed.ne_int_str (Zax I q (by simp))
  | _=>exact absurd (show false = true from hs) Jar
 | str i=>
  obtain ⟨t,rfl⟩:=rx
  cases y with
  | non=>cases ry; exact PySem.EqNone.ne_str_none (Zax I q (by simp))
  | bl j=>cases ry; exact PySem.EqMixed.ne_str_bool (Zax I q (by simp))
  | int j=>obtain ⟨t',rfl⟩:=ry; exact PySem.EqMixed.ne_str_int (Zax I q (by simp))
  | str j=>obtain ⟨t',rfl⟩:=ry; exact ne_str (Zax I q (Jeh not Zn9))
  | _=>exact absurd (show false = true from hs) Jar
 | byt i=>
  obtain ⟨t,rfl⟩:=rx
  cases y with
  | byt j=>obtain ⟨t',rfl⟩:=ry; exact PySem.W.ne_bytes (Zax I q (Jeh not Zob))
  | _=>exact absurd (show false = true from hs) Jar
 | _=>cases y <;> exact absurd (show false = true from hs) Jar
theorem Zpn:OpR X (compareOp .Lt) (rI0 fun i j=>.bl (decide (i < j))):=opB0 fun _ _ _ _ _ _ _ q=>lt_int q
theorem op_le:OpR X (compareOp .LtE) (rI0 fun i j=>.bl (decide (i<=j))):=opB0 fun _ _ _ _ _ _ _ q=>le_int q
theorem Zh0:OpR X (compareOp .Gt) (rI0 fun i j=>.bl (decide (j < i))):=opB0 fun _ _ _ _ _ _ _ q=>gt_int q
theorem op_ge:OpR X (compareOp .GtE) (rI0 fun i j=>.bl (decide (j<=i))):=opB0 fun _ _ _ _ _ _ _ q=>ge_int q
theorem op_notN:OpR X (compareOp .IsNot) (fun x y H Q=>y = .non/\Q (.bl (!decide (x = .non))) H):=by
 intro pins s σ H x y v u Q I rx ry h
 obtain ⟨rfl,q⟩:=h
 cases ry
 refine isnot_none_gen (Zax I q ?_)
 cases x <;> first
  | (cases rx; rfl)
  | (obtain ⟨t,rfl⟩:=rx; rfl)
theorem Zat (b:Expr) {op:CmpOp} (h:op ≠ .In:=by decide) (h2:op ≠ .NotIn:=by decide):behindInMarks op b = false:=by
 have e1:(op == CmpOp.In) = false:=by cases op <;> first | rfl | exact absurd rfl h
 have e2:(op == CmpOp.NotIn) = false:=by cases op <;> first | rfl | exact absurd rfl h2
 cases b <;> simp [behindInMarks,e1,e2]
theorem Ziv {op:CmpOp} {r:R2} (ho:OpR X (compareOp op) r) (ha:PE X a ta) (hb:PE X b tb) (hm:behindInMarks op b = false):PE X (.Compare a [op] [b] pos) (tOp r ta tb):=by
 intro pins s σ H Q I h
 exact wpAny_Compare1 (binT ha hb I h fun v u s2 x y H2 I2 rx ry q=>ho pins s2 σ H2 x y v u Q I2 rx ry q) hm
def tTest (t:TE):TT:=fun σ H Q=>t σ H fun x H'=>∃ k,x = .bl k/\Q k H'
theorem Zaj {op:CmpOp} {r:R2} (ho:OpR X (compareOp op) r) (ha:PE X a ta) (hb:PE X b tb) (hm:behindInMarks op b = false):PT X (.Compare a [op] [b] pos) (tTest (tOp r ta tb)):=by
 intro pins s σ H Q I h
 refine wpAny_isTrue_Compare1 (thn (ha pins s σ H _ I h) fun v s1 ⟨x,H1,I1,r1,q1⟩=>thn (hb pins s1 σ H1 _ I1 q1) fun u s2 ⟨y,H2,I2,r2,q2⟩=>
  thn (ho pins s2 σ H2 x y v u _ I2 r1 r2 q2) fun c s3 ⟨z,H3,I3,r3,k,e,q3⟩=>?_) hm
 subst e
 cases r3
 exact Jb5 ⟨H3,I3,q3⟩
def Zlz (r r':R2) (ta tb tc:TE):TE:=fun σ H Q=>ta σ H fun x H1=>tb σ H1 fun y H2=>r x y H2 fun z H3=>∃ k,z = .bl k /\
 (if k = true then tc σ H3 fun w' H4=>r' y w' H4 Q else Q (.bl false) H3)
theorem Zpj {op op':CmpOp} {r r':R2} (ho:OpR X (compareOp op) r) (ho':OpR X (compareOp op') r') (ha:PE X a ta) (hb:PE X b tb) (hc:PE X c tc)
  (hm:lastMarks [op,op'] [b,c] = false:=by with_unfolding_all rfl):PE X (.Compare a [op,op'] [b,c] pos) (Zlz r r' ta tb tc):=by
 intro pins s σ H Q I h
 refine Compare_chain (thn (ha pins s σ H _ I h) fun v s1 ⟨x,H1,I1,r1,q1⟩=>chain_link (thn (hb pins s1 σ H1 _ I1 q1) fun u s2 ⟨y,H2,I2,r2,q2⟩=>
  thn (ho pins s2 σ H2 x y v u _ I2 r1 r2 q2) fun d s3 ⟨z,H3,I3,r3,k,e,q3⟩=>?_)) hm
 subst e
 cases r3
 refine Jb5 ?_
 cases k with
 | false=>exact ite_ff ⟨.bl false,H3,I3,rfl,q3⟩
 | true=>exact ite_tt (chain_last (thn (hc pins s3 σ H3 _ I3 q3) fun w' s4 ⟨z',H4,I4,r4,q4⟩=>ho' pins s4 σ H4 y z' u w' Q I4 r2 r4 q4))
theorem Zpa {op op':CmpOp} {r r':R2} (ho:OpR X (compareOp op) r) (ho':OpR X (compareOp op') r') (ha:PE X a ta) (hb:PE X b tb) (hc:PE X c tc)
  (hm:lastMarks [op,op'] [b,c] = false:=by with_unfolding_all rfl):PT X (.Compare a [op,op'] [b,c] pos) (tTest (Zlz r r' ta tb tc)):=by
 intro pins s σ H Q I h
 refine isTrue_chain (thn (ha pins s σ H _ I h) fun v s1 ⟨x,H1,I1,r1,q1⟩=>test_link (thn (hb pins s1 σ H1 _ I1 q1) fun u s2 ⟨y,H2,I2,r2,q2⟩=>
  thn (ho pins s2 σ H2 x y v u _ I2 r1 r2 q2) fun d s3 ⟨z,H3,I3,r3,k,e,q3⟩=>?_)) hm
 subst e
 cases r3
 refine Jb5 ?_
 cases k with
 | false=>
  obtain ⟨k',e',q'⟩:=q3
  cases e'
  exact ite_ff ⟨H3,I3,q'⟩
 | true=>
  refine ite_tt (test_last (thn (hc pins s3 σ H3 _ I3 q3) fun w' s4 ⟨z',H4,I4,r4,q4⟩=>thn (ho' pins s4 σ H4 y z' u w' _ I4 r2 r4 q4) fun d' s5 ⟨z2,H5,I5,r5,k2,e2,q5⟩=>?_))
  subst e2
  cases r5
  exact Jb5 ⟨H5,I5,q5⟩
def TruV (K:PySem.W.Frag) (x:V) (H:Hp) (k:Bool):Prop:=
 match x with
 | .non=>k = false
 | .bl b=>k = b
 | .int i=>k = (i != 0)
 | .str y=>y.length<=sizeLine/\k = ((y.length:Int) != 0)
 | .byt y=>y.size<=sizeLine/\k = ((y.size:Int) != 0)
 | .ref p=>(∃ xs,SqL K H p xs/\k = !xs.isEmpty)\/(∃ xs,SqT K H p xs/\k = !xs.isEmpty)\/∃ kvs,H p = some (.dK kvs)/\k = !kvs.isEmpty
 | _=>False
theorem Zlg {κ:Type} {kvs:List (κ × V)} {vs:List (κ × Value)} (r:KV kvs vs):(!vs.isEmpty) = !kvs.isEmpty:=by
 cases r <;> rfl
theorem Zgj {xs:List V} {its:List Value} (r:Vals xs its):(!its.toArray.isEmpty) = !xs.isEmpty:=by
 cases r <;> simp
theorem Zgh:(sizeLine:Nat) < 2 ^ 63:=by rw [Jde]; decide
theorem tru_ok:TruR X (fun x H Q=>∃ k,TruV X.K x H k/\Q k H):=by
 intro pins s σ H x v Q I rx h
 obtain ⟨k,e,q⟩:=h
 have hl:=Zgh
 have hs:sizeLine = 16777216:=Jde
 cases x with
 | non=>
  cases rx
  have e':k = false:=e
  subst e'
  exact truthy_none ⟨H,I,q⟩
 | bl b=>
  cases rx
  have e':k = b:=e
  subst e'
  exact Jb5 ⟨H,I,q⟩
 | int i=>
  obtain ⟨t,rfl⟩:=rx
  have e':k = (i != 0):=e
  subst e'
  exact PySem.P.truthy_int ⟨H,I,q⟩
 | str y=>
  obtain ⟨t,rfl⟩:=rx
  obtain ⟨hy,e'⟩:y.length<=sizeLine/\k = ((y.length:Int) != 0):=e
  subst e'
  exact PySem.P.truthy_str (by omega) ⟨H,I.tok _,q⟩
 | byt y=>
  obtain ⟨t,rfl⟩:=rx
  obtain ⟨hy,e'⟩:y.size<=sizeLine/\k = ((y.size:Int) != 0):=e
  subst e'
  exact PySem.W.truthy_bytes (by omega) ⟨H,I.tok _,q⟩
 | ref p=>
  cases rx
  have e':(∃ xs,SqL X.K H p xs/\k = !xs.isEmpty)\/(∃ xs,SqT X.K H p xs/\k = !xs.isEmpty)\/∃ kvs,H p = some (.dK kvs)/\k = !kvs.isEmpty:=e
  rcases e' with ⟨xs,hx,e'⟩ | ⟨xs,hx,e'⟩ | ⟨kvs,hx,e'⟩
  ·subst e'
   obtain ⟨its,r,pl,hz⟩:=I.list hx
   have hlen:=r.length
   exact wpAny_truthy_list pl.isList (by simp only [Jaq]; omega) ⟨H,I.tok _,by rw [Zgj r]; exact q⟩
  ·subst e'
   obtain ⟨its,r,pl,hz⟩:=I.tuple hx
   have hlen:=r.length
   exact truthy_tuple pl (by simp only [Jaq]; omega) ⟨H,I.tok _,by rw [Zgj r]; exact q⟩
  ·subst e'
   obtain ⟨hz,hS,vs,r,m⟩:kvs.length<=sizeLine/\(p == sysModules) = false/\∃ vs,KV kvs vs/\s.heap.DictOf (Zbt X.prog X.w) p vs:=I.hok p _ hx
   have hlen:kvs.length = vs.length:=Jf9 r
   exact wpAny_truthy_dict hS m (by omega) ⟨H,I.tok _,by rw [Zlg r]; exact q⟩
 | _=>exact (show False from e).elim
theorem Zj1 (ha:PE X a ta) (he:∀ whole,isTrue a X.env whole = (do let v <- whole; standAt a.pos; holding [v] (truthy v))):
  PT X a (fun σ H Q=>ta σ H fun x H'=>∃ k,TruV X.K x H' k/\Q k H'):=by
 intro pins s σ H Q I h
 exact isTrue_plain (thn (ha pins s σ H _ I h) fun v s1 ⟨x,H1,I1,r1,q1⟩=>tru_ok pins s1 σ H1 x v Q I1 r1 q1) (he _)
theorem Zgo {x:V} {us:List Value} (r:Vals [x] us):∃ u,us = [u]/\RelV x u:=by
 cases r with
 | cons r1 r2=>cases r2; exact ⟨_,rfl,r1⟩
theorem vals2 {x y:V} {us:List Value} (r:Vals [x,y] us):∃ u w',us = [u,w']/\RelV x u/\RelV y w':=by
 cases r with
 | cons r1 r2=>
  cases r2 with
  | cons r3 r4=>cases r4; exact ⟨_,_,rfl,r1,r3⟩
theorem Zor (hc:X.calm = true):Zc3 X (.builtin "min") (fun xs H Q=>∃ i j,xs = [.int i,.int j]/\Q (.int (if j < i then j else i)) H):=by
 intro pins s σ H xs us Q I r h
 obtain ⟨i,j,rfl,q⟩:=h
 obtain ⟨u,w',rfl,⟨t,rfl⟩,⟨t',rfl⟩⟩:=vals2 r
 refine min_two_ints (I.ok.hd hc) fun h' tk k=>⟨_,H,I.kept k,?_,q⟩
 by_cases hj:j < i
 ·rw [if_pos hj,if_pos hj]; exact ⟨_,rfl⟩
 ·rw [if_neg hj,if_neg hj]; exact ⟨_,rfl⟩
end
structure ObjM (h:Heap) (x dx C:Addr) (mA:Str->Option Value):Prop where
 obj:h.get? x = some (PySem.W.instObj C dx)
 ns:h.Ns1 dx mA
 ne:dx ≠ x
theorem Znm {h:Heap} {dx:Addr} {mA:Str->Option Value} (n:h.Ns1 dx mA):∃ od,h.get? dx = some od/\∀ name,PySem.W.lookIn name od = some (mA name):=by
 obtain ⟨o,es,ep,ho,hd,hk,_,hm⟩:=n
 refine ⟨o,ho,fun name=>?_⟩
 have e:=hm name
 unfold nsFind findBy at e
 rw [<- Array.find?_toList] at e
 unfold PySem.W.lookIn
 rw [hd]
 dsimp only
 split
 ·rename_i y q
  rw [q] at e
  exact Jeh some e
 ·rename_i q
  rw [q] at e
  have a:es.toList.any (·.refKey) = false:=by
   rw [List.any_eq_false]
   intro y hy
   obtain ⟨z,t,hkey⟩:=hk y (Je8.mp hy)
   simp [DictEntry.refKey,hkey]
  have a':¬ es.toList.any (·.refKey) = true:=by rw [a]; exact Jar
  rw [if_neg a']
  exact Jeh some e
theorem ObjM.look {h:Heap} {x dx C:Addr} {mA:Str->Option Value} (I:ObjM h x dx C mA):∃ od,PySem.W.InstAt h x (PySem.W.instObj C dx) C (some od)/\∀ name,PySem.W.lookIn name od = some (mA name):=
 let ⟨od,ho,hl⟩:=Znm I.ns
 ⟨od,⟨I.obj,rfl,rfl,ho⟩,hl⟩
section
variable {prog:Program} {w:World} {A:Around} {E:Value->Shared->Prop} {s:Shared} {K:PySem.W.Frag} {x dx C f:Addr} {mA:Str->Option Value} {name:Str} {v:Value}
theorem get_map {expr:Bool} {Q:Value->Shared->Prop} (X:K.In s.heap) (I:ObjM s.heap x dx C mA) (hg:PySem.W.plainGet K C name = true) (hh:PySem.W.hasDictIn K C = true)
  (ha:PySem.W.findIn K (.ref C) name = some none) (hv:mA name = some v) (hv':PySem.W.handedIn v = true) (h:Q v { s with toks:=s.toks + 1 }):
  wpAny (model prog w) A (getAttr (.ref x) name expr) Q E s:=by
 obtain ⟨od,J,hl⟩:=I.look
 exact PySem.W.get_value X J (Jff hg).1 (PySem.W.findObj_own hh ha rfl (by rw [hl,hv])) hv' h
theorem Zp8 {pl:Sem Bool} {Q:Value × List Value->Shared->Prop} (X:K.In s.heap) (I:ObjM s.heap x dx C mA) (hg:PySem.W.plainGet K C name = true)
  (hf:PySem.W.findIn K (.ref C) name = some (some (.ref f))) (ht:PySem.W.isFn K (.ref f) = true) (hv:mA name = none) (h:Q (.ref f,[.ref x]) s):
  wpAny (model prog w) A (getMethod (.ref x) name pl) Q E s:=by
 obtain ⟨od,J,hl⟩:=I.look
 exact PySem.W.method_fn X J (Jff hg).1 (Jff hg).2 hf (Jbz.mp ht) (by show (PySem.W.lookIn name od).map (·.isSome) = some false; rw [hl,hv]; rfl) h
theorem Zd3 {ns:List Str} {Q:Unit->Shared->Prop} (X:K.In s.heap) (I:ObjM s.heap x dx C mA)
  (hs:PySem.W.findIn K (.ref C) "__setattr__" = some (some (.builtin "object.__setattr__"))) (hp:PySem.W.plainOver K C = true) (ht:PySem.W.takerIn K C name = some none) (hh:PySem.W.hasDictIn K C = true)
  (hw:PySem.Within mA ns) (hsz:ns.length<=sizeLine)
  (h:∀ h',ObjM h' x dx C (fun y=>if y = name then some v else mA y)->Heap.SameBut dx s.heap h'->Q () { s with heap:=h',toks:=s.toks + 2 }):
  wpAny (model prog w) A (setAttr (.ref x) name v) Q E s:=by
 obtain ⟨od,J,hl⟩:=I.look
 refine PySem.W.set_plain X J hs (PySem.W.osa_open (s:={ s with toks:=s.toks + 1 }) (r:=none) X J hp ht fun b=>?_)
 obtain ⟨cd,hc,hd'⟩:=PySem.W.any_some hh
 have hx:s.heap.get? x = some ⟨.ref C,some dx,.plain,#[]⟩:=I.obj
 refine Jaa (Jae (Jaa (Jaa (wpAny_loadPart hx (Jaa (PySem.W.Looks.here (s:={ s with toks:=s.toks + 1 }) (PySem.W.looks_clsIn X hc) ?_))))))
 rw [hd']
 refine Jae (a:=some dx) (Jaa (Jae (Jaa ?_)))
 refine wpAny_nsSet1 (s:={ s with toks:=s.toks + 1 }) I.ns fun h' hn2 hs2=>?_
 obtain ⟨oD,esD,epD,hoD,hdD,hcD⟩:=hn2.count (PySem.Within.cons name v hw)
 refine Jaa (wpAny_lookBehind hoD (by rw [hdD]; exact pastItsLine_dict (Jay hcD (by rw [Jau]; omega))) ?_)
 exact Jae (h _ ⟨(hs2.2 _ (Jds I.ne)).trans I.obj,hn2,I.ne⟩ hs2)
theorem Zpz {R:Result->Shared->Prop} {vs:List Value} {kw:List (Str × Value)} (X:K.In s.heap) (hm:PySem.W.makesIn K C = true)
  (hi:PySem.W.findIn K (.ref C) "__init__" = some (some (.ref f))) (hf:PySem.W.typeIn K (.ref f) = some (.type "function"))
  (h:codeAny (model prog w) (A.under (.builtin "type.__call__" ⟨.ref C :: vs,kw⟩)) (.call (.ref f) ⟨.ref (s.heap.objs.size + 1) :: vs,kw⟩) (PySem.W.InitBack (s.heap.objs.size + 1) R)
   { s with heap:=(s.heap.push PySem.W.emptyDict).push (PySem.W.instObj C s.heap.objs.size) }):
  codeAny (model prog w) A (.call (.ref C) ⟨vs,kw⟩) R s:=by
 obtain ⟨hh,g,d,t,os⟩:=s
 exact PySem.W.make_core (PySem.W.makes_of X hm) (PySem.W.looks_findIn X hi) (fun self=>PySem.W.bind_fn X self hf) (.inl rfl) h
end
def Zg1 (f:Str) (v:V):List (Str × V)->List (Str × V)
 | []=>[(f,v)]
 | (g,x) :: r=>if g = f then (g,v) :: r else (g,x) :: Zg1 f v r
theorem Zcm (f g:Str) (v:V):∀ fs:List (Str × V),(Zg1 f v fs).lookup g = if g = f then some v else fs.lookup g
 | []=>by
  show List.lookup g [(f,v)] = _
  by_cases h:g = f
  ·have hb:(g == f) = true:=Jbz.mpr h
   simp only [List.lookup,hb,if_pos h]
  ·have hb:(g == f) = false:=Jc7.mpr h
   simp only [List.lookup,hb,if_neg h]
 | (k,x) :: r=>by
  have ih:=Zcm f g v r
  rw [show Zg1 f v ((k,x) :: r) = (if k = f then (k,v) :: r else (k,x) :: Zg1 f v r) from rfl]
  by_cases hk:k = f
  ·rw [if_pos hk]
   by_cases h:g = k
   ·have hb:(g == k) = true:=Jbz.mpr h
    simp only [List.lookup,hb,if_pos (h.trans hk)]
   ·have hb:(g == k) = false:=Jc7.mpr h
    simp only [List.lookup,hb,if_neg (fun e:g = f=>h (e.trans hk.symm))]
  ·rw [if_neg hk]
   by_cases h:g = k
   ·have hb:(g == k) = true:=Jbz.mpr h
    simp only [List.lookup,hb,if_neg (fun e:g = f=>hk (h.symm.trans e))]
   ·have hb:(g == k) = false:=Jc7.mpr h
    simp only [List.lookup,hb]
    exact ih
theorem Zft (f:Str) (v:V):∀ fs:List (Str × V),f ∈ (Zg1 f v fs).map (·.1)/\∀ g,g ∈ fs.map (·.1)->g ∈ (Zg1 f v fs).map (·.1)
 | []=>⟨by simp [Zg1],fun g h=>by simp at h⟩
 | (k,x) :: r=>by
  obtain ⟨i1,i2⟩:=Zft f v r
  rw [show Zg1 f v ((k,x) :: r) = (if k = f then (k,v) :: r else (k,x) :: Zg1 f v r) from rfl]
  by_cases hk:k = f
  ·rw [if_pos hk]
   subst hk
   exact ⟨by simp,fun g h=>by simpa using h⟩
  ·rw [if_neg hk]
   refine ⟨?_,fun g h=>?_⟩
   ·rw [Jax]
    exact Jbj _ i1
   ·rw [Jax] at h ⊢
    rcases Jam.mp h with e | e
    ·exact Jam.mpr (.inl e)
    ·exact Jbj _ (i2 g e)
theorem Zd9 (f:Str) (v:V):∀ fs:List (Str × V),(Zg1 f v fs).length<=fs.length + 1
 | []=>by simp [Zg1]
 | (k,x) :: r=>by
  have ih:=Zd9 f v r
  rw [show Zg1 f v ((k,x) :: r) = (if k = f then (k,v) :: r else (k,x) :: Zg1 f v r) from rfl]
  by_cases hk:k = f
  ·rw [if_pos hk,Jau,Jau]; omega
  ·rw [if_neg hk,Jau,Jau]; omega
theorem RelO.some_of {v:V} {o:Option Value} (r:RelO (some v) o):∃ u,o = some u/\RelV v u:=by
 cases o with
 | none=>exact (show False from r).elim
 | some u=>exact ⟨u,rfl,r⟩
theorem RelO.none_of {o:Option Value} (r:RelO none o):o = none:=by
 cases o with
 | none=>rfl
 | some u=>exact (show False from r).elim
theorem Zn3 {v:V} {u:Value} (r:RelV v u):PySem.W.handedIn u = true:=by
 cases v with
 | non=>cases (show u = Value.none from r); rfl
 | bl b=>cases (show u = Value.bool b from r); rfl
 | int i=>obtain ⟨t,e⟩:=(show ∃ t,u = Value.int i t from r); cases e; rfl
 | str x=>obtain ⟨t,e⟩:=(show ∃ t,u = Value.str x t from r); cases e; rfl
 | byt b=>obtain ⟨t,e⟩:=(show ∃ t,u = Value.bytes b t from r); cases e; rfl
 | flt b=>obtain ⟨t,e⟩:=(show ∃ t,u = Value.float b t from r); cases e; rfl
 | ref a=>cases (show u = Value.ref a from r); rfl
 | ty n=>cases (show u = Value.type n from r); rfl
section
variable {P:Program} {w:World} {H H':Hp} {h h':Heap} {a C dx:Addr} {fs fs':List (Str × V)}
theorem Zhb (hok:HOk P w H h) (e:H a = some (.ins C dx fs)):∃ mA,ObjM h a dx C mA/\(∀ f,RelO (fs.lookup f) (mA f))/\PySem.Within mA (fs.map (·.1))/\fs.length<=1000/\H dx = some (.own a):=by
 obtain ⟨d,z,ne,ob,mA,n,r,q⟩:=(show ObjOk P w H h a (.ins C dx fs) from hok a _ e)
 exact ⟨mA,⟨ob,n,ne⟩,r,q,z,d⟩
end
structure Cls (K:PySem.W.Frag) (C:Addr):Prop where
 pg:PySem.W.plainGet K C Str.empty = true
 hd:PySem.W.hasDictIn K C = true
 po:PySem.W.plainOver K C = true
 sa:PySem.W.findIn K (.ref C) "__setattr__" = some (some (.builtin "object.__setattr__"))
theorem Cls.get {K:PySem.W.Frag} {C:Addr} (c:Cls K C) (f:Str):PySem.W.plainGet K C f = true:=c.pg
def NoAttr (K:PySem.W.Frag) (C:Addr) (f:Str):Prop:=PySem.W.findIn K (.ref C) f = some none
theorem NoAttr.taker {K:PySem.W.Frag} {C:Addr} {f:Str} (n:NoAttr K C f):PySem.W.takerIn K C f = some none:=by
 unfold PySem.W.takerIn
 rw [show PySem.W.findIn K (.ref C) f = some none from n]
 rfl
structure Con (K:PySem.W.Frag) (C:Addr) (f:Str) (v:V) (u:Value):Prop where
 at_:PySem.W.findIn K (.ref C) f = some (some u)
 rel:RelV v u
 get:PySem.W.specialIn K u "__get__" = some none
 cp:PySem.W.copiedNames.contains f = false
structure Meth (K:PySem.W.Frag) (C:Addr) (m:Str) (f:Addr):Prop where
 at_:PySem.W.findIn K (.ref C) m = some (some (.ref f))
 fn:PySem.W.isFn K (.ref f) = true
 kp:PySem.W.keepIn K (.ref f) = true
section
variable {X:Cx} {pins:List (Addr × Obj)} {σ:St} {H:Hp} {s:Shared} {a C dx:Addr} {fs:List (Str × V)} {f:Str} {v:V} {A:Around} {E:Value->Shared->Prop}
theorem Zlh {b:Bool} {Q:Value->Shared->Prop} (I:Inv X pins σ H s) (e:H a = some (.ins C dx fs)) (c:Cls X.K C) (n:NoAttr X.K C f) (l:fs.lookup f = some v)
  (h:∀ u s',Inv X pins σ H s'->RelV v u->Q u s'):wpAny (model X.prog X.w) A (getAttr (.ref a) f b) Q E s:=by
 obtain ⟨mA,O,r,_,_,_⟩:=Zhb I.hok e
 obtain ⟨u,hu,ru⟩:=RelO.some_of (v:=v) (o:=mA f) (by rw [<- l]; exact r f)
 exact get_map I.kIn O (c.get f) c.hd n hu (Zn3 ru) (h u _ (I.tok _) ru)
theorem Zgk {m:Str} {g:Addr} {pl:Sem Bool} {Q:Value × List Value->Shared->Prop} (I:Inv X pins σ H s) (e:H a = some (.ins C dx fs)) (c:Cls X.K C) (k:Meth X.K C m g) (l:fs.lookup m = none)
  (h:Q (.ref g,[.ref a]) s):wpAny (model X.prog X.w) A (getMethod (.ref a) m pl) Q E s:=by
 obtain ⟨mA,O,r,_,_,_⟩:=Zhb I.hok e
 have hn:mA m = none:=RelO.none_of (by rw [<- l]; exact r m)
 exact Zp8 I.kIn O (c.get m) k.at_ k.fn hn h
theorem Zkz {y:V} {u:Value} {Q:Unit->Shared->Prop} (I:Inv X pins σ H s) (e:H a = some (.ins C dx fs)) (c:Cls X.K C) (n:NoAttr X.K C f) (hl:fs.length < 1000) (ry:RelV y u)
  (h:∀ s',Inv X pins σ (upd H a (.ins C dx (Zg1 f y fs))) s'->Q () s'):wpAny (model X.prog X.w) A (setAttr (.ref a) f u) Q E s:=by
 obtain ⟨mA,O,r,wi,_,ho⟩:=Zhb I.hok e
 have hz:(fs.map (·.1)).length<=sizeLine:=by rw [Jab,Jde]; omega
 refine Zd3 I.kIn O c.sa c.po n.taker c.hd wi hz fun h' O' sb=>h _ ?_
 have hd:∃ o,h'.get? dx = some o:=let ⟨o,_,_,e',_⟩:=O'.ns; ⟨o,e'⟩
 refine I.write (x:=a) (e:=dx) (by rw [e]; exact True.intro) (.inr ho) (fun b q hb z=>(sb.2 b hb).trans z) hd ?_
 refine ⟨by rw [Zaf O.ne]; exact ho,?_,O.ne,O'.obj,_,O'.ns,fun g=>?_,fun g hg=>?_⟩
 ·have:=Zd9 f y fs; omega
 ·show RelO ((Zg1 f y fs).lookup g) (if g = f then some u else mA g)
  rw [Zcm]
  by_cases q:g = f
  ·rw [if_pos q,if_pos q]; exact ry
  ·rw [if_neg q,if_neg q]; exact r g
 ·by_cases q:g = f
  ·rw [q]; exact (Zft f y fs).1
  ·refine (Zft f y fs).2 g (wi g fun z=>hg ?_)
   show (if g = f then some u else mA g) = none
   rw [if_neg q]; exact z
theorem Inv.made (I:Inv X pins σ H s):Inv X pins σ (upd (upd H s.heap.objs.size (.own (s.heap.objs.size + 1))) (s.heap.objs.size + 1) (.ins C s.heap.objs.size []))
  { s with heap:=(s.heap.push PySem.W.emptyDict).push (PySem.W.instObj C s.heap.objs.size) }:=by
 have e1:(s.heap.push PySem.W.emptyDict).get? s.heap.objs.size = some PySem.W.emptyDict:=Jat s.heap rfl
 have e2:((s.heap.push PySem.W.emptyDict).push (PySem.W.instObj C s.heap.objs.size)).get? (s.heap.objs.size + 1) = some (PySem.W.instObj C s.heap.objs.size):=by
  have:=Jat (s.heap.push PySem.W.emptyDict) (o:=PySem.W.instObj C s.heap.objs.size) rfl
  rwa [Jco] at this
 have e3:(s.heap.push PySem.W.emptyDict).Ns s.heap.objs.size (fun _=>none):=⟨PySem.W.emptyDict,#[],_,e1,rfl,(fun e he=>absurd he (by simp)),fun _=>rfl⟩
 have I1:=I.laid (a:=s.heap.objs.size) (o:=.own (s.heap.objs.size + 1)) (h':=s.heap.push PySem.W.emptyDict) (t':=s.toks) (fun b u q=>Jad _ q) (Jaf _) ⟨_,e1⟩
 refine I1.laid (a:=s.heap.objs.size + 1) (o:=.ins C s.heap.objs.size []) (t':=s.toks) (fun b u q=>Jad _ q) (Jfr (Jco _ _)) ?_
 have ne:s.heap.objs.size ≠ s.heap.objs.size + 1:=Ja8 (Je4 _)
 refine ⟨by rw [Zaf ne,Zaa],Jbx _,ne,e2,fun _=>none,(Heap.Ns1.of_empty e3).at fun o q=>Jad _ q,fun _=>True.intro,fun y hy=>absurd rfl hy⟩
theorem attr_of {prog:Program} {w:World} {env:Env} {e:Expr} {f:Str} {pos:Pos} {s:Shared} {Q:Value->Shared->Prop} (hb:attributeBase e f env (eval e env) = eval e env)
  (h:wpAny (model prog w) A (eval e env) (fun o s₁=>wpAny (model prog w) A (getAttr o f true) Q E s₁) E s):wpAny (model prog w) A (eval (.Attribute e f pos) env) Q E s:=
 Attribute_any_ h (by rw [arm_eval_Attribute,hb])
end
def tFld (K:PySem.W.Frag) (ta:TE) (f:Str):TE:=fun σ H Q=>ta σ H fun x H1=>∃ a C dx fs v,x = .ref a/\H1 a = some (.ins C dx fs)/\Cls K C/\NoAttr K C f/\fs.lookup f = some v/\Q v H1
def sFld (K:PySem.W.Frag) (ta tv:TE) (f:Str):TS:=fun D σ H=>tv σ H fun y H1=>ta σ H1 fun x H2=>∃ a C dx fs,x = .ref a/\H2 a = some (.ins C dx fs)/\Cls K C/\NoAttr K C f/\fs.length < 1000 /\
 D.nx σ (upd H2 a (.ins C dx (Zg1 f y fs)))
section
variable {X:Cx} {o e value:Expr} {f:Str} {pos pos' tpos:Pos} {ta tv:TE}
theorem Zhw (he:PE X e ta) (hb:attributeBase e f X.env (eval e X.env) = eval e X.env):PE X (.Attribute e f pos) (tFld X.K ta f):=by
 intro pins s σ H Q I h
 refine attr_of hb (thn (he pins s σ H _ I h) fun u s1 ⟨x,H1,I1,rx,a,C,dx,fs,v,ex,ea,c,n,l,q⟩=>?_)
 subst ex
 obtain rfl:u = Value.ref a:=rx
 exact Zlh I1 ea c n l fun u' s2 I2 ru=>⟨v,H1,I2,ru,q⟩
theorem Zq1 (ha:PE X o ta) (hv:PE X value tv) (hs:swapsWith value (some (.Attribute o f pos')) pos.line X.env = pure false):PS X (.Assign [.Attribute o f pos'] value pos) (sFld X.K ta tv f):=by
 intro pins s σ H D I h
 refine plainObj_wpAny_Assign_Attribute (thn (hv pins s σ H _ I h) fun u s1 ⟨y,H1,I1,ry,q⟩=>thn (ha pins s1 σ H1 _ I1 q) fun ov s2 ⟨x,H2,I2,rx,a,C,dx,fs,ex,ea,c,n,l,q2⟩=>?_) hs
 subst ex
 obtain rfl:ov = Value.ref a:=rx
 exact Zkz I2 ea c n l ry fun s3 I3=>⟨σ,_,I3,q2⟩
theorem methcall_of {pl:Sem Bool} {m:Str} {apos:Pos} {args:List Expr} {pins:List (Addr × Obj)} {s:Shared} {σ:St} {H:Hp} {Q:Value->Shared->Prop} {te:TE} (he:PE X e te) (I:Inv X pins σ H s)
  (h:te σ H fun x H1=>∃ a C dx fs g,x = .ref a/\H1 a = some (.ins C dx fs)/\Cls X.K C/\Meth X.K C m g/\fs.lookup m = none /\
   ∀ s1,Inv X pins σ H1 s1->wpAny (model X.prog X.w) X.A (callWith pos (.ref g) [.ref a] (backTo pos (starEach args X.env)) (backToKw pos (keywordEach [] X.env))) Q X.xe s1)
  (ht:eval (.Call (.Attribute e m apos) args [] pos) X.env = (do
   let ov <- eval e X.env
   standAt apos.atName
   let (f,first) <- holding [ov] (getMethod ov m pl)
   callWith pos f first (backTo pos (starEach args X.env)) (backToKw pos (keywordEach [] X.env)))):
  wpAny (model X.prog X.w) X.A (eval (.Call (.Attribute e m apos) args [] pos) X.env) Q X.xe s:=by
 refine PySem.W.methodCall_KW (pl:=pl) (thn (he pins s σ H _ I h) fun u s1 ⟨x,H1,I1,rx,a,C,dx,fs,g,ex,ea,c,k,l,q⟩=>?_) ht
 subst ex
 obtain rfl:u = Value.ref a:=rx
 exact Zgk I1 ea c k l (q s1 I1)
end
section
variable {X:Cx} {pins:List (Addr × Obj)} {σ:St} {H:Hp} {s:Shared} {A:Around} {E:Value->Shared->Prop} {Q:Value->Shared->Prop} {c:Value} {b:Bool}
inductive TyOf (K:PySem.W.Frag) (H:Hp):V->Value->Prop where
 | non:TyOf K H .non (.type "NoneType")
 | bl (x:Bool):TyOf K H (.bl x) (.type "bool")
 | int (i:Int):TyOf K H (.int i) (.type "int")
 | str (x:Str):TyOf K H (.str x) (.type "str")
 | flt (x:UInt64):TyOf K H (.flt x) (.type "float")
 | lst {a:Addr} {xs:List V} (e:H a = some (.lst xs)):TyOf K H (.ref a) (.type "list")
 | frz {a:Addr} {o:Obj} {xs:List V} (e:H a = some (.frz o (.lst xs))):TyOf K H (.ref a) (.type "list")
 | tup {a:Addr} {xs:List V} (e:H a = some (.tup xs)):TyOf K H (.ref a) (.type "tuple")
 | dK {a:Addr} {kvs:List (Key × V)} (e:H a = some (.dK kvs)):TyOf K H (.ref a) (.type "dict")
 | dT {a:Addr} {kvs:List (List Key × V)} (e:H a = some (.dT kvs)):TyOf K H (.ref a) (.type "dict")
 | ins {a C dx:Addr} {fs:List (Str × V)} (e:H a = some (.ins C dx fs)) (cl:Cls K C) (ha:PySem.W.findIn K (.ref C) "__class__" = some (some (.builtin "object.__class__")))
   (hn:PySem.W.specialIn K (.builtin "object.__class__") "__get__" = some (some (.builtin "getset_descriptor.__get__"))) (htk:PySem.W.takesIn K (.builtin "object.__class__") = some true)
   (hm:PySem.W.mroIn K C (.type "object") = some true):TyOf K H (.ref a) (.ref C)
theorem Znv {x:V} {u t:Value} (I:Inv X pins σ H s) (rx:RelV x u) (ty:TyOf X.K H x t) (e:PySem.W.kitOne X.K t c = some b) (h:∀ tk,Q (.bool b) { s with toks:=tk }):
  wpAny (model X.prog X.w) A (call (.builtin "isinstance") [u,c]) Q E s:=by
 cases ty with
 | non=>cases (show u = Value.none from rx); exact Jcj PySem.W.kitx_none I.kIn True.intro e (fun z=>nomatch z) h
 | bl y=>cases (show u = Value.bool y from rx); exact Jcj PySem.W.kitx_bool I.kIn True.intro e (fun z=>nomatch z) h
 | int i=>obtain ⟨t,q⟩:=(show ∃ t,u = Value.int i t from rx); cases q; exact Jcj PySem.W.kitx_int I.kIn True.intro e (fun z=>nomatch z) h
 | str y=>obtain ⟨t,q⟩:=(show ∃ t,u = Value.str y t from rx); cases q; exact Jcj PySem.W.kitx_str I.kIn True.intro e (fun z=>nomatch z) h
 | flt y=>obtain ⟨t,q⟩:=(show ∃ t,u = Value.float y t from rx); cases q; exact Jcj PySem.W.kitx_float I.kIn True.intro e (fun z=>nomatch z) h
 | @lst a xs ea=>
  cases (show u = Value.ref a from rx)
  obtain ⟨_,_,n,_,h1⟩:=(show ObjOk X.prog X.w H s.heap a (.lst xs) from I.hok a _ ea)
  exact Jcj PySem.W.kitx_list I.kIn ⟨_,h1,rfl⟩ e (fun z=>nomatch z) h
 | @frz a ob xs ea=>
  cases (show u = Value.ref a from rx)
  obtain ⟨_,_,_,n,_,h1⟩:=(show ObjOk X.prog X.w H s.heap a (.frz ob (.lst xs)) from I.hok a _ ea)
  exact Jcj PySem.W.kitx_list I.kIn ⟨_,h1,rfl⟩ e (fun z=>nomatch z) h
 | @tup a xs ea=>
  cases (show u = Value.ref a from rx)
  obtain ⟨_,_,_,p⟩:=(show ObjOk X.prog X.w H s.heap a (.tup xs) from I.hok a _ ea)
  obtain ⟨o,h1,h2,_⟩:=p
  exact Jcj PySem.W.kitx_tuple I.kIn ⟨o,h1,h2⟩ e (fun z=>nomatch z) h
 | @dK a kvs ea=>
  cases (show u = Value.ref a from rx)
  obtain ⟨_,_,vs,_,p⟩:=(show ObjOk X.prog X.w H s.heap a (.dK kvs) from I.hok a _ ea)
  obtain ⟨o,es,ep,h1,h2,_⟩:=p
  exact Jcj PySem.W.kitx_dict I.kIn ⟨o,h1,h2.1⟩ e (fun z=>nomatch z) h
 | @dT a kvs ea=>
  cases (show u = Value.ref a from rx)
  obtain ⟨_,_,xs,_,o,es,ep,h1,h2,_⟩:=(show ObjOk X.prog X.w H s.heap a (.dT kvs) from I.hok a _ ea)
  exact Jcj PySem.W.kitx_dict I.kIn ⟨o,h1,h2.1⟩ e (fun z=>nomatch z) h
 | @ins a C dx fs ea cl ha hn htk hm=>
  cases (show u = Value.ref a from rx)
  obtain ⟨mA,O,_⟩:=Zhb I.hok ea
  obtain ⟨od,J,_⟩:=O.look
  exact Jcj (PySem.W.kitx_own (cl.get _) cl.hd ha hn htk hm) I.kIn J e (fun z=>nomatch z) h
end
structure Room (k:Nat) (A:Around):Prop where
 hd:A.handled = none
 dp:A.depth + 3 * k + 205 < recursionLimit
 un:A.units + 16 * k + 200 < cLine
theorem Room.mono {j k:Nat} {A:Around} (r:Room k A) (h:j<=k):Room j A:=⟨r.hd,by have:=r.dp; omega,by have:=r.un; omega⟩
theorem Room.m {j k:Nat} {A:Around} (r:Room k A) (h:j<=k:=by decide):Room j A:=r.mono h
theorem Room.deeper {k:Nat} {A:Around} (r:Room (k + 1) A) (env:Env):Room k (A.deeper env):=
 ⟨r.hd,by have:=r.dp; show A.depth + 1 + 3 * k + 205 < _; omega,by have:=r.un; show A.units + 3 + 16 * k + 200 < _; omega⟩
theorem Zld {A:Around} {C:Addr} {us:List Value} {kw:List (Str × Value)}:(A.under (.builtin "type.__call__" ⟨.ref C :: us,kw⟩)).depth = A.depth + 1:=by
 first | rfl | simp [Around.under,Code.weight,Code.isCreation,Code.isGuard,Code.isCaller,Code.frames,Code.isFrame,guardIds]
theorem Zlc {A:Around} {C:Addr} {us:List Value} {kw:List (Str × Value)}:(A.under (.builtin "type.__call__" ⟨.ref C :: us,kw⟩)).units = A.units + 1:=by
 first | rfl | simp [Around.under,Code.cUnits,Code.frames,Code.isFrame]
theorem Room.make {k:Nat} {A:Around} (r:Room (k + 1) A) (C:Addr) (us:List Value) (kw:List (Str × Value)):Room k (A.under (.builtin "type.__call__" ⟨.ref C :: us,kw⟩)):=
 ⟨r.hd,by have:=r.dp; rw [Zld]; omega,by have:=r.un; rw [Zlc]; omega⟩
theorem Room.depth {k:Nat} {A:Around} (r:Room k A):A.depth < recursionLimit:=by have:=r.dp; omega
theorem Room.units {k:Nat} {A:Around} (r:Room k A):A.units + 64 < cLine:=by have:=r.un; omega
def Zov:TA:=fun _ H Q=>Q [] H
def Zf4 (ta:TE) (tr:TA):TA:=fun σ H Q=>ta σ H fun x H1=>tr σ H1 fun xs H2=>Q (x :: xs) H2
section
variable {X:Cx} {e:Expr} {es:List Expr} {te:TE} {t:TA} {pos:Pos}
theorem Zab:PA X [] Zov:=fun _ _ _ _ H Q I h=>Calls.spliced_nil ⟨[],H,I,.nil,h⟩
theorem pa_cons (ha:PE X e te) (hr:PA X es t) (hs:starEach (e :: es) X.env = (false,eval e X.env) :: starEach es X.env:=by rfl):PA X (e :: es) (Zf4 te t):=by
 intro pos pins s σ H Q I h
 rw [hs]
 show wpAny _ _ (spliced ((false,eval e X.env) :: backTo pos (starEach es X.env))) _ _ s
 refine Calls.spliced_cons (thn (ha pins s σ H _ I h) fun u s1 ⟨x,H1,I1,r1,q1⟩=>?_)
 exact thn (hr pos pins s1 σ H1 _ I1 q1) fun us s2 ⟨xs,H2,I2,r2,q2⟩=>⟨x :: xs,H2,I2,.cons r1 r2,q2⟩
def tTup (t:TA):TE:=fun σ H Q=>t σ H fun xs H1=>xs.length<=sizeLine/\∀ p,H1 p = none->Q (.ref p) (upd H1 p (.tup xs))
def tLst (t:TA):TE:=fun σ H Q=>t σ H fun xs H1=>xs.length<=sizeLine/\∀ p,H1 p = none->Q (.ref p) (upd H1 p (.lst xs))
theorem Zam {x1} (h:PA X es t):PE X (.Tuple es x1 pos) (tTup t):=by
 intro pins s σ H Q I hq
 refine wpAny_Tuple_spliced (thn (h pos pins s σ H _ I hq) fun us s1 ⟨xs,H1,I1,r,z,q⟩=>⟨by rw [<- r.length]; exact z,?_⟩)
 have hf:H1 s1.heap.objs.size = none:=I1.hok.fresh (Jaf _)
 refine ⟨.ref s1.heap.objs.size,upd H1 s1.heap.objs.size (.tup xs),I1.laid (t':=s1.toks) (fun b u e=>Jad _ e) (Jaf _) ?_,rfl,q _ hf⟩
 exact ⟨z,us,r,⟨_,Jat _ rfl,rfl,_,rfl⟩⟩
theorem Zbo (h:PA X es t):PE X (.List es pos) (tLst t):=by
 intro pins s σ H Q I hq
 refine wpAny_List_spliced (thn (h pos pins s σ H _ I hq) fun us s1 ⟨xs,H1,I1,r,z,q⟩=>⟨by rw [<- r.length]; exact z,?_⟩)
 have hf:H1 s1.heap.objs.size = none:=I1.hok.fresh (Jaf _)
 refine ⟨.ref s1.heap.objs.size,upd H1 s1.heap.objs.size (.lst xs),I1.laid (t':=s1.toks) (fun b u e=>Jad _ e) (Jaf _) ?_,rfl,q _ hf⟩
 exact ⟨z,us,0,r,Jat _ rfl⟩
end
abbrev Sp:=List V->Hp->VK->XK->Prop
abbrev CXT:=List Env->Hp->Shared->XK->Value->Shared->Prop
structure Env0 (P:Program) (w:World) (K:PySem.W.Frag) (mg:Str->Option Value) (base:Heap) (A:Around) (outer:List Env) (s:Shared) (H:Hp):Prop where
 frames:A.frames = some outer
 mod:Mod K mg base
 bs:∀ b o,base.get? b = some o->s.heap.get? b = some o/\H b = none
 bsz:base.objs.size<=s.heap.objs.size
 funs:s.heap.FunFrames base outer
 frf:∀ b ∈ frs outer,H b = none
 hok:HOk P w H s.heap
 bare:AllBare s.gens
def CE (outer:List Env) (P:Program) (w:World) (H:Hp) (s:Shared) (Q:VK) (u:Value) (s':Shared):Prop:=
 ∃ v H',s'.os = s.os/\AllBare s'.gens/\Un (frs outer) [] H H' s.heap s'.heap/\HOk P w H' s'.heap/\RelV v u/\Q v H'
def CR (CX:CXT) (outer:List Env) (P:Program) (w:World) (H:Hp) (s:Shared) (Q:VK) (E:XK) (r:Result) (s':Shared):Prop:=
 match r with
 | .ok (.ret u)=>CE outer P w H s Q u s'
 | .ok _=>False
 | .error e=>CX outer H s E e s'
structure FnOk (P:Program) (w:World) (K:PySem.W.Frag) (mg:Str->Option Value) (base:Heap) (CX:CXT) (k:Nat) (f:Addr) (fd:FuncData) (ps:List Str) (sp:Sp):Prop where
 len:∀ vs H Q E,sp vs H Q E->vs.length = ps.length
 run:∀ (A:Around) (outer:List Env) (s:Shared) (H:Hp) (args:Args) (us:List Value) (vs:List V) (Q:VK) (E:XK),Room k A->Env0 P w K mg base A outer s H->BindsTo s fd args (ps.zip us)->Vals vs us->sp vs H Q E->
  codeAny (model P w) A (.call (.ref f) args) (CR CX outer P w H s Q E) s
theorem Env0.make {P:Program} {w:World} {K:PySem.W.Frag} {mg:Str->Option Value} {base:Heap} {A:Around} {outer:List Env} {s:Shared} {H:Hp} (e:Env0 P w K mg base A outer s H) (C:Addr) (us:List Value) (kw:List (Str × Value)):
  Env0 P w K mg base (A.under (.builtin "type.__call__" ⟨.ref C :: us,kw⟩)) outer s H:=⟨by first | exact e.frames | (simpa [Around.under,Code.envs,Code.isFrame,pushEnvs] using e.frames),e.mod,e.bs,e.bsz,e.funs,e.frf,e.hok,e.bare⟩
section
variable {X:Cx} {pins:List (Addr × Obj)} {σ:St} {H:Hp} {s s':Shared}
theorem Inv.env0 (I:Inv X pins σ H s):Env0 X.prog X.w X.K X.mg X.base X.A X.stack s H:=
 ⟨I.ok.frames,I.ok.mod,I.bs,Jay I.ok.bsz I.sz,I.stack,I.stkFree,I.hok,I.bare⟩
theorem Inv.after {Q:VK} {u:Value} (I:Inv X pins σ H s) (h:CE X.stack X.prog X.w H s Q u s'):EP X pins σ Q u s':=by
 obtain ⟨v,H',os,bare,un,hok,r,q⟩:=h
 obtain ⟨hh,g,d,t,os'⟩:=s'
 obtain rfl:os' = s.os:=os
 exact ⟨v,H',I.call (h':=hh) (g':=g) (d':=d) (t':=t) (ch:=[]) un hok bare (fun b z=>absurd z (by simp)),r,q⟩
end
def Zl0 (sp:Sp) (dvs:List V) (E:XK) (t:TA):TE:=fun σ H Q=>t σ H fun vs H1=>sp (vs ++ dvs) H1 Q E
def tMeth (C:Addr) (m:Str) (sp:Sp) (dvs:List V) (E:XK) (ta:TE) (t:TA):TE:=fun σ H Q=>ta σ H fun x H1=>∃ a dx fs,x = .ref a/\H1 a = some (.ins C dx fs)/\fs.lookup m = none /\
 t σ H1 fun vs H2=>sp (x :: (vs ++ dvs)) H2 Q E
def Zo1 (C:Addr) (sp:Sp) (dvs:List V) (E:XK) (t:TA):TE:=fun σ H Q=>t σ H fun vs H1=>∀ x dx,H1 x = none->H1 dx = none->dx ≠ x->
 sp (.ref x :: (vs ++ dvs)) (upd (upd H1 dx (.own x)) x (.ins C dx [])) (fun v H2=>v = .non/\Q (.ref x) H2) E
def Binds (K:PySem.W.Frag) (fd:FuncData) (ps:List Str) (ds:List Value):Prop:=
 ∀ (s:Shared) (us:List Value),K.In s.heap->(us ++ ds).length = ps.length->BindsTo s fd ⟨us,[]⟩ (ps.zip (us ++ ds))
theorem Binds.all {K:PySem.W.Frag} {fd:FuncData} {ps:List Str} (h:∀ us:List Value,us.length = ps.length->bindArgs fd ⟨us,[]⟩ = pure (ps.zip us)):Binds K fd ps []:=fun s us _ hl=>by
 rw [Jdg] at hl ⊢
 exact .of_eq (h us hl)
def Ze4 (CX:CXT) (X:Cx) (E:XK):Prop:=∀ (pins:List (Addr × Obj)) (σ:St) (H:Hp) (s:Shared) (e:Value) (s':Shared),Inv X pins σ H s->CX X.stack H s E e s'->X.xe e s'
section
variable {X:Cx} {CX:CXT} {k:Nat} {f C:Addr} {fd:FuncData} {ps:List Str} {sp:Sp} {dvs:List V} {ds:List Value} {E:XK} {x m:Str} {p pos apos:Pos} {e o:Expr} {es:List Expr} {ta:TE} {t:TA}
theorem Zqu {pins:List (Addr × Obj)} {σ:St} {H:Hp} {s:Shared} {Q:VK} {us:List Value} {vs:List V} (F:FnOk X.prog X.w X.K X.mg X.base CX k f fd ps sp) (hr:Room k X.A) (hb:Binds X.K fd ps ds) (hd:Vals dvs ds) (hx:Ze4 CX X E)
  (I:Inv X pins σ H s) (r:Vals vs us) (h:sp (vs ++ dvs) H Q E):wpAny (model X.prog X.w) X.A (call (.ref f) us) (EP X pins σ Q) X.xe s:=by
 have r2:Vals (vs ++ dvs) (us ++ ds):=r.append hd
 have hl:(us ++ ds).length = ps.length:=by rw [<- r2.length]; exact F.len _ _ _ _ h
 refine wpAny_call (Jed (F.run X.A X.stack s H ⟨us,[]⟩ (us ++ ds) (vs ++ dvs) Q E hr I.env0 (hb s us I.kIn hl) r2 h) fun r s' hq=>?_)
 cases r with
 | error e=>exact hx pins σ H s e s' I hq
 | ok fl=>
  cases fl with
  | ret u=>exact I.after hq
  | next=>exact False.elim hq
  | brk=>exact False.elim hq
  | cont=>exact False.elim hq
theorem Zm2 (F:FnOk X.prog X.w X.K X.mg X.base CX k f fd ps sp) (hr:Room k X.A) (hg:Gl X x) (hm:X.mg x = some (.ref f)) (hk:PySem.W.keepIn X.K (.ref f) = true) (hb:Binds X.K fd ps ds) (hd:Vals dvs ds) (hx:Ze4 CX X E)
  (ha:PA X (e :: es) t) (hdb:(x == ("__debug__" : Str)) = false:=by decide) (he:starEach (e :: es) X.env = (false,eval e X.env) :: starEach es X.env:=by rfl) (hpl:(backTo pos (starEach es X.env)).any (·.1) = false:=by rfl):
  PE X (.Call (.Name x p) (e :: es) [] pos) (Zl0 sp dvs E t):=by
 intro pins s σ H Q I h
 refine Jdp (Zg8 I hg hm ?_ hdb)
 refine PySem.W.callWith_K (h₀:=X.base) I.ok.mod.kin hk (thn (ha pos pins s σ H _ I h) fun us s1 ⟨vs,H1,I1,r,q⟩=>⟨I1.kIn,?_⟩) he hpl
 exact Zqu F hr hb hd hx I1 r q
theorem Zpf {pl:Sem Bool} (he:PE X o ta) (c:Cls X.K C) (hm:Meth X.K C m f) (F:FnOk X.prog X.w X.K X.mg X.base CX k f fd ps sp) (hr:Room k X.A) (hb:Binds X.K fd ps ds) (hd:Vals dvs ds) (hx:Ze4 CX X E)
  (ht:eval (.Call (.Attribute o m apos) [] [] pos) X.env = (do
   let ov <- eval o X.env
   standAt apos.atName
   let (f,first) <- holding [ov] (getMethod ov m pl)
   callWith pos f first (backTo pos (starEach [] X.env)) (backToKw pos (keywordEach [] X.env))):=by rfl):
  PE X (.Call (.Attribute o m apos) [] [] pos) (tMeth C m sp dvs E ta Zov):=by
 intro pins s σ H Q I h
 refine PySem.W.methodCall_KW (pl:=pl) (thn (he pins s σ H _ I h) fun u s1 ⟨x,H1,I1,rx,a,dx,fs,ex,ea,l,q⟩=>?_) ht
 subst ex
 obtain rfl:u = Value.ref a:=rx
 refine Zgk I1 ea c hm l ?_
 exact PySem.W.callWith_K0 (first:=[.ref a]) I1.kIn hm.kp (Zqu (us:=[.ref a]) (vs:=[.ref a]) F hr hb hd hx I1 (.cons rfl .nil) q)
structure Mk (K:PySem.W.Frag) (C f:Addr):Prop where
 makes:PySem.W.makesIn K C = true
 init:PySem.W.findIn K (.ref C) "__init__" = some (some (.ref f))
 fn:PySem.W.isFn K (.ref f) = true
 kp:PySem.W.keepIn K (.ref C) = true
theorem Zo4 {pins:List (Addr × Obj)} {σ:St} {H:Hp} {s:Shared} {Q:VK} {us:List Value} {vs:List V} (M:Mk X.K C f) (F:FnOk X.prog X.w X.K X.mg X.base CX k f fd ps sp) (hr:Room (k + 1) X.A) (hb:Binds X.K fd ps ds) (hd:Vals dvs ds)
  (hx:Ze4 CX X E) (I:Inv X pins σ H s) (r:Vals vs us)
  (h:∀ x dx,H x = none->H dx = none->dx ≠ x->sp (.ref x :: (vs ++ dvs)) (upd (upd H dx (.own x)) x (.ins C dx [])) (fun v H2=>v = .non/\Q (.ref x) H2) E):
  wpAny (model X.prog X.w) X.A (call (.ref C) us) (EP X pins σ Q) X.xe s:=by
 have hq:=h (s.heap.objs.size + 1) s.heap.objs.size (I.hok.fresh (Nat.le_succ _)) (I.hok.fresh (Jaf _)) (Ja8 (Je4 _))
 have I2:=Inv.made (C:=C) I
 have r2:Vals (V.ref (s.heap.objs.size + 1) :: (vs ++ dvs)) (Value.ref (s.heap.objs.size + 1) :: (us ++ ds)):=.cons rfl (r.append hd)
 have hl:(Value.ref (s.heap.objs.size + 1) :: us ++ ds).length = ps.length:=by
  have e:=r2.length
  rw [F.len _ _ _ _ hq] at e
  exact e.symm
 refine wpAny_call (Zpz (f:=f) I.kIn M.makes M.init (Jbz.mp M.fn) (Jed (F.run _ X.stack _ _ ⟨Value.ref (s.heap.objs.size + 1) :: us,[]⟩ (Value.ref (s.heap.objs.size + 1) :: (us ++ ds)) _ _ E (hr.make C us [])
  (I2.env0.make C us []) (hb _ (Value.ref (s.heap.objs.size + 1) :: us) I2.kIn hl) r2 hq) fun r s' hq'=>?_))
 cases r with
 | error e=>exact hx pins σ _ _ e s' I2 hq'
 | ok fl=>
  cases fl with
  | ret u=>
   obtain ⟨v,H',I3,rv,ev,q3⟩:=I2.after hq'
   subst ev
   exact ⟨rv,⟨V.ref (s.heap.objs.size + 1),H',I3,rfl,q3⟩⟩
  | next=>exact False.elim hq'
  | brk=>exact False.elim hq'
  | cont=>exact False.elim hq'
theorem pe_make (M:Mk X.K C f) (F:FnOk X.prog X.w X.K X.mg X.base CX k f fd ps sp) (hr:Room (k + 1) X.A) (hg:Gl X x) (hm:X.mg x = some (.ref C)) (hb:Binds X.K fd ps ds) (hd:Vals dvs ds) (hx:Ze4 CX X E)
  (ha:PA X (e :: es) t) (hdb:(x == ("__debug__" : Str)) = false:=by decide) (he:starEach (e :: es) X.env = (false,eval e X.env) :: starEach es X.env:=by rfl) (hpl:(backTo pos (starEach es X.env)).any (·.1) = false:=by rfl):
  PE X (.Call (.Name x p) (e :: es) [] pos) (Zo1 C sp dvs E t):=by
 intro pins s σ H Q I h
 refine Jdp (Zg8 I hg hm ?_ hdb)
 refine PySem.W.callWith_K (h₀:=X.base) I.ok.mod.kin M.kp (thn (ha pos pins s σ H _ I h) fun us s1 ⟨vs,H1,I1,r,q⟩=>⟨I1.kIn,?_⟩) he hpl
 exact Zo4 M F hr hb hd hx I1 r q
end
def PK (X:Cx) (kws:List Keyword) (t:TA):Prop:=
 ∀ (pos:Pos) (pins:List (Addr × Obj)) (s:Shared) (σ:St) (H:Hp) (Q:List V->Hp->Prop),Inv X pins σ H s->t σ H Q->wpAny (model X.prog X.w) X.A (evalAll ((backToKw pos (keywordEach kws X.env)).map (·.2))) (AP X pins σ Q) X.xe s
section
variable {X:Cx} {CX:CXT} {k:Nat} {f C:Addr} {fd:FuncData} {ps ks:List Str} {sp:Sp} {E:XK} {x m:Str} {p pos apos kpos:Pos} {e o:Expr} {es:List Expr} {kws:List Keyword} {te ta:TE} {t tk:TA} {nm:Option Str}
structure KBinds (K:PySem.W.Frag) (fd:FuncData) (ps ks:List Str) (g:List Value->List Value->List Value) (gV:List V->List V->List V):Prop where
 to:∀ (s:Shared) (us ws:List Value),K.In s.heap->(g us ws).length = ps.length->BindsTo s fd ⟨us,ks.zip ws⟩ (ps.zip (g us ws))
 rel:∀ {vs:List V} {us:List Value} {zs:List V} {ws:List Value},Vals vs us->Vals zs ws->Vals (gV vs zs) (g us ws)
variable {g:List Value->List Value->List Value} {gV:List V->List V->List V}
end
structure FnScope (N P:List Str) (sc:Scope):Prop where
 kind:sc.kind = .function
 co:sc.isCoroutine = false
 gen:sc.isGenerator = false
 nd:N.Nodup
 pre:N.take P.length = P
 par:∀ x ∈ P,sc.names.lookup x = some .local\/sc.names.lookup x = some .cell
 nofree:∀ y ∈ sc.names,y.2 ≠ .free
theorem Zic {kindOf:Str->Option NameKind} {x:Str}:∀ {binds:List (Str × Value)} {m:Str->Option Value},(∀ v,(x,v) ∉ binds)->bindL kindOf binds m x = m x
 | [],_,_=>rfl
 | (n,v) :: r,m,h=>by
  unfold bindL
  rw [Zic fun w hw=>h w (Jbj _ hw)]
  split
  ·have:x ≠ n:=by rintro rfl; exact h v Jc2
   simp [this]
  ·rfl
theorem Zie {kindOf:Str->Option NameKind} {x:Str}:∀ {binds:List (Str × Value)} {m:Str->Option Value},(∀ v,(x,v) ∉ binds)->bindC kindOf binds m x = m x
 | [],_,_=>rfl
 | (n,v) :: r,m,h=>by
  unfold bindC
  rw [Zie fun w hw=>h w (Jbj _ hw)]
  split
  ·rfl
  ·have:x ≠ n:=by rintro rfl; exact h v Jc2
   simp [this]
theorem Zid {kindOf:Str->Option NameKind} {x:Str} {v:Value}:∀ {P:List Str} {vs:List Value} {i:Nat} {m:Str->Option Value},P.Nodup->P[i]? = some x->vs[i]? = some v->kindOf x = some .local->
  bindL kindOf (P.zip vs) m x = some v
 | [],_,_,_,_,h,_,_=>by simp at h
 | _ :: _,[],_,_,_,_,h,_=>by simp at h
 | p :: P,w :: vs,0,m,nd,h1,h2,hk=>by
  simp at h1 h2; subst h1; subst h2
  show bindL kindOf ((p,w) :: P.zip vs) m p = _
  unfold bindL
  rw [Zic fun v hv=>(Jbo.mp nd).1 (Jej hv).1,if_pos hk]
  simp
 | p :: P,w :: vs,i + 1,m,nd,h1,h2,hk=>by
  show bindL kindOf ((p,w) :: P.zip vs) m x = _
  unfold bindL
  exact Zid (i:=i) (Jbo.mp nd).2 (by simpa using h1) (by simpa using h2) hk
theorem Zif {kindOf:Str->Option NameKind} {x:Str} {v:Value}:∀ {P:List Str} {vs:List Value} {i:Nat} {m:Str->Option Value},P.Nodup->P[i]? = some x->vs[i]? = some v->kindOf x ≠ some .local->
  bindC kindOf (P.zip vs) m x = some v
 | [],_,_,_,_,h,_,_=>by simp at h
 | _ :: _,[],_,_,_,_,h,_=>by simp at h
 | p :: P,w :: vs,0,m,nd,h1,h2,hk=>by
  simp at h1 h2; subst h1; subst h2
  show bindC kindOf ((p,w) :: P.zip vs) m p = _
  unfold bindC
  rw [Zie fun v hv=>(Jbo.mp nd).1 (Jej hv).1,if_neg hk]
  simp
 | p :: P,w :: vs,i + 1,m,nd,h1,h2,hk=>by
  show bindC kindOf ((p,w) :: P.zip vs) m x = _
  unfold bindC
  exact Zif (i:=i) (Jbo.mp nd).2 (by simpa using h1) (by simpa using h2) hk
def start (N:List Str) (vs:List V):St:=vs.map some ++ List.replicate (N.length - vs.length) none
def Zi9 (CX:CXT) (P:Program) (w:World) (K:PySem.W.Frag) (mg:Str->Option Value) (base:Heap) (N:List Str) (qual:Str) (scope:Scope) (f:Addr) (cd:Value) (A:Around) (outer:List Env) (s:Shared) (H:Hp) (E:XK):Cx where
 prog:=P
 w:=w
 K:=K
 mg:=mg
 base:=base
 A:=A.deeper (envOfC qual scope s.heap.objs.size f cd)
 N:=N
 s₀:=s
 H₀:=H
 env:=envOfC qual scope s.heap.objs.size f cd
 outer:=outer
 stack:=envOfC qual scope s.heap.objs.size f cd :: outer
 ex:=[]
 calm:=true
 fn:=fun _=>true
 pn:=[]
 xe:=fun e s'=>wpAny (model P w) (A.deeper (envOfC qual scope s.heap.objs.size f cd)) (leaving (envOfC qual scope s.heap.objs.size f cd) e) (fun _ s''=>CX outer H s E e s'') (fun e' s''=>CX outer H s E e' s'') s'
theorem Zko {sc:Scope} {n:Nat} {x:Str} (h:sc.names.lookup x = some .cell):∃ c,(cellsFrom n sc.names []).lookup x = some c:=by
 have q:=Jdo sc.names n [] (.inl h)
 exact Jdh.mp q
theorem Znw {CX:CXT} {P:Program} {w:World} {K:PySem.W.Frag} {mg:Str->Option Value} {base:Heap} {N ps:List Str} {qual:Str} {scope:Scope} {f:Addr} {cd:Value} {A:Around} {outer:List Env} {s s1:Shared} {H:Hp} {E:XK} {us:List Value} {vs:List V}
  (S:FnScope N ps scope) (hd:A.handled = none) (e0:Env0 P w K mg base A outer s H) (hl:vs.length = ps.length) (r:Vals vs us)
  (x:InCallC s s.heap.objs.size (bindL (envOfC qual scope s.heap.objs.size f cd).kindOf (ps.zip us) fun _=>none) (cellsFrom (s.heap.objs.size + 1) scope.names []) (bindC (envOfC qual scope s.heap.objs.size f cd).kindOf (ps.zip us) fun _=>none) s1):
  Inv (Zi9 CX P w K mg base N qual scope f cd A outer s H E) [] (start N vs) H s1:=by
 have hpl:ps.length<=N.length:=by have:=Jeh List.length S.pre; rw [Ja1] at this; omega
 obtain ⟨h1,tk,rfl,hk⟩:=x.done
 have noA:∀ b:Addr,b ∉ (Zi9 CX P w K mg base N qual scope f cd A outer s H E).ex:=fun b z=>absurd (show b ∈ ([]:List Addr) from z) (by simp)
 refine ⟨⟨e0.mod,S.kind,rfl,rfl,Jaf _,fun y z c h1 h2=>?_,fun y hy=>?_,fun y c _ h=>?_,fun _=>hd,Around.frames_deeper e0.frames,.inr ⟨rfl,rfl⟩,fun b z=>absurd z (noA b),e0.bs,e0.bsz,fun b _ _=>noA b,fun b z=>absurd z (noA b),e0.funs,e0.frf,⟨_,_,rfl,S.gen,S.co,rfl,rfl⟩⟩,
  rfl,e0.bare,Un.kept hk,⟨_,x.toInCall.ns,fun i y v h1 h2 h3=>?_⟩,fun y c h=>⟨_,x.cell y c h⟩,e0.hok.fresh (Jaf _),fun y c h=>?_,fun p hp=>absurd (show p ∈ ([]:List (Addr × Obj)) from hp) (by simp),e0.hok.kept hk,?_⟩
 ·exact name_of_addr x.apart (Jb8 h1) (Jb8 h2)
 ·have hy:scope.names.lookup y = some .cell\/scope.names.lookup y = some .free:=hy
  rcases hy with hy | hy
  ·exact Zko hy
  ·exact absurd rfl (S.nofree _ (Jb8 hy))
 ·exact Jbs (x.above y c (Jb8 h))
 ·have hi:i < vs.length:=by
   unfold start at h2
   by_cases hi:i < vs.length
   ·exact hi
   ·rw [Ja5 (by simpa using hi)] at h2
    rw [Jek] at h2
    split at h2 <;> cases h2
  have ha:vs[i]? = some v:=by
   unfold start at h2
   rw [Jbg (by simpa using hi),Jbe] at h2
   cases e:vs[i]? with
   | none=>rw [e] at h2; cases h2
   | some a=>rw [e] at h2; cases h2; rfl
  obtain ⟨u,hu,rv⟩:=r.get ha
  have hp:ps[i]? = some y:=by
   rw [<- S.pre,List.getElem?_take_of_lt (by omega)]; exact h1
  have ndP:ps.Nodup:=by rw [<- S.pre]; exact S.nd.sublist (Jf5 _ _)
  refine ⟨u,rv,?_⟩
  rcases S.par y (Jan hp) with k | k
  ·exact .inl ⟨k,Zid ndP hp hu k⟩
  ·obtain ⟨c,e⟩:=Zko (n:=s.heap.objs.size + 1) k
   refine .inr ⟨.inl k,c,e,?_⟩
   have q:=x.cell y c e
   rw [Zif ndP hp hu (by show scope.names.lookup y ≠ _; rw [k]; decide)] at q
   exact q
 ·exact e0.hok.fresh (Jbs (x.above y c (Jb8 h)))
 ·unfold start
  show _ = N.length
  rw [Jaj,Jab,Jb1]
  omega
theorem fn_of {CX:CXT} {P:Program} {w:World} {K:PySem.W.Frag} {mg:Str->Option Value} {base:Heap} {k:Nat} {f:Addr} {name qual:Str} {params:Arguments} {body:List Stmt} {scope:Scope} {dV kV doc pm cdv ct oc:Value} {an od:Option Addr}
  {osl:Array (Option Value)} {N ps:List Str} {sp:Sp} (lk:K.lookup f = some ⟨oc,od,.func (PySem.W.fnOf name qual params body scope dV kV doc pm an cdv ct),osl⟩) (hcd:PySem.W.codeIn K cdv qual = true) (S:FnScope N ps scope)
  (len:∀ vs H Q E,sp vs H Q E->vs.length = ps.length)
  (hbody:∀ (A:Around) (outer:List Env) (s:Shared) (H:Hp) (vs:List V) (Q:VK) (E:XK),Room k (A.deeper (envOfC qual scope s.heap.objs.size f cdv))->sp vs H Q E->
   ∃ t,PSs (Zi9 CX P w K mg base N qual scope f cdv A outer s H E) body t/\t { nx:=fun _ H'=>Q .non H',rt:=Q } (start N vs) H):
  FnOk P w K mg base CX (k + 1) f (PySem.W.fnOf name qual params body scope dV kV doc pm an cdv ct) ps sp:=by
 refine ⟨len,fun A outer s H args us vs Q E hr e0 hb r hsp=>?_⟩
 have hl:=len _ _ _ _ hsp
 have KX:K.In s.heap:=e0.mod.kin.keeps fun b o e=>(e0.bs b o e).1
 have lim:s.heap.NoLimit:=e0.mod.nolimit.keeps fun b o e=>(e0.bs b o e).1
 have hkind:∀ y ∈ ps.zip us,scope.names.lookup y.1 = some .local\/(scope.names.lookup y.1 = some .cell/\((cellsFrom (s.heap.objs.size + 1) scope.names []).lookup y.1).isSome = true):=fun ⟨n,v⟩ hy=>by
  rcases S.par n (Jej hy).1 with q | q
  ·exact .inl q
  ·exact .inr ⟨q,Jdo _ _ _ (.inl q)⟩
 refine codeAny_call_function hr.depth (KX _ _ lk) rfl S.co S.gen rfl (PySem.W.codeRec_of KX hcd) (hb _ _ _ _ ?_)
 refine wpAny_newFunctionEnv_cells S.kind hkind fun env he s1 x=>?_
 subst he
 refine ⟨lim.keeps x.toInCall.keep,codeAny_func ?_⟩
 obtain ⟨t,ht,hq⟩:=hbody A outer s H vs Q E (hr.deeper _) hsp
 have I:Inv (Zi9 CX P w K mg base N qual scope f cdv A outer s H E) [] (start N vs) H s1:=Znw S hr.hd e0 hl r x
 refine Jbk (ht [] s1 (start N vs) H _ I hq) (fun fl s' hs=>?_) fun e s' hs=>hs
 have fin:∀ {σ':St} {H':Hp} {v:V} {u:Value},Inv (Zi9 CX P w K mg base N qual scope f cdv A outer s H E) [] σ' H' s'->RelV v u->Q v H'->CE outer P w H s Q u s':=
  fun {σ' H' v u} J rv q=>⟨v,H',J.os,J.bare,J.base,J.hok,rv,q⟩
 cases fl with
 | ret u=>
  obtain ⟨v,σ',H',J,rv,q⟩:=hs
  exact fin J rv q
 | next=>
  obtain ⟨σ',H',J,q⟩:=hs
  exact fin (v:=V.non) (u:=Value.none) J rfl q
 | brk=>
  obtain ⟨_,_,_,q⟩:=hs
  exact False.elim q
 | cont=>
  obtain ⟨_,_,_,q⟩:=hs
  exact False.elim q
section
variable {X:Cx} {x:Str} {p pos:Pos} {e:Expr} {es:List Expr} {t:TA} {id T:String} {r:List V->Hp->VK->Prop}
def tCB (r:List V->Hp->VK->Prop) (t:TA):TE:=fun σ H Q=>t σ H fun vs H1=>r vs H1 Q
theorem Zpk (hc:Zc3 X (.builtin id) r) (hg:Gl X x) (hm:X.mg x = none) (hv:bootBuiltins x = some (.builtin id)) (ha:PA X (e :: es) t) (hn:x ≠ "__name__" := by decide) (hdb:(x == ("__debug__" : Str)) = false:=by decide)
  (he:starEach (e :: es) X.env = (false,eval e X.env) :: starEach es X.env:=by rfl) (hpl:(backTo pos (starEach es X.env)).any (·.1) = false:=by rfl):PE X (.Call (.Name x p) (e :: es) [] pos) (tCB r t):=by
 intro pins s σ H Q I h
 refine Jdp (Zgi I hg hm hv ?_ hn hdb)
 exact PyProof.Rows.callWith_builtin1 (thn (ha pos pins s σ H _ I h) fun us s1 ⟨vs,H1,I1,r1,q1⟩=>hc pins s1 σ H1 vs us Q I1 r1 q1) he hpl
theorem Zm1 (hc:Zc3 X (.type T) r) (hg:Gl X x) (hm:X.mg x = none) (hv:bootBuiltins x = some (.type T)) (ha:PA X (e :: es) t) (hn:x ≠ "__name__" := by decide) (hdb:(x == ("__debug__" : Str)) = false:=by decide)
  (he:starEach (e :: es) X.env = (false,eval e X.env) :: starEach es X.env:=by rfl) (hpl:(backTo pos (starEach es X.env)).any (·.1) = false:=by rfl):PE X (.Call (.Name x p) (e :: es) [] pos) (tCB r t):=by
 intro pins s σ H Q I h
 refine Jdp (Zgi I hg hm hv ?_ hn hdb)
 exact Jdt (thn (ha pos pins s σ H _ I h) fun us s1 ⟨vs,H1,I1,r1,q1⟩=>hc pins s1 σ H1 vs us Q I1 r1 q1) he hpl
theorem Zk3 (hc:Zc3 X (.type T) r) (hg:Gl X x) (hm:X.mg x = none) (hv:bootBuiltins x = some (.type T)) (hn:x ≠ "__name__" := by decide) (hdb:(x == ("__debug__" : Str)) = false:=by decide):
  PE X (.Call (.Name x p) [] [] pos) (tCB r Zov):=by
 intro pins s σ H Q I h
 refine Jdp (Zgi I hg hm hv ?_ hn hdb)
 exact PyProof.Rows.callWith_type0 (hc pins s σ H [] [] Q I .nil h)
end
end L2
namespace HT
open PySem PyProof.Rows
section
open PySem.SeqAt
open PySem.AutoSeq1 (wpAny_loadPart')
open PySem.MeetsSeq PySem.MeetsSeq2 PySem.MeetsSeq3
end
section
variable {prog:Program} {w:World} {A:Around} {E:Value->Shared->Prop} {s:Shared}
def sIx (n d:Nat):Option Int->Nat
 | none=>d
 | some v=>if v < 0 then (v + (n:Int)).toNat else min v.toNat n
end
end HT
namespace L2
open PySem PySem.Spec PyProof.Rows
abbrev TO:=St->Hp->(Option Int->Hp->Prop)->Prop
def PO (X:Cx) (e:Option Expr) (t:TO):Prop:=
 ∀ (pins:List (Addr × Obj)) (s:Shared) (σ:St) (H:Hp) (Q:Option Int->Hp->Prop),Inv X pins σ H s->t σ H Q->
  wpAny (model X.prog X.w) X.A (evalPart e X.env) (fun u s'=>∃ o H',Inv X pins σ H' s'/\IsPart u o/\Q o H') X.xe s
def Zly:TO:=fun _ H Q=>Q none H
def tPart (t:TE):TO:=fun σ H Q=>t σ H fun x H1=>∃ i,x = .int i/\Q (some i) H1
section
variable {X:Cx} {e:Expr} {te:TE} {lo hi:Option Expr} {tl th:TO} {pos p2:Pos}
theorem Zc9:PO X none Zly:=by
 intro pins s σ H Q I h
 rw [evalPart_none]
 exact Jae ⟨none,H,I,.none,h⟩
theorem Zc8 (h:PE X e te):PO X (some e) (tPart te):=by
 intro pins s σ H Q I hw
 rw [evalPart_some]
 refine thn (h pins s σ H _ I hw) fun u s1 ⟨x,H1,I1,r1,q1⟩=>?_
 obtain ⟨i,rfl,q⟩:=q1
 obtain ⟨t,rfl⟩:=r1
 exact ⟨some i,H1,I1,.int i t,q⟩
def SlR (X:Cx) (r:V->Option Int->Option Int->Hp->VK->Prop):Prop:=
 ∀ (pins:List (Addr × Obj)) (s:Shared) (σ:St) (H:Hp) (x:V) (v vl vu:Value) (lo hi:Option Int) (sl:Addr) (Q:VK),Inv X pins σ H s->RelV x v->s.heap.IsSliceOf sl vl vu .none->IsPart vl lo->IsPart vu hi->r x lo hi H Q->
  ∃ T id,typeLookup (.type T) "__getitem__" = pure (some (.builtin id))/\s.TypeIs v T/\wpAny (model X.prog X.w) X.A (getItem v (.ref sl)) (EP X pins σ Q) X.xe s
def tSl (r:V->Option Int->Option Int->Hp->VK->Prop) (te:TE) (tl th:TO):TE:=fun σ H Q=>te σ H fun x H1=>tl σ H1 fun l H2=>th σ H2 fun u H3=>r x l u H3 Q
theorem Zb8 {r:V->Option Int->Option Int->Hp->VK->Prop} (hr:SlR X r) (he:PE X e te) (hl:PO X lo tl) (hu:PO X hi th):PE X (.Subscript e (.Slice lo hi none p2) pos) (tSl r te tl th):=by
 intro pins s σ H Q I h
 refine Subscript_ (thn (he pins s σ H _ I h) fun v s1 ⟨x,H1,I1,r1,q1⟩=>?_)
 refine wpAny_Slice (thn (hl pins s1 σ H1 _ I1 q1) fun vl s2 ⟨l,H2,I2,pl,q2⟩=>thn (hu pins s2 σ H2 _ I2 q2) fun vu s3 ⟨u,H3,I3,pu,q3⟩=>?_)
 rw [evalPart_none]
 refine Jae ?_
 have I4:Inv X pins σ H3 { s3 with heap:=s3.heap.push { cls:=.type "slice",data:=.fields #[vl,vu,.none] } }:=I3.kept (t':=s3.toks) fun b ob q=>Jad _ q
 obtain ⟨T,id,hT,ht,hg⟩:=hr pins { s3 with heap:=s3.heap.push { cls:=.type "slice",data:=.fields #[vl,vu,.none] } } σ H3 x v vl vu l u s3.heap.objs.size Q I4 r1 (Heap.IsSliceOf.new ..) pl pu q3
 show wpAny (model X.prog X.w) X.A (subscriptTail e (.Slice lo hi none p2) v (.ref s3.heap.objs.size)) (EP X pins σ Q) X.xe { s3 with heap:=s3.heap.push { cls:=.type "slice",data:=.fields #[vl,vu,.none] } }
 exact tail_any (ops:=[.ref s3.heap.objs.size,v]) ht hT hg (by with_unfolding_all rfl)
def Zeu (xs:List V) (lo hi:Option Int):List V:=(xs.drop (HT.sIx xs.length 0 lo)).take (HT.sIx xs.length xs.length hi - HT.sIx xs.length 0 lo)
theorem Zco (xs:List V) (lo hi:Option Int):(Zeu xs lo hi).length<=xs.length:=by
 unfold Zeu
 rw [Ja1,Jcv]
 omega
end
def ixN (n:Nat) (i:Int):Option Nat:=if 0<=i then (if i < n then some i.toNat else none) else if -(n:Int)<=i then some (i + n).toNat else none
def atI {α:Type} (xs:List α) (i:Int):Option α:=(ixN xs.length i).bind fun j=>xs[j]?
theorem Znu {n:Nat} {i:Int} {j:Nat} (h:ixN n i = some j):seqIndex? i n = some j/\j < n/\-(n:Int)<=i/\i < n:=by
 unfold ixN at h
 by_cases h0:0<=i
 ·rw [if_pos h0] at h
  by_cases h1:i < n
  ·rw [if_pos h1] at h
   have e:i.toNat = j:=Jbm h
   exact ⟨by rw [seqIndex_of h0 h1,e],by omega,by omega,h1⟩
  ·rw [if_neg h1] at h; cases h
 ·rw [if_neg h0] at h
  by_cases h1:-(n:Int)<=i
  ·rw [if_pos h1] at h
   have e:(i + n).toNat = j:=Jbm h
   exact ⟨by rw [seqIndex_neg (by omega) h1,e],by omega,h1,by omega⟩
  ·rw [if_neg h1] at h; cases h
theorem Zot {α:Type} {xs:List α} {i:Int} {v:α} (h:atI xs i = some v):∃ j,seqIndex? i xs.length = some j/\xs[j]? = some v/\j < xs.length/\-(xs.length:Int)<=i/\i < xs.length:=by
 unfold atI at h
 cases e:ixN xs.length i with
 | none=>rw [e] at h; cases h
 | some j=>
  rw [e] at h
  obtain ⟨h1,h2,h3,h4⟩:=Znu e
  exact ⟨j,h1,h,h2,h3,h4⟩
theorem atI_nat {α:Type} {xs:List α} {j:Nat} {v:α} (h:xs[j]? = some v):atI xs (j:Int) = some v:=by
 have hj:j < xs.length:=(Jap.mp h).1
 have e:ixN xs.length (j:Int) = some j:=by
  unfold ixN
  rw [if_pos (by omega),if_pos (by omega)]; simp
 unfold atI; rw [e]; exact h
def PlainIx (b:Expr):Prop:=∀ o i,subscripted b false o i = operate [o,i] (getItem o i)
def IxR (X:Cx) (r:R2):Prop:=
 ∀ (value slice:Expr) (pins:List (Addr × Obj)) (s:Shared) (σ:St) (H:Hp) (x y:V) (v u:Value) (Q:VK),Inv X pins σ H s->RelV x v->RelV y u->r x y H Q->
  subscripted slice false v u = operate [v,u] (getItem v u)->wpAny (model X.prog X.w) X.A (subscriptTail value slice v u) (EP X pins σ Q) X.xe s
def MtR (X:Cx) (id:String) (r:V->List V->Hp->VK->Prop):Prop:=
 ∀ (pins:List (Addr × Obj)) (s:Shared) (σ:St) (H:Hp) (x:V) (xs:List V) (v:Value) (us:List Value) (Q:VK),Inv X pins σ H s->RelV x v->Vals xs us->r x xs H Q->
  wpAny (model X.prog X.w) X.A (call (.builtin id) (v :: us)) (EP X pins σ Q) X.xe s
section
variable {X:Cx} {a b:Expr} {ta tb:TE} {pos:Pos}
theorem pe_ix {r:R2} (hr:IxR X r) (ha:PE X a ta) (hb:PE X b tb) (hs:PlainIx b):PE X (.Subscript a b pos) (tOp r ta tb):=by
 intro pins s σ H Q I h
 exact Subscript_ (binT ha hb I h fun v u s2 x y H2 I2 rx ry q=>hr a b pins s2 σ H2 x y v u Q I2 rx ry q (hs _ _))
def rIxL (K:PySem.W.Frag):R2:=fun x y H Q=>∃ p xs i v,x = .ref p/\y = .int i/\SqL K H p xs/\atI xs i = some v/\Q v H
def rIxT (K:PySem.W.Frag):R2:=fun x y H Q=>∃ p xs i v,x = .ref p/\y = .int i/\SqT K H p xs/\atI xs i = some v/\Q v H
theorem Zaw:IxR X (rIxL X.K):=by
 intro value slice pins s σ H x y v u Q I rx ry h hs
 obtain ⟨p,xs,i,z,rfl,rfl,hq,he,q⟩:=h
 cases rx
 obtain ⟨t,rfl⟩:=ry
 obtain ⟨its,r,pl,hz⟩:=I.list hq
 obtain ⟨j,h1,h2,h3,h4,h5⟩:=Zot he
 obtain ⟨w,ew,rw'⟩:=r.get h2
 have hl:=r.length
 have hn:=Zgh
 have fin:EP X pins σ Q w s:=⟨z,H,I,rw',q⟩
 by_cases h0:0<=i
 ·have hj:i.toNat = j:=by
   rw [seqIndex_of h0 h5] at h1
   exact Jbm h1
  exact item_listR pl.isList h0 (by omega) (by rw [hj]; simpa using ew) fin hs
 ·have hj:(i + (its.toArray.size:Int)).toNat = j:=by
   rw [seqIndex_neg (by omega) h4] at h1
   rw [Jaq,<- hl]
   exact Jbm h1
  exact subscriptTail_builtinR (x:=w) pl.isList.typeIs slot_list_getitem.lookup
   (wpAny_getItem_list_neg (Q:=fun r s'=>r = w/\EP X pins σ Q r s') pl.isList (by omega) (by rw [Jaq] <;> omega) (by omega) (by rw [hj]; simpa using ew) ⟨rfl,fin⟩) hs
theorem ix_tup:IxR X (rIxT X.K):=by
 intro value slice pins s σ H x y v u Q I rx ry h hs
 obtain ⟨p,xs,i,z,rfl,rfl,hq,he,q⟩:=h
 cases rx
 obtain ⟨t,rfl⟩:=ry
 obtain ⟨its,r,pl,hz⟩:=I.tuple hq
 obtain ⟨j,h1,h2,h3,h4,h5⟩:=Zot he
 obtain ⟨w,ew,rw'⟩:=r.get h2
 have hl:=r.length
 have hn:=Zgh
 have fin:EP X pins σ Q w s:=⟨z,H,I,rw',q⟩
 exact subscriptTail_builtinR (x:=w) pl.typeIs slot_tuple_getitem.lookup
  (getItem_tuple (j:=j) (Q:=fun r s'=>r = w/\EP X pins σ Q r s') pl (by omega) (by omega) (by rw [Jaq,<- hl]; exact h1) (by simpa using ew) ⟨rfl,fin⟩) hs
theorem Zlb (its:List Value) (n j:Nat) (u:Value):Obj.mapSeq (·.setIfInBounds j u) { cls:=.type "list",data:=.seq its.toArray n } = { cls:=.type "list",data:=.seq (its.set j u).toArray n }:=by
 simp [Obj.mapSeq]
theorem Inv.lst {pins:List (Addr × Obj)} {σ:St} {H:Hp} {s:Shared} {p:Addr} {xs:List V} (I:Inv X pins σ H s) (h:H p = some (.lst xs)):
  ∃ (its:List Value) (n:Nat),Vals xs its/\s.heap.get? p = some { cls:=.type "list",data:=.seq its.toArray n }/\xs.length<=sizeLine:=by
 obtain ⟨z,its,n,r,e⟩:=I.hok p _ h
 exact ⟨its,n,r,e,z⟩
theorem Inv.lstUpd {pins:List (Addr × Obj)} {σ:St} {H:Hp} {s:Shared} {p:Addr} {xs ys:List V} {its its':List Value} {n n':Nat} {f:Obj->Obj} (I:Inv X pins σ H s) (h:H p = some (.lst xs))
  (ho:s.heap.get? p = some { cls:=.type "list",data:=.seq its.toArray n }) (hf:f { cls:=.type "list",data:=.seq its.toArray n } = { cls:=.type "list",data:=.seq its'.toArray n' }) (r:Vals ys its') (hz:ys.length<=sizeLine) (t:Nat):
  Inv X pins σ (upd H p (.lst ys)) { s with heap:=s.heap.update p f,toks:=t }:=by
 have e:(s.heap.update p f).get? p = some { cls:=.type "list",data:=.seq its'.toArray n' }:=by
  rw [Jb2 f ho (by rw [hf] <;> rfl),hf]
 refine I.write (x:=p) (e:=p) (by rw [h]; trivial) (.inl rfl) (fun b u hb q=>(Jcg _ _ (Jds hb)).trans q) ⟨_,e⟩ ?_
 exact ⟨hz,its',n',r,e⟩
def rSetL:V->V->V->Hp->(Hp->Prop)->Prop:=fun o i v H Q=>∃ p xs k j,o = .ref p/\i = .int k/\H p = some (.lst xs)/\ixN xs.length k = some j/\Q (upd H p (.lst (xs.set j v)))
theorem Zc6:PSet X rSetL:=by
 intro pins s σ H o i v ov iv u Q I ro ri rv h
 obtain ⟨p,xs,k,j,rfl,rfl,hp,hj,q⟩:=h
 cases ro
 obtain ⟨t,rfl⟩:=ri
 obtain ⟨its,n,r,ho,hz⟩:=I.lst hp
 obtain ⟨h1,h2,h3,h4⟩:=Znu hj
 have hl:=r.length
 have hn:=Zgh
 have I':Inv X pins σ (upd H p (.lst (xs.set j v))) { s with heap:=s.heap.update p (Obj.mapSeq (·.setIfInBounds j u)) }:=
  I.lstUpd hp ho (Zlb its n j u) (r.set rv j) (by rw [Jdi]; exact hz) s.toks
 by_cases h0:0<=k
 ·have hk:k.toNat = j:=by
   rw [seqIndex_of h0 h4] at h1
   exact Jbm h1
  exact PySem.W.ki_setAt ho h0 (by omega) (by rw [Jaq,<- hl]; exact h4) (by rw [hk]; exact ⟨_,I',q⟩)
 ·have hk:(k + (its.toArray.size:Int)).toNat = j:=by
   rw [seqIndex_neg (by omega) h3] at h1
   rw [Jaq,<- hl]
   exact Jbm h1
  exact PySem.W.ki_setBack ho (by omega) (by rw [Jaq,<- hl]; exact h3) (by omega) (by rw [hk]; exact ⟨_,I',q⟩)
theorem Zhr (lo hi:Option Int) (n:Nat):(sliceBounds lo hi none n).1 = ((HT.sIx n 0 lo:Nat):Int)/\(sliceBounds lo hi none n).2.1 = ((HT.sIx n n hi:Nat):Int)/\(sliceBounds lo hi none n).2.2 = 1:=by
 refine ⟨?_,?_,rfl⟩
 ·cases lo with
  | none=>simp [sliceBounds,HT.sIx]
  | some i=>
   simp only [sliceBounds,HT.sIx,Option.getD_none,show (1:Int) > 0 by decide,Jdu]
   by_cases h:i < 0
   ·simp only [h,Jdu] <;> omega
   ·simp only [h,Jfs] <;> omega
 ·cases hi with
  | none=>simp [sliceBounds,HT.sIx]
  | some i=>
   simp only [sliceBounds,HT.sIx,Option.getD_none,show (1:Int) > 0 by decide,Jdu]
   by_cases h:i < 0
   ·simp only [h,Jdu] <;> omega
   ·simp only [h,Jfs] <;> omega
theorem Zgt (its:List Value) (lo hi:Option Int):slicePick its.toArray lo hi none = ((its.drop (HT.sIx its.length 0 lo)).take (HT.sIx its.length its.length hi - HT.sIx its.length 0 lo)).toArray:=by
 obtain ⟨h1,h2,h3⟩:=Zhr lo hi its.toArray.size
 unfold slicePick
 rw [h1,h2,h3]
 simp only [sliceRange_one,pick_run,Jaq] <;> rfl
def rSlL (K:PySem.W.Frag):V->Option Int->Option Int->Hp->VK->Prop:=fun x lo hi H Q=>∃ a xs,x = .ref a/\SqL K H a xs/\∀ p,H p = none->Q (.ref p) (upd H p (.lst (Zeu xs lo hi)))
theorem Zc5:SlR X (rSlL X.K):=by
 intro pins s σ H x v vl vu lo hi sl Q I rx hs pl pu h
 obtain ⟨a,xs,rfl,hx,q⟩:=h
 cases rx
 obtain ⟨its,r,ht,hz⟩:=I.list hx
 have hlen:=r.length
 refine ⟨"list",_,slot_list_getitem.lookup,ht.isList.typeIs,?_⟩
 refine wpAny_getItem_list_slice ht.isList hs pl pu .none (by simp) ?_ (by rw [Jaq] <;> omega)
 rw [Zgt,<- hlen]
 refine ⟨.ref s.heap.objs.size,_,I.laid (t':=s.toks) (o:=.lst (Zeu xs lo hi)) (fun b ob q=>Jad _ q) (Jaf _) ?_,rfl,q _ (I.hok.fresh (Jaf _))⟩
 exact ⟨Jay (Zco xs lo hi) hz,_,0,(r.drop (HT.sIx xs.length 0 lo)).take (HT.sIx xs.length xs.length hi - HT.sIx xs.length 0 lo),Jat _ rfl⟩
def Zfx:V->Bool
 | .non=>true
 | .bl _=>true
 | .int _=>true
 | .str _=>true
 | _=>false
def eqV:V->V->Bool
 | .non,.non=>true
 | .bl a,.bl b=>a == b
 | .bl a,.int b=>(if a then 1 else 0) == b
 | .int a,.bl b=>a == (if b then 1 else 0)
 | .int a,.int b=>a == b
 | .str a,.str b=>a == b
 | _,_=>false
theorem Zrl {A:Around} {s:Shared} {y x:V} {u v:Value} (ry:RelV y u) (rx:RelV x v) (fy:Zfx y = true) (fx:Zfx x = true):SeqAt.EqAt A s u v (eqV y x):=by
 cases y with
 | non=>
  cases ry
  cases x with
  | non=>cases rx; exact SeqAt.EqAt.same _
  | bl b=>cases rx; exact SeqAt.EqAt.none_bool b
  | int b=>obtain ⟨t,rfl⟩:=rx; exact SeqAt.EqAt.none_int b t
  | str b=>obtain ⟨t,rfl⟩:=rx; exact SeqAt.EqAt.none_str b t
  | _=>exact absurd (show false = true from fx) Jar
 | bl a=>
  cases ry
  cases x with
  | non=>cases rx; exact SeqAt.EqAt.bool_none a
  | bl b=>cases rx; exact SeqAt.EqAt.bool_bool a b
  | int b=>obtain ⟨t,rfl⟩:=rx; exact SeqAt.EqAt.bool_int a b t
  | str b=>obtain ⟨t,rfl⟩:=rx; exact SeqAt.EqAt.bool_str a b t
  | _=>exact absurd (show false = true from fx) Jar
 | int a=>
  obtain ⟨t',rfl⟩:=ry
  cases x with
  | non=>cases rx; exact SeqAt.EqAt.int_none a t'
  | bl b=>cases rx; exact SeqAt.EqAt.int_bool a t' b
  | int b=>obtain ⟨t,rfl⟩:=rx; exact SeqAt.EqAt.int_int a t' b t
  | str b=>obtain ⟨t,rfl⟩:=rx; exact SeqAt.EqAt.int_str a t' b t
  | _=>exact absurd (show false = true from fx) Jar
 | str a=>
  obtain ⟨t',rfl⟩:=ry
  cases x with
  | non=>cases rx; exact SeqAt.EqAt.str_none a t'
  | bl b=>cases rx; exact SeqAt.EqAt.str_bool a t' b
  | int b=>obtain ⟨t,rfl⟩:=rx; exact SeqAt.EqAt.str_int a t' b t
  | str b=>obtain ⟨t,rfl⟩:=rx; exact SeqAt.EqAt.str_str a t' b t
  | _=>exact absurd (show false = true from fx) Jar
 | _=>exact absurd (show false = true from fy) Jar
def eqU (x:V) (u:Value):Bool:=match u with
 | .none=>eqV .non x
 | .bool b=>eqV (.bl b) x
 | .int i _=>eqV (.int i) x
 | .str z _=>eqV (.str z) x
 | _=>false
theorem Zrj {x y:V} {u:Value} (r:RelV y u) (f:Zfx y = true):eqU x u = eqV y x:=by
 cases y with
 | non=>cases r; rfl
 | bl b=>cases r; rfl
 | int i=>obtain ⟨t,rfl⟩:=r; rfl
 | str z=>obtain ⟨t,rfl⟩:=r; rfl
 | _=>exact absurd (show false = true from f) Jar
theorem Zf1 {x:V}:∀ {xs:List V} {us:List Value},Vals xs us->xs.all Zfx = true->us.any (eqU x) = xs.any fun y=>eqV y x
 | _,_,.nil,_=>rfl
 | y :: xs,u :: us,.cons r t,f=>by
  rw [Jga,Jb4] at f
  rw [Jdz,Jdz,Zrj r f.1,Zf1 t f.2]
theorem Zei {A:Around} {s:Shared} {x:V} {v:Value} (rx:RelV x v) (fx:Zfx x = true):∀ {xs:List V} {us:List Value},Vals xs us->xs.all Zfx = true->∀ u ∈ us,SeqAt.EqAt A s u v (eqU x u)
 | _,_,.nil,_=>fun u hu=>by cases hu
 | y :: xs,u :: us,.cons r t,f=>fun u' hu=>by
  rw [Jga,Jb4] at f
  rcases Jam.mp hu with rfl | hu
  ·rw [Zrj r f.1]; exact Zrl r rx f.1 fx
  ·exact Zei rx fx t f.2 u' hu
def inV (x:V) (xs:List V):Bool:=xs.any fun y=>eqV y x
def rIn (K:PySem.W.Frag) (neg:Bool):R2:=fun x y H Q=>∃ p xs,y = .ref p/\(SqL K H p xs\/SqT K H p xs)/\Zfx x = true/\xs.all Zfx = true/\Q (.bl (if neg then !inV x xs else inV x xs)) H
theorem Zhz:OpR X (compareOp .In) (rIn X.K false):=by
 intro pins s σ H x y v u Q I rx ry h
 obtain ⟨p,xs,rfl,hq,fx,fs,q⟩:=h
 cases ry
 rcases hq with hq | hq
 ·obtain ⟨its,r,pl,hz⟩:=I.list hq
  refine SeqAt.in_listAt (eqU x) pl.isList (fun w hw=>Zei rx fx r fs w (by simpa using hw)) ⟨.bl _,H,I,rfl,?_⟩
  rw [show its.toArray.any (eqU x) = its.any (eqU x) by simp,Zf1 r fs]
  exact q
 ·obtain ⟨its,r,pl,hz⟩:=I.tuple hq
  refine SeqAt.in_tupleAt (eqU x) pl (fun w hw=>Zei rx fx r fs w (by simpa using hw)) ⟨.bl _,H,I,rfl,?_⟩
  rw [show its.toArray.any (eqU x) = its.any (eqU x) by simp,Zf1 r fs]
  exact q
theorem Zhy:OpR X (compareOp .NotIn) (rIn X.K true):=by
 intro pins s σ H x y v u Q I rx ry h
 obtain ⟨p,xs,rfl,hq,fx,fs,q⟩:=h
 cases ry
 rcases hq with hq | hq
 ·obtain ⟨its,r,pl,hz⟩:=I.list hq
  refine SeqAt.notIn_listAt (eqU x) pl.isList (fun w hw=>Zei rx fx r fs w (by simpa using hw)) ⟨.bl _,H,I,rfl,?_⟩
  rw [show its.toArray.any (eqU x) = its.any (eqU x) by simp,Zf1 r fs]
  exact q
 ·obtain ⟨its,r,pl,hz⟩:=I.tuple hq
  refine SeqAt.notIn_tupleAt (eqU x) pl (fun w hw=>Zei rx fx r fs w (by simpa using hw)) ⟨.bl _,H,I,rfl,?_⟩
  rw [show its.toArray.any (eqU x) = its.any (eqU x) by simp,Zf1 r fs]
  exact q
theorem Zaq:Zc3 X (.builtin "len") (fun xs H Q=>∃ p ys,xs = [.ref p]/\(SqL X.K H p ys\/SqT X.K H p ys)/\Q (.int ys.length) H):=by
 intro pins s σ H xs us Q I r h
 obtain ⟨p,ys,rfl,hq,q⟩:=h
 obtain ⟨u,rfl,rx⟩:=Zgo r
 cases rx
 have hn:=Zgh
 rcases hq with hq | hq
 ·obtain ⟨its,r',pl,hz⟩:=I.list hq
  have hlen:=r'.length
  exact Calls.call_len_list pl.isList (by simp only [Jaq] <;> omega) ⟨.int ys.length,H,I.tok _,⟨s.toks + 1,by rw [Jaq,hlen]⟩,q⟩
 ·obtain ⟨its,r',pl,hz⟩:=I.tuple hq
  have hlen:=r'.length
  exact len_tuple pl (by simp only [Jaq] <;> omega) ⟨.int ys.length,H,I.tok _,⟨s.toks + 1,by rw [Jaq,hlen]⟩,q⟩
theorem Zb3:Zc3 X (.type "list") (fun xs H Q=>∃ p ys,xs = [.ref p]/\(SqL X.K H p ys\/SqT X.K H p ys)/\∀ l,H l = none->Q (.ref l) (upd H l (.lst ys))):=by
 intro pins s σ H xs us Q I r h
 obtain ⟨p,ys,rfl,hq,q⟩:=h
 obtain ⟨u,rfl,rx⟩:=Zgo r
 cases rx
 have fin:∀ (its:List Value),Vals ys its->ys.length<=sizeLine->∀ (h':Heap) (c':Nat),(∀ b o',s.heap.get? b = some o'->h'.get? b = some o')->
   h'.get? s.heap.objs.size = some { cls:=.type "list",dict:=none,data:=.seq its.toArray c',slots:=#[] }->EP X pins σ Q (.ref s.heap.objs.size) { s with heap:=h' }:=fun its r' hz h' c' kp e=>
  ⟨.ref s.heap.objs.size,_,I.laid (t':=s.toks) kp (Jaf _) (show ObjOk X.prog X.w _ h' _ (.lst ys) from ⟨hz,its,c',r',e⟩),rfl,q _ (I.hok.fresh (Jaf _))⟩
 rcases hq with hq | hq
 ·obtain ⟨its,r',pl,hz⟩:=I.list hq
  have hlen:=r'.length
  obtain ⟨o,ho,hc,n,hd⟩:=pl.isList
  exact call_list_seq p (.inl rfl) ho hc hd (fun h' c' kp e=>fin its r' hz h' c' kp e) (by simp only [Jaq] <;> omega)
 ·obtain ⟨its,r',pl,hz⟩:=I.tuple hq
  have hlen:=r'.length
  obtain ⟨o,ho,hc,n,hd⟩:=pl
  exact call_list_seq p (.inr rfl) ho hc hd (fun h' c' kp e=>fin its r' hz h' c' kp e) (by simp only [Jaq] <;> omega)
theorem Zca:Zc3 X (.type "tuple") (fun xs H Q=>∃ p ys,xs = [.ref p]/\((SqL X.K H p ys/\∀ l,H l = none->Q (.ref l) (upd H l (.tup ys)))\/(SqT X.K H p ys/\Q (.ref p) H))):=by
 intro pins s σ H xs us Q I r h
 obtain ⟨p,ys,rfl,h⟩:=h
 obtain ⟨u,rfl,rx⟩:=Zgo r
 cases rx
 rcases h with ⟨hq,q⟩ | ⟨hq,q⟩
 ·obtain ⟨its,r',pl,hz⟩:=I.list hq
  have hlen:=r'.length
  refine call_tuple_list pl.isList (fun h' kp=>?_) (by simp only [Jaq] <;> omega)
  have I1:Inv X pins σ H { s with heap:=h' }:=I.kept (t':=s.toks) kp
  have I2:Inv X pins σ (upd H h'.objs.size (.tup ys)) { s with heap:=h'.push { cls:=.type "tuple",data:=.seq its.toArray } }:=
   I1.laid (t':=s.toks) (fun b o e=>Jad _ e) (Jaf _) (show ObjOk X.prog X.w _ _ _ (.tup ys) from ⟨hz,its,r',IsTup.new _ _⟩)
  exact ⟨.ref h'.objs.size,_,I2,rfl,q _ (I1.hok.fresh (Jaf _))⟩
 ·obtain ⟨its,r',pl,hz⟩:=I.tuple hq
  exact call_tuple_same pl ⟨.ref p,H,I,rfl,q⟩
def tyV (K:PySem.W.Frag) (T:String) (x:V) (H:Hp):Prop:=match x with
 | .str _=>T = "str"
 | .int _=>T = "int"
 | .ref p=>(T = "list" /\ ∃ xs,SqL K H p xs)\/(T = "tuple" /\ ∃ o,K.lookup p = some o/\o.cls = .type "tuple" /\ o.dict = none) \/
   (T = "dict" /\ ((∃ kvs,H p = some (.dK kvs))\/∃ kvs,H p = some (.dT kvs)))\/(T = "set" /\ ∃ S n,H p = some (.set S n))
 | _=>False
theorem Zqq {pins:List (Addr × Obj)} {σ:St} {H:Hp} {s:Shared} {T:String} {x:V} {v:Value} (I:Inv X pins σ H s) (r:RelV x v) (ty:tyV X.K T x H):
  s.TypeIs v T/\∀ a,v = .ref a->∃ ob,s.heap.get? a = some ob/\ob.dict = none:=by
 cases x with
 | str z=>
  obtain ⟨t,rfl⟩:=r
  cases (show T = "str" from ty)
  exact ⟨typeIs_str s z t,fun _ e=>nomatch e⟩
 | int i=>
  obtain ⟨t,rfl⟩:=r
  cases (show T = "int" from ty)
  exact ⟨typeIs_int s i t,fun _ e=>nomatch e⟩
 | ref p=>
  cases r
  rcases ty with ⟨rfl,xs,hq⟩ | ⟨rfl,o,hk,hc,hd⟩ | ⟨rfl,hk⟩ | ⟨rfl,S,n,hk⟩
  ·obtain ⟨its,_,pl,_⟩:=I.list hq
   refine ⟨pl.isList.typeIs,fun a e=>?_⟩
   cases e
   obtain ⟨o,n,e,c,hd,_⟩:=pl
   exact ⟨o,e,hd⟩
  ·refine ⟨⟨o,I.kIn p o hk,hc⟩,fun a e=>?_⟩
   cases e
   exact ⟨o,I.kIn _ o hk,hd⟩
  ·have z:∃ o,s.heap.get? p = some o/\o.ExactDict:=by
    rcases hk with ⟨kvs,hk⟩ | ⟨kvs,hk⟩
    ·obtain ⟨_,_,_,_,o,_,_,e,ex,_⟩:=I.hok p _ hk
     exact ⟨o,e,ex⟩
    ·obtain ⟨_,_,_,_,o,_,_,e,ex,_⟩:=I.hok p _ hk
     exact ⟨o,e,ex⟩
   obtain ⟨o,e,ex⟩:=z
   refine ⟨⟨o,e,ex.1⟩,fun a e2=>?_⟩
   cases e2
   exact ⟨o,e,ex.2.1⟩
  ·obtain ⟨o,_,_,_,e,ex,_⟩:=I.hok p _ hk
   refine ⟨⟨o,e,ex.1⟩,fun a e2=>?_⟩
   cases e2
   exact ⟨o,e,ex.2.1⟩
 | _=>exact False.elim ty
def tBM0 (K:PySem.W.Frag) (T:String) (r:V->List V->Hp->VK->Prop) (to:TE):TE:=fun σ H Q=>to σ H fun x H1=>tyV K T x H1/\r x [] H1 Q
def tBM (K:PySem.W.Frag) (T:String) (r:V->List V->Hp->VK->Prop) (to:TE) (t:TA):TE:=fun σ H Q=>to σ H fun x H1=>tyV K T x H1/\t σ H1 fun xs H2=>r x xs H2 Q
variable {o e:Expr} {es:List Expr} {to:TE} {t:TA} {name:Str} {apos cpos:Pos} {T id:String} {r:V->List V->Hp->VK->Prop}
theorem pe_bm0 (pa:PlainAttrs T) (slot:Slot T name id) (hty:typeOf (.builtin id) = pure (.type "method_descriptor")) (hm:MtR X id r) (ho:PE X o to)
  (hbase:attributeBase o name X.env (eval o X.env) = eval o X.env:=by rfl) (hline:(apos.endLine == cpos.line) = true:=by rfl):PE X (.Call (.Attribute o name apos) [] [] cpos) (tBM0 X.K T r to):=by
 intro pins s σ H Q I h
 refine wpAny_Call_method0_late hbase hline (thn (ho pins s σ H _ I h) fun v s1 ⟨x,H1,I1,r1,ty,q1⟩=>?_)
 obtain ⟨h1,h2⟩:=Zqq I1 r1 ty
 exact ⟨T,id,pa,slot,hty,h1,h2,Jes rfl (PySem.evalArgs_none (hm pins s1 σ H1 x [] v [] Q I1 r1 .nil q1))⟩
theorem Zep (pa:PlainAttrs T) (slot:Slot T name id) (hty:typeOf (.builtin id) = pure (.type "method_descriptor")) (hm:MtR X id r) (ho:PE X o to) (ha:PA X (e :: es) t)
  (hbase:attributeBase o name X.env (eval o X.env) = eval o X.env:=by rfl)
  (hfew:((backTo cpos (starEach (e :: es) X.env)).all (fun x=>!x.1) && (backToKw cpos (keywordEach [] X.env)).all (fun x=>x.1.isSome)
   && decide ((e :: es).length + ([]:List Keyword).length + (if ([]:List Keyword).isEmpty then 0 else 1) < 30)) = true:=by rfl)
  (hline:(apos.endLine == cpos.line) = true:=by rfl) (hs:starEach (e :: es) X.env = (false,eval e X.env) :: starEach es X.env:=by rfl) (hplain:(backTo cpos (starEach es X.env)).any (·.1) = false:=by rfl):
  PE X (.Call (.Attribute o name apos) (e :: es) [] cpos) (tBM X.K T r to t):=by
 intro pins s σ H Q I h
 refine wpAny_Call_method_late hbase hfew hline rfl (thn (ho pins s σ H _ I h) fun v s1 ⟨x,H1,I1,r1,ty,q1⟩=>?_)
 obtain ⟨h1,h2⟩:=Zqq I1 r1 ty
 refine ⟨T,id,pa,slot,hty,h1,h2,?_⟩
 have hA:=ha cpos pins s1 σ H1 _ I1 q1
 rw [hs] at hA ⊢
 refine Jes (by show (false || (backTo cpos (starEach es X.env)).any (·.1)) = false; rw [hplain] <;> rfl) (Je9 ?_)
 exact thn hA fun us s2 ⟨vs,H2,I2,r2,q2⟩=>hm pins s2 σ H2 x vs v us Q I2 r1 r2 q2
end
def MtM (X:Cx) (id:String) (r:V->List V->Hp->VK->Prop):Prop:=
 ∀ (pins:List (Addr × Obj)) (s:Shared) (σ:St) (H:Hp) (x:V) (xs:List V) (v:Value) (us:List Value) (Q:VK),Inv X pins σ H s->RelV x v->Vals xs us->r x xs H Q->
  wpAny (model X.prog X.w) X.A (call (.builtin id) (v :: us)) (EP X pins σ Q) X.xe s
theorem Vals.one:∀ {x:V} {us:List Value},Vals [x] us->∃ u,us = [u]/\RelV x u
 | _,_,.cons r .nil=>⟨_,rfl,r⟩
theorem Vals.zero:∀ {us:List Value},Vals [] us->us = []
 | _,.nil=>rfl
theorem Vals.dropLast {xs:List V} {us:List Value} (h:Vals xs us):Vals xs.dropLast us.dropLast:=by
 induction h with
 | nil=>exact .nil
 | cons r t ih=>
  cases t with
  | nil=>exact .nil
  | cons q t'=>exact .cons r ih
theorem Vals.rep {xs:List V} {us:List Value} (h:Vals xs us):∀ k:Nat,Vals (List.replicate k xs).flatten (List.replicate k us).flatten
 | 0=>.nil
 | k + 1=>by
  rw [Jdl,Jdl,Jd0,Jd0]
  exact Vals.append h (Vals.rep h k)
theorem Zll {α:Type} (l:List α):l.eraseIdx (l.length - 1) = l.dropLast:=by
 induction l with
 | nil=>rfl
 | cons a r ih=>
  cases r with
  | nil=>rfl
  | cons b r=>
   have e:(a :: b :: r).length - 1 = ((b :: r).length - 1) + 1:=by
    have h1:(a :: b :: r).length = r.length + 2:=rfl
    have h2:(b :: r).length = r.length + 1:=rfl
    omega
   rw [e,List.eraseIdx_cons_succ,ih]
   all_goals rfl
theorem Zh6 (its:List Value):∀ (k:Nat) (acc:List Value),
  List.foldl (fun x1 x2=>x1 ++ x2) acc.toArray (List.replicate k its.toArray) = (acc ++ (List.replicate k its).flatten).toArray
 | 0,acc=>by simp
 | k + 1,acc=>by
  have e:acc.toArray ++ its.toArray = (acc ++ its).toArray:=by simp
  have e2:(acc ++ its) ++ (List.replicate k its).flatten = acc ++ (List.replicate (k + 1) its).flatten:=by
   rw [Jdl,Jd0,Jba]
  rw [<- e2,<- Zh6 its k (acc ++ its),<- e,Jdl,List.foldl_cons]
section
variable {X:Cx} {pins:List (Addr × Obj)} {σ:St} {H:Hp} {s:Shared} {l b:Addr} {xs ys zs:List V}
theorem Inv.lset {its its':List Value} {n:Nat} {f:Array Value->Array Value} {t':Nat} (I:Inv X pins σ H s) (hH:H l = some (.lst xs))
  (e:s.heap.get? l = some { cls:=.type "list",data:=.seq its.toArray n }) (hf:f its.toArray = its'.toArray) (hv:Vals ys its') (hz:ys.length<=sizeLine):
  Inv X pins σ (upd H l (.lst ys)) { s with heap:=s.heap.update l (Obj.mapSeq f),toks:=t' }:=by
 have q:=PySem.IsL.update e f
 rw [hf] at q
 refine I.write (x:=l) (e:=l) (by rw [hH]; exact trivial) (.inl rfl) (fun b' u hb hu=>(Jcg s.heap (Obj.mapSeq f) (Jds hb)).trans hu) ⟨_,q⟩ ?_
 exact ⟨hz,its',_,hv,q⟩
theorem Inv.lnew {its:List Value} {t':Nat} (I:Inv X pins σ H s) (hv:Vals ys its) (hz:ys.length<=sizeLine):
  Inv X pins σ (upd H s.heap.objs.size (.lst ys)) { s with heap:=s.heap.push { cls:=.type "list",data:=.seq its.toArray },toks:=t' }:=
 I.laid (fun _ _ q=>Jad _ q) (Jaf _) ⟨hz,its,0,hv,Jat _ rfl⟩
theorem Inv.fresh (I:Inv X pins σ H s):H s.heap.objs.size = none:=I.hok.fresh (Jaf _)
theorem Inv.lstM (I:Inv X pins σ H s) (hH:H l = some (.lst xs)):xs.length<=sizeLine/\∃ (its:List Value) (n:Nat),Vals xs its/\xs.length = its.length/\s.heap.get? l = some { cls:=.type "list",data:=.seq its.toArray n }:=by
 obtain ⟨z,its,n,r,e⟩:=I.hok l _ hH
 exact ⟨z,its,n,r,r.length,e⟩
theorem Zj9 {n:Nat} (h:n<=sizeLine):Builtin.List.listTooLong n = false:=by
 unfold Builtin.List.listTooLong
 exact Jb7 (by omega)
end
section
variable {X:Cx}
def Zmo:V->List V->Hp->VK->Prop:=fun x vs H Q=>∃ l xs y,x = .ref l/\vs = [y]/\H l = some (.lst xs)/\xs.length < sizeLine/\Q .non (upd H l (.lst (xs ++ [y])))
theorem Zba:MtM X "list.append" Zmo:=by
 intro pins s σ H x vs v us Q I rx rv h
 obtain ⟨l,xs,y,rfl,rfl,hH,hz,q⟩:=h
 cases rx
 obtain ⟨u,rfl,ru⟩:=rv.one
 obtain ⟨z,its,n,r,hl,e⟩:=I.lstM hH
 refine Jf6 F.slot_list_append ⟨_,e,rfl⟩ F.entry_list_append (F.args_list_append_2 _ _) (PySem.list_append l its.toArray n u (by rw [Jaq]; omega)) ⟨e,?_⟩
 refine ⟨.non,_,I.lset (its':=its ++ [u]) hH e (by simp) (r.append (.cons ru .nil)) ?_,rfl,q⟩
 rw [Jaj,Jdv]
 omega
def Zmm:V->List V->Hp->VK->Prop:=fun x vs H Q=>∃ l b xs zs,x = .ref l/\vs = [.ref b]/\H l = some (.lst xs)/\H b = some (.lst zs)/\xs.length + zs.length<=sizeLine/\Q .non (upd H l (.lst (xs ++ zs)))
theorem Zng:MtM X "list.extend" Zmm:=by
 intro pins s σ H x vs v us Q I rx rv h
 obtain ⟨l,b,xs,zs,rfl,rfl,hH,hB,hz,q⟩:=h
 cases rx
 obtain ⟨u,rfl,ru⟩:=rv.one
 cases ru
 obtain ⟨z,its,n,r,hl,e⟩:=I.lstM hH
 obtain ⟨z2,its2,n2,r2,hl2,e2⟩:=I.lstM hB
 have hsz:its.toArray.size + its2.toArray.size<=sizeLine:=by rw [Jaq,Jaq]; omega
 have hlong:¬ (!its.toArray.isEmpty && Builtin.List.listTooLong (its.toArray.size + its2.toArray.size)) = true:=by
  rw [Zj9 hsz,Bool.and_false]
  exact Jar
 refine Jf6 F.slot_list_extend ⟨_,e,rfl⟩ F.entry_list_extend (F.args_list_extend_2 _ _)
  (AutoSeq1.list_extend_list_list_0 l its.toArray n b its2.toArray n2 hlong (by rw [Jaq]; omega) (by omega)) ⟨e,e2,?_⟩
 refine ⟨.non,_,I.lset (its':=its ++ its2) hH e (by simp) (r.append r2) ?_,rfl,q⟩
 rw [Jaj]
 omega
def rPop:V->List V->Hp->VK->Prop:=fun x vs H Q=>∃ l xs y,x = .ref l/\vs = []/\H l = some (.lst xs)/\xs[xs.length - 1]? = some y/\Q y (upd H l (.lst xs.dropLast))
theorem mt_pop:MtM X "list.pop" rPop:=by
 intro pins s σ H x vs v us Q I rx rv h
 obtain ⟨l,xs,y,rfl,rfl,hH,hy,q⟩:=h
 cases rx
 have hus:=rv.zero
 subst hus
 obtain ⟨z,its,n,r,hl,e⟩:=I.lstM hH
 obtain ⟨u,hu,ru⟩:=r.get hy
 have hy':its.toArray[its.toArray.size - 1]? = some u:=by
  show its.toArray[its.length - 1]? = some u
  rw [<- Jb9,<- hl]
  exact hu
 refine Jf6 F.slot_list_pop ⟨_,e,rfl⟩ F.entry_list_pop (F.args_list_pop_1 _) (MeetsSeq.list_pop_last l its.toArray n u hy' (by rw [Jaq]; omega)) ⟨e,?_⟩
 refine ⟨y,_,I.lset (its':=its.dropLast) hH e ?_ r.dropLast ?_,ru,q⟩
 ·show its.toArray.eraseIdxIfInBounds (its.toArray.size - 1) = its.dropLast.toArray
  rw [Jaq,List.eraseIdxIfInBounds_toArray,Zll]
 ·rw [List.length_dropLast]
  omega
def rCat:R2:=fun x y H Q=>∃ l b xs zs,x = .ref l/\y = .ref b/\H l = some (.lst xs)/\H b = some (.lst zs)/\xs.length + zs.length<=sizeLine/\∀ p,H p = none->Q (.ref p) (upd H p (.lst (xs ++ zs)))
theorem Zfr:OpR X (binaryOp .Add) rCat:=by
 intro pins s σ H x y v u Q I rx ry h
 obtain ⟨l,b,xs,zs,rfl,rfl,hH,hB,hz,q⟩:=h
 cases rx
 cases ry
 obtain ⟨z,its,n,r,hl,e⟩:=I.lstM hH
 obtain ⟨z2,its2,n2,r2,hl2,e2⟩:=I.lstM hB
 refine PySem.P.add_list e e2 ?_ (by rw [Jaq,Jaq]; omega)
 have ea:its.toArray ++ its2.toArray = (its ++ its2).toArray:=by simp
 rw [ea]
 exact ⟨.ref _,_,I.lnew (t':=s.toks) (r.append r2) (by rw [Jaj]; omega),rfl,q _ I.fresh⟩
def rRep:R2:=fun x y H Q=>∃ l k xs,x = .ref l/\y = .int k/\H l = some (.lst xs)/\-(2 ^ 63)<=k/\k < 2 ^ 63/\xs.length * k.toNat<=sizeLine /\
 ∀ p,H p = none->Q (.ref p) (upd H p (.lst (List.replicate k.toNat xs).flatten))
theorem len_rep {α:Type} (xs:List α) (k:Nat):(List.replicate k xs).flatten.length = k * xs.length:=by
 induction k with
 | zero=>simp
 | succ k ih=>rw [Jdl,Jd0,Jaj,ih,Nat.succ_mul,Nat.add_comm]
theorem op_rep:OpR X (binaryOp .Mult) rRep:=by
 intro pins s σ H x y v u Q I rx ry h
 obtain ⟨l,k,xs,rfl,rfl,hH,h1,h2,hz,q⟩:=h
 cases rx
 obtain ⟨t,rfl⟩:=ry
 obtain ⟨z,its,n,r,hl,e⟩:=I.lstM hH
 have hlen:its.toArray.size * k.toNat<=sizeLine:=by rw [Jaq,<- hl]; exact hz
 have hcap:¬ its.toArray.size * k.toNat > (2 ^ 63 - 1) / 8:=by
  have:(sizeLine:Nat)<=(2 ^ 63 - 1) / 8:=by decide
  omega
 have hfit:¬ (!Builtin.List.listFitsIndex k) = true:=by
  rw [fitsIndex_both h1 h2]
  exact Jar
 have hlong:¬ Builtin.List.listTooLong (its.toArray.size * k.toNat) = true:=by
  rw [Zj9 hlen]
  exact Jar
 have hnew:List.foldl (fun x1 x2=>x1 ++ x2) #[] (List.replicate (if its.toArray.isEmpty = true then 0 else k.toNat) its.toArray) = (List.replicate k.toNat its).flatten.toArray:=by
  have f0:∀ m:Nat,List.foldl (fun x1 x2=>x1 ++ x2) #[] (List.replicate m its.toArray) = (List.replicate m its).flatten.toArray:=fun m=>by
   have:=Zh6 its m []
   rw [List.nil_append] at this
   exact this
  rw [f0]
  cases its with
  | nil=>simp
  | cons a r'=>rw [if_neg (by simp)]
 refine wpAny_binaryOp_repeat_ref (T:="list") (U:="int") (by decide) ⟨_,e,rfl⟩ (fun s'=>typeIs_int s' k t) noFill_list_mul F.fills_int_mul F.slot_int_rmul repeat_list F.slot_int_index.lookup
  (Jf6 F.slot_int_rmul (typeIs_int s k t) F.entry_int_rmul (F.args_int_rmul_2 _ _) (int___rmul___int_list k t l its.toArray n)
   ⟨e,rfl,⟨_,e,rfl⟩,Jf6 F.slot_list_mul ⟨_,e,rfl⟩ F.entry_list_mul (F.args_list_mul_2 _ _) (AutoListH.list___mul___list_int_3 l its.toArray n k t hfit hcap hlong) ⟨e,?_⟩⟩)
 rw [hnew]
 exact ⟨.ref _,_,I.lnew (t':=s.toks) (r.rep k.toNat) (by rw [len_rep,Nat.mul_comm]; exact hz),rfl,q _ I.fresh⟩
end
section
variable {prog:Program} {w:World} {A:Around} {E:Value->Shared->Prop} {s:Shared}
end
section
variable {X:Cx}
end
end L2
namespace Att
open PySem PySem.W PySem.Calls PyProof.Rows
theorem Zfv {P:Params} {h:Heap}:∀ (ns:List Int) (vs:List Value),WellAll P h vs (ns.map WData.int)->IntsAre vs ns:=by
 intro ns
 induction ns with
 | nil=>
  intro vs w
  rw [Jft] at w
  cases w
  exact .nil
 | cons n ns ih=>
  intro vs w
  rw [Jax] at w
  cases w with
  | cons a b=>
   cases a
   exact .cons _ _ (ih _ b)
theorem Zmc {l:OpenLaw} {n:Nat} (hn:l.most = some n) {P:Params} {h:Heap} {args:List WData} {vals:List Value}
  (hpre:l.row.toRowW.claim.pre args = true) (hwl:WellAll P h vals args):
  ∃ a vs ns,vals = [Value.ref a]/\args = [WData.list (ns.map WData.int)]/\h.get? a = some { cls:=.type "list",data:=.seq vs.toArray }/\IntsAre vs ns/\ns.length<=n:=by
 have hsh:WShape.hasAll [] args [.list .int] = true:=(pre_splitW hpre).1
 have hc:l.pre.holds [] { args:=args } = true:=(pre_splitW hpre).2
 obtain ⟨d,r,rfl,h1,h2⟩:=hasAllW_cons hsh
 obtain rfl:=hasAllW_nil h2
 obtain ⟨xs,rfl,h3⟩:=hasW_list h1
 obtain ⟨ns,rfl⟩:=items_int h3
 have hlen:ns.length<=n:=by
  unfold OpenLaw.pre at hc
  have h4:(WTm.not (.lt (.lit (.int (n:Int))) (.len (.arg 0)))).holds [] { args:=[.list (ns.map .int)] } = true:=by
   have h4:=(holds_andW hc).1
   rw [hn] at h4
   exact h4
  have h5:=condW_of h4 (w_not (w_lt w_lit (w_len_list (w_arg rfl))))
  rw [Jab] at h5
  refine Je5 fun q=>?_
  have q':(n:Int) < ((ns.length:Nat):Int):=by omega
  first
   | (rw [Ja2 q'] at h5; exact absurd h5 (by decide))
   | (simp at h5; omega)
 cases hwl with
 | cons w1 w2=>
  cases w2
  cases w1 with
  | list ho hall=>exact ⟨_,_,ns,rfl,rfl,ho,Zfv ns _ hall,hlen⟩
theorem Zmt (l:OpenLaw) (args:List WData):l.row.toRowW.claim.post args (.bool true) args = true:=
 postW_of (r:=l.row.toRowW) (X:=(true == true))
  (show WShape.has [] (.bool true) .bool = true by first | rfl | decide | simp [WShape.has,WShape.arms,WShape.armsAll])
  (show (WTm.eq .res (.lit (.bool true))).value [] { args:=args,res:=some (.bool true),after:=args } = some (.bool (true == true)) from w_eq_bool (w_res rfl) w_lit) rfl
theorem attach_call {l:OpenLaw} {n:Nat} {q:Program} {loose:List Str} {XP:(Str->Option Value)->Heap->Prop} {YP:World->Heap->Prop} {d:DefRec}
  (hn:l.most = some n) (hdf:d.params.defaults = [])
  (call:∀ (w:World) (s₀ s₁:Shared) (mg mb:Str->Option Value) (fa:Addr) (o:Obj) (pm cd doc:Value) (a:Addr) (vs:List Value) (ns:List Int),
   Ground q loose [] XP w s₀ mg mb s₁.heap->YP w s₁.heap->
   s₁.heap.get? fa = some o->o.data = .func (docDef d.name d.params d.body d.scope pm cd doc)->s₁.heap.CodeRec cd d.name->mg d.name = some (.ref fa)->
   s₁.heap.get? a = some { cls:=.type "list",data:=.seq vs.toArray }->IntsAre vs ns->ns.length<=n->s₁.gens = #[]->
   codeAny (model l.prog w) callerA (.call (.ref fa) ⟨[.ref a],[]⟩) (fun r s'=>r = .ok (.ret (.bool true))/\OldK s₁.heap s'.heap/\s'.os = s₁.os/\AllBare s'.gens) s₁):
  WalkO q loose XP YP l.row.toRowW d [] (fun f vs=>PySem.call f vs):=by
 intro w s₀ s₁ mg mb G Y fa o pm cd doc dV kV ho hd hcd hD hmg hg args vals as hpre hlay hrd hwl hlo
 obtain rfl:dV = .none:=Dflts.none hD hdf
 obtain rfl:kV = .none:=Dflts.noKw hD
 obtain ⟨a,vs,ns,rfl,rfl,hobj,hints,hlen⟩:=Zmc hn hpre hwl
 refine enter_call (Jed (call w s₀ s₁ mg mb fa o pm cd doc a vs ns G Y ho (fd_plain hd) hcd hmg hobj hints hlen hg) fun r s' hq=>?_)
 obtain ⟨rfl,h2,h3,h4⟩:=hq
 exact ⟨.inl ⟨.bool true,.bool true,[],rfl,fun _=>rfl,.bool true,Zmt l _,fun _=>⟨List.Pairwise.nil,fun _ hm=>(nomatch hm)⟩⟩,h2,h3,h4⟩
section
variable {prog:Program} {w:World} {A:Around} {E:Value->Shared->Prop} {s:Shared} {K:Frag}
end
end Att
namespace L2
open PySem PySem.Spec PyProof.Rows
theorem Zhn:∀ {vs:List Value} {ns:List Int},IntsAre vs ns->Vals (ns.map V.int) vs
 | _,_,.nil=>.nil
 | _,_,.cons n t h=>.cons ⟨t,rfl⟩ (Zhn h)
def Only (H:Hp):Prop:=∀ b,H b = none\/∃ o xs,H b = some (.frz o (.lst xs))
theorem Zp3 {P:Program} {w:World} {K:PySem.W.Frag} {mg mb:Str->Option Value} {CX:CXT} {k:Nat} {fa a:Addr} {fd:FuncData} {x:Str} {sp:Sp} {s₁:Shared} {vs:List Value} {ns:List Int}
  (KX:K.In s₁.heap) (hns:s₁.heap.Ns mainGlobals mg) (hb:s₁.heap.Ns builtinsNs mb) (hbb:∀ x:Str,x ≠ "__name__" -> mb x = bootBuiltins x) (hlim:s₁.heap.NoLimit) (hseer:s₁.heap.NoSeer) (hbm:∃ bm ob,mg "__builtins__" = some (.ref bm)/\bm ≠ builtinsNs/\s₁.heap.get? bm = some ob/\ob.cls = .type "module" /\ ob.dict = some builtinsNs/\ob.data = .plain) (hg:s₁.gens = #[])
  (ha:s₁.heap.get? a = some { cls:=.type "list",data:=.seq vs.toArray }) (hi:IntsAre vs ns) (hl:ns.length<=sizeLine) (hr:Room k callerA)
  (F:∀ base:Heap,K.In base->base.Ns mainGlobals mg->FnOk P w K mg base CX k fa fd [x] sp) (hbind:∀ (s:Shared) (u:Value),BindsTo s fd ⟨[u],[]⟩ [(x,u)])
  (hsp:∀ H:Hp,Only H->SqL K H a (ns.map V.int)->sp [.ref a] H (fun v _=>v = .bl true) fun _ _ _=>False)
  (hCX:∀ H e s',CX [] H s₁ (fun _ _ _=>False) e s'->False):
  codeAny (model P w) callerA (.call (.ref fa) ⟨[.ref a],[]⟩) (fun r s'=>r = .ok (.ret (.bool true))/\OldK s₁.heap s'.heap/\s'.os = s₁.os/\AllBare s'.gens) s₁:=by
 have rv:=Zhn hi
 have lenV:=hi.length
 -- from an abstract heap in which nothing but the script may be tracked
 have core:∀ H:Hp,Only H->SqL K H a (ns.map V.int)->HOk P w H s₁.heap->(∀ b,H b ≠ none->b = a)->(H a ≠ none->K.lookup a = none)->
   codeAny (model P w) callerA (.call (.ref fa) ⟨[.ref a],[]⟩) (fun r s'=>r = .ok (.ret (.bool true))/\OldK s₁.heap s'.heap/\s'.os = s₁.os/\AllBare s'.gens) s₁:=by
  intro H hO hS hok hA hK
  have Zdr:∀ {b:Addr} {o:Obj},s₁.heap.get? b = some o->H b = none->(Zow s₁.heap H).get? b = some o:=fun e n=>Zp6 e n
  have noA:∀ {b:Addr} {o:Obj} {es:Array DictEntry} {ep:Nat},s₁.heap.get? b = some o->o.data = .dict es ep->H b = none:=fun {b o es ep} e d=>by
   cases q:H b with
   | none=>rfl
   | some u=>
    have e':b = a:=hA b (by rw [q]; simp)
    subst e'
    rw [ha] at e; cases e
    have d':Data.seq vs.toArray _ = Data.dict es ep:=d
    cases d'
  have nsK:∀ {b:Addr} {m:Str->Option Value},s₁.heap.Ns b m->(Zow s₁.heap H).Ns b m:=fun {b m} ⟨o,es,ep,e,d,r⟩=>⟨o,es,ep,Zdr e (noA e d),d,r⟩
  have hKb:K.In (Zow s₁.heap H):=fun b o e=>Zdr (KX b o e) (by
   cases q:H b with
   | none=>rfl
   | some u=>
    have e':b = a:=hA b (by rw [q]; simp)
    subst e'
    rw [hK (by rw [q]; simp)] at e; cases e)
  have seerB:(Zow s₁.heap H).NoSeer:=⟨let ⟨mc,x,y⟩:=hseer.statics; ⟨mc,nsK x,y⟩,let ⟨mc,x,y⟩:=hseer.mods; ⟨mc,nsK x,y⟩,let ⟨mc,x,y⟩:=hseer.imp; ⟨mc,nsK x,y⟩,let ⟨mg',bm,ob,x,y,z,u,v⟩:=hseer.main; ⟨mg',bm,ob,nsK x,y,Zdr z (by
   cases q:H bm with
   | none=>rfl
   | some o=>
    have e':bm = a:=hA bm (by rw [q]; simp)
    subst e'
    rw [ha] at z; cases z
    have u':Value.type "list" = Value.type "module" := u
    injection u' with u'
    exact absurd u' (by decide)),u,v⟩⟩
  have hM:Mod K mg (Zow s₁.heap H):=⟨hKb,nsK hns,⟨mb,nsK hb,hbb⟩,let ⟨mc,h1,h2⟩:=hlim; ⟨mc,nsK h1,h2⟩,seerB,let ⟨bm,ob,x1,x2,x3,x4,x5,x6⟩:=hbm; ⟨bm,ob,x1,x2,Zdr x3 (by
   cases q:H bm with
   | none=>rfl
   | some o=>
    have e':bm = a:=hA bm (by rw [q]; simp)
    subst e'
    rw [ha] at x3; cases x3
    cases x6),x4,x5,x6⟩⟩
  have e0:Env0 P w K mg (Zow s₁.heap H) callerA [] s₁ H:=⟨rfl,hM,fun b o e=>of_hidT e,Jfr (Zn1 _ _),trivial,fun b hb=>absurd (show b ∈ ([]:List Addr) from hb) (by simp),hok,.of_eq hg⟩
  refine Jed ((F _ hKb (nsK hns)).run callerA [] s₁ H ⟨[.ref a],[]⟩ [.ref a] [.ref a] _ _ hr e0 (hbind s₁ (.ref a)) (.cons rfl .nil) (hsp H hO hS)) fun r s' h=>?_
  cases r with
  | error e=>exact (hCX H e s' h).elim
  | ok fl=>
   cases fl with
   | next=>exact False.elim h
   | brk=>exact False.elim h
   | cont=>exact False.elim h
   | ret u=>
    obtain ⟨v,H',os,bare,un,hok',r',q⟩:=h
    have q':v = .bl true:=q
    subst q'
    obtain rfl:u = Value.bool true:=r'
    refine ⟨rfl,OldK.of_keep fun b o e=>?_,os,bare⟩
    cases q:H b with
    | none=>exact un.keep b o e q (by intro z; exact absurd (show b ∈ ([]:List Addr) from z) (by simp)) (by simp)
    | some u=>
     rcases hO b with z | ⟨ob,xs,z⟩
     ·rw [q] at z; cases z
     ·have z2:=un.frzs b ob _ z
      obtain ⟨e1,_⟩:=hok b _ z
      obtain ⟨e2,_⟩:=hok' b _ z2
      rw [e] at e1; cases e1
      exact e2
 cases hk:K.lookup a with
 | some o=>
  -- the script is one of the module's own objects
  have e:=KX a o hk
  rw [ha] at e
  cases e
  refine core (fun _=>none) (fun _=>.inl rfl) (.inr ⟨_,vs.toArray,_,hk,rfl,rfl,rfl,by rw [Jaq,lenV]; exact hl,by simpa using rv⟩) (fun b u z=>by have z':(none:Option HO) = some u:=z; cases z') (fun b z=>absurd rfl z) fun z=>absurd rfl z
 | none=>
  refine core (fun b=>if b = a then some (.frz { cls:=.type "list",data:=.seq vs.toArray } (.lst (ns.map V.int))) else none) (fun b=>?_) (.inl (.inr ⟨{ cls:=.type "list",data:=.seq vs.toArray },if_pos rfl⟩)) (fun b u z=>?_) (fun b z=>?_) fun _=>hk
  ·by_cases hb:b = a
   ·exact .inr ⟨_,_,if_pos hb⟩
   ·exact .inl (if_neg hb)
  ·by_cases hb:b = a
   ·have z':=(if_pos hb).symm.trans z
    cases z'
    subst hb
    exact ⟨ha,by rw [Jab]; exact hl,vs,_,rv,ha⟩
   ·have z':=(if_neg hb).symm.trans z
    cases z'
  ·by_cases hb:b = a
   ·exact hb
   ·exact absurd (if_neg hb) z
theorem walk_of {l:PySem.W.OpenLaw} {n k:Nat} {q:Program} {loose:List Str} {XP:(Str->Option Value)->Heap->Prop} {YP:World->Heap->Prop} {d:DefRec} {K:Params->PySem.W.Frag} {CX:World->CXT} {sp:World->Sp} {x:Str}
  (hq:importsNone q = true) (hn:l.most = some n) (hn2:n<=sizeLine) (hdf:d.params.defaults = []) (hr:Room k callerA)
  (hY:∀ (w:World) (h:Heap),YP w h->(K w.params).In h)
  (F:∀ (w:World) (mg:Str->Option Value) (fa:Addr) (h:Heap),(K w.params).In h->h.Ns mainGlobals mg->mg d.name = some (.ref fa)->
   ∃ fd:FuncData,(∀ (s:Shared) (u:Value),BindsTo s fd ⟨[u],[]⟩ [(x,u)]) /\
    ∀ base:Heap,(K w.params).In base->base.Ns mainGlobals mg->FnOk l.prog w (K w.params) mg base (CX w) k fa fd [x] (sp w))
  (hsp:∀ (w:World) (H:Hp) (a:Addr) (ns:List Int),ns.length<=n->Only H->SqL (K w.params) H a (ns.map V.int)->sp w [.ref a] H (fun v _=>v = .bl true) fun _ _ _=>False)
  (hCX:∀ (w:World) (H:Hp) (s:Shared) (e:Value) (s':Shared),CX w [] H s (fun _ _ _=>False) e s'->False):
  PySem.W.WalkO q loose XP YP l.row.toRowW d [] (fun f vs=>PySem.call f vs):=by
 refine Att.attach_call hn hdf fun w s₀ s₁ mg mb fa o pm cd doc a vs ns G Y ho hd hcd hmg hobj hints hlen hg=>?_
 have KX:=hY w _ Y
 obtain ⟨fd,hb,hF⟩:=F w mg fa _ KX G.T.g hmg
 exact Zp3 KX G.T.g G.T.b G.T.builtins G.T.nolimit (G.T.seer hq) G.T.bmain hg hobj hints (Jay hlen hn2) hr hF hb (fun H hO hS=>hsp w H a ns hlen hO hS) fun H e s'=>hCX w H s₁ e s'
def Zi4 (s:Stmt) (j:Nat):Stmt:=match s with
 | .ClassDef _ _ _ body _ _ _ _ _ _ _=>body.getD j (.Pass ⟨0,0,0,0⟩)
 | _=>.Pass ⟨0,0,0,0⟩
def Zap (s:Stmt):Arguments:=match s with
 | .FunctionDef _ a _ _ _ _ _ _ _ _=>a
 | _=>{ posonlyargs:=[],args:=[],vararg:=none,kwonlyargs:=[],kw_defaults:=[],kwarg:=none,defaults:=[] }
def Zan (s:Stmt):List Stmt:=match s with
 | .FunctionDef _ _ b _ _ _ _ _ _ _=>b
 | _=>[]
def Zae (s:Stmt):Scope:=match s with
 | .FunctionDef _ _ _ _ _ _ sc _ _ _=>sc
 | _=>{ kind:=.function,names:=[],isGenerator:=false,isCoroutine:=false }
abbrev CX0:CXT:=fun _ _ _ _ _ _=>False
abbrev E0:XK:=fun _ _ _=>False
theorem pass0 {X:Cx}:Ze4 CX0 X E0:=fun _ _ _ _ _ _ _ h=>h.elim
structure Fun (K:PySem.W.Frag) (x qual:Str) (st:Stmt) (f:Addr) (fd:FuncData):Prop where
 ex:∃ (oc:Value) (od:Option Addr) (kV doc pm:Value) (an:Option Addr) (cdv ct:Value) (osl:Array (Option Value)),
  fd = PySem.W.fnOf x qual (Zap st) (Zan st) (Zae st) .none kV doc pm an cdv ct/\K.lookup f = some ⟨oc,od,.func fd,osl⟩/\PySem.W.codeIn K cdv qual = true
 kp:PySem.W.keepIn K (.ref f) = true
section
variable {P:Program} {w:World} {K:PySem.W.Frag} {mg:Str->Option Value} {base:Heap}
theorem Fun.ok {x qual:Str} {st:Stmt} {f:Addr} {fd:FuncData} {N ps:List Str} {k:Nat} {sp:Sp} (F:Fun K x qual st f fd) (S:FnScope N ps (Zae st)) (len:∀ vs H Q E,sp vs H Q E->vs.length = ps.length)
  (hbody:∀ (cdv:Value) (A:Around) (outer:List Env) (s:Shared) (H:Hp) (vs:List V) (Q:VK) (E:XK),Room k (A.deeper (envOfC qual (Zae st) s.heap.objs.size f cdv))->sp vs H Q E->
   ∃ t,PSs (Zi9 CX0 P w K mg base N qual (Zae st) f cdv A outer s H E).nox (Zan st) t/\t { nx:=fun _ H'=>Q .non H',rt:=Q } (start N vs) H):FnOk P w K mg base CX0 (k + 1) f fd ps sp:=by
 obtain ⟨oc,od,kV,doc,pm,an,cdv,ct,osl,rfl,lk,hcd⟩:=F.ex
 refine fn_of lk hcd S len fun A outer s H vs Q E hr hsp=>?_
 obtain ⟨t,h,q⟩:=hbody cdv A outer s H vs Q E hr hsp
 exact ⟨t,h.nox,q⟩
theorem Fun.binds {x qual:Str} {st:Stmt} {f:Addr} {fd:FuncData} {ps:List Str} (F:Fun K x qual st f fd)
  (h:∀ (kV doc pm:Value) (an:Option Addr) (cdv ct:Value) (us:List Value),us.length = ps.length->bindArgs (PySem.W.fnOf x qual (Zap st) (Zan st) (Zae st) .none kV doc pm an cdv ct) ⟨us,[]⟩ = pure (ps.zip us)):Binds K fd ps []:=by
 obtain ⟨oc,od,kV,doc,pm,an,cdv,ct,osl,rfl,lk,hcd⟩:=F.ex
 exact .all (h kV doc pm an cdv ct)
theorem Za7 {x qual:Str} {st:Stmt} {f:Addr} {oc:Value} {od an:Option Addr} {osl:Array (Option Value)} {kV doc pm cdv ct:Value} (l:K.lookup f = some ⟨oc,od,.func (PySem.W.fnOf x qual (Zap st) (Zan st) (Zae st) .none kV doc pm an cdv ct),osl⟩)
  (c:PySem.W.codeIn K cdv qual = true) (k:PySem.W.keepIn K (.ref f) = true):Fun K x qual st f (PySem.W.fnOf x qual (Zap st) (Zan st) (Zae st) .none kV doc pm an cdv ct):=⟨⟨oc,od,kV,doc,pm,an,cdv,ct,osl,rfl,l,c⟩,k⟩
end
theorem Zah {n:Nat} (h:n<=1000):n < sizeLine:=Jfu h (by decide)
section
variable {X:Cx}
theorem pv (i:Nat) {x:Str} {pos:Pos} (hN:X.N[i]? = some x:=by rfl) (hv:Vis X.env.scope x:=by first | exact Or.inl rfl | exact Or.inr (Or.inl rfl) | exact Or.inr (Or.inr rfl)) (hd:(x == ("__debug__" : Str)) = false:=by decide)
  (hcd:(x == ("__classdict__" : Str)) = false:=by decide):PE X (.Name x pos) (Zjp i):=pe_var hN hv hd hcd
end
theorem iteF {A B:Prop} (h:B):if false = true then A else B:=by
 rw [if_neg Jar]
 exact h
theorem iteT {A B:Prop} (h:A):if true = true then A else B:=by
 rw [if_pos rfl]
 exact h
theorem Zd1 {c A B:Prop} [Decidable c] (h1:c->A) (h2:¬ c->B):if c then A else B:=by
 by_cases h:c
 ·rw [if_pos h]
  exact h1 h
 ·rw [if_neg h]
  exact h2 h
def Same (H H':Hp):Prop:=∀ b o,H b = some o->H' b = some o
theorem Same.refl (H:Hp):Same H H:=fun _ _ h=>h
theorem Same.trans {H H1 H2:Hp} (a:Same H H1) (b:Same H1 H2):Same H H2:=fun c o h=>b c o (a c o h)
theorem Same.free {H H':Hp} (e:Same H H') {l:Addr} (h:H' l = Option.none):H l = Option.none:=by
 cases q:H l with
 | none=>rfl
 | some o=>
  rw [e l o q] at h
  cases h
theorem Same.seq {K:PySem.W.Frag} {H H':Hp} {a:Addr} {xs:List V} (e:Same H H') (h:SqL K H a xs):SqL K H' a xs:=by
 rcases h with (h | ⟨o,h⟩) | h
 ·exact .inl (.inl (e _ _ h))
 ·exact .inl (.inr ⟨o,e _ _ h⟩)
 ·exact .inr h
theorem Zqj {x:Str} {c:Addr}:∀ (names:List (Str × NameKind)) (n:Nat) (acc:List (Str × Addr)),(cellsFrom n names acc).lookup x = some c->n<=c\/acc.lookup x = some c
 | [],_,_,h=>.inr h
 | (y,k) :: r,n,acc,h=>by
  unfold cellsFrom at h
  split at h
  ·rcases Zqj r (n + 1) _ h with z | z
   ·exact .inl (Jc5 z)
   ·rw [Jbb] at z
    cases e:x == y with
    | true=>rw [e] at z; cases z; exact .inl (Jaf _)
    | false=>rw [e] at z; exact .inr z
  ·exact Zqj r n acc h
theorem Zon {x:Str} {c:Addr}:∀ (names:List (Str × NameKind)) (n:Nat) (acc:List (Str × Addr)),(x,NameKind.cell) ∈ names->(cellsFrom n names acc).lookup x = some c->n<=c
 | [],_,_,m,_=>nomatch m
 | (y,k) :: r,n,acc,m,h=>by
  unfold cellsFrom at h
  split at h
  ·by_cases m':(x,NameKind.cell) ∈ r
   ·exact Jc5 (Zon r (n + 1) _ m' h)
   ·have e:(x,NameKind.cell) = (y,k):=(Jam.mp m).resolve_right m'
    cases e
    rcases Zqj r (n + 1) _ h with z | z
    ·exact Jc5 z
    ·rw [Jbb,Jdb] at z
     cases z
     exact Jaf _
  ·rename_i hk
   have m':(x,NameKind.cell) ∈ r:=by
    rcases Jam.mp m with e | m'
    ·cases e; exact absurd rfl hk
    ·exact m'
   exact Zon r n acc m' h
theorem Zoo {x:Str}:∀ {names:List (Str × NameKind)} {n:Nat} {acc:List (Str × Addr)},(x,NameKind.cell) ∉ names->(cellsFrom n names acc).lookup x = acc.lookup x
 | [],_,_,_=>rfl
 | (y,k) :: r,n,acc,h=>by
  unfold cellsFrom
  have hr:(x,NameKind.cell) ∉ r:=fun m=>h (Jbj _ m)
  split
  ·rename_i hk
   have hy:(x == y) = false:=by
    cases e:x == y with
    | false=>rfl
    | true=>
     exfalso
     refine h ?_
     rw [Jbz.mp e,Jbz.mp hk]
     exact Jc2
   rw [Zoo hr,Jbb,hy]
  ·exact Zoo hr
theorem Zop:∀ (names:List (Str × NameKind)) (n:Nat) (acc:List (Str × Addr)),(∀ x c,acc.lookup x = some c->c < n)->(∀ x y c,acc.lookup x = some c->acc.lookup y = some c->x = y)->
  ∀ x y c,(cellsFrom n names acc).lookup x = some c->(cellsFrom n names acc).lookup y = some c->x = y
 | [],_,_,_,hi=>hi
 | (z,k) :: r,n,acc,hl,hi=>by
  unfold cellsFrom
  split
  ·refine Zop r (n + 1) _ (fun x c h=>?_) (fun x y c h1 h2=>?_)
   ·rw [Jbb] at h
    cases e:x == z with
    | true=>rw [e] at h; cases h; exact Je4 _
    | false=>rw [e] at h; exact Jc6 (hl x c h)
   ·rw [Jbb] at h1 h2
    cases e1:x == z with
    | true=>
     rw [e1] at h1
     cases h1
     cases e2:y == z with
     | true=>rw [Jbz.mp e1,Jbz.mp e2]
     | false=>rw [e2] at h2; exact absurd (hl y _ h2) (Jb0 _)
    | false=>
     rw [e1] at h1
     cases e2:y == z with
     | true=>rw [e2] at h2; cases h2; exact absurd (hl x _ h1) (Jb0 _)
     | false=>rw [e2] at h2; exact hi x y c h1 h2
  ·exact Zop r n acc hl hi
theorem Zje {x:Str} {c:Addr}:∀ (names:List (Str × NameKind)) (h:Heap) (acc:List (Str × Addr)),(cellsFrom h.objs.size names acc).lookup x = some c->(pushCells h names).IsCell c none\/acc.lookup x = some c
 | [],_,_,z=>.inr z
 | (y,k) :: r,h,acc,z=>by
  unfold cellsFrom at z
  unfold pushCells
  split at z
  ·rename_i hk
   rw [if_pos hk]
   have z':(cellsFrom (h.push { cls:=.type "cell",data:=.cell none }).objs.size r ((y,h.objs.size) :: acc)).lookup x = some c:=by rw [Jco]; exact z
   rcases Zje r _ _ z' with q | q
   ·exact .inl q
   ·rw [Jbb] at q
    cases e:x == y with
    | true=>
     rw [e] at q
     cases q
     exact .inl ⟨_,pushCells_keeps _ _ _ _ (Jat _ rfl),rfl⟩
    | false=>rw [e] at q; exact .inr q
  ·rename_i hk
   rw [if_neg hk]
   exact Zje r h acc z
theorem Zjd {env:Env} (f:Str × NameKind->List (Str × Addr)->Sem (ForInStep (List (Str × Addr))))
  (hf:∀ name kind cs,f (name,kind) cs = if kind == .free then (do let a <- cellOf env name; pure (.yield ((name,a) :: cs))) else pure (.yield cs)):
  ∀ (names:List (Str × NameKind)) (acc:List (Str × Addr)),(∀ y ∈ names,y.2 = .free->∃ c,env.cells.lookup y.1 = some c)->(∀ x c,acc.lookup x = some c->env.cells.lookup x = some c)->
  ∃ cl,forIn names acc f = pure cl/\(∀ x c,cl.lookup x = some c->env.cells.lookup x = some c)/\(∀ y ∈ names,y.2 = .free->∃ c,cl.lookup y.1 = some c)/\∀ x c,acc.lookup x = some c->∃ c',cl.lookup x = some c'
 | [],acc,_,ha=>⟨acc,rfl,ha,(fun _ m=>nomatch m),fun x c e=>⟨c,e⟩⟩
 | (y,k) :: r,acc,h,ha=>by
  rw [List.forIn_cons,hf]
  have hr:∀ y ∈ r,y.2 = NameKind.free->∃ c,env.cells.lookup y.1 = some c:=fun z m=>h z (Jbj _ m)
  by_cases hk:(k == NameKind.free) = true
  ·obtain ⟨c,hc⟩:=h (y,k) Jc2 (Jbz.mp hk)
   have e:cellOf env y = pure c:=by unfold cellOf; rw [hc]
   rw [if_pos hk,e,pure_bind,pure_bind]
   have ha':∀ x d,((y,c) :: acc).lookup x = some d->env.cells.lookup x = some d:=fun x d e=>by
    rw [Jbb] at e
    cases e1:x == y with
    | true=>rw [e1] at e; cases e; rw [Jbz.mp e1]; exact hc
    | false=>rw [e1] at e; exact ha x d e
   obtain ⟨cl,q1,q2,q3,q4⟩:=Zjd f hf r ((y,c) :: acc) hr ha'
   refine ⟨cl,q1,q2,fun z m hz=>?_,fun x d e=>?_⟩
   ·rcases Jam.mp m with e | m
    ·subst e
     exact q4 y c (by rw [Jbb,Jdb])
    ·exact q3 z m hz
   ·by_cases e1:(x == y) = true
    ·exact q4 x c (by rw [Jbb,e1])
    ·exact q4 x d (by rw [Jbb]; simp only [e1]; exact e)
  ·rw [if_neg hk,pure_bind]
   obtain ⟨cl,q1,q2,q3,q4⟩:=Zjd f hf r acc hr ha
   refine ⟨cl,q1,q2,fun z m hz=>?_,q4⟩
   rcases Jam.mp m with e | m
   ·subst e; exact absurd (Jbz.mpr hz) hk
   ·exact q3 z m hz
theorem Zhf {scope:Scope} {env:Env} (h:∀ y ∈ scope.names,y.2 = .free->∃ c,env.cells.lookup y.1 = some c):
  ∃ cl,closureFor scope env = pure cl/\(∀ x c,cl.lookup x = some c->env.cells.lookup x = some c)/\∀ y ∈ scope.names,y.2 = .free->∃ c,cl.lookup y.1 = some c:=by
 obtain ⟨cl,q1,q2,q3,_⟩:=Zjd (env:=env) (fun x cs=>if x.2 == .free then (do let a <- cellOf env x.1; pure (.yield ((x.1,a) :: cs))) else pure (.yield cs)) (fun _ _ _=>rfl) scope.names [] h (fun _ _ e=>nomatch e)
 refine ⟨cl,?_,q2,q3⟩
 unfold closureFor
 have e:(fun (x:Str × NameKind) (r:List (Str × Addr))=>(match x with
   | (name,kind)=>if (kind == NameKind.free) = true then (do let __do_lift <- cellOf env name; pure (ForInStep.yield ((name,__do_lift) :: r))) else pure (ForInStep.yield r):Sem (ForInStep (List (Str × Addr))))) =
   fun x cs=>if x.2 == .free then (do let a <- cellOf env x.1; pure (.yield ((x.1,a) :: cs))) else pure (.yield cs):=by
  funext x cs
  rfl
 have q:(forIn scope.names ([]:List (Str × Addr)) fun (x:Str × NameKind) (r:List (Str × Addr))=>(match x with
   | (name,kind)=>if (kind == NameKind.free) = true then (do let __do_lift <- cellOf env name; pure (ForInStep.yield ((name,__do_lift) :: r))) else pure (ForInStep.yield r):Sem (ForInStep (List (Str × Addr))))) = pure cl:=by
  rw [e]; exact q1
 simpa using q
theorem Zdq {M:Model} {A:Around} {E:Value->Shared->Prop} {s:Shared} {scope:Scope} {globals:Addr} {cl:List (Str × Addr)} {qual:Str} {env:Env} {Q:Env->Shared->Prop}
  (hQ:∀ h',h'.Ns s.heap.objs.size (fun _=>none)->(∀ b o,s.heap.get? b = some o->h'.get? b = some o)->
   (∀ x c,(cellsFrom (s.heap.objs.size + 1) scope.names cl).lookup x = some c->h'.IsCell c none\/cl.lookup x = some c)->
   Q { scope,locals:=s.heap.objs.size,globals,cells:=cellsFrom (s.heap.objs.size + 1) scope.names cl,qual,func:=none,code:=env.code,frame:=env.frame,builtins:=env.builtins } { s with heap:=h' }):
  wpAny M A (newFunctionEnv scope globals cl [] qual none .none (some env)) Q E s:=by
 simp only [newFunctionEnv,Option.isSome_some,Jdu]
 refine Jaa (wpAny_alloc ?_)
 refine Jaa (wpAny_layCells _ (fun name kind cells=>by cases hkc:kind == NameKind.cell <;> simp [hkc]) _ _ _ _ ?_)
 have hsz:(s.heap.push { cls:=.type "dict",data:=.dict #[] }).objs.size = s.heap.objs.size + 1:=Jco ..
 have q:=hQ (pushCells (s.heap.push { cls:=.type "dict",data:=.dict #[] }) scope.names) ((Heap.Ns.new s.heap (.type "dict")).keeps (pushCells_keeps _ _)) (fun b o e=>pushCells_keeps _ _ b o (Jad _ e))
  (fun x c e=>Zje scope.names (s.heap.push { cls:=.type "dict",data:=.dict #[] }) cl (by rw [hsz]; exact e))
 show wpAny _ _ _ _ _ _
 rw [show ({ s with heap:=s.heap.push { cls:=.type "dict",data:=.dict #[] } }:Shared).heap.objs.size = s.heap.objs.size + 1 from hsz]
 exact Jaa (Jae (Jae q))
theorem Ze1 {env:Env} {x:Str}:∀ {names:List (Str × NameKind)},names.lookup x = some .free->
  (names.map fun (n,k)=>if (k == NameKind.free && env.scope.kind == .function && env.kindOf n == some .cell) then (n,NameKind.cell) else (n,k)).lookup x = some .cell \/
  (names.map fun (n,k)=>if (k == NameKind.free && env.scope.kind == .function && env.kindOf n == some .cell) then (n,NameKind.cell) else (n,k)).lookup x = some .free
 | [],h=>by simp at h
 | (n,k) :: r,h=>by
  have ih:=@Ze1 env x r
  show List.lookup x ((if (k == NameKind.free && env.scope.kind == .function && env.kindOf n == some .cell) = true then (n,NameKind.cell) else (n,k)) :: _) = _\/List.lookup x ((if (k == NameKind.free && env.scope.kind == .function && env.kindOf n == some .cell) = true then (n,NameKind.cell) else (n,k)) :: _) = _
  cases hx:x == n with
  | true=>
   simp only [Jbb,hx] at h
   cases h
   split <;> simp [Jbb,hx]
  | false=>
   simp only [Jbb,hx] at h
   split <;> (simp only [Jbb,hx]; exact ih h)
theorem Zdk {env:Env} {x:Str} {kd:NameKind}:∀ {names:List (Str × NameKind)},
  (names.map fun (n,k)=>if (k == NameKind.free && env.scope.kind == .function && env.kindOf n == some .cell) then (n,NameKind.cell) else (n,k)).lookup x = some kd->
  names.lookup x = some kd\/names.lookup x = some .free
 | [],h=>by simp at h
 | (n,k) :: r,h=>by
  have ih:=@Zdk env x kd r
  have h':List.lookup x ((if (k == NameKind.free && env.scope.kind == .function && env.kindOf n == some .cell) = true then (n,NameKind.cell) else (n,k)) :: (r.map fun (n,k)=>if (k == NameKind.free && env.scope.kind == .function && env.kindOf n == some .cell) then (n,NameKind.cell) else (n,k))) = some kd:=h
  cases hx:x == n with
  | true=>
   by_cases hc:(k == NameKind.free && env.scope.kind == .function && env.kindOf n == some .cell) = true
   ·have hk:k = .free:=by
     have:=(Jb4 _ _ ▸ (Jb4 _ _ ▸ hc).1).1
     exact Jbz.mp this
    subst hk
    exact .inr (by simp [Jbb,hx])
   ·rw [if_neg hc] at h'
    simp only [Jbb,hx] at h'
    cases h'
    exact .inl (by simp [Jbb,hx])
  | false=>
   have h2:List.lookup x (r.map fun (n,k)=>if (k == NameKind.free && env.scope.kind == .function && env.kindOf n == some .cell) then (n,NameKind.cell) else (n,k)) = some kd:=by
    split at h' <;> simpa only [Jbb,hx] using h'
   rcases ih h2 with z | z
   ·exact .inl (by simp only [Jbb,hx]; exact z)
   ·exact .inr (by simp only [Jbb,hx]; exact z)
def Zbv (X:Cx) (N:List Str) (scope:Scope) (cl:List (Str × Addr)) (s:Shared) (H:Hp) (fp:List Addr):Cx where
 prog:=X.prog
 w:=X.w
 K:=X.K
 mg:=X.mg
 base:=X.base
 A:=X.A
 N:=N
 s₀:=s
 H₀:=H
 env:={ scope:=relabel scope X.env,locals:=s.heap.objs.size,globals:=X.env.globals,cells:=cellsFrom (s.heap.objs.size + 1) scope.names cl,qual:=X.env.qual,func:=none,code:=X.env.code,frame:=X.env.frame,builtins:=X.env.builtins }
 outer:=X.stack
 stack:=X.stack
 ex:=fp
 fn:=fun x=>scope.names.lookup x == some .cell
 calm:=X.calm
 pn:=[]
 xe:=fun _ _=>False
structure BlScope (X:Cx) (scope:Scope) (own:List Str) (fr:List (Str × Nat)):Prop where
 kind:scope.kind = .function
 free:∀ y ∈ scope.names,y.2 = .free->X.env.scope.names.lookup y.1 = some .cell\/X.env.scope.names.lookup y.1 = some .free
 loc:∀ y ∈ scope.names,y.2 = .local->scope.names.lookup y.1 = some .local
 look:∀ y ∈ scope.names,scope.names.lookup y.1 = some y.2
 cap:∀ y ∈ fr,scope.names.lookup y.1 = some .free/\X.N[y.2]? = some y.1
def Ze3 (k:Nat) (fr:List (Str × Nat)) (σ:St):St:=List.replicate k none ++ fr.map fun y=>(σ[y.2]?).getD none
def Zbu (own:List Str) (fr:List (Str × Nat)):List Str:=own ++ fr.map (·.1)
section
variable {X:Cx} {pins:List (Addr × Obj)} {σ:St} {H:Hp} {s:Shared}
theorem Zfu {scope:Scope} {own:List Str} {fr:List (Str × Nat)} {cl:List (Str × Addr)} {fp:List Addr} {h':Heap} (I:Inv X pins σ H s) (B:BlScope X scope own fr)
  (hcl:∀ x c,cl.lookup x = some c->X.env.cells.lookup x = some c) (hcl2:∀ y ∈ scope.names,y.2 = .free->∃ c,cl.lookup y.1 = some c)
  (hfp:∀ b ∈ fp,Zij X pins H b) (hfo:∀ b ∈ fp,∃ o,s.heap.get? b = some o)
  (hn:h'.Ns s.heap.objs.size (fun _=>none)) (hk:∀ b o,s.heap.get? b = some o->h'.get? b = some o)
  (hc:∀ x c,(cellsFrom (s.heap.objs.size + 1) scope.names cl).lookup x = some c->h'.IsCell c none\/cl.lookup x = some c):
  Inv (Zbv X (Zbu own fr) scope cl s H fp) [] (Ze3 own.length fr σ) H { s with heap:=h' }:=by
 have clt:∀ x c,cl.lookup x = some c->c < s.heap.objs.size:=fun x c e=>by
  obtain ⟨v,z⟩:=I.cell x c (hcl x c e)
  exact z.lt
 have ownC:∀ x c,(cellsFrom (s.heap.objs.size + 1) scope.names cl).lookup x = some c->s.heap.objs.size + 1<=c\/cl.lookup x = some c:=fun x c e=>Zqj _ _ _ e
 have bsz:X.base.objs.size<=s.heap.objs.size:=Jay I.ok.bsz I.sz
 refine ⟨⟨I.ok.mod,B.kind,I.ok.glob,I.ok.blt,Jaf _,?_,?_,?_,I.ok.hd,I.ok.frames,.inl rfl,?_,I.bs,bsz,?_,?_,I.stack,I.stkFree,I.ok.top⟩,rfl,I.bare,Un.kept hk,⟨_,hn,?_⟩,?_,I.hok.fresh (Jaf _),?_,?_,I.hok.kept hk,?_⟩
 ·exact Zop _ _ _ (fun x c e=>Jc6 (clt x c e)) fun x y c e1 e2=>I.ok.inj x y c (hcl x c e1) (hcl y c e2)
 ·intro x hx
  have hx:(relabel scope X.env).names.lookup x = some .cell\/(relabel scope X.env).names.lookup x = some .free:=hx
  have q:scope.names.lookup x = some .cell\/scope.names.lookup x = some .free:=by
   rcases hx with z | z
   ·exact Zdk z
   ·exact (Zdk z).elim .inr .inr
  refine Jdh.mp (Jdo scope.names _ _ ?_)
  rcases q with z | z
  ·exact .inl z
  ·obtain ⟨c,e⟩:=hcl2 _ (Jb8 z) rfl
   exact .inr (by rw [e]; rfl)
 ·intro x c hf e
  have hf:(scope.names.lookup x == some .cell) = true:=hf
  exact Jc5 (Zon _ _ _ (Jb8 (Jbz.mp hf)) e)
 ·intro b hb
  obtain ⟨o,ho⟩:=hfo b hb
  refine ⟨Ja8 (Jal ho),fun x c e=>?_⟩
  rcases ownC x c e with z | z
  ·intro q
   subst q
   exact absurd (Ja7 (Jal ho) (Jc5 z)) (Jb0 _)
  ·exact (hfp b hb).2.2.2.2.1 x c (hcl x c z)
 ·intro b o e hb
  rcases (hfp b hb).2.2.2.1 with z | z
  ·exact I.ok.noex b o e z
  ·exact absurd (Ja7 (Jal e) (Jay I.ok.bsz z)) (Jb0 _)
 ·intro b hb z
  rcases Jam.mp (I.stkSub b z) with q | q
  ·exact (hfp b hb).2.1 q
  ·exact (hfp b hb).2.2.1 q
 ·intro i x v h1 h2 h3
  have h1:(Zbu own fr)[i]? = some x:=h1
  unfold Zbu at h1
  unfold Ze3 at h2
  by_cases hi:i < own.length
  ·rw [Jbg (by rw [Jb1]; exact hi),Jek,if_pos hi] at h2
   cases h2
  ·have hi':own.length<=i:=Je5 hi
   rw [Ja5 hi',Jbe] at h1
   rw [Ja5 (by rw [Jb1]; exact hi'),Jb1,Jbe] at h2
   cases e:fr[i - own.length]? with
   | none=>rw [e] at h1; cases h1
   | some y=>
    rw [e] at h1 h2
    have hy1:y.1 = x:=Jbm h1
    have hy2:(σ[y.2]?).getD none = some v:=Jbm h2
    obtain ⟨c1,c2⟩:=B.cap y (Jan e)
    rw [hy1] at c1 c2
    have hs:σ[y.2]? = some (some v):=by
     cases e2:σ[y.2]? with
     | none=>rw [e2] at hy2; cases hy2
     | some o=>rw [e2] at hy2; cases o with
      | none=>cases hy2
      | some w=>cases hy2; rfl
    obtain ⟨m,hm,hl⟩:=I.loc
    have hfree:=B.free _ (Jb8 c1) rfl
    obtain ⟨u,r,l⟩:=hl y.2 x v c2 hs (hfree.elim (fun z=>.inr (.inl z)) fun z=>.inr (.inr z))
    refine ⟨u,r,?_⟩
    obtain ⟨k,c,e3,z⟩:(X.env.kindOf x = some .cell\/X.env.kindOf x = some .free)/\∃ c,X.env.cells.lookup x = some c/\s.heap.IsCell c (some u):=by
     rcases l with ⟨k,_⟩ | q
     ·have k:X.env.scope.names.lookup x = some .local:=k
      rcases hfree with z | z <;> (rw [z] at k; cases k)
     ·exact q
    obtain ⟨d,hd⟩:=hcl2 _ (Jb8 c1) rfl
    have hd':=hcl x d hd
    rw [e3] at hd'
    cases hd'
    obtain ⟨c',hc'⟩:∃ c',(cellsFrom (s.heap.objs.size + 1) scope.names cl).lookup x = some c':=Jdh.mp (Jdo scope.names _ _ (.inr (by rw [hd]; rfl)))
    have hcc:c' = c:=by
     rcases ownC x c' hc' with q | q
     ·-- an own cell of that name: it is free,so no
      exfalso
      have:(x,NameKind.cell) ∉ scope.names:=fun m=>by
       have:=B.look _ m
       rw [c1] at this
       cases this
      exact absurd hc' (by
       rw [Zoo this]
       intro z
       rw [hd] at z
       cases z
       exact absurd (clt x _ hd) (Nat.not_lt.mpr (Jc5 q)))
     ·rw [hd] at q; cases q; rfl
    subst hcc
    refine .inr ⟨?_,c',hc',z.keeps hk⟩
    exact Ze1 c1
 ·intro x c e
  rcases hc x c e with z | z
  ·exact ⟨_,z⟩
  ·obtain ⟨v,q⟩:=I.cell x c (hcl x c z)
   exact ⟨v,q.keeps hk⟩
 ·intro x c e
  rcases ownC x c e with z | z
  ·exact I.hok.fresh (Jc5 z)
  ·exact I.freeC x c (hcl x c z)
 ·intro p hp
  exact absurd (show p ∈ ([]:List (Addr × Obj)) from hp) (by simp)
 ·show (Ze3 _ _ _).length = (Zbu _ _).length
  unfold Ze3 Zbu
  simp
end
def PTs (X:Cx) (ifs:List Expr) (t:TT):Prop:=
 ∀ (pins:List (Addr × Obj)) (s:Shared) (σ:St) (H:Hp) (Q:Bool->Hp->Prop),Inv X pins σ H s->t σ H Q->
  wpAny (model X.prog X.w) X.A (forIn ifs true fun c r=>if r = true then do let ok <- isTrue c X.env (eval c X.env); pure (ForInStep.yield ok) else pure (ForInStep.yield r)) (TP X pins σ Q) X.xe s
def Zhp:TT:=fun _ H Q=>Q true H
theorem Zbn {X:Cx}:PTs X [] Zhp:=fun pins s σ H Q I h=>wpAny_tests_nil ⟨H,I,h⟩
theorem Zd5 {X:Cx} {c:Expr} {t:TT} (hc:PT X c t):PTs X [c] t:=fun pins s σ H Q I h=>wpAny_tests_one (hc pins s σ H Q I h)
section
variable {prog:Program} {w:World} {A:Around} {R:Result->Shared->Prop} {s:Shared}
theorem Zh9 {elt target iter:Expr} {ifs:List Expr} {scope:Scope} {pos:Pos} {it acc:Value} {env:Env} (I:Nat->Shared->Prop)
  (turn:∀ n s,I n s->wpAny (model prog w) A (pyNext it) (fun r s₁=>match r with
   | none=>R (.ok .next) s₁
   | some v=>wpAny (model prog w) A (letOwnedTupleGo target it v) (fun _ s₁=>wpAny (model prog w) A (assign target env v) (fun _ s₂=>
     wpAny (model prog w) A (forIn ifs true fun c r=>if r = true then do let ok <- isTrue c env (eval c env); pure (ForInStep.yield ok) else pure (ForInStep.yield r)) (fun ok s₃=>
      if ok = true then wpAny (model prog w) A (eval elt env) (fun x s₄=>
       wpAny (model prog w) A (call (.builtin "list.append") [acc,x]) (fun _ s₅=>∃ m,m < n/\I m s₅) (fun _ _=>False) s₄) (fun _ _=>False) s₃
      else ∃ m,m < n/\I m s₃) (fun _ _=>False) s₂) (fun _ _=>False) s₁) (fun _ _=>False) s₁) (fun _ _=>False) s)
  (n:Nat) (h:I n s):
  codeAny (model prog w) A (.compLoop (.ListComp elt [⟨target,iter,ifs,0⟩] scope pos) 0 it acc env) R s:=by
 refine codeAny_loop rfl I (fun n s hI=>?_) n h
 show wpAny _ A ((compTurn (.ListComp elt [⟨target,iter,ifs,0⟩] scope pos) 0 it acc env).onRaise (fun x=>do noteFrame x env; theTreesLotGoes x)) _ _ s
 refine wpAny_noted ?_
 rw [compTurn_list]
 refine Jaa (Jc1 (Jaa (Jbk (turn n s hI) (fun r s₁ h₁=>?_) fun _ _ h'=>h'.elim)))
 cases r with
 | none=>exact Jae h₁
 | some v=>
  refine Jaa (Jbk h₁ (fun _ s₁' h₁'=>?_) fun _ _ h'=>h'.elim)
  refine Jaa (Jbk h₁' (fun _ s₂ h₂=>Jaa (Jbk h₂ (fun ok s₃ h₃=>?_) fun _ _ h'=>h'.elim)) fun _ _ h'=>h'.elim)
  cases ok with
  | false=>exact Jae ⟨rfl,h₃⟩
  | true=>
   exact Jaa (Jaa (Jbk h₃ (fun x s₄ h₄=>Jaa (Jbk h₄ (fun _ s₅ h₅=>Jae (Jae ⟨rfl,h₅⟩)) fun _ _ h'=>h'.elim)) fun _ _ h'=>h'.elim))
end
def Zci (g:TG) (tt:TT) (te:TE) (J:It) (D:Addr) (σ0:St) (H1:Hp) (Q:VK):Prop:=
 ∃ W:Nat->Nat->St->Hp->Prop,(∃ m,W 0 m σ0 (upd H1 D (.lst [])))/\∀ i m σ' H2,W i m σ' H2->
  (J.stop i H2/\Q (.ref D) H2)\/(J.go i H2/\∀ x H3,J.yld i H2 x H3->g x σ' H3 fun σ4 H4=>tt σ4 H4 fun b H5=>
   if b = true then te σ4 H5 fun y H6=>∃ vs,H6 D = some (.lst vs)/\vs.length < sizeLine/\∃ m',m' < m/\W (i + 1) m' σ4 (upd H6 D (.lst (vs ++ [y])))
   else ∃ m',m' < m/\W (i + 1) m' σ4 H5)
def Zkw (k:Nat) (fr:List (Str × Nat)) (wi:TI) (g:TG) (tt:TT) (te:TE):TE:=fun σ H Q=>wi σ H fun J H1=>∀ D,H1 D = none->Zci g tt te J D (Ze3 k fr σ) H1 Q
section
variable {X:Cx} {tg iter elt:Expr} {ifs:List Expr} {scope:Scope} {pos:Pos} {own:List Str} {fr:List (Str × Nat)} {wi:TI} {g:TG} {tt:TT} {te:TE}
theorem Zkm {pins:List (Addr × Obj)} {s2:Shared} {σ:St} {H2:Hp} {it:Addr} {fp:List Addr} {tn:Nat->Heap->Prop} {J:It} {Q:VK} {cl:List (Str × Addr)} {RR:Value->Addr->Result->Shared->Prop} {E:Value->Shared->Prop}
  (hc:X.calm = true) (B:BlScope X scope own fr)
  (hb:∀ cl s H fp,PG (Zbv X (Zbu own fr) scope cl s H fp) tg g/\PTs (Zbv X (Zbu own fr) scope cl s H fp) ifs tt/\PE (Zbv X (Zbu own fr) scope cl s H fp) elt te)
  (hcl:∀ x c,cl.lookup x = some c->X.env.cells.lookup x = some c) (hcl2:∀ y ∈ scope.names,y.2 = .free->∃ c,cl.lookup y.1 = some c)
  (I2:Inv X pins σ H2 s2) (T:Turn X.prog X.w X.K tg J fp it tn) (st2:tn 0 s2.heap) (f2:∀ b ∈ fp,Zij X pins H2 b) (q:∀ D,H2 D = none->Zci g tt te J D (Ze3 own.length fr σ) H2 Q)
  (hRR:∀ D C s' H',Inv X pins σ H' s'->Q (.ref D) H'->(∃ m,s'.heap.Ns C m)->C ≠ X.env.locals->(∀ x c,X.env.cells.lookup x = some c->c ≠ C)->(∀ p ∈ X.pn ++ pins,p.1 ≠ C)->X.s₀.heap.objs.size<=C->H' C = none->RR (.ref D) C (.ok .next) s'):
  wpAny (model X.prog X.w) X.A (newList []) (fun acc s₃=>wpAny (model X.prog X.w) X.A (newFunctionEnv scope X.env.globals cl [] X.env.qual none .none (some X.env)) (fun cenv s₄=>
   codeAny (model X.prog X.w) X.A (.compStart (.ListComp elt [⟨tg,iter,ifs,0⟩] scope pos) 0 (.ref it) acc { cenv with scope:=relabel scope X.env }) (RR acc cenv.locals) s₄) E s₃) E s2:=by
 refine Jcm ?_
 have fr0:H2 s2.heap.objs.size = none:=I2.hok.fresh (Jaf _)
 have I3:=I2.lnew (its:=[]) (ys:=[]) (t':=s2.toks) .nil (Jbx _)
 generalize hs3:({ s2 with heap:=s2.heap.push { cls:=.type "list",data:=.seq ([]:List Value).toArray } }:Shared) = s3 at *
 have k23:∀ b o,s2.heap.get? b = some o->s3.heap.get? b = some o:=fun b o e=>by rw [<- hs3]; exact Jad _ e
 have sz3:s3.heap.objs.size = s2.heap.objs.size + 1:=by rw [<- hs3]; exact Jco ..
 have I3':Inv X pins σ (upd H2 s2.heap.objs.size (.lst [])) s3:=I3
 have fne:∀ b ∈ fp,b ≠ s2.heap.objs.size:=fun b hb z=>by
  obtain ⟨o,ho,_⟩:=T.obj 0 _ st2 b hb
  exact absurd (Jal ho) (by rw [z]; exact Jb0 _)
 have f3:∀ b ∈ fp,Zij X pins (upd H2 s2.heap.objs.size (.lst [])) b:=fun b hb=>⟨by rw [Zaf (fne b hb)]; exact (f2 b hb).1,(f2 b hb).2⟩
 have st3:tn 0 s3.heap:=T.keep 0 _ _ st2 fun b _ o e=>k23 b o e
 have hfo:∀ b ∈ fp,∃ o,s3.heap.get? b = some o:=fun b hb=>let ⟨o,ho,_⟩:=T.obj 0 _ st3 b hb; ⟨o,ho⟩
 refine Zdq fun h' hn hk hce=>?_
 have I4:=Zfu (own:=own) I3' B hcl hcl2 f3 hfo hn hk hce
 obtain ⟨hg,ht,he⟩:=hb cl s3 (upd H2 s2.heap.objs.size (.lst [])) fp
 have st4:tn 0 h':=T.keep 0 _ _ st3 fun b _ o e=>hk b o e
 have stat:∀ {H':Hp},(∀ b ∈ fp,H' b = none)->∀ b ∈ fp,Zij (Zbv X (Zbu own fr) scope cl s3 (upd H2 s2.heap.objs.size (.lst [])) fp) [] H' b:=fun {H'} hnn b hb=>
  ⟨hnn b hb,(I4.ok.exf b hb).1,I4.ok.exfs b hb,.inl hb,(I4.ok.exf b hb).2,fun p hp=>absurd (show p ∈ ([]:List (Addr × Obj)) from hp) (by simp)⟩
 obtain ⟨W,⟨m0,w0⟩,turn⟩:=q s2.heap.objs.size fr0
 have loop:codeAny (model X.prog X.w) X.A (.compLoop (.ListComp elt [⟨tg,iter,ifs,0⟩] scope pos) 0 (.ref it) (.ref s2.heap.objs.size) (Zbv X (Zbu own fr) scope cl s3 (upd H2 s2.heap.objs.size (.lst [])) fp).env)
   (RR (.ref s2.heap.objs.size) s3.heap.objs.size) { s3 with heap:=h' }:=by
  refine Zh9 (fun n s'=>∃ i σ' H',Inv (Zbv X (Zbu own fr) scope cl s3 (upd H2 s2.heap.objs.size (.lst [])) fp) [] σ' H' s'/\tn i s'.heap/\(∀ b ∈ fp,H' b = none)/\W i n σ' H') ?_ m0
   ⟨0,_,_,I4,st4,fun b hb=>(f3 b hb).1,w0⟩
  rintro n s5 ⟨i,σ5,H5,I5,st5,fr5,w5⟩
  rcases turn i n σ5 H5 w5 with ⟨stop,qn⟩ | ⟨go,step⟩
  ·refine thn (T.done (Zbv X (Zbu own fr) scope cl s3 (upd H2 s2.heap.objs.size (.lst [])) fp) rfl rfl rfl hc i [] s5 σ5 H5 _ I5 (stat fr5) st5 stop) fun r s6 ⟨hr,I6⟩=>?_
   subst hr
   have I7:Inv X pins σ H5 s6:=I3'.call' (ch:=fp) I6.os I6.base I6.hok I6.bare fun b hb=>⟨(f3 b hb).2.2.2.1,(f3 b hb).2.1,(f3 b hb).2.2.2.2.1,(f3 b hb).2.2.2.2.2⟩
   obtain ⟨m6,hn6,_⟩:=I6.loc
   refine hRR _ _ s6 H5 I7 qn ⟨m6,hn6⟩ (Jfq I3'.lt) (fun x c e=>?_) (fun p hp=>?_) I3'.sz I6.free
   ·obtain ⟨v,z⟩:=I3'.cell x c e
    exact Ja8 z.lt
   ·exact Ja8 (Jal (I3'.pin p hp).1)
  ·refine thn (T.item (Zbv X (Zbu own fr) scope cl s3 (upd H2 s2.heap.objs.size (.lst [])) fp) rfl rfl rfl hc i [] s5 σ5 H5 _ I5 (stat fr5) st5 go) fun r s6 ⟨u,hr,h6⟩=>?_
   subst hr
   refine thn h6 fun _ s7 ⟨x,H7,I7,r7,y7,st7,fr7⟩=>?_
   have I7':=I7.pinned (stat fr7) (T.obj _ _ st7)
   refine thn (hg _ s7 σ5 H7 x u _ I7' r7 (step x H7 y7)) fun _ s8 ⟨σ8,H8,I8,q8⟩=>?_
   refine thn (ht _ s8 σ8 H8 _ I8 q8) fun b s9 ⟨H9,I9,q9⟩=>?_
   have again:∀ {sA:Shared} {σA:St} {HA:Hp} {m':Nat},Inv (Zbv X (Zbu own fr) scope cl s3 (upd H2 s2.heap.objs.size (.lst [])) fp) ([] ++ Zeh fp s7.heap) σA HA sA->m' < n->W (i + 1) m' σA HA->
     ∃ m,m < n/\∃ i σ' H',Inv (Zbv X (Zbu own fr) scope cl s3 (upd H2 s2.heap.objs.size (.lst [])) fp) [] σ' H' sA/\tn i sA.heap/\(∀ b ∈ fp,H' b = none)/\W i m σ' H':=fun {sA σA HA m'} IA hm wA=>by
    refine ⟨m',hm,i + 1,σA,HA,IA.unpinned,T.keep _ _ _ st7 fun b hb o e=>(IA.pin (b,o) (Jah _ (Jah _ (Zbc hb e)))).1,fun b hb=>?_,wA⟩
    obtain ⟨o,e,d⟩:=T.obj _ _ st7 b hb
    exact (IA.pin (b,o) (Jah _ (Jah _ (Zbc hb e)))).2.1
   cases b with
   | false=>
    obtain ⟨m',hm,w9⟩:=q9
    exact again I9 hm w9
   | true=>
    have q9:te σ8 H9 _:=q9
    show wpAny _ _ _ _ _ _
    refine thn (he _ s9 σ8 H9 _ I9 q9) fun y sA ⟨vy,HA,IA,rA,vs,hvs,hlen,m',hm,wA⟩=>?_
    refine thn (Zba (X:=Zbv X (Zbu own fr) scope cl s3 (upd H2 s2.heap.objs.size (.lst [])) fp) _ sA σ8 HA (.ref s2.heap.objs.size) [vy] (.ref s2.heap.objs.size) [y] (fun _ HB=>W (i + 1) m' σ8 HB) IA rfl (.cons rA .nil) ⟨_,vs,vy,rfl,rfl,hvs,hlen,wA⟩) fun _ sB ⟨_,HB,IB,_,wB⟩=>?_
    exact again IB hm wB
 exact codeAny_compStart_list loop (T.self _ 0 _ _ _ st4 loop)
theorem SameBut.get {a:Addr} {h h':Heap} (x:Heap.SameBut a h h'):∀ b o,b ≠ a->h.get? b = some o->h'.get? b = some o:=fun b o n e=>(x.2 b n).trans e
theorem Zbj (hc:X.calm = true) (B:BlScope X scope own fr) (hi:PI X tg iter wi)
  (hb:∀ cl s H fp,PG (Zbv X (Zbu own fr) scope cl s H fp) tg g/\PTs (Zbv X (Zbu own fr) scope cl s H fp) ifs tt/\PE (Zbv X (Zbu own fr) scope cl s H fp) elt te)
  (hs:∀ x,foldedSetIterable iter X.env x = pure x:=by intro _; rfl):
  PE X (.ListComp elt [⟨tg,iter,ifs,0⟩] scope pos) (Zkw own.length fr wi g tt te):=by
 intro pins s σ H Q I h
 obtain ⟨cl,hclos,hcl,hcl2⟩:=Zhf (scope:=scope) (env:=X.env) fun y hy hf=>I.ok.has y.1 (B.free y hy hf)
 rw [eval_ListComp]
 refine Jdj (use:=none) rfl hs hclos B.kind B.loc (thn (hi pins s σ H _ I h) fun v s1 h1=>thn h1 fun itv s2 h2=>?_)
 obtain ⟨it,fp,tn,J,H2,e,I2,T,st2,f2,q⟩:=h2
 subst e
 refine Zkm (RR:=fun acc C=>compPost (model X.prog X.w) X.A X.xe none (EP X pins σ Q) acc C) (Q:=Q) hc B hb hcl hcl2 I2 T st2 f2 q ?_
 intro D C s' H' I' hq hn n1 n2 n3 n4 n5
 obtain ⟨m,hn⟩:=hn
 refine ⟨m,hn,fun h' hs'=>⟨.ref D,H',I'.turned (it:=C) (t':=s'.toks) (fun b o hb e=>SameBut.get hs' b o hb e) n5 (Jds (Jds n1)) (.inr n4) n2 n3,rfl,hq⟩⟩
theorem Zfo {i:Nat} {x:Str} {pos' spos:Pos} (hc:X.calm = true) (B:BlScope X scope own fr) (hi:PI X tg iter wi)
  (hb:∀ cl s H fp,PG (Zbv X (Zbu own fr) scope cl s H fp) tg g/\PTs (Zbv X (Zbu own fr) scope cl s H fp) ifs tt/\PE (Zbv X (Zbu own fr) scope cl s H fp) elt te)
  (hN:X.N.Nodup) (hix:X.N[i]? = some x) (hx:X.env.scope.names.lookup x = some .local)
  (hsw:swapsWith (.ListComp elt [⟨tg,iter,ifs,0⟩] scope pos) (some (.Name x pos')) spos.line X.env = pure true)
  (hs:∀ x,foldedSetIterable iter X.env x = pure x:=by intro _; rfl):
  PS X (.Assign [.Name x pos'] (.ListComp elt [⟨tg,iter,ifs,0⟩] scope pos) spos) (tAsg (Zkw own.length fr wi g tt te) (Zbe i)):=by
 intro pins s σ H D I h
 obtain ⟨cl,hclos,hcl,hcl2⟩:=Zhf (scope:=scope) (env:=X.env) fun y hy hf=>I.ok.has y.1 (B.free y hy hf)
 rw [exec_Assign_Name_used _ _ _ _ hsw]
 refine Jaa (Jc1 (Jaa ?_))
 show wpAny _ _ (do let _ <- comprehension (.ListComp elt [⟨tg,iter,ifs,0⟩] scope pos) scope X.env _ (newList []) false (eval iter X.env) (some (assign (.Name x pos') X.env))) _ _ s
 refine Jaa (Jbk (Jdj (use:=some (assign (.Name x pos') X.env)) (Q:=fun _ s'=>SP X pins D .next s') rfl hs hclos B.kind B.loc (thn (hi pins s σ H _ I h) fun v s1 h1=>thn h1 fun itv s2 h2=>?_))
  (fun _ s' hq=>Jae (Jae hq)) fun _ _ e=>e)
 obtain ⟨it,fp,tn,J,H2,e,I2,T,st2,f2,q⟩:=h2
 subst e
 refine Zkm (RR:=fun acc C=>compPost (model X.prog X.w) X.A X.xe (some (assign (.Name x pos') X.env)) (fun _ s'=>SP X pins D .next s') acc C) (Q:=fun v H'=>Zbe i v σ H' D.nx) hc B hb hcl hcl2 I2 T st2 f2 q ?_
 intro DD C s' H' I' hq hn n1 n2 n3 n4 n5
 obtain ⟨m,hn⟩:=hn
 show wpAny _ _ (assign (.Name x pos') X.env (.ref DD)) _ _ s'
 refine wpAny_assign_Name (Zhq I' hN hix (.inl hx) (v:=.ref DD) rfl (fun s3 I3 ⟨a,hsa,ha⟩=>?_) (.inr hx))
 have hCa:C ≠ a:=by
  rcases ha with z | z
  ·rw [z]; exact n1
  ·exact (n2 x a z).symm
 refine ⟨m,hn.sameBut hsa hCa,fun h' hs'=>⟨σ.set i (some (.ref DD)),H',I3.turned (it:=C) (t':=s3.toks) (fun b o hb e=>SameBut.get hs' b o hb e) n5 n1 (.inr n4) n2 n3,hq⟩⟩
end
section
variable {X:Cx}
theorem Zix:OpR X (binaryOp .Mult) (rI IntMulOk fun i j=>.int (i * j)):=
 opI fun i j t u s Q E c h=>PyProof.Rows.mul_int h c
def cV:V->Option Value
 | .ty n=>some (.type n)
 | .ref a=>some (.ref a)
 | _=>none
theorem Zdd:Zc3 X (.builtin "isinstance") (fun xs H Q=>∃ x y c t b,xs = [x,y]/\cV y = some c/\TyOf X.K H x t/\PySem.W.kitOne X.K t c = some b/\Q (.bl b) H):=by
 intro pins s σ H xs us Q I r h
 obtain ⟨x,y,c,t,b,rfl,hc,ty,e,q⟩:=h
 obtain ⟨u,v,rfl,rx,ry⟩:=vals2 r
 have hv:v = c:=by
  cases y <;> first | (cases hc; done) | (cases hc; cases ry; rfl)
 subst hv
 exact Znv I rx ty e fun tk=>⟨.bl b,H,I.tok _,rfl,q⟩
theorem Zek (bs:List Bool):(List.range bs.length).all (fun i=>(bs[i]?).getD true) = bs.all id:=by
 rw [Jci,Jck,Jck]
 constructor
 ·intro h b hb
  obtain ⟨i,hi,rfl⟩:=Jc3.mp hb
  have:=h i (Jcb.mpr hi)
  rw [Jac hi] at this
  exact this
 ·intro h i hi
  have hi:=Jcb.mp hi
  rw [Jac hi]
  exact h _ (Jcc hi)
theorem Zjh {A:Around} {prog:Program} {w:World} {bs:List Bool} {its:List Value} (r:Vals (bs.map V.bl) its):TruthOf prog w A (fun i v=>its.toArray[i]? = some v) (fun i=>(bs[i]?).getD true):=by
 intro i v s Q E hP hQ
 have hP:its[i]? = some v:=by simpa using hP
 have hl:=r.length
 rw [Jab] at hl
 have hi:i < bs.length:=by rw [hl]; exact (Jap.mp hP).1
 obtain ⟨u,hu,rv⟩:=r.get (i:=i) (x:=.bl bs[i]) (by rw [Jbe,Jac hi]; rfl)
 rw [hP] at hu
 cases hu
 cases rv
 have hQ:Q ((bs[i]?).getD true) s:=hQ
 rw [Jac hi] at hQ
 exact Jb5 hQ
theorem Zhi (hc:X.calm = true):Zc3 X (.builtin "all") (fun xs H Q=>∃ (p:Addr) (bs:List Bool),xs = [.ref p]/\SqL X.K H p (bs.map V.bl)/\Q (.bl (bs.all id)) H):=by
 intro pins s σ H xs us Q I r h
 obtain ⟨p,bs,rfl,hq,q⟩:=h
 obtain ⟨u,rfl,rx⟩:=Zgo r
 cases rx
 obtain ⟨its,rv,pl,hz⟩:=I.list hq
 have hl:=rv.length
 rw [Jab] at hl
 refine call_all_walk (Jev pl.isList ?_)
 have hne:p ≠ s.heap.objs.size:=fun e=>by
  obtain ⟨o,n,ho,_⟩:=pl
  exact absurd (Jal ho) (by rw [e]; exact Jb0 _)
 refine ⟨s.heap.objs.size,_,_,_,_,_,fun i=>(bs[i]?).getD true,rfl,Walks.list (A:=X.A.in1) (I.ok.hd hc) _ p hne its.toArray,⟨⟨_,Jat _ rfl,rfl,rfl⟩,pl.isList.at fun o e=>Jad _ e⟩,Zjh rv,fun h' tk kp=>?_⟩
 have e:(List.range its.toArray.size).all (fun i=>(bs[i]?).getD true) = bs.all id:=by
  rw [Jaq,<- hl]; exact Zek bs
 rw [e]
 have f:=I.fpOk (H':=H) (Jaf s.heap.objs.size) (I.hok.fresh (Jaf _))
 exact ⟨.bl _,H,(I.kept (h':=s.heap.push { cls:=.type "list_iterator",data:=.fields #[.ref p,.int 0 0] }) (t':=s.toks) fun b o e=>Jad _ e).turned (it:=s.heap.objs.size) (t':=tk) (fun b o hb e=>kp b o (by simpa using hb) e) f.1 f.2.1 f.2.2.2.1 f.2.2.2.2.1 f.2.2.2.2.2,rfl,q⟩
theorem Zfz:Zc3 X (.type "range") (fun xs H Q=>∃ j,xs = [.int j]/\∀ p,H p = none->Q (.ref p) (upd H p (.rng 0 j))):=by
 intro pins s σ H xs us Q I r h
 obtain ⟨j,rfl,q⟩:=h
 obtain ⟨u,rfl,t,rfl⟩:=Zgo r
 refine call_range_1 ⟨.ref s.heap.objs.size,_,I.laid (a:=s.heap.objs.size) (o:=.rng 0 j) (fun b o e=>Jad _ e) (Jaf _) ?_,rfl,q _ (I.hok.fresh (Jaf _))⟩
 exact ⟨_,_,_,Jat _ rfl⟩
def Zk2 (lo hi:Int):List V:=(List.range (hi - lo).toNat).map fun i=>V.int (lo + (i:Nat))
theorem Zdc (hc:X.calm = true):Zc3 X (.type "list") (fun xs H Q=>∃ p lo hi,xs = [.ref p]/\H p = some (.rng lo hi)/\(-(2 ^ 62)<=lo/\lo < 2 ^ 62/\-(2 ^ 62)<=hi/\hi < 2 ^ 62)/\(hi - lo).toNat<=2 ^ 24 /\
  ∀ l,H l = none->Q (.ref l) (upd H l (.lst (Zk2 lo hi)))):=by
 intro pins s σ H xs us Q I r h
 obtain ⟨p,lo,hi,rfl,hp,⟨h1,h2,h3,h4⟩,hz,q⟩:=h
 obtain ⟨u,rfl,rx⟩:=Zgo r
 cases rx
 obtain ⟨t,u,v,ho⟩:=(show ObjOk X.prog X.w H s.heap p (.rng lo hi) from I.hok p _ hp)
 have hn:Builtin.Range.rangeSize lo hi 1 = (((hi - lo).toNat:Nat):Int):=by rw [rangeSize_one]; split <;> omega
 refine call_list_range (I.ok.hd hc) (show IsRange s.heap p lo hi 1 t u v from ho) (small_one h1 h2 h3 h4) hn hz fun h' tk acc' c' kp e it=>?_
 refine ⟨.ref s.heap.objs.size,_,I.laid (a:=s.heap.objs.size) (o:=.lst (Zk2 lo hi)) (t':=tk) kp (Jaf _) ?_,rfl,q _ (I.hok.fresh (Jaf _))⟩
 refine ⟨by unfold Zk2; rw [Jab,Jcx]; exact hz,acc'.toList,c',?_,by simpa using e⟩
 have hlen:acc'.toList.length = (hi - lo).toNat:=by rw [Jbi]; exact it.1
 have gen:∀ (n:Nat) (k:Nat) (us:List Value),us.length = n->(∀ (i:Nat) w',us[i]? = some w'->∃ t,w' = Value.int (lo + ((k + i:Nat):Int)) t)->Vals ((List.range' k n).map fun (i:Nat)=>V.int (lo + (i:Nat))) us:=by
  intro n
  induction n with
  | zero=>intro k us hl _; cases us with | nil=>exact .nil | cons _ _=>cases hl
  | succ n ih=>
   intro k us hl hv
   cases us with
   | nil=>cases hl
   | cons x us=>
    refine .cons ?_ (ih (k + 1) us (by simpa using hl) fun i w' e=>?_)
    ·obtain ⟨t,e⟩:=hv 0 x rfl
     exact ⟨t,by simpa using e⟩
    ·obtain ⟨t,e'⟩:=hv (i + 1) w' (by simpa using e)
     exact ⟨t,by rw [e',show ((k + (i + 1):Nat):Int) = ((k + 1 + i:Nat):Int) by omega]⟩
 unfold Zk2
 rw [List.range_eq_range']
 refine gen _ 0 _ hlen fun i w' e'=>?_
 obtain ⟨t,e2⟩:=it.2 i w' (by simpa using e')
 exact ⟨t,by rw [e2]; congr 1 <;> simp⟩
end
inductive EqD (K:PySem.W.Frag) (H:Hp):Nat->V->V->Bool->Prop where
 | flat {n:Nat} {x y:V} (hx:Zfx x = true) (hy:Zfx y = true):EqD K H n x y (eqV x y)
 | same {n:Nat} {a:Addr}:EqD K H n (.ref a) (.ref a) true
 | list {n:Nat} {a c:Addr} {xs ys:List V} {bs:List Bool} (ne:a ≠ c) (ha:SqL K H a xs) (hc:SqL K H c ys) (hl:xs.length = ys.length) (hb:bs.length = xs.length)
   (he:∀ (j:Nat) x y b,xs[j]? = some x->ys[j]? = some y->bs[j]? = some b->EqD K H n x y b):EqD K H (n + 1) (.ref a) (.ref c) (bs.all id)
 | listL {n:Nat} {a c:Addr} {xs ys:List V} (ne:a ≠ c) (ha:SqL K H a xs) (hc:SqL K H c ys) (hl:xs.length ≠ ys.length):EqD K H (n + 1) (.ref a) (.ref c) false
 | tuple {n:Nat} {a c:Addr} {xs ys:List V} {bs:List Bool} (ne:a ≠ c) (ha:SqT K H a xs) (hc:SqT K H c ys) (hl:xs.length = ys.length) (hb:bs.length = xs.length)
   (he:∀ (j:Nat) x y b,xs[j]? = some x->ys[j]? = some y->bs[j]? = some b->EqD K H n x y b):EqD K H (n + 1) (.ref a) (.ref c) (bs.all id)
def Zjm (K:PySem.W.Frag) (H:Hp) (n:Nat) (xs ys:List V) (bs:List Bool):Prop:=
 xs.length = ys.length/\bs.length = xs.length/\∀ (j:Nat) x y b,xs[j]? = some x->ys[j]? = some y->bs[j]? = some b->EqD K H n x y b
section
variable {X:Cx} {pins:List (Addr × Obj)} {σ:St} {H:Hp} {s:Shared}
theorem Zha {A:Around} {xs ys:List V} {us vs:List Value} {bs:List Bool} (rx:Vals xs us) (ry:Vals ys vs) (hl:xs.length = ys.length) (hb:bs.length = xs.length)
  (ih:∀ (j:Nat) x y b,xs[j]? = some x->ys[j]? = some y->bs[j]? = some b->∀ u v,RelV x u->RelV y v->SeqAt.EqAt A s u v b):
  ∀ j (h1:j < us.toArray.size) (h2:j < vs.toArray.size),SeqAt.EqAt A s us.toArray[j] vs.toArray[j] ((bs[j]?).getD true):=by
 intro j h1 h2
 have e1:=rx.length
 have e2:=ry.length
 have h1':j < us.length:=by simpa using h1
 have h2':j < vs.length:=by simpa using h2
 have g1:xs[j]? = some (xs[j]'(by omega)):=Jac _
 have g2:ys[j]? = some (ys[j]'(by omega)):=Jac _
 have g3:bs[j]? = some (bs[j]'(by omega)):=Jac _
 obtain ⟨u,hu,ru⟩:=rx.get g1
 obtain ⟨v,hv,rv⟩:=ry.get g2
 have eu:us.toArray[j] = u:=by
  rw [Jac h1'] at hu; simpa using hu
 have ev:vs.toArray[j] = v:=by
  rw [Jac h2'] at hv; simpa using hv
 rw [eu,ev,g3]
 exact ih j _ _ _ g1 g2 g3 u v ru rv
theorem EqD.at {n:Nat} {x y:V} {b:Bool} (I:Inv X pins σ H s) (e:EqD X.K H n x y b):∀ {A:Around} {u v:Value},A.units + n < cLine->RelV x u->RelV y v->SeqAt.EqAt A s u v b:=by
 induction e with
 | flat hx hy=>intro A u v _ ru rv; exact Zrl ru rv hx hy
 | same=>intro A u v _ ru rv; cases ru; cases rv; exact SeqAt.EqAt.same _
 | @list n a c xs ys bs ne ha hc hl hb he ih=>
  intro A u v hA ru rv
  cases ru
  cases rv
  obtain ⟨its,r1,p1,_⟩:=I.list ha
  obtain ⟨its',r2,p2,_⟩:=I.list hc
  have e1:=r1.length
  have e2:=r2.length
  have q:=SeqAt.RcAt.lists (e:=fun j=>(bs[j]?).getD true) p1.isList p2.isList (by simp; omega) (by omega) (Zha (A:=A.in1) r1 r2 hl hb fun j x y b h1 h2 h3 u v ru rv=>ih j x y b h1 h2 h3 (show A.units + 1 + n < cLine by omega) ru rv)
  rw [show its.toArray.size = bs.length by simp; omega,Zek] at q
  exact Jfv ne q
 | @listL n a c xs ys ne ha hc hl=>
  intro A u v hA ru rv
  cases ru
  cases rv
  obtain ⟨its,r1,p1,_⟩:=I.list ha
  obtain ⟨its',r2,p2,_⟩:=I.list hc
  have e1:=r1.length
  have e2:=r2.length
  exact Jfv ne (SeqAt.RcAt.lists_lengths p1.isList p2.isList (by simp; omega) (by omega))
 | @tuple n a c xs ys bs ne ha hc hl hb he ih=>
  intro A u v hA ru rv
  cases ru
  cases rv
  obtain ⟨its,r1,p1,_⟩:=I.tuple ha
  obtain ⟨its',r2,p2,_⟩:=I.tuple hc
  have e1:=r1.length
  have e2:=r2.length
  have q:=SeqAt.RcAt.tuples (e:=fun j=>(bs[j]?).getD true) p1 p2 (by omega) (Zha (A:=A.in1) r1 r2 hl hb fun j x y b h1 h2 h3 u v ru rv=>ih j x y b h1 h2 h3 (show A.units + 1 + n < cLine by omega) ru rv)
  rw [show min its.toArray.size its'.toArray.size = bs.length by simp; omega,Zek,show (its.toArray.size == its'.toArray.size) = true by simp; omega,Bool.and_true] at q
  exact Jfv ne q
def rEqL (K:PySem.W.Frag) (neg:Bool):R2:=fun x y H Q=>∃ a c xs ys,x = .ref a/\y = .ref c/\SqL K H a xs/\SqL K H c ys /\
 ((xs.length ≠ ys.length/\Q (.bl neg) H)\/∃ bs,Zjm K H 6 xs ys bs/\Q (.bl (if neg then !bs.all id else bs.all id)) H)
def rEqT (K:PySem.W.Frag) (neg:Bool):R2:=fun x y H Q=>∃ a c xs ys bs,x = .ref a/\y = .ref c/\SqT K H a xs/\SqT K H c ys/\Zjm K H 6 xs ys bs/\Q (.bl (if neg then !bs.all id else bs.all id)) H
theorem Zq8 (hu:X.A.units + 8 < cLine):OpR X (compareOp .Eq) (rEqL X.K false):=by
 intro pins s σ H x y v u Q I rx ry h
 obtain ⟨a,c,xs,ys,rfl,rfl,ha,hc,h⟩:=h
 cases rx
 cases ry
 obtain ⟨its,r1,p1,_⟩:=I.list ha
 obtain ⟨its',r2,p2,_⟩:=I.list hc
 have e1:=r1.length
 have e2:=r2.length
 rcases h with ⟨hne,q⟩ | ⟨bs,⟨hl,hb,he⟩,q⟩
 ·exact SeqAt.eq_list_lengthsAt p1.isList p2.isList (by simp; omega) (by omega) ⟨.bl false,H,I,rfl,q⟩
 ·refine SeqAt.eq_listAt (e:=fun j=>(bs[j]?).getD true) p1.isList p2.isList (by simp; omega) (by omega) (Zha (A:=X.A.in1) r1 r2 hl hb fun j x y b h1 h2 h3 u v ru rv=>(he j x y b h1 h2 h3).at I (show X.A.units + 1 + 6 < cLine by omega) ru rv) ?_
  rw [show its.toArray.size = bs.length by simp; omega,Zek]
  exact ⟨.bl (bs.all id),H,I,rfl,q⟩
end
theorem Zns (K:PySem.W.Frag):PySem.W.kitOne K (.type "int") (.type "int") = some true:=by rfl
theorem Zlf (K:PySem.W.Frag):PySem.W.kitOne K (.type "int") (.type "bool") = some false:=by kernel_rfl
theorem Znr (K:PySem.W.Frag):PySem.W.kitOne K (.type "tuple") (.type "tuple") = some true:=by rfl
theorem Zi3 (K:PySem.W.Frag):PySem.W.kitOne K (.type "list") (.type "list") = some true:=by rfl
structure Cal (P:Program) (w:World) (K:PySem.W.Frag) (mg:Str->Option Value) (base:Heap) (x:Str) (k:Nat) (sp:Sp):Prop where
 ex:∃ (f:Addr) (fd:FuncData) (ps:List Str),FnOk P w K mg base CX0 k f fd ps sp/\mg x = some (.ref f)/\PySem.W.keepIn K (.ref f) = true/\Binds K fd ps []
theorem pe_cal {X:Cx} {x:Str} {k:Nat} {sp:Sp} {e:Expr} {es:List Expr} {t:TA} {p pos:Pos} (C:Cal X.prog X.w X.K X.mg X.base x k sp) (hr:Room k X.A) (hg:Gl X x) (ha:PA X (e :: es) t)
  (hdb:(x == ("__debug__" : Str)) = false:=by decide) (he:starEach (e :: es) X.env = (false,eval e X.env) :: starEach es X.env:=by rfl) (hpl:(backTo pos (starEach es X.env)).any (·.1) = false:=by rfl):
  PE X (.Call (.Name x p) (e :: es) [] pos) (Zl0 sp [] E0 t):=by
 obtain ⟨f,fd,ps,F,hm,hk,hb⟩:=C.ex
 exact Zm2 F hr hg hm hk hb .nil pass0 ha hdb he hpl
structure CalM (P:Program) (w:World) (K:PySem.W.Frag) (mg:Str->Option Value) (base:Heap) (C:Addr) (m:Str) (k:Nat) (sp:Sp):Prop where
 ex:∃ (f:Addr) (fd:FuncData) (ps:List Str),FnOk P w K mg base CX0 k f fd ps sp/\Meth K C m f/\Binds K fd ps []
structure CalI (P:Program) (w:World) (K:PySem.W.Frag) (mg:Str->Option Value) (base:Heap) (x:Str) (C:Addr) (k:Nat) (sp:Sp):Prop where
 ex:∃ (f:Addr) (fd:FuncData) (ps:List Str),FnOk P w K mg base CX0 k f fd ps sp/\Mk K C f/\mg x = some (.ref C)/\Binds K fd ps []
theorem pe_new {X:Cx} {x:Str} {C:Addr} {k:Nat} {sp:Sp} {e:Expr} {es:List Expr} {t:TA} {p pos:Pos} (M:CalI X.prog X.w X.K X.mg X.base x C k sp) (hr:Room (k + 1) X.A) (hg:Gl X x) (ha:PA X (e :: es) t)
  (hdb:(x == ("__debug__" : Str)) = false:=by decide) (he:starEach (e :: es) X.env = (false,eval e X.env) :: starEach es X.env:=by rfl) (hpl:(backTo pos (starEach es X.env)).any (·.1) = false:=by rfl):
  PE X (.Call (.Name x p) (e :: es) [] pos) (Zo1 C sp [] E0 t):=by
 obtain ⟨f,fd,ps,F,hm,hk,hb⟩:=M.ex
 exact pe_make hm F hr hg hk hb .nil pass0 ha hdb he hpl
def blOk (outer:List (Str × NameKind)) (N:List Str) (scope:Scope) (fr:List (Str × Nat)):Bool:=
 scope.kind == .function && scope.names.all (fun y=>y.2 != .free || outer.lookup y.1 == some .cell || outer.lookup y.1 == some .free) && scope.names.all (fun y=>scope.names.lookup y.1 == some y.2) &&
 fr.all fun y=>scope.names.lookup y.1 == some .free && N[y.2]? == some y.1
theorem Zcp {X:Cx} {scope:Scope} {own:List Str} {fr:List (Str × Nat)} (h:blOk X.env.scope.names X.N scope fr = true):BlScope X scope own fr:=by
 unfold blOk at h
 simp only [Jb4,Jck] at h
 obtain ⟨⟨⟨h1,h2⟩,h3⟩,h4⟩:=h
 refine ⟨?_,fun y hy hf=>?_,fun y hy hl=>?_,fun y hy=>?_,fun y hy=>?_⟩
 ·cases e:scope.kind <;> rw [e] at h1 <;> first | rfl | (exact absurd h1 (by decide))
 ·have:=h2 y hy
  rw [hf] at this
  simp only [Jfg,Jbz] at this
  rcases this with (q | q) | q
  ·exact absurd q (by decide)
  ·exact .inl q
  ·exact .inr q
 ·have:=h3 y hy
  rw [hl] at this
  exact Jbz.mp this
 ·exact Jbz.mp (h3 y hy)
 ·have:=h4 y hy
  exact ⟨Jbz.mp this.1,Jbz.mp this.2⟩
def Sh (k:Nat) (cap σ:St):Prop:=∃ o,o.length = k/\σ = o ++ cap
theorem Sh.mk1 {cap:St} {a:Option V}:Sh 1 cap (a :: cap):=⟨[a],rfl,rfl⟩
theorem Sh.one {cap σ:St} (h:Sh 1 cap σ):∃ a,σ = a :: cap:=by
 obtain ⟨o,h1,rfl⟩:=h
 match o,h1 with
 | [a],_=>exact ⟨a,rfl⟩
def Zcr (fr:List (Str × Nat)) (σ:St):St:=fr.map fun y=>(σ[y.2]?).getD none
def Wv (n k:Nat) (cap:St) (Pv:Nat->List V->Hp->Prop):Nat->Nat->St->Hp->Prop:=fun i m σ H=>m = n - i/\i<=n/\Sh k cap σ/\∃ vs,Pv i vs H
def Lf (D:Addr) (n k:Nat) (cap:St) (Pv:Nat->List V->Hp->Prop) (i:Nat) (σ4:St) (y:V) (H6:Hp):Prop:=
 ∃ vs,H6 D = some (.lst vs)/\vs.length < sizeLine/\∃ m',m' < n - i/\Wv n k cap Pv (i + 1) m' σ4 (upd H6 D (.lst (vs ++ [y])))
def Lf0 (n k:Nat) (cap:St) (Pv:Nat->List V->Hp->Prop) (i:Nat) (σ4:St) (H5:Hp):Prop:=∃ m',m' < n - i/\Wv n k cap Pv (i + 1) m' σ4 H5
theorem leaf {D:Addr} {n k:Nat} {cap:St} {Pv:Nat->List V->Hp->Prop} {i:Nat} {σ4:St} {y:V} {H6:Hp} {vs ws:List V} (hi:i < n) (sh:Sh k cap σ4) (hD:H6 D = some (.lst vs)) (hl:vs.length < sizeLine)
  (p:Pv (i + 1) ws (upd H6 D (.lst (vs ++ [y])))):Lf D n k cap Pv i σ4 y H6:=⟨vs,hD,hl,n - (i + 1),by omega,rfl,hi,sh,ws,p⟩
theorem Zp2 {n k:Nat} {cap:St} {Pv:Nat->List V->Hp->Prop} {i:Nat} {σ4:St} {H5:Hp} {ws:List V} (hi:i < n) (sh:Sh k cap σ4) (p:Pv (i + 1) ws H5):Lf0 n k cap Pv i σ4 H5:=⟨n - (i + 1),by omega,rfl,hi,sh,ws,p⟩
def Zdv (g:TG) (tt:TT) (te:TE) (D:Addr) (n k:Nat) (cap:St) (Pv:Nat->List V->Hp->Prop) (i:Nat) (x:V) (σ':St) (H:Hp):Prop:=
 g x σ' H fun σ4 H4=>tt σ4 H4 fun b H5=>if b = true then te σ4 H5 fun y H6=>Lf D n k cap Pv i σ4 y H6 else Lf0 n k cap Pv i σ4 H5
section
variable {K:PySem.W.Frag} {a D:Addr} {xs:List V} {g:TG} {tt:TT} {te:TE} {k:Nat} {fr:List (Str × Nat)} {σ:St} {H1:Hp} {Q:VK}
theorem sh0:Sh k (Zcr fr σ) (Ze3 k fr σ):=⟨List.replicate k none,Jb1,rfl⟩
theorem Zhc {J:It} {n:Nat} (it:Nat->V->Prop) (Pv:Nat->List V->Hp->Prop) (h0:Pv 0 [] (upd H1 D (.lst [])))
  (go:∀ i vs H,i < n->Pv i vs H->J.go i H/\∀ x H',J.yld i H x H'->H' = H/\it i x) (stop:∀ vs H,Pv n vs H->J.stop n H)
  (hs:∀ i x vs σ' H,i < n->it i x->Sh k (Zcr fr σ) σ'->Pv i vs H->Zdv g tt te D n k (Zcr fr σ) Pv i x σ' H) (hd:∀ vs H,Pv n vs H->Q (.ref D) H):Zci g tt te J D (Ze3 k fr σ) H1 Q:=by
 refine ⟨Wv n k (Zcr fr σ) Pv,⟨n,by simp,Jbx _,sh0,[],h0⟩,?_⟩
 rintro i m σ' H2 ⟨rfl,hi,sh,vs,p⟩
 by_cases hlt:i < n
 ·obtain ⟨g1,g2⟩:=go i vs H2 hlt p
  refine .inr ⟨g1,fun x H3 y=>?_⟩
  obtain ⟨rfl,hx⟩:=g2 x H3 y
  exact hs i x vs σ' _ hlt hx sh p
 ·have e:i = n:=by omega
  subst e
  exact .inl ⟨stop vs H2 p,hd vs H2 p⟩
theorem Zb9 (Pv:Nat->List V->Hp->Prop) (h0:Pv 0 [] (upd H1 D (.lst []))) (hl:∀ i vs H,i<=xs.length->Pv i vs H->SqL K H a xs)
  (hs:∀ i x vs σ' H,i < xs.length->xs[i]? = some x->Sh k (Zcr fr σ) σ'->Pv i vs H->Zdv g tt te D xs.length k (Zcr fr σ) Pv i x σ' H) (hd:∀ vs H,Pv xs.length vs H->Q (.ref D) H):Zci g tt te (Itl K a) D (Ze3 k fr σ) H1 Q:=
 Zhc (fun i x=>xs[i]? = some x) Pv h0 (fun i vs H hi p=>⟨⟨xs,xs[i],hl i vs H (Jbs hi) p,by simp [hi]⟩,fun x H' y=>⟨y.1,y.2 xs (hl i vs H (Jbs hi) p)⟩⟩)
  (fun vs H p=>⟨xs,hl _ vs H (Jaf _) p,Jaf _⟩) hs hd
theorem Zqi (Pv:Nat->List V->Hp->Prop) (h0:Pv 0 [] (upd H1 D (.lst []))) (hl:∀ i vs H,i<=xs.length->Pv i vs H->SqT K H a xs)
  (hs:∀ i x vs σ' H,i < xs.length->xs[i]? = some x->Sh k (Zcr fr σ) σ'->Pv i vs H->Zdv g tt te D xs.length k (Zcr fr σ) Pv i x σ' H) (hd:∀ vs H,Pv xs.length vs H->Q (.ref D) H):Zci g tt te (Itt K a) D (Ze3 k fr σ) H1 Q:=
 Zhc (fun i x=>xs[i]? = some x) Pv h0 (fun i vs H hi p=>⟨⟨xs,xs[i],hl i vs H (Jbs hi) p,by simp [hi]⟩,fun x H' y=>⟨y.1,y.2 xs (hl i vs H (Jbs hi) p)⟩⟩)
  (fun vs H p=>⟨xs,hl _ vs H (Jaf _) p,Jaf _⟩) hs hd
theorem Zkn {lo:Int} {n:Nat} (Pv:Nat->List V->Hp->Prop) (h0:Pv 0 [] (upd H1 D (.lst [])))
  (hs:∀ i x vs σ' H,i < n->x = .int (lo + i)->Sh k (Zcr fr σ) σ'->Pv i vs H->Zdv g tt te D n k (Zcr fr σ) Pv i x σ' H) (hd:∀ vs H,Pv n vs H->Q (.ref D) H):Zci g tt te (Itr lo n) D (Ze3 k fr σ) H1 Q:=
 Zhc (fun i x=>x = .int (lo + i)) Pv h0 (fun i vs H hi p=>⟨hi,fun x H' y=>y⟩) (fun vs H p=>Jaf _) hs hd
end
def Ext (l:Addr) (H H':Hp):Prop:=∀ b o,b ≠ l->H b = some o->H' b = some o
theorem Ext.trans {l:Addr} {H H1 H2:Hp} (a:Ext l H H1) (b:Ext l H1 H2):Ext l H H2:=fun c o n e=>b c o n (a c o n e)
theorem Ext.new {l p:Addr} {H:Hp} {o:HO} (h:H p = none):Ext l H (upd H p o):=fun c u _ e=>by rw [Zaf (Zad e h)]; exact e
theorem Ext.set {l:Addr} {H:Hp} {o:HO}:Ext l H (upd H l o):=fun c u n e=>by rw [Zaf n]; exact e
theorem Same.ext {l:Addr} {H H':Hp} (s:Same H H'):Ext l H H':=fun c o _ e=>s c o e
theorem Same.new {p:Addr} {H:Hp} {o:HO} (h:H p = none):Same H (upd H p o):=fun c u e=>by rw [Zaf (Zad e h)]; exact e
theorem Same.upd {p:Addr} {H H':Hp} {o:HO} (s:Same H H') (h:H p = none):Same H (upd H' p o):=fun c u e=>by rw [Zaf (Zad e h)]; exact s c u e
theorem Ext.upd {l p:Addr} {H H':Hp} {o:HO} (s:Ext l H H') (h:H p = none):Ext l H (upd H' p o):=fun c u n e=>by rw [Zaf (Zad e h)]; exact s c u n e
theorem Ext.free {l p:Addr} {H H':Hp} (s:Ext l H H') (n:p ≠ l) (h:H' p = none):H p = none:=by
 cases e:H p with
 | none=>rfl
 | some o=>rw [s p o n e] at h; cases h
theorem cx_K {CX:CXT} {P:Program} {w:World} {K:PySem.W.Frag} {mg:Str->Option Value} {base:Heap} {N:List Str} {qual:Str} {scope:Scope} {f:Addr} {cd:Value} {A:Around} {outer:List Env} {s:Shared} {H:Hp} {E:XK}:(Zi9 CX P w K mg base N qual scope f cd A outer s H E).K = K:=rfl
theorem in_K {X:Cx} {N:List Str} {scope:Scope} {cl:List (Str × Addr)} {s:Shared} {H:Hp} {fp:List Addr}:(Zbv X N scope cl s H fp).K = X.K:=rfl
theorem wish_K {X:Cx} {E:Value->Shared->Prop}:(X.wish E).K = X.K:=rfl
theorem Zj6 {X:Cx} {x:Str} {i:Int} {pos:Pos} (hg:Gl X x) (hm:∃ t,X.mg x = some (.int i t)) (hd:(x == ("__debug__" : Str)) = false:=by decide):PE X (.Name x pos) (tC (.int i)):=by
 obtain ⟨t,e⟩:=hm
 exact pe_glob hg e ⟨t,rfl⟩ hd
theorem Zbw {α:Type} {xs:List α} {i:Int} {v:α} (h0:0<=i) (h:xs[i.toNat]? = some v):atI xs i = some v:=by
 have e:((i.toNat:Nat):Int) = i:=Jdm h0
 rw [<- e]
 exact atI_nat h
def Zbm:Expr->Bool
 | .Starred _ _=>true
 | _=>false
theorem Za9 {e:Expr} {es:List Expr} {env:Env} (h:Zbm e = false):starEach (e :: es) env = (false,eval e env) :: starEach es env:=by
 cases e <;> first | rfl | cases h
theorem Zc4 {pos:Pos} {env:Env}:∀ {es:List Expr},es.all (fun x=>!Zbm x) = true->(backTo pos (starEach es env)).any (·.1) = false
 | [],_=>rfl
 | e :: es,h=>by
  rw [Jga,Jb4] at h
  have h1:Zbm e = false:=by simpa using h.1
  rw [Za9 h1]
  show ((false,_).1 || (backTo pos (starEach es env)).any (·.1)) = false
  rw [Zc4 h.2]
  rfl
section
variable {X:Cx} {x:Str} {p pos:Pos} {e:Expr} {es:List Expr} {te:TE} {t:TA} {id T:String} {r:List V->Hp->VK->Prop}
theorem pa_c (ha:PE X e te) (hr:PA X es t) (h:Zbm e = false:=by rfl):PA X (e :: es) (Zf4 te t):=pa_cons ha hr (Za9 h)
theorem Zb2 (hc:Zc3 X (.builtin id) r) (hg:Gl X x) (hm:X.mg x = none) (hv:bootBuiltins x = some (.builtin id)) (ha:PA X (e :: es) t) (h:Zbm e = false:=by rfl) (h2:es.all (fun x=>!Zbm x) = true:=by rfl)
  (hn:x ≠ "__name__" := by decide) (hdb:(x == ("__debug__" : Str)) = false:=by decide):PE X (.Call (.Name x p) (e :: es) [] pos) (tCB r t):=Zpk hc hg hm hv ha hn hdb (Za9 h) (Zc4 h2)
theorem Zd7 (hc:Zc3 X (.type T) r) (hg:Gl X x) (hm:X.mg x = none) (hv:bootBuiltins x = some (.type T)) (ha:PA X (e :: es) t) (h:Zbm e = false:=by rfl) (h2:es.all (fun x=>!Zbm x) = true:=by rfl)
  (hn:x ≠ "__name__" := by decide) (hdb:(x == ("__debug__" : Str)) = false:=by decide):PE X (.Call (.Name x p) (e :: es) [] pos) (tCB r t):=Zm1 hc hg hm hv ha hn hdb (Za9 h) (Zc4 h2)
theorem Zct {k:Nat} {sp:Sp} (C:Cal X.prog X.w X.K X.mg X.base x k sp) (hr:Room k X.A) (hg:Gl X x) (ha:PA X (e :: es) t) (h:Zbm e = false:=by rfl) (h2:es.all (fun x=>!Zbm x) = true:=by rfl)
  (hdb:(x == ("__debug__" : Str)) = false:=by decide):PE X (.Call (.Name x p) (e :: es) [] pos) (Zl0 sp [] E0 t):=pe_cal C hr hg ha hdb (Za9 h) (Zc4 h2)
theorem pe_n {C:Addr} {k:Nat} {sp:Sp} (M:CalI X.prog X.w X.K X.mg X.base x C k sp) (hr:Room (k + 1) X.A) (hg:Gl X x) (ha:PA X (e :: es) t) (h:Zbm e = false:=by rfl) (h2:es.all (fun x=>!Zbm x) = true:=by rfl)
  (hdb:(x == ("__debug__" : Str)) = false:=by decide):PE X (.Call (.Name x p) (e :: es) [] pos) (Zo1 C sp [] E0 t):=pe_new M hr hg ha hdb (Za9 h) (Zc4 h2)
theorem Zf6 {tg a:Expr} {ta:TA} (hg:Gl X "range") (hm:X.mg "range" = none) (ha:PA X [a] ta) (h:Zbm a = false:=by rfl):PI X tg (.Call (.Name "range" p) [a] [] pos) (iRng1 ta):=Zmw hg hm ha (Za9 h)
theorem Zmx {tg a b:Expr} {ta:TA} (hg:Gl X "range") (hm:X.mg "range" = none) (ha:PA X [a,b] ta) (h:Zbm a = false:=by rfl) (h2:Zbm b = false:=by rfl):PI X tg (.Call (.Name "range" p) [a,b] [] pos) (iRng2 ta):=
 Zmv hg hm ha (by rw [Za9 h,Za9 h2]; rfl) (Za9 h2)
end
theorem scal_ii {i j:Int}:scal (.int i) (.int j) = true:=rfl
theorem scal_bb {i j:Bool}:scal (.bl i) (.bl j) = true:=rfl
theorem scal_ss {i j:Str}:scal (.str i) (.str j) = true:=rfl
theorem Zpe {X:Cx} {x:Str} {n:String} {pos:Pos} (hg:Gl X x) (hm:X.mg x = none) (hv:bootBuiltins x = some (.type n)) (hn:x ≠ "__name__" := by decide) (hd:(x == ("__debug__" : Str)) = false:=by decide):PE X (.Name x pos) (tC (.ty n)):=pe_bltn (v:=.ty n) hg hm hv rfl hn hd
section
variable {X:Cx} (K:PySem.W.Frag) (hK:X.K = K)
include hK
theorem Zhh:Zc3 X (.builtin "len") (fun xs H Q=>∃ p ys,xs = [.ref p]/\(SqL K H p ys\/SqT K H p ys)/\Q (.int ys.length) H):=by subst hK; exact Zaq
theorem Zhg:Zc3 X (.type "list") (fun xs H Q=>∃ p ys,xs = [.ref p]/\(SqL K H p ys\/SqT K H p ys)/\∀ l,H l = none->Q (.ref l) (upd H l (.lst ys))):=by subst hK; exact Zb3
theorem ix_tupK:IxR X (rIxT K):=by subst hK; exact ix_tup
theorem Zm0 {e:Expr} {f:Str} {pos:Pos} {ta:TE} (he:PE X e ta) (hb:attributeBase e f X.env (eval e X.env) = eval e X.env):PE X (.Attribute e f pos) (tFld K ta f):=by subst hK; exact Zhw he hb
theorem Zj3 {tg l:Expr} {tl:TE} (hl:PE X l tl):PI X tg l (Zi5 K tl):=by subst hK; exact Zaz hl
theorem pi_tupK {tg l:Expr} {tl:TE} (hl:PE X l tl):PI X tg l (iTup K tl):=by subst hK; exact Zq4 hl
theorem Zk5:OpR X (compareOp .In) (rIn K false):=by subst hK; exact Zhz
theorem Zg5:OpR X (compareOp .NotIn) (rIn K true):=by subst hK; exact Zhy
end
theorem cutI {c:TT} {A B:TS} {D:Ends} {σ:St} {H:Hp} (h:∀ A',A' = A->tIfS c A' B D σ H):tIfS c A B D σ H:=h A rfl
end L2
set_option maxHeartbeats 1000000
namespace HT
open PySem PySem.Spec PyProof.Rows
section
variable {prog:Program} {w:World} {A:Around} {E:Value->Shared->Prop} {s:Shared}
end
end HT
namespace L2
open PySem PySem.Spec PyProof.Rows
section
variable {X:Cx} {e es:Expr} {te ts:TE} {pos p2:Pos}
end
end L2
namespace L2
open PySem PySem.Spec PyProof.Rows
section
variable {X:Cx}
def rGetL (K:PySem.W.Frag):V->V->Hp->VK->Prop:=fun x y H Q=>∃ p xs i v,x = .ref p/\y = .int i/\0<=i/\SqL K H p xs/\xs[i.toNat]? = some v/\Q v H
theorem Zki:PGet X (rGetL X.K):=by
 intro pins s σ H x y v u Q I rx ry h
 obtain ⟨p,xs,i,z,rfl,rfl,h0,hq,he,q⟩:=h
 cases rx
 obtain ⟨t,rfl⟩:=ry
 obtain ⟨its,r,pl,hz⟩:=I.list hq
 obtain ⟨w,ew,rw'⟩:=r.get he
 have hl:=r.length
 have hn:=Zgh
 have hi:i.toNat < xs.length:=(Jap.mp he).1
 exact wpAny_getItem_list pl.isList h0 (by omega) (by simpa using ew) ⟨z,H,I,rw',q⟩
end
def Big (x:Int):Prop:=-(100000000000000000000000000000000) < x/\x < 100000000000000000000000000000000
theorem Big.mul {x y:Int} (hx:Big x) (hy:Big y):IntMulOk x y:=by
 have e:(2:Nat) ^ 200 > 100000000000000000000000000000000:=by decide +kernel
 have b:∀ {z:Int},Big z->Builtin.Int.intBits z<=2 ^ 20:=fun {z} h=>by
  have hz:z.natAbs < 2 ^ 200:=by have:=h.1; have:=h.2; omega
  unfold Builtin.Int.intBits
  split
  ·exact Jbx _
  ·rename_i h0
   have:z.natAbs.log2 < 200:=(Nat.log2_lt (by intro c; apply h0; simpa using c)).mpr hz
   have e2:(2:Nat) ^ 20 = 1048576:=by decide
   rw [e2]
   omega
 exact .of_bits (b hx) (b hy)
def atZ (ns:List Int) (i:Int):Int:=ns.getD i.toNat 0
theorem Zcq {ns:List Int} {i:Int} (h:i.toNat < ns.length):(ns.map V.int)[i.toNat]? = some (.int (atZ ns i)):=by
 rw [Jbe,Jac h]
 simp [atZ,h]
theorem Zjj {ns:List Int} {i:Int} (h:i.toNat < ns.length):atZ ns i ∈ ns:=by
 unfold atZ
 rw [Jbl,Jac h]
 exact Jcc h
theorem Zf0 {ns:List Int} {k i v:Int} (h:k.toNat < ns.length) (h0:0<=k) (hi:0<=i):atZ (ns.set k.toNat v) i = if i = k then v else atZ ns i:=by
 unfold atZ
 rw [Jbl,List.getElem?_set]
 by_cases e:i = k
 ·subst e
  simp [h]
 ·rw [if_neg e,if_neg (by omega),Jbl]
def arrZ (a b:List Int):List (Int × Int)->Int
 | []=>0
 | q :: ps=>arrZ a b ps + atZ a q.1 * atZ b q.2
def Zig (a b:List Int) (ps:List (Int × Int)):Int:=arrZ a b ps.reverse
theorem Zlp (a b:List Int) (ps:List (Int × Int)) (q:Int × Int):Zig a b (ps ++ [q]) = Zig a b ps + atZ a q.1 * atZ b q.2:=by
 unfold Zig
 rw [List.reverse_append]
 rfl
def dotZ (a b:List Int):Nat->Int
 | 0=>0
 | n + 1=>dotZ a b n + atZ a n * atZ b n
def Zn6 (ps:List (Int × Int)) (a b:List Int):Int:=dotZ a b a.length - Zig a b ps
def mirS (ns:List Int) (k:Int):List (Int × Int)->Int
 | []=>0
 | q :: ps=>mirS ns k ps + (if q.1 = k then atZ ns q.2 else if q.2 = k then atZ ns q.1 else 0)
def Zk7 (ns:List Int) (k:Int) (ps:List (Int × Int)):Int:=mirS ns k ps.reverse
theorem Znh (ns:List Int) (k:Int) (ps:List (Int × Int)) (q:Int × Int):Zk7 ns k (ps ++ [q]) = Zk7 ns k ps + (if q.1 = k then atZ ns q.2 else if q.2 = k then atZ ns q.1 else 0):=by
 unfold Zk7
 rw [List.reverse_append]
 rfl
def Zh2 (k:Int) (ns:List Int) (ps:List (Int × Int)):List Int:=ns.set k.toNat (Zk7 ns k ps - atZ ns k)
theorem Zhk {ns:List Int} (h:∀ n ∈ ns,Big n) {i:Int} (hi:i.toNat < ns.length):Big (atZ ns i):=h _ (Zjj hi)
end L2
namespace L2
open PySem PySem.Spec PyProof.Rows
section
variable {X:Cx} {pins:List (Addr × Obj)} {σ:St} {H:Hp} {s:Shared} {h':Heap}
end
section
variable {X:Cx}
theorem Zqk (hc:X.calm = true):Zc3 X (.builtin "sum") (fun xs H Q=>∃ (p:Addr) (ns:List Int),xs = [.ref p]/\SqL X.K H p (ns.map V.int)/\Q (.int (preSum (fun i=>ns.getD i 0) ns.length)) H):=by
 intro pins s σ H xs us Q I r h
 obtain ⟨p,ns,rfl,hq,q⟩:=h
 obtain ⟨u,rfl,rx⟩:=Zgo r
 cases rx
 obtain ⟨its,rv,pl,hz⟩:=I.list hq
 have hl:=rv.length
 rw [Jab] at hl
 refine call_sum_walkG (Jev pl.isList ?_)
 have hne:p ≠ s.heap.objs.size:=fun e=>by
  obtain ⟨o,n,ho,_⟩:=pl
  exact absurd (Jal ho) (by rw [e]; exact Jb0 _)
 refine ⟨s.heap.objs.size,_,_,_,_,_,fun i=>ns.getD i 0,rfl,Walks.list (A:=X.A.in1) (I.ok.hd hc) _ p hne its.toArray,⟨⟨_,Jat _ rfl,rfl,rfl⟩,pl.isList.at fun o e=>Jad _ e⟩,?_,?_,fun h' tk t' kp=>?_⟩
 ·intro b hb
  simp at hb
  rcases hb with rfl | rfl
  ·rw [Jco]; exact Je4 _
  ·rw [Jco]
   obtain ⟨o,ho,_⟩:=pl.isList
   exact Jc6 (Jal ho)
 ·intro i v hv
  have hv:its[i]? = some v:=by simpa using hv
  have hi:i < ns.length:=by rw [hl]; exact (Jap.mp hv).1
  obtain ⟨u,hu,ru⟩:=rv.get (i:=i) (x:=.int ns[i]) (by rw [Jbe,Jac hi]; rfl)
  rw [hv] at hu
  cases hu
  obtain ⟨t,rfl⟩:=ru
  exact ⟨t,by simp [hi]⟩
 ·rw [Jaq,<- hl]
  have f:=I.fpOk (H':=H) (Jaf s.heap.objs.size) (I.hok.fresh (Jaf _))
  exact ⟨.int _,H,(I.kept (h':=s.heap.push { cls:=.type "list_iterator",data:=.fields #[.ref p,.int 0 0] }) (t':=s.toks) fun b o e=>Jad _ e).turned (it:=s.heap.objs.size) (t':=tk) (fun b o hb e=>kp b o (by simpa using hb) e) f.1 f.2.1 f.2.2.2.1 f.2.2.2.2.1 f.2.2.2.2.2,⟨t',rfl⟩,q⟩
end
section
variable {K:PySem.W.Frag} {a b D:Addr} {xs ys:List V} {g:TG} {tt:TT} {te:TE} {k:Nat} {fr:List (Str × Nat)} {σ:St} {H1:Hp} {Q:VK}
end
section
variable {κ:Type} [DecidableEq κ]
def Zel (kvs:List (κ × V)) (k:κ):Option V:=(kvs.find? fun kv=>decide (kv.1 = k)).map (·.2)
def Ze9 (kvs:List (κ × V)) (k:κ) (v:V):List (κ × V):=
 if (kvs.any fun kv=>decide (kv.1 = k)) = true then kvs.map (fun kv=>if kv.1 = k then (kv.1,v) else kv) else kvs ++ [(k,v)]
theorem Zbp {p:κ × V} {r:List (κ × V)} {k:κ} (e:p.1 = k):Zel (p :: r) k = some p.2:=by simp [Zel,Jdw,e]
theorem Zbq {p:κ × V} {r:List (κ × V)} {k:κ} (e:¬ p.1 = k):Zel (p :: r) k = Zel r k:=by simp [Zel,Jdw,e]
theorem Zds (k:κ):∀ kvs:List (κ × V),(kvs.any fun kv=>decide (kv.1 = k)) = (Zel kvs k).isSome
 | []=>rfl
 | p :: r=>by
  rw [Jdz]
  by_cases e:p.1 = k
  ·simp only [Zbp e,Ja2 e,Bool.true_or,Option.isSome_some]
  ·rw [Zbq e,Jb7 e,Bool.false_or]; exact Zds k r
theorem Zjn (k j:κ) (y:V):∀ kvs:List (κ × V),Zel (kvs.map fun kv=>if kv.1 = k then (kv.1,y) else kv) j = (Zel kvs j).map fun x=>if j = k then y else x
 | []=>rfl
 | p :: r=>by
  have ih:=Zjn k j y r
  rw [Jax]
  by_cases h:p.1 = k
  ·rw [if_pos h]
   by_cases e:p.1 = j
   ·rw [Zbp (p:=(p.1,y)) e,Zbp e,Jfh,if_pos (e.symm.trans h)]
   ·rw [Zbq (p:=(p.1,y)) e,Zbq e,ih]
  ·rw [if_neg h]
   by_cases e:p.1 = j
   ·rw [Zbp (p:=p) e,Zbp e,Jfh,if_neg (fun z=>h (e.trans z))]
   ·rw [Zbq (p:=p) e,Zbq e,ih]
theorem Zho (k j:κ) (y:V):∀ kvs:List (κ × V),Zel kvs k = none->Zel (kvs ++ [(k,y)]) j = if j = k then some y else Zel kvs j
 | [],_=>by
  by_cases e:k = j
  ·rw [if_pos e.symm]; exact Zbp (p:=(k,y)) e
  ·rw [if_neg (fun z=>e z.symm)]; exact Zbq (p:=(k,y)) e
 | p :: r,hn=>by
  rw [Je6]
  have hk:¬ p.1 = k:=fun z=>by rw [Zbp z] at hn; cases hn
  rw [Zbq hk] at hn
  have ih:=Zho k j y r hn
  by_cases e:p.1 = j
  ·rw [Zbp e,Zbp e,if_neg (fun z=>hk (e.trans z))]
  ·rw [Zbq e,Zbq e,ih]
theorem Zgp (kvs:List (κ × V)) (k j:κ) (y:V):Zel (Ze9 kvs k y) j = if j = k then some y else Zel kvs j:=by
 unfold Ze9
 by_cases a:(kvs.any fun kv=>decide (kv.1 = k)) = true
 ·rw [if_pos a,Zjn]
  rw [Zds] at a
  by_cases e:j = k
  ·obtain ⟨x,hx⟩:=Jdh.mp a
   rw [if_pos e,e,hx,Jfh,if_pos rfl]
  ·rw [if_neg e]
   cases Zel kvs j with
   | none=>rfl
   | some x=>rw [Jfh,if_neg e]
 ·rw [if_neg a]
  refine Zho k j y kvs ?_
  rw [Zds] at a
  cases q:Zel kvs k with
  | none=>rfl
  | some x=>rw [q] at a; exact (a rfl).elim
theorem Zd8 (kvs:List (κ × V)) (k:κ) (v:V):(Ze9 kvs k v).length<=kvs.length + 1:=by
 unfold Ze9
 split
 ·rw [Jab]; omega
 ·rw [Jaj,Jau,Jfi]; omega
theorem Zo8 {kvs:List (κ × V)} {k:κ} (v:V) (h:Zel kvs k = none):Ze9 kvs k v = kvs ++ [(k,v)]:=by
 unfold Ze9
 rw [Zds,h]
 exact if_neg (by decide)
theorem RelO.isSome_eq {o:Option V} {u:Option Value} (r:RelO o u):o.isSome = u.isSome:=by
 cases o with
 | none=>cases u with
  | none=>rfl
  | some _=>exact (show False from r).elim
 | some _=>cases u with
  | none=>exact (show False from r).elim
  | some _=>rfl
theorem KV.val {kvs:List (κ × V)} {vs:List (κ × Value)} (r:KV kvs vs) (k:κ):RelO (Zel kvs k) (valueAt vs k):=by
 unfold KV at r
 induction r with
 | nil=>exact True.intro
 | @cons p q ps qs h t ih=>
  obtain ⟨h1,h2⟩:=h
  by_cases e:p.1 = k
  ·have e':q.1 = k:=h1.symm.trans e
   have b:valueAt (q :: qs) k = some q.2:=by simp [valueAt,Jdw,e']
   rw [Zbp e,b]; exact h2
  ·have e':¬ q.1 = k:=fun z=>e (h1.trans z)
   have b:valueAt (q :: qs) k = valueAt qs k:=by simp [valueAt,Jdw,e']
   rw [Zbq e,b]; exact ih
theorem KV.any {kvs:List (κ × V)} {vs:List (κ × Value)} (r:KV kvs vs) (k:κ):(kvs.any fun kv=>decide (kv.1 = k)) = vs.any fun kv=>decide (kv.1 = k):=by
 unfold KV at r
 induction r with
 | nil=>rfl
 | cons h t ih=>rw [Jdz,Jdz,ih,h.1]
theorem KV.repl {kvs:List (κ × V)} {vs:List (κ × Value)} (r:KV kvs vs) (k:κ) {y:V} {u:Value} (ry:RelV y u):
  KV (kvs.map fun kv=>if kv.1 = k then (kv.1,y) else kv) (vs.map fun kv=>if kv.1 = k then (kv.1,u) else kv):=by
 unfold KV at r ⊢
 induction r with
 | nil=>exact .nil
 | @cons p q ps qs h t ih=>
  rw [Jax,Jax]
  refine .cons ?_ ih
  obtain ⟨h1,h2⟩:=h
  by_cases e:p.1 = k
  ·rw [if_pos e,if_pos (h1.symm.trans e)]; exact ⟨h1,ry⟩
  ·rw [if_neg e,if_neg (fun z=>e (h1.trans z))]; exact ⟨h1,h2⟩
theorem KV.put {kvs:List (κ × V)} {vs:List (κ × Value)} (r:KV kvs vs) (k:κ) {y:V} {u:Value} (ry:RelV y u):KV (Ze9 kvs k y) (stored vs k u):=by
 unfold Ze9 stored
 rw [r.any k]
 by_cases e:(vs.any fun kv=>decide (kv.1 = k)) = true
 ·rw [if_pos e,if_pos e]; exact r.repl k ry
 ·rw [if_neg e,if_neg e]; exact Paired.snoc r ⟨rfl,ry⟩
theorem KV.length {kvs:List (κ × V)} {vs:List (κ × Value)} (r:KV kvs vs):kvs.length = vs.length:=Jf9 r
end
theorem Znt {P:Program} {w:World} {k:Key} {u:Value} (r:RelV (kV k) u):(Zbt P w).is k u = true:=by
 cases k with
 | inl i=>obtain ⟨t,e⟩:=(show ∃ t,u = Value.int i t from r); subst e; exact Ziz P w i t
 | inr x=>obtain ⟨t,e⟩:=(show ∃ t,u = Value.str x t from r); subst e; exact Ziy P w x t
theorem Zh5 {P:Program} {w:World}:∀ {ks:List Key} {us:List Value},Vals (ks.map kV) us->ItemsAre (Zbt P w) ks us
 | [],_,r=>by rw [Jft] at r; cases r; exact .nil
 | k :: ks,_,r=>by
  rw [Jax] at r
  cases r with
  | cons h t=>exact .cons (Znt h) (Zh5 t)
abbrev KT (H:Hp):List (List Key × V)->List (List Key × Addr × Value)->Prop:=Paired fun p q=>p.1 = q.1/\H q.2.1 = some (.tup (p.1.map kV))/\RelV p.2 q.2.2
theorem KT.val {H:Hp} {kvs:List (List Key × V)} {xs:List (List Key × Addr × Value)} (r:KT H kvs xs) (k:List Key):RelO (Zel kvs k) ((atKey xs k).map (·.2)):=by
 induction r with
 | nil=>exact True.intro
 | @cons p q ps qs h t ih=>
  obtain ⟨h1,_,h2⟩:=h
  by_cases e:p.1 = k
  ·have e':q.1 = k:=h1.symm.trans e
   have b:atKey (q :: qs) k = some q.2:=by simp [atKey,Jdw,e']
   rw [Zbp e,b]; exact h2
  ·have e':¬ q.1 = k:=fun z=>e (h1.trans z)
   have b:atKey (q :: qs) k = atKey qs k:=by simp [atKey,Jdw,e']
   rw [Zbq e,b]; exact ih
theorem KT.repl {H:Hp} {kvs:List (List Key × V)} {xs:List (List Key × Addr × Value)} (r:KT H kvs xs) (k:List Key) {y:V} {u:Value} (ry:RelV y u):
  KT H (kvs.map fun kv=>if kv.1 = k then (kv.1,y) else kv) (xs.map (putAt k u)):=by
 induction r with
 | nil=>exact .nil
 | @cons p q ps qs h t ih=>
  rw [Jax,Jax]
  refine .cons ?_ ih
  obtain ⟨h1,h2,h3⟩:=h
  unfold putAt
  by_cases e:p.1 = k
  ·rw [if_pos e,if_pos (h1.symm.trans e)]; exact ⟨h1,h2,ry⟩
  ·rw [if_neg e,if_neg (fun z=>e (h1.trans z))]; exact ⟨h1,h2,h3⟩
theorem KT.put {H:Hp} {kvs:List (List Key × V)} {xs:List (List Key × Addr × Value)} (r:KT H kvs xs) (k:List Key) {b:Addr} {y:V} {u:Value} (hb:H b = some (.tup (k.map kV))) (ry:RelV y u):
  KT H (Ze9 kvs k y) (storedH xs k b u):=by
 have e:(kvs.any fun kv=>decide (kv.1 = k)) = (atKey xs k).isSome:=by
  rw [Zds,(r.val k).isSome_eq,Option.isSome_map]
 unfold Ze9 storedH
 rw [e]
 by_cases q:(atKey xs k).isSome = true
 ·rw [if_pos q,if_pos q]; exact r.repl k ry
 ·rw [if_neg q,if_neg q]; exact Paired.snoc r ⟨rfl,hb,ry⟩
theorem KT.keeps {H H':Hp} {kvs:List (List Key × V)} {xs:List (List Key × Addr × Value)} (r:KT H kvs xs) (ht:∀ b ys,H b = some (.tup ys)->H' b = some (.tup ys)):KT H' kvs xs:=
 Paired.mapP r fun _ _ z=>⟨z.1,ht _ _ z.2.1,z.2.2⟩
section
variable {P:Program} {w:World} {H:Hp} {h:Heap} {a:Addr}
theorem rd_of {u:HO} (ok:HOk P w H h) (e:Rd H a u):ObjOk P w H h a u:=e.ok ok
theorem Zqe {kvs:List (Key × V)} (ok:HOk P w H h) (e:Rd H a (.dK kvs)):kvs.length<=sizeLine/\(a == sysModules) = false/\∃ vs,KV kvs vs/\h.DictOf (Zbt P w) a vs:=
 show ObjOk P w H h a (.dK kvs) from rd_of ok e
theorem dk_of {kvs:List (Key × V)} (ok:HOk P w H h) (e:H a = some (.dK kvs)):kvs.length<=sizeLine/\(a == sysModules) = false/\∃ vs,KV kvs vs/\h.DictOf (Zbt P w) a vs:=Zqe ok (.inl e)
theorem Zkf {ks:List Key} (ok:HOk P w H h) (e:H a = some (.tup (ks.map kV))):(tupleKind (Zbt P w)).is h ks a:=by
 obtain ⟨_,its,r,o,h1,h2,n,h3⟩:=(show ObjOk P w H h a (.tup (ks.map kV)) from ok a _ e)
 exact ⟨o,its.toArray,n,h1,h2,h3,by simpa using Zh5 r⟩
theorem Zqb {kvs:List (List Key × V)} (ok:HOk P w H h) (e:Rd H a (.dT kvs)):kvs.length<=sizeLine/\(a == sysModules) = false /\
  ∃ xs,KT H kvs xs/\h.DictOfH (tupleKind (Zbt P w)) a xs:=by
 obtain ⟨z,y,xs,r,o,es,ep,h1,h2,h3,h4,h5⟩:=(show ObjOk P w H h a (.dT kvs) from rd_of ok e)
 refine ⟨z,y,xs,r,o,es,ep,h1,h2,h3,h4,fun x hx=>?_,h5⟩
 have all:∀ {l:List (List Key × V)} {m:List (List Key × Addr × Value)},KT H l m->∀ x ∈ m,(tupleKind (Zbt P w)).is h x.1 x.2.1:=by
  intro l m q
  induction q with
  | nil=>intro x hx; exact nomatch hx
  | @cons p q ps qs hq t ih=>
   intro x hx
   rcases Jam.mp hx with e | hx
   ·subst e
    exact Zkf ok (by rw [<- hq.1]; exact hq.2.1)
   ·exact ih x hx
 exact all r x hx
theorem dt_of {kvs:List (List Key × V)} (ok:HOk P w H h) (e:H a = some (.dT kvs)):kvs.length<=sizeLine/\(a == sysModules) = false /\
  ∃ xs,KT H kvs xs/\h.DictOfH (tupleKind (Zbt P w)) a xs:=Zqb ok (.inl e)
end
def DGet (H:Hp) (a:Addr) (y:V) (r:Option V):Prop:=
 (∃ kvs k,Rd H a (.dK kvs)/\y = kV k/\r = Zel kvs k)\/∃ kvs k b,Rd H a (.dT kvs)/\y = .ref b/\H b = some (.tup (k.map kV))/\r = Zel kvs k
def DPut (H:Hp) (a:Addr) (y v:V) (H':Hp):Prop:=
 (∃ kvs k,H a = some (.dK kvs)/\y = kV k/\kvs.length < sizeLine/\H' = upd H a (.dK (Ze9 kvs k v))) \/
 ∃ kvs k b,H a = some (.dT kvs)/\y = .ref b/\H b = some (.tup (k.map kV))/\kvs.length < sizeLine/\H' = upd H a (.dT (Ze9 kvs k v))
theorem DGet.k {H:Hp} {a:Addr} {kvs:List (Key × V)} {k:Key} (e:H a = some (.dK kvs)):DGet H a (kV k) (Zel kvs k):=.inl ⟨kvs,k,.inl e,rfl,rfl⟩
theorem DGet.t {H:Hp} {a b:Addr} {kvs:List (List Key × V)} {k:List Key} (e:H a = some (.dT kvs)) (eb:H b = some (.tup (k.map kV))):DGet H a (.ref b) (Zel kvs k):=.inr ⟨kvs,k,b,.inl e,rfl,eb,rfl⟩
theorem DPut.k {H:Hp} {a:Addr} {kvs:List (Key × V)} {k:Key} {v:V} (e:H a = some (.dK kvs)) (hl:kvs.length < sizeLine):DPut H a (kV k) v (upd H a (.dK (Ze9 kvs k v))):=.inl ⟨kvs,k,e,rfl,hl,rfl⟩
theorem DPut.t {H:Hp} {a b:Addr} {kvs:List (List Key × V)} {k:List Key} {v:V} (e:H a = some (.dT kvs)) (eb:H b = some (.tup (k.map kV))) (hl:kvs.length < sizeLine):
  DPut H a (.ref b) v (upd H a (.dT (Ze9 kvs k v))):=.inr ⟨kvs,k,b,e,rfl,eb,hl,rfl⟩
section
variable {X:Cx} {pins:List (Addr × Obj)} {σ:St} {H:Hp} {s:Shared} {a:Addr} {y v:V} {u r:Value} {o:Option V} {A:Around} {E:Value->Shared->Prop}
theorem Inv.big (I:Inv X pins σ H s):sysModules < s.heap.objs.size:=by
 have h:mainGlobals < s.heap.objs.size:=(I.mod.glob.keeps I.bk).lt
 exact Nat.lt_trans (by decide) h
theorem Zod {Q:Value->Shared->Prop} (hu:A.units + 1 < cLine) (I:Inv X pins σ H s) (g:DGet H a y (some v)) (ry:RelV y u) (h:∀ w' s',Inv X pins σ H s'->RelV v w'->Q w' s'):
  wpAny (model X.prog X.w) A (getItem (.ref a) u) Q E s:=by
 rcases g with ⟨kvs,k,e,ey,l⟩ | ⟨kvs,k,b,e,ey,eb,l⟩
 ·subst ey
  obtain ⟨z,hd,vs,rel,dd⟩:=Zqe I.hok e
  obtain ⟨w',hw,rw'⟩:=RelO.some_of (v:=v) (o:=valueAt vs k) (by rw [l]; exact rel.val k)
  exact wpAny_getItem_of (Znt ry) dd.mapOf hw (h w' _ (I.tok _) rw')
 ·subst ey
  cases (show u = Value.ref b from ry)
  obtain ⟨z,hd,xs,rel,dd⟩:=Zqb I.hok e
  obtain ⟨w',hw,rw'⟩:=RelO.some_of (v:=v) (o:=(atKey xs k).map (·.2)) (by rw [l]; exact rel.val k)
  obtain ⟨p,hp,hp2⟩:=Option.map_eq_some_iff.mp hw
  refine wpAny_getItem_heap (Jfw hu) (Zkf I.hok eb) dd hp ?_
  rw [hp2]
  exact h w' _ (I.tok _) rw'
theorem d_in {Q:Value->Shared->Prop} (hu:A.units + 1 < cLine) (I:Inv X pins σ H s) (g:DGet H a y o) (ry:RelV y u) (h:∀ s',Inv X pins σ H s'->Q (.bool o.isSome) s'):
  wpAny (model X.prog X.w) A (compareOp .In u (.ref a)) Q E s:=by
 rcases g with ⟨kvs,k,e,ey,l⟩ | ⟨kvs,k,b,e,ey,eb,l⟩
 ·subst ey
  obtain ⟨z,hd,vs,rel,dd⟩:=Zqe I.hok e
  refine wpAny_in_of (Znt ry) hd dd.mapOf ?_
  rw [<- (rel.val k).isSome_eq,<- l]
  exact h _ (I.tok _)
 ·subst ey
  cases (show u = Value.ref b from ry)
  obtain ⟨z,hd,xs,rel,dd⟩:=Zqb I.hok e
  refine wpAny_in_heap (Jfw hu) (Zkf I.hok eb) hd dd ?_
  have q:=(rel.val k).isSome_eq
  rw [Option.isSome_map] at q
  rw [<- q,<- l]
  exact h _ (I.tok _)
theorem Zi8 {h':Heap} {t':Nat} {ob:HO} (I:Inv X pins σ H s) (mu:Mut (H a)) (hs:Heap.SameBut a s.heap h') (he:∃ q,h'.get? a = some q) (new:ObjOk X.prog X.w (upd H a ob) h' a ob):
  Inv X pins σ (upd H a ob) { s with heap:=h',toks:=t' }:=
 I.write (x:=a) (e:=a) mu (.inl rfl) (fun b q hb z=>(hs.2 b hb).trans z) he new
theorem Zrm {P:Program} {w:World} {H':Hp} {h':Heap} {kvs:List (Key × V)} {vs:List (Key × Value)} (z:kvs.length<=sizeLine) (hd:(a == sysModules) = false) (rel:KV kvs vs) (dd:h'.DictOf (Zbt P w) a vs):
  ObjOk P w H' h' a (.dK kvs):=⟨z,hd,vs,rel,dd⟩
theorem Zoc {H':Hp} {Q:Unit->Shared->Prop} (hu:A.units + 1 < cLine) (I:Inv X pins σ H s) (g:DPut H a y v H') (ry:RelV y u) (rv:RelV v r) (h:∀ s',Inv X pins σ H' s'->Q () s'):
  wpAny (model X.prog X.w) A (setItem (.ref a) u r) Q E s:=by
 rcases g with ⟨kvs,k,e,ey,l,eH⟩ | ⟨kvs,k,b,e,ey,eb,l,eH⟩
 ·subst ey eH
  obtain ⟨z,hd,vs,rel,dd⟩:=dk_of I.hok e
  have hz:vs.length<=sizeLine:=by rw [<- rel.length]; exact z
  have hl:(Ze9 kvs k v).length<=sizeLine:=by have:=Zd8 kvs k v; omega
  refine wpAny_setItem_pairs (hsz:=hz) (Znt ry) dd fun h' dd' hs=>h _ ?_
  have he:∃ q,h'.get? a = some q:=let ⟨q,_,_,hq,_⟩:=dd'; ⟨q,hq⟩
  exact Zi8 I (by rw [e]; exact True.intro) hs he (Zrm hl hd (rel.put k rv) dd')
 ·subst ey eH
  cases (show u = Value.ref b from ry)
  obtain ⟨z,hd,xs,rel,dd⟩:=dt_of I.hok e
  have hz:xs.length<=sizeLine:=by rw [<- Jf9 rel]; exact z
  have hl:(Ze9 kvs k v).length<=sizeLine:=by have:=Zd8 kvs k v; omega
  refine wpAny_setItem_heap (hsz:=hz) (Jfw hu) (Zkf I.hok eb) dd fun h' dd' hs=>h _ ?_
  obtain ⟨q,es,ep,hq,h2,h3,h4,_,h5⟩:=dd'
  refine Zi8 I (by rw [e]; exact True.intro) hs ⟨q,hq⟩ ⟨hl,hd,_,(rel.put k eb rv).keeps fun c ys ec=>?_,q,es,ep,hq,h2,h3,h4,h5⟩
  rw [Zaf (Zf7 ec e (fun z=>nomatch z))]
  exact ec
end
section
variable {X:Cx} {pins:List (Addr × Obj)} {σ:St} {H:Hp} {s:Shared} {a:Addr} {kvs:List (Key × V)} {k:Key} {u:Value} {A:Around} {E:Value->Shared->Prop}
end
def NoSl (i:Expr):Prop:=∀ ov iv,subscripted i false ov iv = operate [ov,iv] (getItem ov iv)
theorem subD_of {prog:Program} {w:World} {A:Around} {E:Value->Shared->Prop} {s:Shared} {env:Env} {value slice:Expr} {pos:Pos} {T id:String} {Q:Value->Shared->Prop}
  (hl:typeLookup (.type T) "__getitem__" = pure (some (.builtin id))) (hs:NoSl slice)
  (h:wpAny (model prog w) A (eval value env) (fun o s₁=>wpAny (model prog w) A (eval slice env) (fun i s₂=>s₂.TypeIs o T/\wpAny (model prog w) A (getItem o i) Q E s₂) E s₁) E s):
  wpAny (model prog w) A (eval (.Subscript value slice pos) env) Q E s:=by
 refine Subscript_ (Jbk h (fun o s₁ h₁=>Jbk h₁ (fun i s₂ h₂=>?_) fun _ _ x=>x) fun _ _ x=>x)
 obtain ⟨hT,h₂⟩:=h₂
 unfold subscriptTail
 refine Jaa ?_
 rw [getitemInPython_of_ne hT.not_modules]
 refine Jaa (Jel hT hl ?_)
 have fin:wpAny (model prog w) A (subscripted slice false o i) (fun r s₃=>wpAny (model prog w) A (letTemporaryGo value o r >>= fun _=>pure r) Q E s₃) E s₂:=by
  rw [hs o i]
  exact wpAny_operating (Jbk h₂ (fun r s₃ h₃=>Jaa (wpAny_letTemporaryGo (Jae h₃))) fun _ _ x=>x)
 first
  | exact Jae (Jaa fin)
  | exact Jaa (Jae (Jaa fin))
  | exact Jaa fin
theorem Zi7 {X:Cx} {pins:List (Addr × Obj)} {σ:St} {H:Hp} {s:Shared} {a:Addr} {y:V} {o:Option V} (I:Inv X pins σ H s) (g:DGet H a y o):s.TypeIs (.ref a) "dict" := by
 rcases g with ⟨kvs,k,e,_,_⟩ | ⟨kvs,k,b,e,_,_,_⟩
 ·obtain ⟨_,_,vs,_,dd⟩:=Zqe I.hok e
  exact dd.typeIs
 ·obtain ⟨_,_,xs,_,dd⟩:=Zqb I.hok e
  exact dd.typeIs
def tDGet (td ty:TE):TE:=fun σ H Q=>td σ H fun x H1=>ty σ H1 fun y H2=>∃ a v,x = .ref a/\DGet H2 a y (some v)/\Q v H2
def sDPut (td ty tv:TE):TS:=fun D σ H=>tv σ H fun v H1=>td σ H1 fun x H2=>ty σ H2 fun y H3=>∃ a H4,x = .ref a/\DPut H3 a y v H4/\D.nx σ H4
section
variable {X:Cx} {o i e value:Expr} {pos pos' tpos:Pos} {td ty tv:TE}
theorem Zfp (hu:X.A.units + 1 < cLine) (ho:PE X o td) (hi:PE X i ty) (hs:NoSl i):PE X (.Subscript o i pos) (tDGet td ty):=by
 intro pins s σ H Q I h
 refine subD_of PySem.F.slot_dict_getitem.lookup hs (thn (ho pins s σ H _ I h) fun u s1 ⟨x,H1,I1,rx,q1⟩=>thn (hi pins s1 σ H1 _ I1 q1) fun iv s2 ⟨y,H2,I2,ry,a,v,ex,g,q2⟩=>?_)
 subst ex
 obtain rfl:u = Value.ref a:=rx
 exact ⟨Zi7 I2 g,Zod hu I2 g ry fun w' s3 I3 rw'=>⟨v,H2,I3,rw',q2⟩⟩
theorem Zmp (hu:X.A.units + 1 < cLine) (ho:PE X o td) (hi:PE X i ty) (hv:PE X value tv) (hs:swapsWith value (some (.Subscript o i pos')) pos.line X.env = pure false):
  PS X (.Assign [.Subscript o i pos'] value pos) (sDPut td ty tv):=by
 intro pins s σ H D I h
 refine wpAny_Assign_Subscript (thn (hv pins s σ H _ I h) fun r s1 ⟨v,H1,I1,rv,q1⟩=>thn (ho pins s1 σ H1 _ I1 q1) fun u s2 ⟨x,H2,I2,rx,q2⟩=>thn (hi pins s2 σ H2 _ I2 q2) fun iv s3 ⟨y,H3,I3,ry,a,H4,ex,g,q3⟩=>?_) hs
 subst ex
 obtain rfl:u = Value.ref a:=rx
 exact Zoc hu I3 g ry rv fun s4 I4=>⟨σ,H4,I4,q3⟩
end
theorem Zqf {P:Program} {w:World} {H:Hp} (h:Heap) (hb:sysModules < h.objs.size):ObjOk P w H (h.push { cls:=.type "dict",data:=.dict #[] }) h.objs.size (.dK []):=
 ⟨Jbx _,Jc7.mpr (Jds (Ja8 hb)),[],.nil,Heap.DictOf.new h⟩
theorem Zqc {P:Program} {w:World} {H:Hp} (h:Heap) (hb:sysModules < h.objs.size):ObjOk P w H (h.push { cls:=.type "dict",data:=.dict #[] }) h.objs.size (.dT []):=
 ⟨Jbx _,Jc7.mpr (Jds (Ja8 hb)),[],.nil,_,#[],0,Jat _ rfl,⟨rfl,rfl,rfl⟩,rfl,rfl,Jf1⟩
def Zqr:TE:=fun _ H Q=>∀ p,H p = none->Q (.ref p) (upd H p (.dT []))
section
variable {X:Cx} {pos:Pos}
theorem Zpg:PE X (.Dict [] [] pos) Zqr:=fun pins s σ H Q I h=>
 wpAny_Dict_empty ⟨.ref s.heap.objs.size,_,I.laid (a:=s.heap.objs.size) (o:=.dT []) (t':=s.toks) (fun _ _ q=>Jad _ q) (Jaf _) (Zqc s.heap I.big),rfl,h _ (I.hok.fresh (Jaf _))⟩
end
structure M1 (X:Cx) (o:Expr) (m:Str) (apos:Pos) (e:Expr) (cpos:Pos):Prop where
 base:attributeBase o m X.env (eval o X.env) = eval o X.env
 few:((backTo cpos (starEach [e] X.env)).all (fun x=>!x.1) && (backToKw cpos (keywordEach [] X.env)).all (fun x=>x.1.isSome)
  && decide (([e]:List Expr).length + ([]:List Keyword).length + (if ([]:List Keyword).isEmpty then 0 else 1) < 30)) = true
 line:(apos.endLine == cpos.line) = true
 trees:backTo cpos (starEach [e] X.env) = [(false,eval e X.env)]
structure M2 (X:Cx) (o:Expr) (m:Str) (apos:Pos) (e f:Expr) (cpos:Pos):Prop where
 base:attributeBase o m X.env (eval o X.env) = eval o X.env
 few:((backTo cpos (starEach [e,f] X.env)).all (fun x=>!x.1) && (backToKw cpos (keywordEach [] X.env)).all (fun x=>x.1.isSome)
  && decide (([e,f]:List Expr).length + ([]:List Keyword).length + (if ([]:List Keyword).isEmpty then 0 else 1) < 30)) = true
 line:(apos.endLine == cpos.line) = true
 trees:backTo cpos (starEach [e,f] X.env) = [(false,eval e X.env),(false,eval f X.env)]
section
variable {X:Cx} {pins:List (Addr × Obj)} {σ:St} {H:Hp} {s:Shared} {a:Addr} {y d:V} {u r:Value} {o:Option V} {A:Around} {E:Value->Shared->Prop}
end
section
variable {X:Cx} {o e f:Expr} {apos cpos:Pos} {td ty tx:TE}
end
section
variable {X:Cx} {pins:List (Addr × Obj)} {σ:St} {H:Hp} {s:Shared} {a:Addr} {kvs:List (Key × V)} {A:Around} {E:Value->Shared->Prop}
end
section
variable {X:Cx} {pins:List (Addr × Obj)} {σ:St} {H:Hp} {s:Shared} {a:Addr} {y:V} {u:Value} {A:Around} {E:Value->Shared->Prop}
end
section
variable {κ:Type} [DecidableEq κ]
end
section
variable {prog:Program} {w:World} {A:Around} {R:Result->Shared->Prop} {s:Shared}
theorem Zhd {kx vx target iter:Expr} {ifs:List Expr} {scope:Scope} {pos:Pos} {it:Value} {D:Addr} {env:Env} (I:Nat->Shared->Prop)
  (turn:∀ n s,I n s->wpAny (model prog w) A (pyNext it) (fun r s₁=>match r with
   | none=>R (.ok .next) s₁
   | some v=>wpAny (model prog w) A (letOwnedTupleGo target it v) (fun _ s₁=>wpAny (model prog w) A (assign target env v) (fun _ s₂=>
     wpAny (model prog w) A (forIn ifs true fun c r=>if r = true then do let ok <- isTrue c env (eval c env); pure (ForInStep.yield ok) else pure (ForInStep.yield r)) (fun ok s₃=>
      if ok = true then wpAny (model prog w) A (eval kx env) (fun x s₄=>wpAny (model prog w) A (eval vx env) (fun y s₅=>
       wpAny (model prog w) A (dictSet D x y) (fun _ s₆=>∃ m,m < n/\I m s₆) (fun _ _=>False) s₅) (fun _ _=>False) s₄) (fun _ _=>False) s₃
      else ∃ m,m < n/\I m s₃) (fun _ _=>False) s₂) (fun _ _=>False) s₁) (fun _ _=>False) s₁) (fun _ _=>False) s)
  (n:Nat) (h:I n s):
  codeAny (model prog w) A (.compLoop (.DictComp kx vx [⟨target,iter,ifs,0⟩] scope pos) 0 it (.ref D) env) R s:=by
 refine codeAny_loop rfl I (fun n s hI=>?_) n h
 show wpAny _ A ((compTurn (.DictComp kx vx [⟨target,iter,ifs,0⟩] scope pos) 0 it (.ref D) env).onRaise (fun x=>do noteFrame x env; theTreesLotGoes x)) _ _ s
 refine wpAny_noted ?_
 rw [compTurn_dict]
 refine Jaa (Jc1 (Jaa (Jbk (turn n s hI) (fun r s₁ h₁=>?_) fun _ _ h'=>h'.elim)))
 cases r with
 | none=>exact Jae h₁
 | some v=>
  refine Jaa (Jbk h₁ (fun _ s₁' h₁'=>?_) fun _ _ h'=>h'.elim)
  refine Jaa (Jbk h₁' (fun _ s₂ h₂=>Jaa (Jbk h₂ (fun ok s₃ h₃=>?_) fun _ _ h'=>h'.elim)) fun _ _ h'=>h'.elim)
  cases ok with
  | false=>exact Jae ⟨rfl,h₃⟩
  | true=>
   refine Jaa (Jaa (Jbk h₃ (fun x s₄ h₄=>?_) fun _ _ h'=>h'.elim))
   refine Jaa (Jbv (Jbk h₄ (fun y s₅ h₅=>?_) fun _ _ h'=>h'.elim))
   exact Jaa (Jc1 (Jbv (Jbk h₅ (fun _ s₆ h₆=>Jae ⟨rfl,h₆⟩) fun _ _ h'=>h'.elim)))
end
def Zil (g:TG) (tt:TT) (tk tv:TE) (J:It) (D:Addr) (σ0:St) (H1:Hp) (Q:VK):Prop:=
 ∃ W:Nat->Nat->St->Hp->Prop,(∃ m,W 0 m σ0 (upd H1 D (.dK [])))/\∀ i m σ' H2,W i m σ' H2->
  (J.stop i H2/\Q (.ref D) H2)\/(J.go i H2/\∀ x H3,J.yld i H2 x H3->g x σ' H3 fun σ4 H4=>tt σ4 H4 fun b H5=>
   if b = true then tk σ4 H5 fun x H6=>tv σ4 H6 fun y H7=>∃ kvs k,x = kV k/\H7 D = some (.dK kvs)/\kvs.length < sizeLine/\∃ m',m' < m/\W (i + 1) m' σ4 (upd H7 D (.dK (Ze9 kvs k y)))
   else ∃ m',m' < m/\W (i + 1) m' σ4 H5)
def tCompD (k:Nat) (fr:List (Str × Nat)) (wi:TI) (g:TG) (tt:TT) (tk tv:TE):TE:=fun σ H Q=>wi σ H fun J H1=>∀ D,H1 D = none->Zil g tt tk tv J D (Ze3 k fr σ) H1 Q
section
variable {X:Cx} {tg iter kx vx:Expr} {ifs:List Expr} {scope:Scope} {pos:Pos} {own:List Str} {fr:List (Str × Nat)} {wi:TI} {g:TG} {tt:TT} {tk tv:TE}
theorem Zoi {pins:List (Addr × Obj)} {s2:Shared} {σ:St} {H2:Hp} {it:Addr} {fp:List Addr} {tn:Nat->Heap->Prop} {J:It} {Q:VK} {cl:List (Str × Addr)} {RR:Value->Addr->Result->Shared->Prop} {E:Value->Shared->Prop}
  (hc:X.calm = true) (B:BlScope X scope own fr)
  (hb:∀ cl s H fp,PG (Zbv X (Zbu own fr) scope cl s H fp) tg g/\PTs (Zbv X (Zbu own fr) scope cl s H fp) ifs tt/\PE (Zbv X (Zbu own fr) scope cl s H fp) kx tk/\PE (Zbv X (Zbu own fr) scope cl s H fp) vx tv)
  (hcl:∀ x c,cl.lookup x = some c->X.env.cells.lookup x = some c) (hcl2:∀ y ∈ scope.names,y.2 = .free->∃ c,cl.lookup y.1 = some c)
  (I2:Inv X pins σ H2 s2) (T:Turn X.prog X.w X.K tg J fp it tn) (st2:tn 0 s2.heap) (f2:∀ b ∈ fp,Zij X pins H2 b) (q:∀ D,H2 D = none->Zil g tt tk tv J D (Ze3 own.length fr σ) H2 Q)
  (hRR:∀ D C s' H',Inv X pins σ H' s'->Q (.ref D) H'->(∃ m,s'.heap.Ns C m)->C ≠ X.env.locals->(∀ x c,X.env.cells.lookup x = some c->c ≠ C)->(∀ p ∈ X.pn ++ pins,p.1 ≠ C)->X.s₀.heap.objs.size<=C->H' C = none->RR (.ref D) C (.ok .next) s'):
  wpAny (model X.prog X.w) X.A newDict (fun acc s₃=>wpAny (model X.prog X.w) X.A (newFunctionEnv scope X.env.globals cl [] X.env.qual none .none (some X.env)) (fun cenv s₄=>
   codeAny (model X.prog X.w) X.A (.compStart (.DictComp kx vx [⟨tg,iter,ifs,0⟩] scope pos) 0 (.ref it) acc { cenv with scope:=relabel scope X.env }) (RR acc cenv.locals) s₄) E s₃) E s2:=by
 refine Jcm ?_
 have fr0:H2 s2.heap.objs.size = none:=I2.hok.fresh (Jaf _)
 have I3:=I2.laid (a:=s2.heap.objs.size) (o:=.dK []) (t':=s2.toks) (fun _ _ q=>Jad _ q) (Jaf _) (Zqf s2.heap I2.big)
 generalize hs3:({ s2 with heap:=s2.heap.push { cls:=.type "dict",data:=.dict #[] } }:Shared) = s3 at *
 have k23:∀ b o,s2.heap.get? b = some o->s3.heap.get? b = some o:=fun b o e=>by rw [<- hs3]; exact Jad _ e
 have sz3:s3.heap.objs.size = s2.heap.objs.size + 1:=by rw [<- hs3]; exact Jco ..
 have I3':Inv X pins σ (upd H2 s2.heap.objs.size (.dK [])) s3:=I3
 have fne:∀ b ∈ fp,b ≠ s2.heap.objs.size:=fun b hb z=>by
  obtain ⟨o,ho,_⟩:=T.obj 0 _ st2 b hb
  exact absurd (Jal ho) (by rw [z]; exact Jb0 _)
 have f3:∀ b ∈ fp,Zij X pins (upd H2 s2.heap.objs.size (.dK [])) b:=fun b hb=>⟨by rw [Zaf (fne b hb)]; exact (f2 b hb).1,(f2 b hb).2⟩
 have st3:tn 0 s3.heap:=T.keep 0 _ _ st2 fun b _ o e=>k23 b o e
 have hfo:∀ b ∈ fp,∃ o,s3.heap.get? b = some o:=fun b hb=>let ⟨o,ho,_⟩:=T.obj 0 _ st3 b hb; ⟨o,ho⟩
 refine Zdq fun h' hn hk hce=>?_
 have I4:=Zfu (own:=own) I3' B hcl hcl2 f3 hfo hn hk hce
 obtain ⟨hg,ht,hkx,hvx⟩:=hb cl s3 (upd H2 s2.heap.objs.size (.dK [])) fp
 have st4:tn 0 h':=T.keep 0 _ _ st3 fun b _ o e=>hk b o e
 have stat:∀ {H':Hp},(∀ b ∈ fp,H' b = none)->∀ b ∈ fp,Zij (Zbv X (Zbu own fr) scope cl s3 (upd H2 s2.heap.objs.size (.dK [])) fp) [] H' b:=fun {H'} hnn b hb=>
  ⟨hnn b hb,(I4.ok.exf b hb).1,I4.ok.exfs b hb,.inl hb,(I4.ok.exf b hb).2,fun p hp=>absurd (show p ∈ ([]:List (Addr × Obj)) from hp) (by simp)⟩
 obtain ⟨W,⟨m0,w0⟩,turn⟩:=q s2.heap.objs.size fr0
 have loop:codeAny (model X.prog X.w) X.A (.compLoop (.DictComp kx vx [⟨tg,iter,ifs,0⟩] scope pos) 0 (.ref it) (.ref s2.heap.objs.size) (Zbv X (Zbu own fr) scope cl s3 (upd H2 s2.heap.objs.size (.dK [])) fp).env)
   (RR (.ref s2.heap.objs.size) s3.heap.objs.size) { s3 with heap:=h' }:=by
  refine Zhd (fun n s'=>∃ i σ' H',Inv (Zbv X (Zbu own fr) scope cl s3 (upd H2 s2.heap.objs.size (.dK [])) fp) [] σ' H' s'/\tn i s'.heap/\(∀ b ∈ fp,H' b = none)/\W i n σ' H') ?_ m0
   ⟨0,_,_,I4,st4,fun b hb=>(f3 b hb).1,w0⟩
  rintro n s5 ⟨i,σ5,H5,I5,st5,fr5,w5⟩
  rcases turn i n σ5 H5 w5 with ⟨stop,qn⟩ | ⟨go,step⟩
  ·refine thn (T.done (Zbv X (Zbu own fr) scope cl s3 (upd H2 s2.heap.objs.size (.dK [])) fp) rfl rfl rfl hc i [] s5 σ5 H5 _ I5 (stat fr5) st5 stop) fun r s6 ⟨hr,I6⟩=>?_
   subst hr
   have I7:Inv X pins σ H5 s6:=I3'.call' (ch:=fp) I6.os I6.base I6.hok I6.bare fun b hb=>⟨(f3 b hb).2.2.2.1,(f3 b hb).2.1,(f3 b hb).2.2.2.2.1,(f3 b hb).2.2.2.2.2⟩
   obtain ⟨m6,hn6,_⟩:=I6.loc
   refine hRR _ _ s6 H5 I7 qn ⟨m6,hn6⟩ (Jfq I3'.lt) (fun x c e=>?_) (fun p hp=>?_) I3'.sz I6.free
   ·obtain ⟨v,z⟩:=I3'.cell x c e
    exact Ja8 z.lt
   ·exact Ja8 (Jal (I3'.pin p hp).1)
  ·refine thn (T.item (Zbv X (Zbu own fr) scope cl s3 (upd H2 s2.heap.objs.size (.dK [])) fp) rfl rfl rfl hc i [] s5 σ5 H5 _ I5 (stat fr5) st5 go) fun r s6 ⟨u,hr,h6⟩=>?_
   subst hr
   refine thn h6 fun _ s7 ⟨x,H7,I7,r7,y7,st7,fr7⟩=>?_
   have I7':=I7.pinned (stat fr7) (T.obj _ _ st7)
   refine thn (hg _ s7 σ5 H7 x u _ I7' r7 (step x H7 y7)) fun _ s8 ⟨σ8,H8,I8,q8⟩=>?_
   refine thn (ht _ s8 σ8 H8 _ I8 q8) fun b s9 ⟨H9,I9,q9⟩=>?_
   have again:∀ {sA:Shared} {σA:St} {HA:Hp} {m':Nat},Inv (Zbv X (Zbu own fr) scope cl s3 (upd H2 s2.heap.objs.size (.dK [])) fp) ([] ++ Zeh fp s7.heap) σA HA sA->m' < n->W (i + 1) m' σA HA->
     ∃ m,m < n/\∃ i σ' H',Inv (Zbv X (Zbu own fr) scope cl s3 (upd H2 s2.heap.objs.size (.dK [])) fp) [] σ' H' sA/\tn i sA.heap/\(∀ b ∈ fp,H' b = none)/\W i m σ' H':=fun {sA σA HA m'} IA hm wA=>by
    refine ⟨m',hm,i + 1,σA,HA,IA.unpinned,T.keep _ _ _ st7 fun b hb o e=>(IA.pin (b,o) (Jah _ (Jah _ (Zbc hb e)))).1,fun b hb=>?_,wA⟩
    obtain ⟨o,e,d⟩:=T.obj _ _ st7 b hb
    exact (IA.pin (b,o) (Jah _ (Jah _ (Zbc hb e)))).2.1
   cases b with
   | false=>
    obtain ⟨m',hm,w9⟩:=q9
    exact again I9 hm w9
   | true=>
    have q9:tk σ8 H9 _:=q9
    show wpAny _ _ _ _ _ _
    refine thn (hkx _ s9 σ8 H9 _ I9 q9) fun x sA ⟨vx',HA,IA,rA,qA⟩=>?_
    refine thn (hvx _ sA σ8 HA _ IA qA) fun y sB ⟨vy,HB,IB,rB,kvs,k,ek,e,l,m',hm,wB⟩=>?_
    subst ek
    obtain ⟨z,hd,vs,rel,dd⟩:=dk_of IB.hok e
    have hz:vs.length<=sizeLine:=by rw [<- rel.length]; exact z
    have hl:(Ze9 kvs k vy).length<=sizeLine:=by have:=Zd8 kvs k vy; omega
    refine wpAny_dictSet_pairs (hsz:=hz) (Znt rA) dd fun h' dd' hs=>?_
    have he:∃ q,h'.get? s2.heap.objs.size = some q:=let ⟨q,_,_,hq,_⟩:=dd'; ⟨q,hq⟩
    exact again (Zi8 IB (by rw [e]; exact True.intro) hs he (Zrm hl hd (rel.put k rB) dd')) hm wB
 exact codeAny_compStart_dict loop (T.self _ 0 _ _ _ st4 loop)
theorem Zph (hc:X.calm = true) (B:BlScope X scope own fr) (hi:PI X tg iter wi)
  (hb:∀ cl s H fp,PG (Zbv X (Zbu own fr) scope cl s H fp) tg g/\PTs (Zbv X (Zbu own fr) scope cl s H fp) ifs tt/\PE (Zbv X (Zbu own fr) scope cl s H fp) kx tk/\PE (Zbv X (Zbu own fr) scope cl s H fp) vx tv)
  (hs:∀ x,foldedSetIterable iter X.env x = pure x:=by intro _; rfl):
  PE X (.DictComp kx vx [⟨tg,iter,ifs,0⟩] scope pos) (tCompD own.length fr wi g tt tk tv):=by
 intro pins s σ H Q I h
 obtain ⟨cl,hclos,hcl,hcl2⟩:=Zhf (scope:=scope) (env:=X.env) fun y hy hf=>I.ok.has y.1 (B.free y hy hf)
 rw [arm_eval_DictComp]
 refine Jdj (use:=none) rfl hs hclos B.kind B.loc (thn (hi pins s σ H _ I h) fun v s1 h1=>thn h1 fun itv s2 h2=>?_)
 obtain ⟨it,fp,tn,J,H2,e,I2,T,st2,f2,q⟩:=h2
 subst e
 refine Zoi (RR:=fun acc C=>compPost (model X.prog X.w) X.A X.xe none (EP X pins σ Q) acc C) (Q:=Q) hc B hb hcl hcl2 I2 T st2 f2 q ?_
 intro D C s' H' I' hq hn n1 n2 n3 n4 n5
 obtain ⟨m,hn⟩:=hn
 refine ⟨m,hn,fun h' hs'=>⟨.ref D,H',I'.turned (it:=C) (t':=s'.toks) (fun b o hb e=>SameBut.get hs' b o hb e) n5 (Jds (Jds n1)) (.inr n4) n2 n3,rfl,hq⟩⟩
end
end L2
namespace L2
open PySem PySem.Spec PyProof.Rows
theorem Znx:∀ {ns:List Int} {us:List Value},Vals (ns.map V.int) us->IntsAre us ns
 | [],us,r=>by cases r; exact .nil
 | n :: ns,us,r=>by
  cases r with
  | cons r1 r2=>obtain ⟨t,rfl⟩:=r1; exact .cons n t (Znx r2)
theorem Zlq:∀ {us:List Value} {ns:List Int},IntsAre us ns->Vals (ns.map V.int) us
 | _,_,.nil=>.nil
 | _,_,.cons n t h=>.cons ⟨t,rfl⟩ (Zlq h)
section
variable {X:Cx}
theorem Zfy:Zc3 X (.builtin "sorted") (fun xs H Q=>∃ (p:Addr) (ns:List Int),xs = [.ref p]/\SqL X.K H p (ns.map V.int)/\ns.length < 64 /\
  ∀ (l:Addr) (ns':List Int),H l = none->ns'.Perm ns->ns'.Pairwise (·<=·)->Q (.ref l) (upd H l (.lst (ns'.map V.int)))):=by
 intro pins s σ H xs us Q I r h
 obtain ⟨p,ns,rfl,hq,h64,q⟩:=h
 obtain ⟨u,rfl,rx⟩:=Zgo r
 cases rx
 obtain ⟨its,rv,pl,hz⟩:=I.list hq
 have hl:=rv.length
 rw [Jab] at hl
 refine PyProof.Rows.sorted_ints pl.isList (Znx rv) (by rw [<- hl]; exact h64) fun out ns' hi hp hs=>?_
 obtain ⟨e,he⟩:=sortedAll_at s.heap its out
 have hlen:ns'.length < 64:=by rw [hp.length_eq]; exact h64
 refine ⟨.ref (s.heap.objs.size + 1),_,I.laid (a:=s.heap.objs.size + 1) (o:=.lst (ns'.map V.int)) (t':=s.toks) (fun b o z=>sortedAll_old z) (Nat.le_succ _) ?_,rfl,q _ ns' (I.hok.fresh (Nat.le_succ _)) hp hs⟩
 refine ⟨by rw [Jab]; exact Jay (Jbs hlen) (by rw [Jde]; omega),out.toList,e,Zlq hi,?_⟩
 simpa [seqObj] using he
end
section
variable {prog:Program} {w:World} {A:Around} {E:Value->Shared->Prop} {s:Shared}
theorem Zh7 {it t:Addr} {items:Array Value} (hne:t ≠ it):∀ (n i:Nat) (s:Shared) (Q:List Value->Shared->Prop),s.heap.IsListIter it t i->s.heap.IsList t items->i + n<=items.size->
  (∀ h',h'.IsListIter it t (i + n)->Heap.SameBut it s.heap h'->Q ((items.toList.drop i).take n) { s with heap:=h' })->wpAny (model prog w) A (draw (.ref it) n) Q E s
 | 0,i,s,Q,hit,_,_,hQ=>by
  show wpAny _ _ (pure []) Q E s
  exact Jae (by simpa using hQ s.heap hit (Heap.SameBut.refl ..))
 | n + 1,i,s,Q,hit,ht,hle,hQ=>by
  have hlt:i < items.size:=by omega
  show wpAny _ _ (pyNext (.ref it) >>= _) Q E s
  refine Jaa (wpAny_pyNext_list_item hit ht (x:=items[i]) (by simp [hlt]) fun h₁ hit₁ hs₁=>?_)
  refine Jaa (Jbv (Zh7 hne n (i + 1) _ _ hit₁ (ht.at fun o e=>(hs₁.2 t hne).trans e) (by omega) fun h₂ hit₂ hs₂=>Jae ?_))
  have hd:items.toList.drop i = items[i] :: items.toList.drop (i + 1):=by simp [List.drop_eq_getElem_cons,hlt]
  have:=hQ h₂ (by rw [show i + (n + 1) = i + 1 + n by omega]; exact hit₂) (hs₁.trans hs₂)
  rw [hd,Jeb] at this
  exact this
theorem Ze5 {t:Addr} {items:Array Value} {Q:List Value->Shared->Prop} (hh:A.handled = none) (ht:s.heap.IsList t items)
  (hQ:∀ h',Heap.ExtBut s.heap.objs.size s.heap h'->Q items.toList { s with heap:=h' }):wpAny (model prog w) A (unpackItems (.ref t) items.size none) Q E s:=by
 have hlt:t ≠ s.heap.objs.size:=by obtain ⟨o,ho,_⟩:=ht; exact Ja8 (Jal ho)
 unfold unpackItems
 refine Jaa ?_
 ·unfold notIterableAtAll
  refine Jaa (Jel ht.typeIs slot_list_iter.lookup ?_)
  refine Jae ?_
  simp only [Jcp,Jfs]
  refine Jaa (Jbv (Jev ht ?_))
  refine Jaa (Jbv (Zh7 hlt items.size 0 _ _ ⟨_,Jat _ rfl,rfl,rfl⟩ (ht.at fun o e=>Jad _ e) (by omega) fun h₁ hit₁ hs₁=>?_))
  have hall:List.take items.size (List.drop 0 items.toList) = items.toList:=by
   rw [List.drop_zero]; exact Jch (by simp)
  rw [hall]
  rw [if_neg (by simp)]
  have ht₁:h₁.IsList t items:=(ht.at (h':=s.heap.push { cls:=.type "list_iterator",data:=.fields #[.ref t,.int 0 0] }) fun o e=>Jad _ e).at fun o e=>(hs₁.2 t hlt).trans e
  refine Jaa (Jbv (wpAny_pyNext_list_end hh hit₁ ht₁ (by simp) fun h₂ he₂=>?_))
  simp only [Option.isSome_none,Jcp,Jfs]
  refine Jae (hQ h₂ fun b o hb e=>he₂ b o hb (hs₁.extBut b o hb (Jad _ e)))
theorem Zew {env:Env} {elts:List Expr} {x1} {pos:Pos} {t:Addr} {items:Array Value} {Q:Unit->Shared->Prop} (hh:A.handled = none) (ht:s.heap.IsList t items)
  (hn:(assignEach elts env).length = items.size) (hstar:(assignEach elts env).findIdx? (·.1) = none)
  (h:∀ h',Heap.ExtBut s.heap.objs.size s.heap h'->wpAny (model prog w) A (assignInOrder ((assignEach elts env).map (·.2)) items.toList) Q E { s with heap:=h' }):
  wpAny (model prog w) A (assign (.Tuple elts x1 pos) env (.ref t)) Q E s:=by
 rw [PyProof.Rows.assign_Tuple]
 refine Jaa (Jc1 ?_)
 unfold unpack
 rw [hn,hstar]
 exact Jaa (Jbv (Ze5 hh ht h))
end
section
variable {X:Cx} {pos:Pos}
def gLst (K:PySem.W.Frag) (n:Nat) (t:TGs):TG:=fun v σ H Q=>∃ a xs,v = .ref a/\SqL K H a xs/\xs.length = n/\t xs σ H Q
theorem pg_lst {es:List Expr} {k:Nat} {t:TGs} {n:Nat} (hc:X.calm = true) (h:PGs X es t)
  (hn:(assignEach es X.env).length = n:=by rfl) (hst:(assignEach es X.env).findIdx? (·.1) = none:=by rfl):PG X (.Tuple es k pos) (gLst X.K n t):=by
 intro pins s σ H v u Q I r hw
 obtain ⟨a,xs,e1,hq,hl,hw⟩:=hw
 subst e1
 cases r
 obtain ⟨its,rv,ht,hz⟩:=I.list hq
 refine Zew (I.ok.hd hc) ht.isList (by simp [hn,<- hl,rv.length]) hst fun h' hx=>?_
 have I1:Inv X pins σ H { s with heap:=h' }:=I.kept (t':=s.toks) fun b o e=>hx b o (Ja8 (Jal e)) e
 exact h pins _ σ H xs _ Q I1 (by simpa using rv) hw
end
theorem Zmz {X:Cx} {m:Str} {C:Addr} {k:Nat} {sp:Sp} {o:Expr} {ta:TE} {apos pos:Pos} {pl:Sem Bool} (c:Cls X.K C) (M:CalM X.prog X.w X.K X.mg X.base C m k sp) (hr:Room k X.A) (ho:PE X o ta)
  (ht:eval (.Call (.Attribute o m apos) [] [] pos) X.env = (do
   let ov <- eval o X.env
   standAt apos.atName
   let (f,first) <- holding [ov] (getMethod ov m pl)
   callWith pos f first (backTo pos (starEach [] X.env)) (backToKw pos (keywordEach [] X.env))):=by rfl):
  PE X (.Call (.Attribute o m apos) [] [] pos) (tMeth C m sp [] E0 ta Zov):=by
 obtain ⟨f,fd,ps,F,hm,hb⟩:=M.ex
 exact Zpf ho c hm F hr hb .nil pass0 ht
end L2
namespace L3
theorem Zcl {α:Type} [DecidableEq α]:∀ {l m:List α},l.Nodup->(∀ x ∈ l,x ∈ m)->m.length<=l.length->l.Perm m
 | [],m,_,_,h=>by
  have:m = []:=List.eq_nil_of_length_eq_zero (by simpa using h)
  rw [this]
 | a :: l,m,nd,hs,h=>by
  have ha:a ∈ m:=hs a (by simp)
  have nd':=Jbo.mp nd
  have p:=List.perm_cons_erase ha
  refine (List.Perm.cons a (Zcl nd'.2 (fun x hx=>?_) ?_)).trans p.symm
  ·have hne:x ≠ a:=fun z=>nd'.1 (z ▸ hx)
   exact (List.mem_erase_of_ne hne).mpr (hs x (by simp [hx]))
  ·rw [Jee ha]
   rw [Jau] at h
   omega
abbrev Ed:=Int × Int
def ce (d:Int->Nat) (q:Ed):Int:=if d q.2 + 1 = d q.1 then q.1 else q.2
def pe (d:Int->Nat) (q:Ed):Int:=if d q.2 + 1 = d q.1 then q.2 else q.1
structure Tr (S:List Int) (ps:List Ed) (f:Int) (d:Int->Nat):Prop where
 nd:S.Nodup
 fS:f ∈ S
 inS:∀ q ∈ ps,q.1 ∈ S/\q.2 ∈ S
 par:∀ x ∈ S,x ≠ f->∃ q ∈ ps,(q.1 = x/\d q.2 + 1 = d x)\/(q.2 = x/\d q.1 + 1 = d x)
 len:ps.length + 1 = S.length
section
variable {S:List Int} {ps:List Ed} {f:Int} {d:Int->Nat}
def oth (S:List Int) (f:Int):List Int:=S.filter fun x=>decide (x ≠ f)
theorem Za6 {x:Int}:x ∈ oth S f ↔ x ∈ S/\x ≠ f:=by unfold oth; simp [Jas]
theorem Zj7 {q:Ed} {x:Int} (h:(q.1 = x/\d q.2 + 1 = d x)\/(q.2 = x/\d q.1 + 1 = d x)):ce d q = x/\d (pe d q) + 1 = d x:=by
 unfold ce pe
 rcases h with ⟨e,h⟩ | ⟨e,h⟩
 ·rw [<- e] at h ⊢
  rw [if_pos h,if_pos h]
  exact ⟨rfl,h⟩
 ·rw [<- e] at h ⊢
  rw [if_neg (by omega),if_neg (by omega)]
  exact ⟨rfl,h⟩
theorem Ziw (nd:S.Nodup) (h:f ∈ S):(oth S f).length + 1 = S.length:=by
 have e:oth S f = S.erase f:=by
  unfold oth
  rw [List.Nodup.erase_eq_filter nd]
  congr 1
  funext x
  rw [Jci]
  simp
 rw [e,Jee h]
 have:=List.length_pos_of_mem h
 omega
theorem Tr.perm (T:Tr S ps f d):(oth S f).Perm (ps.map (ce d)):=by
 refine Zcl (Jbc Ja6 T.nd) (fun x hx=>?_) ?_
 ·obtain ⟨h1,h2⟩:=Za6.mp hx
  obtain ⟨q,hq,h⟩:=T.par x h1 h2
  exact Jak.mpr ⟨q,hq,(Zj7 h).1⟩
 ·have:=Ziw T.nd T.fS
  have:=T.len
  rw [Jab]
  omega
theorem Tr.cend (T:Tr S ps f d):(ps.map (ce d)).Nodup:=T.perm.nodup_iff.mp (Jbc Ja6 T.nd)
theorem Tr.one (T:Tr S ps f d) {q q':Ed} (h:q ∈ ps) (h':q' ∈ ps) (e:ce d q = ce d q'):q = q':=by
 obtain ⟨i,hi,rfl⟩:=Jc3.mp h
 obtain ⟨j,hj,rfl⟩:=Jc3.mp h'
 have:=T.cend
 have hij:i = j:=(List.getElem_inj (h₀:=by rw [Jab]; exact hi) (h₁:=by rw [Jab]; exact hj) this).mp (by rw [List.getElem_map,List.getElem_map]; exact e)
 subst hij
 rfl
theorem Tr.prop (T:Tr S ps f d) {q:Ed} (h:q ∈ ps):ce d q ∈ S/\ce d q ≠ f/\pe d q ∈ S/\d (pe d q) + 1 = d (ce d q):=by
 have hm:ce d q ∈ oth S f:=T.perm.mem_iff.mpr (Jak.mpr ⟨q,h,rfl⟩)
 obtain ⟨h1,h2⟩:=Za6.mp hm
 obtain ⟨q',hq',hp⟩:=T.par _ h1 h2
 obtain ⟨e1,e2⟩:=Zj7 hp
 have:=T.one hq' h e1
 subst this
 refine ⟨h1,h2,?_,e2⟩
 unfold pe
 split
 ·exact (T.inS _ h).2
 ·exact (T.inS _ h).1
theorem Tr.up (T:Tr S ps f d) {x:Int} (h:x ∈ S) (hf:x ≠ f):∃ q ∈ ps,ce d q = x:=by
 obtain ⟨q,hq,hp⟩:=T.par x h hf
 exact ⟨q,hq,(Zj7 hp).1⟩
theorem Zea (q:Ed):(q.1 = ce d q/\q.2 = pe d q)\/(q.1 = pe d q/\q.2 = ce d q):=by
 unfold ce pe
 split
 ·exact .inl ⟨rfl,rfl⟩
 ·exact .inr ⟨rfl,rfl⟩
def chn (d:Int->Nat) (ps:List Ed) (x:Int):Nat:=(ps.map (pe d)).count x
def deg (ps:List Ed) (x:Int):Nat:=ps.countP fun q=>decide (q.1 = x\/q.2 = x)
theorem Tr.ne (T:Tr S ps f d) {q:Ed} (h:q ∈ ps):q.1 ≠ q.2:=fun e=>by
 have:=(T.prop h).2.2.2
 rcases Zea (d:=d) q with ⟨a,b⟩ | ⟨a,b⟩
 ·rw [<- a,<- b,e] at this
  omega
 ·rw [<- a,<- b,e] at this
  omega
theorem Zrn (x:Int):∀ (l:List Ed),(∀ q ∈ l,ce d q ≠ pe d q)->l.countP (fun q=>decide (q.1 = x\/q.2 = x)) = (l.map (ce d)).count x + (l.map (pe d)).count x
 | [],_=>rfl
 | q :: l,h=>by
  have hq:=h q (by simp)
  have ih:=Zrn x l fun q' h'=>h q' (by simp [h'])
  rw [List.countP_cons,ih,Jax,Jax,Jfj,Jfj]
  have e:(decide (q.1 = x\/q.2 = x)) = ((ce d q == x) || (pe d q == x)):=by
   rw [Jci]
   simp only [Jcf,Jfg,Jbz]
   rcases Zea (d:=d) q with ⟨a,b⟩ | ⟨a,b⟩
   ·rw [a,b]
   ·rw [a,b]; exact Or.comm
  rw [e]
  by_cases h1:ce d q = x
  ·have h2:pe d q ≠ x:=fun z=>hq (h1.trans z.symm)
   simp [h1,h2]
   omega
  ·by_cases h2:pe d q = x
   ·simp [h1,h2]
    omega
   ·simp [h1,h2]
theorem Tr.deg (T:Tr S ps f d) (x:Int):deg ps x = (ps.map (ce d)).count x + chn d ps x:=Zrn x ps fun q h e=>by
 have:=(T.prop h).2.2.2
 rw [e] at this
 omega
theorem Tr.deg_f (T:Tr S ps f d):L3.deg ps f = chn d ps f:=by
 rw [T.deg,List.count_eq_zero.mpr (fun h=>?_),Nat.zero_add]
 obtain ⟨q,hq,e⟩:=Jak.mp h
 exact (T.prop hq).2.1 e
theorem Tr.deg_x (T:Tr S ps f d) {x:Int} (h:x ∈ S) (hf:x ≠ f):L3.deg ps x = 1 + chn d ps x:=by
 rw [T.deg]
 congr 1
 obtain ⟨q,hq,e⟩:=T.up h hf
 have h1:(ps.map (ce d)).count x<=1:=List.nodup_iff_count.mp T.cend x
 have h2:0 < (ps.map (ce d)).count x:=Jdq.mpr (Jak.mpr ⟨q,hq,e⟩)
 omega
def up1 (d:Int->Nat) (ps:List Ed) (x:Int):Int:=((ps.find? fun q=>decide (ce d q = x)).map (pe d)).getD x
theorem Tr.up1_of (T:Tr S ps f d) {x:Int} (h:x ∈ S) (hf:x ≠ f):∃ q ∈ ps,ce d q = x/\up1 d ps x = pe d q:=by
 obtain ⟨q,hq,e⟩:=T.up h hf
 unfold up1
 cases hfd:ps.find? (fun q=>decide (ce d q = x)) with
 | none=>
  have:=List.find?_eq_none.mp hfd q hq
  exact absurd (Ja2 e) this
 | some q'=>exact ⟨q',List.mem_of_find?_eq_some hfd,Jav (List.find?_some (p:=fun q=>decide (ce d q = x)) hfd),rfl⟩
theorem Tr.up1_prop (T:Tr S ps f d) {x:Int} (h:x ∈ S) (hf:x ≠ f):up1 d ps x ∈ S/\d (up1 d ps x) + 1 = d x:=by
 obtain ⟨q,hq,e,e'⟩:=T.up1_of h hf
 rw [e',<- e]
 exact ⟨(T.prop hq).2.2.1,(T.prop hq).2.2.2⟩
theorem Tr.up1_ce (T:Tr S ps f d) {q:Ed} (h:q ∈ ps):up1 d ps (ce d q) = pe d q:=by
 obtain ⟨q',hq',e,e'⟩:=T.up1_of (T.prop h).1 (T.prop h).2.1
 rw [e',T.one hq' h e]
def rt (d:Int->Nat) (ps:List Ed) (f:Int):Nat->Int->Int
 | 0,x=>x
 | k + 1,x=>if up1 d ps x = f then x else rt d ps f k (up1 d ps x)
def Zb6 (d:Int->Nat) (ps:List Ed) (f x:Int):Int:=rt d ps f (d x) x
theorem Tr.root_step (T:Tr S ps f d) {x:Int} (h:x ∈ S) (hf:x ≠ f) (hu:up1 d ps x ≠ f):Zb6 d ps f x = Zb6 d ps f (up1 d ps x):=by
 have:=(T.up1_prop h hf).2
 unfold Zb6
 rw [<- this]
 show (if up1 d ps x = f then x else rt d ps f (d (up1 d ps x)) (up1 d ps x)) = _
 rw [if_neg hu]
theorem Tr.root_base (T:Tr S ps f d) {x:Int} (h:x ∈ S) (hf:x ≠ f) (hu:up1 d ps x = f):Zb6 d ps f x = x:=by
 have:=(T.up1_prop h hf).2
 unfold Zb6
 rw [<- this]
 show (if up1 d ps x = f then x else rt d ps f (d (up1 d ps x)) (up1 d ps x)) = _
 rw [if_pos hu]
theorem Tr.pos (T:Tr S ps f d) {x:Int} (h:x ∈ S) (hf:x ≠ f):0 < d x:=by have:=(T.up1_prop h hf).2; omega
theorem Tr.root_ok (T:Tr S ps f d):∀ (k:Nat) {x:Int},d x<=k->x ∈ S->x ≠ f->Zb6 d ps f x ∈ S/\Zb6 d ps f x ≠ f/\up1 d ps (Zb6 d ps f x) = f
 | 0,x,hk,h,hf=>by have:=T.pos h hf; omega
 | k + 1,x,hk,h,hf=>by
  by_cases hu:up1 d ps x = f
  ·rw [T.root_base h hf hu]
   exact ⟨h,hf,hu⟩
  ·have:=T.up1_prop h hf
   rw [T.root_step h hf hu]
   exact T.root_ok k (by omega) this.1 hu
theorem Zh8 {g:Ed->Int} {z:Int}:∀ {l:List Ed} {q q':Ed},q ∈ l->q' ∈ l->q ≠ q'->g q = z->g q' = z->2<=(l.map g).count z
 | a :: l,q,q',h,h',n,e,e'=>by
  rw [Jax,Jfj]
  rcases Jam.mp h with h1 | h1
  ·rcases Jam.mp h' with h2 | h2
   ·exact absurd (h1.trans h2.symm) n
   ·have:0 < (l.map g).count z:=Jdq.mpr (Jak.mpr ⟨q',h2,e'⟩)
    rw [if_pos (by rw [<- h1,e]; simp)]
    omega
  ·rcases Jam.mp h' with h2 | h2
   ·have:0 < (l.map g).count z:=Jdq.mpr (Jak.mpr ⟨q,h1,e⟩)
    rw [if_pos (by rw [<- h2,e']; simp)]
    omega
   ·have:=Zh8 h1 h2 n e e'
    omega
structure Fk (S:List Int) (ps:List Ed) (f:Int) (d:Int->Nat):Prop extends Tr S ps f d where
 d0:d f = 0
 few:∀ x ∈ S,x ≠ f->chn d ps x<=1
theorem Fk.zero (T:Fk S ps f d) {x:Int} (h:x ∈ S) (h0:d x = 0):x = f:=Jag fun z=>by have:=T.pos h z; omega
theorem Fk.inj (T:Fk S ps f d):∀ (k:Nat) {x y:Int},d x = k->d y = k->x ∈ S->x ≠ f->y ∈ S->y ≠ f->Zb6 d ps f x = Zb6 d ps f y->x = y
 | 0,x,y,hx,hy,h,hf,_,_,_=>by have:=T.pos h hf; omega
 | k + 1,x,y,hx,hy,h,hf,h',hf',e=>by
  have ux:=T.up1_prop h hf
  have uy:=T.up1_prop h' hf'
  by_cases hu:up1 d ps x = f
  ·have:d (up1 d ps y) = 0:=by rw [hu,T.d0] at ux; omega
   rw [T.root_base h hf hu,T.root_base h' hf' (T.zero uy.1 this)] at e
   exact e
  ·have hu':up1 d ps y ≠ f:=fun z=>by
    rw [z,T.d0] at uy
    exact hu (T.zero ux.1 (by omega))
   rw [T.root_step h hf hu,T.root_step h' hf' hu'] at e
   have ih:=T.inj k (by omega) (by omega) ux.1 hu uy.1 hu' e
   obtain ⟨q,hq,e1,e2⟩:=T.up1_of h hf
   obtain ⟨q',hq',e1',e2'⟩:=T.up1_of h' hf'
   by_cases hqq:q = q'
   ·rw [<- e1,<- e1',hqq]
   ·have:=Zh8 (g:=pe d) hq hq' hqq (e2.symm.trans ih) e2'.symm
    have h1:=T.few _ uy.1 hu'
    unfold chn at h1
    omega
def cls (S:List Int) (d:Int->Nat) (ps:List Ed) (f a:Int):List Int:=(oth S f).filter fun x=>decide (Zb6 d ps f x = a)
theorem Zda {a x:Int}:x ∈ cls S d ps f a ↔ (x ∈ S/\x ≠ f)/\Zb6 d ps f x = a:=by unfold cls; rw [Jas,Za6]; simp
theorem Fk.desc (T:Fk S ps f d) {a:Int}:∀ (j:Nat) {y:Int} {k:Nat},y ∈ cls S d ps f a->1<=k->k + j = d y->∃ z ∈ cls S d ps f a,d z = k
 | 0,y,k,hy,h1,e=>⟨y,hy,by omega⟩
 | j + 1,y,k,hy,h1,e=>by
  obtain ⟨⟨h,hf⟩,hr⟩:=Zda.mp hy
  have u:=T.up1_prop h hf
  have hu:up1 d ps y ≠ f:=fun z=>by rw [z,T.d0] at u; omega
  exact T.desc j (y:=up1 d ps y) (Zda.mpr ⟨⟨u.1,hu⟩,by rw [<- T.root_step h hf hu]; exact hr⟩) h1 (by omega)
theorem Zbd {α:Type} [DecidableEq α]:∀ {l m:List α},l.Nodup->(∀ x ∈ l,x ∈ m)->l.length<=m.length
 | [],m,_,_=>Jbx _
 | a :: l,m,nd,hs=>by
  have ha:a ∈ m:=hs a (by simp)
  have nd':=Jbo.mp nd
  have:=Zbd (l:=l) (m:=m.erase a) nd'.2 fun x hx=>(List.mem_erase_of_ne (show x ≠ a from fun z=>nd'.1 (z ▸ hx))).mpr (hs x (by simp [hx]))
  rw [Jee ha] at this
  have:=List.length_pos_of_mem ha
  rw [Jau]
  omega
theorem Zbg {α β:Type} {g:α->β}:∀ {l:List α},l.Nodup->(∀ x ∈ l,∀ y ∈ l,g x = g y->x = y)->(l.map g).Nodup
 | [],_,_=>Jf1
 | a :: l,nd,h=>by
  have nd':=Jbo.mp nd
  rw [Jax,Jbo]
  refine ⟨fun z=>?_,Zbg nd'.2 fun x hx y hy=>h x (by simp [hx]) y (by simp [hy])⟩
  obtain ⟨y,hy,e⟩:=Jak.mp z
  have:=h y (by simp [hy]) a (by simp) e
  exact nd'.1 (this ▸ hy)
theorem Fk.size (T:Fk S ps f d) {x:Int} (h:x ∈ S) (hf:x ≠ f) (h0:chn d ps x = 0):(cls S d ps f (Zb6 d ps f x)).length = d x:=by
 have hx:x ∈ cls S d ps f (Zb6 d ps f x):=Zda.mpr ⟨⟨h,hf⟩,rfl⟩
 have top:∀ y ∈ cls S d ps f (Zb6 d ps f x),d y<=d x:=fun y hy=>Jag fun z=>by
  obtain ⟨y',hy',e'⟩:=T.desc (d y - (d x + 1)) hy (k:=d x + 1) (by omega) (by omega)
  obtain ⟨⟨h1,h2⟩,h3⟩:=Zda.mp hy'
  have u:=T.up1_prop h1 h2
  have hu:up1 d ps y' ≠ f:=fun w=>by
   rw [w,T.d0] at u
   have:=T.pos h hf
   omega
  have e2:up1 d ps y' = x:=T.inj (d x) (by omega) rfl u.1 hu h hf (by rw [<- T.root_step h1 h2 hu]; exact h3)
  obtain ⟨q,hq,e3,e4⟩:=T.up1_of h1 h2
  have:0 < chn d ps x:=Jdq.mpr (Jak.mpr ⟨q,hq,e4.symm.trans e2⟩)
  omega
 have ndc:(cls S d ps f (Zb6 d ps f x)).Nodup:=Jbc (Ja6.trans Ja6) T.nd
 have ndm:((cls S d ps f (Zb6 d ps f x)).map d).Nodup:=Zbg ndc fun y hy z hz e=>by
  obtain ⟨⟨a1,a2⟩,a3⟩:=Zda.mp hy
  obtain ⟨⟨b1,b2⟩,b3⟩:=Zda.mp hz
  exact T.inj (d z) e rfl a1 a2 b1 b2 (a3.trans b3.symm)
 have l1:=Zbd (m:=List.range' 1 (d x)) ndm fun k hk=>by
  obtain ⟨y,hy,rfl⟩:=Jak.mp hk
  have:=top y hy
  obtain ⟨⟨a1,a2⟩,a3⟩:=Zda.mp hy
  have:=T.pos a1 a2
  rw [Jf7]
  omega
 have l2:=Zbd (l:=List.range' 1 (d x)) (m:=(cls S d ps f (Zb6 d ps f x)).map d) (List.nodup_range' ..) fun k hk=>by
  rw [Jf7] at hk
  obtain ⟨z,hz,e⟩:=T.desc (d x - k) hx (k:=k) (by omega) (by omega)
  exact Jak.mpr ⟨z,hz,e⟩
 rw [Jab,List.length_range'] at l1 l2
 omega
theorem Fk.leaf_one (T:Fk S ps f d) {x y:Int} (h:x ∈ S) (hf:x ≠ f) (h0:chn d ps x = 0) (h':y ∈ S) (hf':y ≠ f) (h0':chn d ps y = 0) (e:Zb6 d ps f x = Zb6 d ps f y):x = y:=by
 have a:=T.size h hf h0
 have b:=T.size h' hf' h0'
 rw [e] at a
 exact T.inj (d y) (by omega) rfl h hf h' hf' e
theorem Zkp (d:Int->Nat):∀ (S:List Int),∃ B,∀ x ∈ S,d x<=B
 | []=>⟨0,by simp⟩
 | a :: S=>by
  obtain ⟨B,h⟩:=Zkp d S
  refine ⟨max (d a) B,fun x hx=>?_⟩
  rcases Jam.mp hx with rfl | hx
  ·omega
  ·have:=h x hx
   omega
theorem Fk.leaf_go (T:Fk S ps f d) {B:Nat} (hB:∀ x ∈ S,d x<=B):∀ (k:Nat) {x:Int},B - d x<=k->x ∈ S->x ≠ f->∃ z ∈ S,z ≠ f/\chn d ps z = 0/\Zb6 d ps f z = Zb6 d ps f x
 | k,x,hk,h,hf=>by
  by_cases h0:chn d ps x = 0
  ·exact ⟨x,h,hf,h0,rfl⟩
  ·obtain ⟨q,hq,e⟩:=Jak.mp (Jdq.mp (Jfx h0))
   obtain ⟨p1,p2,p3,p4⟩:=T.prop hq
   rw [e] at p4
   have b:=hB _ p1
   have u:up1 d ps (ce d q) = x:=(T.up1_ce hq).trans e
   have r:Zb6 d ps f (ce d q) = Zb6 d ps f x:=by rw [T.root_step p1 p2 (by rw [u]; exact hf),u]
   match k with
   | 0=>omega
   | k + 1=>
    obtain ⟨z,z1,z2,z3,z4⟩:=T.leaf_go hB k (x:=ce d q) (by omega) p1 p2
    exact ⟨z,z1,z2,z3,z4.trans r⟩
theorem Fk.leaf (T:Fk S ps f d) {x:Int} (h:x ∈ S) (hf:x ≠ f):∃ z ∈ S,z ≠ f/\chn d ps z = 0/\Zb6 d ps f z = Zb6 d ps f x:=by
 obtain ⟨B,hB⟩:=Zkp d S
 exact T.leaf_go hB (B - d x) (Jaf _) h hf
def lvs (S:List Int) (ps:List Ed):List Int:=S.filter fun x=>decide (deg ps x = 1)
theorem Fk.arms (T:Fk S ps f d) (hf3:deg ps f ≠ 1) {R:List Int} (nR:R.Nodup) (hR:∀ r ∈ R,r ∈ S/\r ≠ f) (hone:∀ r ∈ R,∀ r' ∈ R,Zb6 d ps f r = Zb6 d ps f r'->r = r') (hall:∀ x ∈ S,x ≠ f->∃ r ∈ R,Zb6 d ps f r = Zb6 d ps f x):
  (R.map fun r=>(cls S d ps f (Zb6 d ps f r)).length).Perm ((lvs S ps).map d):=by
 have ml:∀ x,x ∈ lvs S ps ↔ x ∈ S/\x ≠ f/\chn d ps x = 0:=fun x=>by
  unfold lvs
  rw [Jas,Jcf]
  constructor
  ·rintro ⟨h,e⟩
   have hf:x ≠ f:=fun z=>hf3 (z ▸ e)
   have:=T.deg_x h hf
   exact ⟨h,hf,by omega⟩
  ·rintro ⟨h,hf,e⟩
   exact ⟨h,by have:=T.deg_x h hf; omega⟩
 have nL:(lvs S ps).Nodup:=Jbc Ja6 T.nd
 have n1:(R.map (Zb6 d ps f)).Nodup:=Zbg nR hone
 have n2:((lvs S ps).map (Zb6 d ps f)).Nodup:=Zbg nL fun x hx y hy e=>by
  obtain ⟨a1,a2,a3⟩:=(ml x).mp hx
  obtain ⟨b1,b2,b3⟩:=(ml y).mp hy
  exact T.leaf_one a1 a2 a3 b1 b2 b3 e
 have s1:∀ a ∈ R.map (Zb6 d ps f),a ∈ (lvs S ps).map (Zb6 d ps f):=fun a ha=>by
  obtain ⟨r,hr,rfl⟩:=Jak.mp ha
  obtain ⟨z,z1,z2,z3,z4⟩:=T.leaf (hR r hr).1 (hR r hr).2
  exact Jak.mpr ⟨z,(ml z).mpr ⟨z1,z2,z3⟩,z4⟩
 have s2:∀ a ∈ (lvs S ps).map (Zb6 d ps f),a ∈ R.map (Zb6 d ps f):=fun a ha=>by
  obtain ⟨x,hx,rfl⟩:=Jak.mp ha
  obtain ⟨a1,a2,_⟩:=(ml x).mp hx
  obtain ⟨r,hr,e⟩:=hall x a1 a2
  exact Jak.mpr ⟨r,hr,e⟩
 have p:=(Zcl n1 s1 (Zbd n2 s2)).map fun a=>(cls S d ps f a).length
 rw [Jb6,Jb6] at p
 refine p.trans (Jem (Jc9 fun x hx=>?_))
 obtain ⟨a1,a2,a3⟩:=(ml x).mp hx
 exact T.size a1 a2 a3
def Conn (S:List Int) (es:List Ed):Prop:=∀ h:Int->Int,(∀ q ∈ es,h q.1 = h q.2)->∀ x ∈ S,∀ y ∈ S,h x = h y
def Zqn (A:List Int) (es:List Ed) (f:Int) (d:Int->Nat):Prop:=∀ x ∈ A,x ≠ f->∃ q ∈ es,(q.1 = x/\q.2 ∈ A/\d q.2 + 1 = d x)\/(q.2 = x/\q.1 ∈ A/\d q.1 + 1 = d x)
theorem Zoh {es:List Ed} (hc:Conn S es) (hin:∀ q ∈ es,q.1 ∈ S/\q.2 ∈ S) {A:List Int} {d:Int->Nat} (hA:∀ x ∈ A,x ∈ S) (hf:f ∈ A) (hne:∃ y ∈ S,y ∉ A) (d0:d f = 0) (hp:Zqn A es f d):
  ∃ v ∈ S,v ∉ A/\∃ d',d' f = 0/\Zqn (v :: A) es f d':=by
 have cross:∃ q ∈ es,¬ (q.1 ∈ A ↔ q.2 ∈ A):=Jag fun z=>by
  obtain ⟨y,hy,ny⟩:=hne
  have:=hc (fun x=>if x ∈ A then 1 else 0) (fun q hq=>by
   have:q.1 ∈ A ↔ q.2 ∈ A:=Jag fun w=>z ⟨q,hq,w⟩
   by_cases h:q.1 ∈ A
   ·rw [if_pos h,if_pos (this.mp h)]
   ·rw [if_neg h,if_neg (fun w=>h (this.mpr w))]) f (hA f hf) y hy
  rw [if_pos hf,if_neg ny] at this
  exact absurd this (by decide)
 obtain ⟨q,hq,hx⟩:=cross
 have go:∀ u v,u ∈ A->v ∈ S->v ∉ A->((q.1 = v/\q.2 = u)\/(q.2 = v/\q.1 = u))->∃ v ∈ S,v ∉ A/\∃ d',d' f = 0/\Zqn (v :: A) es f d':=fun u v hu hv nv hq2=>by
  have nf:f ≠ v:=fun z=>nv (z ▸ hf)
  refine ⟨v,hv,nv,fun x=>if x = v then d u + 1 else d x,by simp only; rw [if_neg nf]; exact d0,fun x hx xf=>?_⟩
  rcases Jam.mp hx with rfl | hxA
  ·refine ⟨q,hq,?_⟩
   have nu:u ≠ x:=fun z=>nv (z ▸ hu)
   rcases hq2 with ⟨e1,e2⟩ | ⟨e1,e2⟩
   ·exact .inl ⟨e1,by rw [e2]; simp [hu],by rw [e2]; simp [nu]⟩
   ·exact .inr ⟨e1,by rw [e2]; simp [hu],by rw [e2]; simp [nu]⟩
  ·have nx:x ≠ v:=fun z=>nv (z ▸ hxA)
   obtain ⟨q',hq',h⟩:=hp x hxA xf
   refine ⟨q',hq',?_⟩
   rcases h with ⟨e1,e2,e3⟩ | ⟨e1,e2,e3⟩
   ·have n2:q'.2 ≠ v:=fun z=>nv (z ▸ e2)
    exact .inl ⟨e1,by simp [e2],by simp only; rw [if_neg n2,if_neg nx]; exact e3⟩
   ·have n2:q'.1 ≠ v:=fun z=>nv (z ▸ e2)
    exact .inr ⟨e1,by simp [e2],by simp only; rw [if_neg n2,if_neg nx]; exact e3⟩
 obtain ⟨i1,i2⟩:=hin q hq
 by_cases h1:q.1 ∈ A
 ·have h2:q.2 ∉ A:=fun w=>hx ⟨fun _=>w,fun _=>h1⟩
  exact go q.1 q.2 h1 i2 h2 (.inr ⟨rfl,rfl⟩)
 ·have h2:q.2 ∈ A:=Jag fun w=>hx ⟨fun z=>absurd z h1,fun z=>absurd z w⟩
  exact go q.2 q.1 h2 i1 h1 (.inl ⟨rfl,rfl⟩)
theorem Zja {es:List Ed} (hc:Conn S es) (hin:∀ q ∈ es,q.1 ∈ S/\q.2 ∈ S) (nS:S.Nodup):∀ (k:Nat) {A:List Int} {d:Int->Nat},S.length - A.length<=k->A.Nodup->(∀ x ∈ A,x ∈ S)->f ∈ A->d f = 0->Zqn A es f d->
  ∃ d':Int->Nat,d' f = 0/\∀ x ∈ S,x ≠ f->∃ q ∈ es,(q.1 = x/\d' q.2 + 1 = d' x)\/(q.2 = x/\d' q.1 + 1 = d' x)
 | k,A,d,hk,nA,hA,hf,d0,hp=>by
  by_cases hall:∀ y ∈ S,y ∈ A
  ·refine ⟨d,d0,fun x hx xf=>?_⟩
   obtain ⟨q,hq,h⟩:=hp x (hall x hx) xf
   exact ⟨q,hq,h.imp (fun z=>⟨z.1,z.2.2⟩) (fun z=>⟨z.1,z.2.2⟩)⟩
  ·have hne:∃ y ∈ S,y ∉ A:=Jag fun z=>hall fun y hy=>Jag fun w=>z ⟨y,hy,w⟩
   obtain ⟨v,hv,nv,d',e0,hp'⟩:=Zoh hc hin hA hf hne d0 hp
   have nvA:(v :: A).Nodup:=Jbo.mpr ⟨nv,nA⟩
   have sub:∀ x ∈ v :: A,x ∈ S:=fun x hx=>by
    rcases Jam.mp hx with rfl | hx
    ·exact hv
    ·exact hA x hx
   have:=Zbd nvA sub
   rw [Jau] at this
   match k with
   | 0=>omega
   | k + 1=>exact Zja hc hin nS k (A:=v :: A) (by rw [Jau]; omega) nvA sub (by simp [hf]) e0 hp'
theorem Zog {es:List Ed} (hc:Conn S es) (hin:∀ q ∈ es,q.1 ∈ S/\q.2 ∈ S) (nS:S.Nodup) (hf:f ∈ S) (hl:es.length + 1 = S.length):∃ d:Int->Nat,d f = 0/\Tr S es f d:=by
 obtain ⟨d,e0,hp⟩:=Zja (f:=f) hc hin nS S.length (A:=[f]) (d:=fun _=>0) (by omega) (by simp) (fun x hx=>by rw [Jaz.mp hx]; exact hf) (by simp) rfl (fun x hx xf=>absurd (Jaz.mp hx) xf)
 exact ⟨d,e0,nS,hf,hin,hp,hl⟩
end
end L3
namespace L3
def sI {α:Type} (g:α->Int):List α->Int
 | []=>0
 | x :: l=>g x + sI g l
section
variable {α β:Type}
theorem Zee {g:α->Int}:∀ {l m:List α},sI g (l ++ m) = sI g l + sI g m
 | [],m=>by simp [sI]
 | x :: l,m=>by
  have:=Zee (g:=g) (l:=l) (m:=m)
  simp only [Je6,sI]
  omega
theorem Zen {g:α->Int} {l m:List α} (p:l.Perm m):sI g l = sI g m:=by
 induction p with
 | nil=>rfl
 | cons x _ ih=>simp only [sI]; omega
 | swap x y l=>simp only [sI]; omega
 | trans _ _ h1 h2=>exact h1.trans h2
theorem Zai {g h:α->Int}:∀ {l:List α},(∀ x ∈ l,g x = h x)->sI g l = sI h l
 | [],_=>rfl
 | x :: l,e=>by simp only [sI]; rw [e x (by simp),Zai fun y hy=>e y (by simp [hy])]
theorem Zju {f:β->α} {g:α->Int}:∀ {l:List β},sI g (l.map f) = sI (fun x=>g (f x)) l
 | []=>rfl
 | x :: l=>by simp only [Jax,sI]; rw [Zju]
theorem Zck {g h:α->Int}:∀ {l:List α},sI (fun x=>g x + h x) l = sI g l + sI h l
 | []=>rfl
 | x :: l=>by have:=Zck (g:=g) (h:=h) (l:=l); simp only [sI]; omega
theorem Zed {g h:α->Int}:∀ {l:List α},sI (fun x=>g x - h x) l = sI g l - sI h l
 | []=>rfl
 | x :: l=>by have:=Zed (g:=g) (h:=h) (l:=l); simp only [sI]; omega
theorem Zdi {c:Int} {g:α->Int}:∀ {l:List α},sI (fun x=>c * g x) l = c * sI g l
 | []=>by simp [sI]
 | x :: l=>by have:=Zdi (c:=c) (g:=g) (l:=l); simp only [sI]; rw [this,Int.mul_add]
theorem Zbs {c:Int}:∀ {l:List α},sI (fun _=>c) l = c * (l.length:Nat)
 | []=>by simp [sI]
 | x :: l=>by
  have:=Zbs (c:=c) (l:=l)
  simp only [sI,Jau]
  rw [this,Int.natCast_add,Int.mul_add]
  omega
theorem Zmf {g h:α->Int}:∀ {l:List α},(∀ x ∈ l,g x<=h x)->sI g l<=sI h l
 | [],_=>Int.le_refl _
 | x :: l,e=>by have:=Zmf (l:=l) fun y hy=>e y (by simp [hy]); have:=e x (by simp); simp only [sI]; omega
theorem Zme {g:α->Int} {l:List α} (h:∀ x ∈ l,0<=g x):0<=sI g l:=by
 have:=Zmf (g:=fun _=>0) (h:=g) (l:=l) h
 rw [Zbs] at this
 omega
theorem Zcj {g:α->Int} {l:List α} (h:∀ x ∈ l,g x = 0):sI g l = 0:=by
 rw [Zai (h:=fun _=>0) h,Zbs]
 omega
theorem Zdz {g:α->Int}:∀ {l:List α} {x:α},x ∈ l->(∀ y ∈ l,0<=g y)->g x<=sI g l
 | y :: l,x,hx,h=>by
  have h1:=h y (by simp)
  have h2:=Zme (g:=g) (l:=l) fun z hz=>h z (by simp [hz])
  simp only [sI]
  rcases Jam.mp hx with rfl | hx
  ·omega
  ·have:=Zdz hx fun z hz=>h z (by simp [hz])
   omega
theorem Zqt {g:α->Int}:∀ {l:List α} {x y:α},x ∈ l->y ∈ l->x ≠ y->(∀ z ∈ l,0<=g z)->g x + g y<=sI g l
 | a :: l,x,y,hx,hy,n,h=>by
  have h1:=h a (by simp)
  have h':=fun z (hz:z ∈ l)=>h z (Jbj _ hz)
  simp only [sI]
  rcases Jam.mp hx with e | hx
  ·rcases Jam.mp hy with e' | hy
   ·exact absurd (e.trans e'.symm) n
   ·have:=Zdz hy h'
    subst e
    omega
  ·rcases Jam.mp hy with e' | hy
   ·have:=Zdz hx h'
    subst e'
    omega
   ·have:=Zqt hx hy n h'
    omega
theorem Zk0 {g:α->Int} {l m:List α} (s:l.Sublist m) (h:∀ x ∈ m,0<=g x):sI g l<=sI g m:=by
 induction s with
 | slnil=>exact Int.le_refl _
 | cons a _ ih=>have:=ih fun x hx=>h x (by simp [hx]); have:=h a (by simp); simp only [sI]; omega
 | cons_cons a _ ih=>have:=ih fun x hx=>h x (by simp [hx]); simp only [sI]; omega
theorem Zfj {g:α->Int} {p:α->Bool}:∀ {l:List α},(∀ x ∈ l,p x = false->g x = 0)->sI g l = sI g (l.filter p)
 | [],_=>rfl
 | x :: l,h=>by
  have ih:=Zfj (g:=g) (p:=p) (l:=l) fun y hy=>h y (by simp [hy])
  cases e:p x with
  | true=>rw [List.filter_cons_of_pos e]; simp only [sI]; omega
  | false=>
   rw [List.filter_cons_of_neg (by simp [e])]
   have:=h x (by simp) e
   simp only [sI]
   omega
theorem Zmh {g:α->Int}:∀ {L:List (List α)},sI g L.flatten = sI (fun l=>sI g l) L
 | []=>rfl
 | l :: L=>by have:=Zmh (g:=g) (L:=L); simp only [Jd0,Zee,sI]; omega
theorem Zmg {g:α->Int} (lab:α->Int):∀ {R:List Int} {l:List α},R.Nodup->(∀ x ∈ l,lab x ∈ R)->sI g l = sI (fun k=>sI g (l.filter fun x=>decide (lab x = k))) R
 | [],[],_,_=>rfl
 | [],x :: l,_,h=>absurd (h x (by simp)) (by simp)
 | r :: R,l,nd,h=>by
  have nd':=Jbo.mp nd
  have ih:=Zmg (g:=g) lab (R:=R) (l:=l.filter fun x=>!decide (lab x = r)) nd'.2 fun x hx=>by
   obtain ⟨h1,h2⟩:=Jas.mp hx
   rcases Jam.mp (h x h1) with e | e
   ·simp [e] at h2
   ·exact e
  have e:sI (fun k=>sI g ((l.filter fun x=>!decide (lab x = r)).filter fun x=>decide (lab x = k))) R = sI (fun k=>sI g (l.filter fun x=>decide (lab x = k))) R:=Zai fun k hk=>by
   rw [List.filter_filter]
   congr 1
   refine Jew fun x _=>?_
   by_cases z:lab x = k
   ·have:lab x ≠ r:=fun u=>nd'.1 (by rw [<- u,z]; exact hk)
    simp [z]
    rw [<- z]
    exact this
   ·simp [z]
  rw [e] at ih
  have sp:∀ l:List α,sI g l = sI g (l.filter fun x=>decide (lab x = r)) + sI g (l.filter fun x=>!decide (lab x = r)):=fun l=>by
   induction l with
   | nil=>rfl
   | cons x l ih=>
    by_cases z:lab x = r
    ·simp [z,sI]; omega
    ·simp [z,sI]; omega
  have:=sp l
  simp only [sI]
  omega
end
section
variable {pts:List Int} {ps:List Ed}
def qf (pts:List Int) (ps:List Ed) (x:Int->Int):Int:=sI (fun p=>x p * x p) pts - sI (fun e=>x e.1 * x e.2) ps
def nb (ps:List Ed) (x:Int->Int) (p:Int):Int:=sI (fun e=>(if e.1 = p then x e.2 else 0) + (if e.2 = p then x e.1 else 0)) ps
def bf (ps:List Ed) (x:Int->Int) (p:Int):Int:=2 * x p - nb ps x p
def Ins (pts:List Int) (ps:List Ed):Prop:=∀ e ∈ ps,e.1 ∈ pts/\e.2 ∈ pts
theorem Zq3 {y:Int->Int} {a c:Int}:∀ {l:List Int},l.Nodup->a ∈ l->sI (fun p=>y p * (if a = p then c else 0)) l = y a * c
 | p :: l,nd,ha=>by
  have nd':=Jbo.mp nd
  simp only [sI]
  rcases Jam.mp ha with e | h
  ·subst e
   rw [if_pos rfl,Zcj fun q hq=>by rw [if_neg (show ¬ a = q from fun z=>nd'.1 (z ▸ hq)),Jfy]]
   omega
  ·rw [if_neg (show ¬ a = p from fun z=>nd'.1 (z ▸ h)),Zq3 nd'.2 h]
   omega
theorem dbl {x y:Int->Int} (nd:pts.Nodup):∀ {ps:List Ed},Ins pts ps->sI (fun p=>y p * nb ps x p) pts = sI (fun e=>y e.1 * x e.2 + y e.2 * x e.1) ps
 | [],_=>by
  unfold nb
  exact Zcj fun p _=>by simp [sI]
 | e :: ps,h=>by
  have ih:=dbl (x:=x) (y:=y) nd (ps:=ps) fun q hq=>h q (by simp [hq])
  have he:=h e (by simp)
  have e1:∀ p,y p * nb (e :: ps) x p = (y p * (if e.1 = p then x e.2 else 0) + y p * (if e.2 = p then x e.1 else 0)) + y p * nb ps x p:=fun p=>by
   unfold nb
   simp only [sI]
   rw [Int.mul_add,Int.mul_add]
  rw [Zai fun p _=>e1 p,Zck,Zck,ih,Zq3 nd he.1,Zq3 nd he.2]
  rfl
theorem bil {x y:Int->Int} (nd:pts.Nodup) (h:Ins pts ps):sI (fun p=>y p * bf ps x p) pts = 2 * sI (fun p=>y p * x p) pts - sI (fun e=>y e.1 * x e.2 + y e.2 * x e.1) ps:=by
 rw [<- dbl nd h,<- Zdi,<- Zed]
 refine Zai fun p _=>?_
 unfold bf
 grind
theorem two_q {x:Int->Int} (nd:pts.Nodup) (h:Ins pts ps):sI (fun p=>x p * bf ps x p) pts = 2 * qf pts ps x:=by
 rw [bil nd h]
 unfold qf
 have:sI (fun e=>x e.1 * x e.2 + x e.2 * x e.1) ps = 2 * sI (fun e:Ed=>x e.1 * x e.2) ps:=by
  rw [<- Zdi]
  refine Zai fun e _=>?_
  grind
 rw [this]
 omega
def rs (x:Int->Int) (p:Int):Int->Int:=fun r=>if r = p then x p + 1 else x r
def Zer (ps:List Ed) (p:Int):Int:=sI (fun e=>if e.1 = p/\e.2 = p then 1 else 0) ps
theorem q_rs {x:Int->Int} {p:Int} (nd:pts.Nodup) (hp:p ∈ pts):qf pts ps (rs x p) = qf pts ps x + 1 + bf ps x p - Zer ps p:=by
 have e1:sI (fun r=>rs x p r * rs x p r) pts = sI (fun r=>x r * x r) pts + (2 * x p + 1):=by
  have:∀ r ∈ pts,rs x p r * rs x p r = x r * x r + 1 * (if p = r then 2 * x p + 1 else 0):=fun r _=>by
   unfold rs
   by_cases z:r = p
   ·subst z
    rw [if_pos rfl,if_pos rfl]
    grind
   ·rw [if_neg z,if_neg (fun u=>z u.symm)]
    omega
  rw [Zai this,Zck,Zq3 (y:=fun _=>1) nd hp]
  omega
 have e2:sI (fun e:Ed=>rs x p e.1 * rs x p e.2) ps = sI (fun e:Ed=>x e.1 * x e.2) ps + (nb ps x p + Zer ps p):=by
  unfold nb Zer
  rw [<- Zck,<- Zck]
  refine Zai fun e _=>?_
  unfold rs
  by_cases z:e.1 = p
  ·by_cases u:e.2 = p
   ·simp [z,u]; grind
   ·simp [z,u]; grind
  ·by_cases u:e.2 = p
   ·simp [z,u]; grind
   ·simp [z,u]
 unfold qf bf
 rw [e1,e2]
 omega
theorem Zp1 {p:Int}:0<=Zer ps p:=Zme fun e _=>by split <;> omega
end
end L3
namespace L3
section
variable {pts:List Int} {ps K:List Ed}
def Low (pts:List Int) (ps:List Ed) (x:Int->Int):Prop:=(∀ p ∈ pts,0<=x p)/\(∃ p ∈ pts,x p ≠ 0)/\qf pts ps x<=0
def PosN (pts:List Int) (ps:List Ed):Prop:=∀ x:Int->Int,(∀ p ∈ pts,0<=x p)->(∃ p ∈ pts,x p ≠ 0)->0 < qf pts ps x
theorem Zg0 {x y:Int->Int} (h:Ins pts ps) (e:∀ p ∈ pts,x p = y p):qf pts ps x = qf pts ps y:=by
 have e1:sI (fun p=>x p * x p) pts = sI (fun p=>y p * y p) pts:=Zai fun p hp=>by rw [e p hp]
 have e2:sI (fun q:Ed=>x q.1 * x q.2) ps = sI (fun q:Ed=>y q.1 * y q.2) ps:=Zai fun q hq=>by rw [e _ (h q hq).1,e _ (h q hq).2]
 unfold qf
 rw [e1,e2]
def ds (x:Int->Int) (p:Int):Int->Int:=fun r=>if r = p then x p - 1 else x r
theorem nb_ds {x:Int->Int} {p:Int}:nb ps (ds x p) p = nb ps x p - 2 * Zer ps p:=by
 unfold nb Zer
 rw [<- Zdi,<- Zed]
 refine Zai fun e _=>?_
 unfold ds
 by_cases z:e.1 = p
 ·by_cases u:e.2 = p
  ·simp [z,u]; omega
  ·simp [z,u]
 ·by_cases u:e.2 = p
  ·simp [z,u]
  ·simp [z,u]
theorem q_ds {x:Int->Int} {p:Int} (nd:pts.Nodup) (hp:p ∈ pts):qf pts ps (ds x p) = qf pts ps x + 1 - bf ps x p - Zer ps p:=by
 have e:rs (ds x p) p = x:=funext fun r=>by
  unfold rs ds
  by_cases z:r = p
  ·subst z; simp
  ·simp [z]
 have:=q_rs (ps:=ps) (x:=ds x p) nd hp
 rw [e] at this
 unfold bf at *
 rw [nb_ds] at this
 have:ds x p p = x p - 1:=by unfold ds; simp
 omega
theorem sI_ds {x:Int->Int} {p:Int} (nd:pts.Nodup) (hp:p ∈ pts):sI (ds x p) pts = sI x pts - 1:=by
 have:∀ r ∈ pts,ds x p r = x r - 1 * (if p = r then 1 else 0):=fun r _=>by
  unfold ds
  by_cases z:r = p
  ·subst z; simp
  ·rw [if_neg z,if_neg (fun u=>z u.symm)]; omega
 rw [Zai this,Zed,Zq3 (y:=fun _=>1) nd hp]
 omega
def z0:Int->Int:=fun _=>0
theorem z0_at (p:Int):z0 p = 0:=rfl
theorem Zqz {p:Int} (nd:pts.Nodup) (hp:p ∈ pts):qf pts ps (rs z0 p) = 1 - Zer ps p:=by
 rw [q_rs nd hp]
 have e1:qf pts ps z0 = 0:=by
  have h1:sI (fun p=>z0 p * z0 p) pts = 0:=Zcj fun _ _=>rfl
  have h2:sI (fun e:Ed=>z0 e.1 * z0 e.2) ps = 0:=Zcj fun _ _=>rfl
  unfold qf
  omega
 have e2:nb ps z0 p = 0:=Zcj fun e _=>by simp [z0]
 unfold bf
 have:=z0_at p
 omega
end
end L3
namespace L3
section
variable {S:List Int} {ps:List Ed} {f:Int} {d:Int->Nat}
def upsA (d:Int->Nat) (ps:List Ed):Nat->Int->List Int->List Int
 | 0,_,acc=>acc
 | k + 1,x,acc=>upsA d ps k (up1 d ps x) (x :: acc)
def Ch (u:Int->Int):Int->List Int->Prop
 | _,[]=>True
 | f,p :: l=>u p = f/\Ch u p l
theorem Fk.ups (T:Fk S ps f d):∀ (k:Nat) {x:Int} {acc:List Int},d x = k->x ∈ S->Ch (up1 d ps) x acc->Ch (up1 d ps) f (upsA d ps k x acc)/\(upsA d ps k x acc).map d = List.range' 1 k ++ acc.map d/\∀ y ∈ upsA d ps k x acc,y ∈ acc\/(y ∈ S/\y ≠ f/\Zb6 d ps f y = Zb6 d ps f x)
 | 0,x,acc,hk,hx,c=>by
  have:=T.zero hx hk
  subst this
  exact ⟨c,rfl,fun y hy=>.inl hy⟩
 | k + 1,x,acc,hk,hx,c=>by
  have xf:x ≠ f:=fun z=>by rw [z,T.d0] at hk; omega
  have u:=T.up1_prop hx xf
  obtain ⟨h1,h2,h3⟩:=T.ups k (x:=up1 d ps x) (acc:=x :: acc) (by omega) u.1 ⟨rfl,c⟩
  refine ⟨h1,?_,fun y hy=>?_⟩
  ·show (upsA d ps k (up1 d ps x) (x :: acc)).map d = _
   rw [h2,List.range'_concat,Jax,hk,Jba]
   simp
   omega
  ·have hy:y ∈ upsA d ps k (up1 d ps x) (x :: acc):=hy
   by_cases hu:up1 d ps x = f
   ·have:k = 0:=by rw [hu,T.d0] at u; omega
    subst this
    rcases Jam.mp hy with rfl | hy
    ·exact .inr ⟨hx,xf,rfl⟩
    ·exact .inl hy
   ·rcases h3 y hy with h | ⟨a,b,e⟩
    ·rcases Jam.mp h with rfl | h
     ·exact .inr ⟨hx,xf,rfl⟩
     ·exact .inl h
    ·exact .inr ⟨a,b,e.trans (T.root_step hx xf hu).symm⟩
def arm (d:Int->Nat) (ps:List Ed) (z:Int):List Int:=upsA d ps (d z) z []
theorem Fk.arm_ok (T:Fk S ps f d) {z:Int} (h:z ∈ S):Ch (up1 d ps) f (arm d ps z)/\(arm d ps z).map d = List.range' 1 (d z)/\(arm d ps z).length = d z/\(arm d ps z).Nodup/\∀ y ∈ arm d ps z,y ∈ S/\y ≠ f/\Zb6 d ps f y = Zb6 d ps f z:=by
 obtain ⟨h1,h2,h3⟩:=T.ups (d z) (x:=z) (acc:=[]) rfl h True.intro
 rw [Jft,Jdg] at h2
 refine ⟨h1,h2,?_,?_,fun y hy=>?_⟩
 ·have:=Jeh List.length h2
  rw [Jab,List.length_range'] at this
  exact this
 ·have n:((arm d ps z).map d).Nodup:=by unfold arm; rw [h2]; exact List.nodup_range' ..
  exact List.Pairwise.of_map d (fun a b hab e=>hab (by rw [e])) n
 ·rcases h3 y hy with h | h
  ·simp at h
  ·exact h
theorem Fk.arm_perm (T:Fk S ps f d) {z:Int} (h:z ∈ S) (hf:z ≠ f) (h0:chn d ps z = 0):(arm d ps z).Perm (cls S d ps f (Zb6 d ps f z)):=by
 obtain ⟨_,_,hl,nd,hm⟩:=T.arm_ok h
 refine Zcl nd (fun y hy=>?_) (by rw [T.size h hf h0,hl]; exact Jaf _)
 obtain ⟨a,b,c⟩:=hm y hy
 exact Zda.mpr ⟨⟨a,b⟩,c⟩
def Lvs (S:List Int) (ps:List Ed) (f:Int) (d:Int->Nat) (L:List Int):Prop:=L.Nodup/\∀ z,z ∈ L ↔ (z ∈ S/\z ≠ f/\chn d ps z = 0)
theorem Fk.all (T:Fk S ps f d) {L:List Int} (hL:Lvs S ps f d L):((L.map (arm d ps)).flatten).Perm (oth S f):=by
 obtain ⟨nL,mL⟩:=hL
 have nd:((L.map (arm d ps)).flatten).Nodup:=by
  refine List.pairwise_flatten.mpr ⟨fun l hl=>?_,?_⟩
  ·obtain ⟨z,hz,rfl⟩:=Jak.mp hl
   exact (T.arm_ok ((mL z).mp hz).1).2.2.2.1
  ·rw [Jd1]
   refine List.Pairwise.imp_of_mem ?_ nL
   intro a b ha hb hab x hx y hy e
   obtain ⟨a1,a2,a3⟩:=(mL a).mp ha
   obtain ⟨b1,b2,b3⟩:=(mL b).mp hb
   have r1:=((T.arm_ok a1).2.2.2.2 x hx).2.2
   have r2:=((T.arm_ok b1).2.2.2.2 y hy).2.2
   rw [e] at r1
   exact hab (T.leaf_one a1 a2 a3 b1 b2 b3 (r1.symm.trans r2))
 have s1:∀ x ∈ (L.map (arm d ps)).flatten,x ∈ oth S f:=fun x hx=>by
  obtain ⟨l,hl,hx⟩:=Je7.mp hx
  obtain ⟨z,hz,rfl⟩:=Jak.mp hl
  obtain ⟨a,b,_⟩:=(T.arm_ok ((mL z).mp hz).1).2.2.2.2 x hx
  exact Za6.mpr ⟨a,b⟩
 refine Zcl nd s1 (Zbd (Jbc Ja6 T.nd) fun x hx=>?_)
 obtain ⟨h,hf⟩:=Za6.mp hx
 obtain ⟨z,z1,z2,z3,z4⟩:=T.leaf h hf
 exact Je7.mpr ⟨_,Jak.mpr ⟨z,(mL z).mpr ⟨z1,z2,z3⟩,rfl⟩,(T.arm_perm z1 z2 z3).mem_iff.mpr (Zda.mpr ⟨⟨h,hf⟩,z4.symm⟩)⟩
def pqL:Int->List Int->Int
 | _,[]=>0
 | v,a :: l=>a * a - v * a + pqL a l
theorem Ch.sum {u:Int->Int} (X:Int->Int):∀ {l:List Int} {f:Int},Ch u f l->sI (fun p=>X p * X p - X p * X (u p)) l = pqL (X f) (l.map X)
 | [],_,_=>rfl
 | p :: l,f,h=>by
  have ih:=Ch.sum X (l:=l) (f:=p) h.2
  simp only [sI,Jax,pqL]
  rw [ih,h.1,Int.mul_comm (X f)]
theorem Zpl (nd:S.Nodup) (h:f ∈ S):S.Perm (f :: oth S f):=by
 have e:oth S f = S.erase f:=by
  unfold oth
  rw [List.Nodup.erase_eq_filter nd]
  congr 1
  funext x
  rw [Jci]
  simp
 rw [e]
 exact List.perm_cons_erase h
theorem Fk.q_eq (T:Fk S ps f d) {L:List Int} (hL:Lvs S ps f d L) (X:Int->Int):qf S ps X = X f * X f + sI (fun z=>pqL (X f) ((arm d ps z).map X)) L:=by
 have e1:sI (fun e:Ed=>X e.1 * X e.2) ps = sI (fun p=>X p * X (up1 d ps p)) (oth S f):=by
  rw [Zen T.perm,Zju]
  refine Zai fun e he=>?_
  rw [T.up1_ce he]
  rcases Zea (d:=d) e with ⟨a,b⟩ | ⟨a,b⟩
  ·rw [a,b]
  ·rw [a,b,Int.mul_comm]
 have e2:sI (fun p=>X p * X p) S = X f * X f + sI (fun p=>X p * X p) (oth S f):=by
  rw [Zen (Zpl T.nd T.fS)]
  rfl
 have e3:sI (fun p=>X p * X p - X p * X (up1 d ps p)) (oth S f) = sI (fun z=>pqL (X f) ((arm d ps z).map X)) L:=by
  rw [<- Zen (T.all hL),Zmh,Zju]
  exact Zai fun z hz=>(T.arm_ok ((hL.2 z).mp hz).1).1.sum X
 rw [Zed] at e3
 unfold qf
 omega
theorem pq_id (a v m P:Int):(m + 1) * (2 * (m + 1 + 1) * (a * a - v * a + P) + (m + 1) * (v * v)) = (m + 2) * (2 * (m + 1) * P + m * (a * a)) + ((m + 2) * a - (m + 1) * v) * ((m + 2) * a - (m + 1) * v):=by grind
theorem Zbr (a:Int):0<=a * a:=by
 rcases Int.le_total 0 a with h | h
 ·exact Jd6 h h
 ·exact Int.mul_nonneg_of_nonpos_of_nonpos h h
theorem Zms:∀ (l:List Int) (v:Int),0<=2 * ((l.length:Int) + 1) * pqL v l + l.length * (v * v)
 | [],v=>by simp [pqL]
 | a :: l,v=>by
  have ih:=Zms l a
  have hm:(0:Int)<=l.length:=by omega
  simp only [pqL,Jau,Int.natCast_add,Int.natCast_one]
  generalize (l.length:Int) = m at *
  generalize pqL a l = P at *
  have e:=pq_id a v m P
  have h1:=Jd6 (show 0<=m + 2 by omega) ih
  have h2:=Zbr ((m + 2) * a - (m + 1) * v)
  refine Int.nonneg_of_mul_nonneg_right (a:=m + 1) ?_ (by omega)
  omega
theorem pq_z:∀ (l:List Int),pqL 0 l<=0->∀ a ∈ l,a = 0
 | [],_,a,ha=>by simp at ha
 | b :: l,h,a,ha=>by
  have ih:=Zms l b
  have hm:(0:Int)<=l.length:=by omega
  simp only [pqL,Jfz,Int.sub_zero] at h
  have e:=pq_id b 0 l.length (pqL b l)
  have hb:b = 0:=Jag fun z=>by
   have h1:=Jd6 (show 0<=(l.length:Int) + 2 by omega) ih
   have h2:0 < (((l.length:Int) + 2) * b) * (((l.length:Int) + 2) * b):=by
    have:((l.length:Int) + 2) * b ≠ 0:=Jfk (by omega) z
    have:=Zbr (((l.length:Int) + 2) * b)
    have h3:((l.length:Int) + 2) * b * (((l.length:Int) + 2) * b) ≠ 0:=Jfk (by assumption) (by assumption)
    omega
   simp only [Jfz,Jfy,Int.sub_zero,Jef] at e
   have h4:=Jd6 (show 0<=((l.length:Int) + 1) * (2 * ((l.length:Int) + 1 + 1)) from Jd6 (by omega) (by omega)) (show 0<=-(b * b + pqL b l) by omega)
   rw [Int.mul_neg,Int.mul_assoc] at h4
   omega
  subst hb
  rcases Jam.mp ha with rfl | ha
  ·rfl
  ·exact pq_z l (by omega) a ha
theorem Zg4 {l:List Int} {v:Int} (h:v ≠ 0):-(v * v) < 2 * pqL v l:=by
 have h1:=Zms l v
 have h2:0 < v * v:=by
  have:=Zbr v
  have:=Jfk h h
  omega
 have hm:(0:Int)<=l.length:=by omega
 generalize (l.length:Int) = m at *
 generalize v * v = u at *
 generalize pqL v l = P at *
 refine Jag fun z=>?_
 have h3:=Int.mul_le_mul_of_nonneg_left (show 2 * P<=-u by omega) (show 0<=m + 1 by omega)
 have e1:2 * (m + 1) * P = (m + 1) * (2 * P):=by grind
 have e2:(m + 1) * -u = -(m * u) - u:=by grind
 omega
theorem pq_nn {l:List Int}:0<=pqL 0 l:=by
 have h1:=Zms l 0
 rw [Jfy,Jfy,Jef] at h1
 exact Int.nonneg_of_mul_nonneg_right h1 (by omega)
def DPos (S:List Int) (ps:List Ed):Prop:=∀ X:Int->Int,(∃ p ∈ S,X p ≠ 0)->0 < qf S ps X
theorem Fk.dpos (T:Fk S ps f d) {L:List Int} (hL:Lvs S ps f d L) (h:∀ X:Int->Int,X f ≠ 0->0 < X f * X f + sI (fun z=>pqL (X f) ((arm d ps z).map X)) L):DPos S ps:=fun X hX=>by
 rw [T.q_eq hL]
 by_cases z:X f = 0
 ·refine Jag fun w=>?_
  rw [z] at w
  have nn:∀ y ∈ L,0<=pqL 0 ((arm d ps y).map X):=fun y _=>pq_nn
  obtain ⟨p,hp,hz⟩:=hX
  have pf:p ≠ f:=fun e=>hz (e ▸ z)
  obtain ⟨l,hl,hpl⟩:=Je7.mp ((T.all hL).mem_iff.mpr (Za6.mpr ⟨hp,pf⟩))
  obtain ⟨y,hy,rfl⟩:=Jak.mp hl
  have:=Zdz hy nn
  exact hz (pq_z _ (by omega) _ (Jak.mpr ⟨p,hpl,rfl⟩))
 ·exact h X z
theorem Zl2 {a:Int} (h:a ≠ 0):0 < a * a:=by
 have:=Zbr a
 have:=Jfk h h
 omega
theorem Fk.posA (T:Fk S ps f d) {L:List Int} (hL:Lvs S ps f d L) (h2:L.length<=2):DPos S ps:=T.dpos hL fun X hz=>by
 have hu:=Zl2 hz
 match L,h2 with
 | [],_=>simpa [sI] using hu
 | [a],_=>
  have:=Zg4 (l:=(arm d ps a).map X) hz
  simp only [sI]
  omega
 | [a,b],_=>
  have:=Zg4 (l:=(arm d ps a).map X) hz
  have:=Zg4 (l:=(arm d ps b).map X) hz
  simp only [sI]
  omega
theorem Fk.arm_lo (T:Fk S ps f d) (X:Int->Int) {z:Int} (h:z ∈ S):0<=2 * ((d z:Int) + 1) * pqL (X f) ((arm d ps z).map X) + d z * (X f * X f):=by
 have:=Zms ((arm d ps z).map X) (X f)
 rw [Jab,(T.arm_ok h).2.2.1] at this
 exact this
theorem Fk.posD (T:Fk S ps f d) {a b c:Int} (hL:Lvs S ps f d [a,b,c]) (ha:d a = 1) (hb:d b = 1):DPos S ps:=T.dpos hL fun X hz=>by
 have hu:=Zl2 hz
 have h1:=T.arm_lo X ((hL.2 a).mp (by simp)).1
 have h2:=T.arm_lo X ((hL.2 b).mp (by simp)).1
 have h3:=Zg4 (l:=(arm d ps c).map X) hz
 rw [ha] at h1
 rw [hb] at h2
 simp only [sI]
 omega
theorem Fk.posE (T:Fk S ps f d) {a b c:Int} (hL:Lvs S ps f d [a,b,c]) (ha:d a = 1) (hb:d b = 2) (hc:d c<=4):DPos S ps:=T.dpos hL fun X hz=>by
 have hu:=Zl2 hz
 have h1:=T.arm_lo X ((hL.2 a).mp (by simp)).1
 have h2:=T.arm_lo X ((hL.2 b).mp (by simp)).1
 have h3:=T.arm_lo X ((hL.2 c).mp (by simp)).1
 rw [ha] at h1
 rw [hb] at h2
 simp only [sI]
 have:d c = 0\/d c = 1\/d c = 2\/d c = 3\/d c = 4:=by omega
 rcases this with e | e | e | e | e
 all_goals
  rw [e] at h3
  omega
theorem Fk.few_ends (T:Fk S ps f d) {L:List Int} (hL:Lvs S ps f d L):L.length<=deg ps f:=by
 rw [T.deg_f]
 have lc:((ps.filter fun q=>decide (pe d q = f)).map (ce d)).length = chn d ps f:=by
  unfold chn
  rw [Jab,List.count,List.countP_map,List.countP_eq_length_filter]
  rfl
 rw [<- lc,<- Jab (f:=Zb6 d ps f) (as:=L)]
 refine Zbd (Zbg hL.1 fun x hx y hy e=>?_) fun r hr=>?_
 ·obtain ⟨a1,a2,a3⟩:=(hL.2 x).mp hx
  obtain ⟨b1,b2,b3⟩:=(hL.2 y).mp hy
  exact T.leaf_one a1 a2 a3 b1 b2 b3 e
 ·obtain ⟨z,hz,rfl⟩:=Jak.mp hr
  obtain ⟨a1,a2,a3⟩:=(hL.2 z).mp hz
  obtain ⟨r1,r2,r3⟩:=T.root_ok (d z) (Jaf _) a1 a2
  obtain ⟨q,hq,e1,e2⟩:=T.up1_of r1 r2
  exact Jak.mpr ⟨q,Jas.mpr ⟨hq,Ja2 (e2.symm.trans r3)⟩,e1⟩
theorem Fk.d_le (T:Fk S ps f d) {L:List Int} (hL:Lvs S ps f d L) {p:Int} {N:Nat} (hp:p ∈ S) (h:∀ z ∈ L,d z<=N):d p<=N:=by
 by_cases hf:p = f
 ·rw [hf,T.d0]; exact Jbx _
 ·obtain ⟨l,hl,hpl⟩:=Je7.mp ((T.all hL).mem_iff.mpr (Za6.mpr ⟨hp,hf⟩))
  obtain ⟨z,hz,rfl⟩:=Jak.mp hl
  have:d p ∈ (arm d ps z).map d:=Jak.mpr ⟨p,hpl,rfl⟩
  rw [(T.arm_ok ((hL.2 z).mp hz).1).2.1,Jf7] at this
  have:=h z hz
  omega
theorem Zmy {α β:Type} {g:α->β} {m1 m2:List β} (p:m1.Perm m2):∀ l:List α,l.map g = m2->∃ l':List α,l'.Perm l/\l'.map g = m1:=by
 induction p with
 | nil=>exact fun l e=>⟨l,List.Perm.refl _,e⟩
 | cons x _ ih=>
  intro l e
  match l,e with
  | y :: l,e=>
   rw [Jax,Jcq] at e
   obtain ⟨l',h1,h2⟩:=ih l e.2
   exact ⟨y :: l',h1.cons y,by rw [Jax,e.1,h2]⟩
 | swap x y m=>
  intro l e
  match l,e with
  | a :: b :: l,e=>
   rw [Jax,Jax,Jcq,Jcq] at e
   exact ⟨b :: a :: l,List.Perm.swap ..,by rw [Jax,Jax,e.1,e.2.1,e.2.2]⟩
 | trans _ _ ih1 ih2=>
  intro l e
  obtain ⟨l2,h1,h2⟩:=ih2 l e
  obtain ⟨l1,h3,h4⟩:=ih1 l2 h2
  exact ⟨l1,h3.trans h1,h4⟩
theorem Lvs.perm {L L':List Int} (h:Lvs S ps f d L) (p:L'.Perm L):Lvs S ps f d L':=⟨p.nodup_iff.mpr h.1,fun z=>by rw [p.mem_iff]; exact h.2 z⟩
theorem Fk.lvs_is (T:Fk S ps f d) (h:deg ps f ≠ 1):Lvs S ps f d (lvs S ps):=⟨Jbc Ja6 T.nd,fun x=>by
 unfold lvs
 rw [Jas,Jcf]
 constructor
 ·rintro ⟨h1,e⟩
  have hf:x ≠ f:=fun z=>h (z ▸ e)
  have:=T.deg_x h1 hf
  exact ⟨h1,hf,by omega⟩
 ·rintro ⟨h1,hf,e⟩
  exact ⟨h1,by have:=T.deg_x h1 hf; omega⟩⟩
theorem Fk.ends_is (T:Fk S ps f d):Lvs S ps f d ((oth S f).filter fun x=>decide (chn d ps x = 0)):=⟨Jbc (Ja6.trans Ja6) T.nd,fun x=>by
 rw [Jas,Jcf,Za6,and_assoc]⟩
theorem Zra {l:List Int} {g:Int->Int} {k:Nat} (e:l.map d = List.range' 1 k) (r:Nat->Int) (hg:∀ p ∈ l,g p = r (d p)):l.map g = (List.range' 1 k).map r:=by
 rw [<- e,Jb6]
 exact Jc9 hg
theorem Fk.low6 (T:Fk S ps f d) {a b c:Int} (hL:Lvs S ps f d [a,b,c]) (ha:d a = 2) (hb:d b = 2) (hc:d c = 2\/d c = 3):qf S ps (fun p=>if p ∈ S then (3:Int) - d p else 0) = 0:=by
 rw [T.q_eq hL]
 have ar:∀ z ∈ [a,b,c],(arm d ps z).map (fun p=>if p ∈ S then (3:Int) - d p else 0) = (List.range' 1 (d z)).map fun k:Nat=>(3:Int) - (k:Nat):=fun z hz=>by
  have hz:=((hL.2 z).mp hz).1
  refine Zra (T.arm_ok hz).2.1 _ fun p hp=>?_
  rw [if_pos ((T.arm_ok hz).2.2.2.2 p hp).1]
 simp only [sI]
 rw [ar a (by simp),ar b (by simp),ar c (by simp),if_pos T.fS,T.d0,ha,hb]
 rcases hc with e | e
 ·rw [e]; rfl
 ·rw [e]; rfl
theorem Fk.low7 (T:Fk S ps f d) {a b c:Int} (hL:Lvs S ps f d [a,b,c]) (ha:d a = 1) (hb:d b = 3) (hc:d c = 3):qf S ps (fun p=>if p ∈ S then (if p = a then (2:Int) else 4 - d p) else 0) = 0:=by
 rw [T.q_eq hL]
 have nL:=hL.1
 have ha':=(hL.2 a).mp (by simp)
 have ar:∀ z ∈ [b,c],(arm d ps z).map (fun p=>if p ∈ S then (if p = a then (2:Int) else 4 - d p) else 0) = (List.range' 1 (d z)).map fun k:Nat=>(4:Int) - (k:Nat):=fun z hz=>by
  have hz':=(hL.2 z).mp (Jbj _ hz)
  have nz:z ≠ a:=fun e=>(Jbo.mp nL).1 (e ▸ hz)
  refine Zra (T.arm_ok hz'.1).2.1 _ fun p hp=>?_
  obtain ⟨h1,h2,h3⟩:=(T.arm_ok hz'.1).2.2.2.2 p hp
  rw [if_pos h1,if_neg]
  intro e
  rw [e] at h3
  exact nz (T.leaf_one hz'.1 hz'.2.1 hz'.2.2 ha'.1 ha'.2.1 ha'.2.2 h3.symm)
 have a1:arm d ps a = [a]:=by
  unfold arm
  rw [ha]
  rfl
 simp only [sI]
 rw [ar b (by simp),ar c (by simp),a1,if_pos T.fS,if_neg (fun e=>ha'.2.1 e.symm),T.d0,hb,hc]
 simp only [Jax,Jft,if_pos ha'.1,Jdu]
 rfl
end
end L3
namespace L3
section
variable {pts:List Int} {ps:List Ed}
theorem q_pm {x y:Int->Int}:qf pts ps (fun p=>x p + y p) + qf pts ps (fun p=>x p - y p) = 2 * qf pts ps x + 2 * qf pts ps y:=by
 have e1:sI (fun p=>(x p + y p) * (x p + y p)) pts + sI (fun p=>(x p - y p) * (x p - y p)) pts = 2 * sI (fun p=>x p * x p) pts + 2 * sI (fun p=>y p * y p) pts:=by
  rw [<- Zck,<- Zdi,<- Zdi,<- Zck]
  exact Zai fun p _=>by grind
 have e2:sI (fun e:Ed=>(x e.1 + y e.1) * (x e.2 + y e.2)) ps + sI (fun e:Ed=>(x e.1 - y e.1) * (x e.2 - y e.2)) ps = 2 * sI (fun e:Ed=>x e.1 * x e.2) ps + 2 * sI (fun e:Ed=>y e.1 * y e.2) ps:=by
  rw [<- Zck,<- Zdi,<- Zdi,<- Zck]
  exact Zai fun e _=>by grind
 unfold qf
 dsimp only
 omega
theorem Zqy {x:Int->Int} (ins:Ins pts ps) (h:∀ p ∈ pts,x p = 0):qf pts ps x = 0:=by
 unfold qf
 rw [Zcj fun p hp=>by rw [h p hp]; rfl,Zcj fun e he=>by rw [h _ (ins e he).1]; exact Jfz _]
 rfl
theorem DPos.nn {x:Int->Int} (d:DPos pts ps) (ins:Ins pts ps):0<=qf pts ps x:=by
 by_cases h:∃ p ∈ pts,x p ≠ 0
 ·exact Int.le_of_lt (d x h)
 ·rw [Zqy ins fun p hp=>Jag fun z=>h ⟨p,hp,z⟩]
  exact Int.le_refl _
structure Rt (pts:List Int) (ps:List Ed) (x:Int->Int):Prop where
 nn:∀ p ∈ pts,0<=x p
 one:qf pts ps x = 1
theorem rt_mod2 {x y:Int->Int} (d:DPos pts ps) (ins:Ins pts ps) (hx:Rt pts ps x) (hy:Rt pts ps y) (h:∀ p ∈ pts,x p % 2 = y p % 2):∀ p ∈ pts,x p = y p:=by
 have q:=q_pm (pts:=pts) (ps:=ps) (x:=fun p=>(x p + y p) / 2) (y:=fun p=>(x p - y p) / 2)
 rw [Zg0 (y:=x) ins (fun p hp=>by have:=h p hp; first | omega | (dsimp only; omega)),Zg0 (x:=fun p=>(fun p=>(x p + y p) / 2) p - (fun p=>(x p - y p) / 2) p) (y:=y) ins (fun p hp=>by have:=h p hp; first | omega | (dsimp only; omega)),hx.one,hy.one] at q
 have u0:=d.nn (x:=fun p=>(x p + y p) / 2) ins
 by_cases hv:∃ p ∈ pts,(x p - y p) / 2 ≠ 0
 ·have v1:=d _ hv
  have uz:¬ ∃ p ∈ pts,(x p + y p) / 2 ≠ 0:=fun z=>by
   have:=d _ z
   omega
  have xz:∀ p ∈ pts,x p = 0:=fun p hp=>by
   have h1:(x p + y p) / 2 = 0:=Jag fun z=>uz ⟨p,hp,z⟩
   have h2:=hx.nn p hp
   have h3:=hy.nn p hp
   have h4:=h p hp
   omega
  have:=Zqy ins xz
  rw [hx.one] at this
  omega
 ·intro p hp
  have h1:(x p - y p) / 2 = 0:=Jag fun z=>hv ⟨p,hp,z⟩
  have h4:=h p hp
  omega
theorem Ze8 (d:DPos pts ps) (nd:pts.Nodup) {p:Int} (hp:p ∈ pts):Zer ps p = 0:=by
 have h:=d (rs z0 p) ⟨p,hp,by unfold rs; simp [z0]⟩
 rw [Zqz nd hp] at h
 have:=Zp1 (ps:=ps) (p:=p)
 omega
theorem Zit {x:Int->Int} (d:DPos pts ps) (nd:pts.Nodup) (ins:Ins pts ps) (hx:Rt pts ps x):∃ p ∈ pts,(∀ r ∈ pts,x r = if r = p then 1 else 0)\/(Rt pts ps (ds x p)/\bf ps (ds x p) p = -1):=by
 have two:=two_q (x:=x) nd ins
 rw [hx.one] at two
 obtain ⟨p,hp,hb⟩:∃ p ∈ pts,0 < x p * bf ps x p:=Jag fun z=>by
  have:sI (fun p=>x p * bf ps x p) pts<=sI (fun _=>0) pts:=Zmf fun p hp=>Jag fun u=>z ⟨p,hp,by omega⟩
  rw [Zbs] at this
  omega
 have x0:=hx.nn p hp
 have x1:1<=x p:=Jag fun z=>by
  have:x p = 0:=by omega
  rw [this] at hb
  omega
 have b1:1<=bf ps x p:=Jag fun z=>by
  have:=Int.mul_nonpos_of_nonneg_of_nonpos x0 (show bf ps x p<=0 by omega)
  omega
 refine ⟨p,hp,?_⟩
 have lz:=Ze8 d nd hp
 have qd:=q_ds (ps:=ps) (x:=x) nd hp
 rw [hx.one,lz] at qd
 by_cases hz:∃ r ∈ pts,ds x p r ≠ 0
 ·right
  have:=d _ hz
  refine ⟨⟨fun r hr=>?_,by omega⟩,?_⟩
  ·unfold ds
   split
   ·omega
   ·exact hx.nn r hr
  ·have e:=nb_ds (ps:=ps) (x:=x) (p:=p)
   rw [lz] at e
   have e2:ds x p p = x p - 1:=by unfold ds; simp
   unfold bf at *
   omega
 ·left
  intro r hr
  have:ds x p r = 0:=Jag fun z=>hz ⟨r,hr,z⟩
  unfold ds at this
  split at this
  ·rename_i e
   rw [if_pos e,e]
   omega
  ·rename_i e
   rw [if_neg e]
   exact this
def mr (ps:List Ed) (x:Int->Int) (p:Int):Int->Int:=fun r=>if r = p then nb ps x p - x p else x r
theorem nb_irr {x y:Int->Int} {p:Int} (hl:Zer ps p = 0) (e:∀ r,r ≠ p->x r = y r):nb ps x p = nb ps y p:=by
 have no:∀ q ∈ ps,¬ (q.1 = p/\q.2 = p):=fun q hq z=>by
  have:(if q.1 = p/\q.2 = p then (1:Int) else 0)<=_:=Zdz (g:=fun e:Ed=>if e.1 = p/\e.2 = p then (1:Int) else 0) hq fun e _=>by split <;> omega
  rw [if_pos z] at this
  unfold Zer at hl
  omega
 unfold nb
 refine Zai fun q hq=>?_
 have:=no q hq
 by_cases h1:q.1 = p
 ·have h2:q.2 ≠ p:=fun z=>this ⟨h1,z⟩
  rw [if_pos h1,if_neg h2,if_pos h1,if_neg h2,e _ h2]
 ·by_cases h2:q.2 = p
  ·rw [if_neg h1,if_pos h2,if_neg h1,if_pos h2,e _ h1]
  ·rw [if_neg h1,if_neg h2,if_neg h1,if_neg h2]
def ad (x:Int->Int) (p c:Int):Int->Int:=fun r=>if r = p then x p + c else x r
theorem q_ad {x:Int->Int} {p c:Int} (nd:pts.Nodup) (hp:p ∈ pts) (hl:Zer ps p = 0):qf pts ps (ad x p c) = qf pts ps x + c * c + c * bf ps x p:=by
 have no:∀ q ∈ ps,¬ (q.1 = p/\q.2 = p):=fun q hq z=>by
  have:(if q.1 = p/\q.2 = p then (1:Int) else 0)<=_:=Zdz (g:=fun e:Ed=>if e.1 = p/\e.2 = p then (1:Int) else 0) hq fun e _=>by split <;> omega
  rw [if_pos z] at this
  unfold Zer at hl
  omega
 have e1:sI (fun r=>ad x p c r * ad x p c r) pts = sI (fun r=>x r * x r) pts + (2 * c * x p + c * c):=by
  have:∀ r ∈ pts,ad x p c r * ad x p c r = x r * x r + 1 * (if p = r then 2 * c * x p + c * c else 0):=fun r _=>by
   unfold ad
   by_cases z:r = p
   ·subst z
    rw [if_pos rfl,if_pos rfl]
    grind
   ·rw [if_neg z,if_neg (fun u=>z u.symm)]
    omega
  rw [Zai this,Zck,Zq3 (y:=fun _=>1) nd hp]
  omega
 have e2:sI (fun e:Ed=>ad x p c e.1 * ad x p c e.2) ps = sI (fun e:Ed=>x e.1 * x e.2) ps + c * nb ps x p:=by
  unfold nb
  rw [<- Zdi,<- Zck]
  refine Zai fun e he=>?_
  have:=no e he
  unfold ad
  by_cases z:e.1 = p
  ·have u:e.2 ≠ p:=fun u=>this ⟨z,u⟩
   simp [z,u]
   grind
  ·by_cases u:e.2 = p
   ·simp [z,u]
    grind
   ·simp [z,u]
 unfold qf bf
 rw [e1,e2]
 grind
theorem mr_ad {x:Int->Int} {p:Int}:mr ps x p = ad x p (-bf ps x p):=funext fun r=>by
 unfold mr ad bf
 split
 ·omega
 ·rfl
theorem sI_ad {x:Int->Int} {p c:Int} (nd:pts.Nodup) (hp:p ∈ pts):sI (ad x p c) pts = sI x pts + c:=by
 have:∀ r ∈ pts,ad x p c r = x r + c * (if p = r then 1 else 0):=fun r _=>by
  unfold ad
  by_cases z:r = p
  ·subst z; simp
  ·rw [if_neg z,if_neg (fun u=>z u.symm)]; omega
 rw [Zai this,Zck,Zq3 (y:=fun _=>c) nd hp]
 omega
theorem Rt.up {x:Int->Int} {p:Int} (d:DPos pts ps) (nd:pts.Nodup) (hx:Rt pts ps x) (hp:p ∈ pts) (h:sI x pts < sI (mr ps x p) pts):Rt pts ps (mr ps x p)/\bf ps x p < 0:=by
 rw [mr_ad] at *
 rw [sI_ad nd hp] at h
 refine ⟨⟨fun r hr=>?_,?_⟩,by omega⟩
 ·unfold ad
  have:=hx.nn r hr
  split
  ·rename_i e
   have:=hx.nn p hp
   omega
  ·exact this
 ·rw [q_ad nd hp (Ze8 d nd hp),hx.one]
  grind
theorem Rt.unit (d:DPos pts ps) (nd:pts.Nodup) {p:Int} (hp:p ∈ pts):Rt pts ps (rs z0 p):=⟨fun r _=>by unfold rs z0; split <;> omega,by rw [Zqz nd hp,Ze8 d nd hp]; rfl⟩
def Zji:Nat->List (List Int)
 | 0=>[[]]
 | k + 1=>(Zji k).map (0 :: ·) ++ (Zji k).map (1 :: ·)
theorem Zkr:∀ k,(Zji k).length = 2 ^ k
 | 0=>rfl
 | k + 1=>by
  have:=Zkr k
  simp only [Zji,Jaj,Jab]
  rw [this,Nat.pow_succ]
  omega
theorem Zkq:∀ {l:List Int},(∀ v ∈ l,v = 0\/v = 1)->l ∈ Zji l.length
 | [],_=>by simp [Zji]
 | a :: l,h=>by
  have ih:=Zkq (l:=l) fun v hv=>h v (by simp [hv])
  simp only [Jau,Zji,Jbd,Jak]
  rcases h a (by simp) with rfl | rfl
  ·exact .inl ⟨l,ih,rfl⟩
  ·exact .inr ⟨l,ih,rfl⟩
theorem Znj {f g:Int->Int} {l:List Int} (h:l.map f = l.map g):∀ p ∈ l,f p = g p:=by
 induction l with
 | nil=>intro p hp; simp at hp
 | cons a l ih=>
  simp only [Jax,Jcq] at h
  intro p hp
  rcases Jam.mp hp with rfl | hp
  ·exact h.1
  ·exact ih h.2 p hp
theorem Zjv (d:DPos pts ps) (ins:Ins pts ps) {L:List (List Int)} (nL:L.Nodup) (h:∀ l ∈ L,∃ x,Rt pts ps x/\l = pts.map x):L.length<=2 ^ pts.length:=by
 rw [<- Zkr,<- Jab (f:=fun l:List Int=>l.map (· % 2)) (as:=L)]
 refine Zbd (Zbg nL fun l hl l' hl' e=>?_) fun b hb=>?_
 ·obtain ⟨x,hx,rfl⟩:=h l hl
  obtain ⟨y,hy,rfl⟩:=h l' hl'
  rw [Jb6,Jb6] at e
  have e1:=Znj e
  exact Jc9 (rt_mod2 d ins hx hy fun p hp=>e1 p hp)
 ·obtain ⟨l,hl,rfl⟩:=Jak.mp hb
  obtain ⟨x,hx,rfl⟩:=h l hl
  have:=Zkq (l:=(pts.map x).map (· % 2)) fun v hv=>by
   obtain ⟨u,_,rfl⟩:=Jak.mp hv
   omega
  rwa [Jab,Jab] at this
theorem Zjw (d:DPos pts ps) (nd:pts.Nodup) (ins:Ins pts ps):∀ (s:Nat) {x:Int->Int},Rt pts ps x->sI x pts = s->∃ L:List (List Int),L.Nodup/\L.length = s/\∀ l ∈ L,∃ y,Rt pts ps y/\l = pts.map y/\sI y pts<=s
 | 0,x,hx,hs=>by
  obtain ⟨p,hp,h⟩:=Zit d nd ins hx
  exact ⟨[],Jf1,rfl,fun l hl=>by simp at hl⟩
 | s + 1,x,hx,hs=>by
  obtain ⟨p,hp,h⟩:=Zit d nd ins hx
  rcases h with h | ⟨h,_⟩
  ·have:sI x pts = 1:=by
    rw [Zai (h:=fun r=>0 + 1 * (if p = r then 1 else 0)) fun r hr=>by
     rw [h r hr]
     by_cases z:r = p
     ·simp [z]
     ·rw [if_neg z,if_neg (fun u=>z u.symm)]; rfl,Zck,Zq3 (y:=fun _=>1) nd hp,Zbs]
    omega
   have:s = 0:=by omega
   subst this
   exact ⟨[pts.map x],by simp,rfl,fun l hl=>⟨x,hx,Jaz.mp hl,by omega⟩⟩
  ·obtain ⟨L,h1,h2,h3⟩:=Zjw d nd ins s h (by rw [sI_ds nd hp]; omega)
   refine ⟨pts.map x :: L,Jbo.mpr ⟨fun z=>?_,h1⟩,by simp [h2],fun l hl=>?_⟩
   ·obtain ⟨y,_,e,hy⟩:=h3 _ z
    have:=Zai (Znj e)
    omega
   ·rcases Jam.mp hl with rfl | hl
    ·exact ⟨x,hx,rfl,by omega⟩
    ·obtain ⟨y,a,b,c⟩:=h3 l hl
     exact ⟨y,a,b,by omega⟩
theorem Rt.small {x:Int->Int} (d:DPos pts ps) (nd:pts.Nodup) (ins:Ins pts ps) (hx:Rt pts ps x):sI x pts<=(2 ^ pts.length:Nat):=by
 have s0:=Zme hx.nn
 obtain ⟨L,h1,h2,h3⟩:=Zjw d nd ins (sI x pts).toNat hx (by omega)
 have:=Zjv d ins h1 fun l hl=>let ⟨y,a,b,_⟩:=h3 l hl; ⟨y,a,b⟩
 omega
theorem Zqv (d:DPos pts ps) (nd:pts.Nodup) (ins:Ins pts ps) {C:(Int->Int)->Prop} (hc:∀ x y,C x->(∀ p ∈ pts,x p = y p)->C y) (h1:∀ p ∈ pts,C (rs z0 p)) (h2:∀ x p,Rt pts ps x->C x->p ∈ pts->sI x pts < sI (mr ps x p) pts->C (mr ps x p)):∀ (s:Nat) {x:Int->Int},Rt pts ps x->sI x pts<=s->C x
 | s,x,hx,hs=>by
  obtain ⟨p,hp,h⟩:=Zit d nd ins hx
  rcases h with h | ⟨h,hb⟩
  ·exact hc _ _ (h1 p hp) fun r hr=>by
    rw [h r hr]
    unfold rs z0
    split <;> rfl
  ·have sd:=sI_ds (x:=x) nd hp
   have e:mr ps (ds x p) p = x:=funext fun r=>by
    rw [mr_ad,hb]
    unfold ad ds
    by_cases z:r = p
    ·subst z; simp
    ·simp [z]
   match s with
   | 0=>
    have:=Zme h.nn
    omega
   | s + 1=>
    have ih:=Zqv d nd ins hc h1 h2 s h (by omega)
    have:=h2 _ p h ih hp (by rw [e]; omega)
    rwa [e] at this
end
end L3
set_option maxRecDepth 10000
namespace L3
def pN (n:Nat):List Int:=(List.range n).map fun j=>((j:Nat):Int)
theorem Zgg {n:Nat} {x:Int}:x ∈ pN n ↔ 0<=x/\x < n:=by
 unfold pN
 rw [Jak]
 constructor
 ·rintro ⟨j,hj,rfl⟩
  have:=Jcb.mp hj
  omega
 ·intro ⟨h0,h1⟩
  exact ⟨x.toNat,Jcb.mpr (by omega),by omega⟩
def aE:List Ed:=[(0,1),(1,2),(2,3),(3,4),(4,5),(5,6),(6,7)]
def dE:List Ed:=[(0,1),(0,2),(0,3),(3,4),(4,5),(5,6),(6,7)]
def eE:List Ed:=[(0,1),(0,2),(2,3),(0,4),(4,5),(5,6),(6,7)]
theorem Ze7 {x:Int} (h:x * x = 0):x = 0:=by
 rcases Int.mul_eq_zero.mp h with h | h <;> exact h
theorem Zhl {X:Int->Int} {p:Int} (hp:p ∈ pN 8) (h0:X 0 = 0) (h1:X 1 = 0) (h2:X 2 = 0) (h3:X 3 = 0) (h4:X 4 = 0) (h5:X 5 = 0) (h6:X 6 = 0) (h7:X 7 = 0):X p = 0:=by
 have:=Zgg.mp hp
 have:p = 0\/p = 1\/p = 2\/p = 3\/p = 4\/p = 5\/p = 6\/p = 7:=by omega
 rcases this with rfl | rfl | rfl | rfl | rfl | rfl | rfl | rfl <;> assumption
theorem q8 {es:List Ed} {X:Int->Int}:qf (pN 8) es X = (X 0 * X 0 + (X 1 * X 1 + (X 2 * X 2 + (X 3 * X 3 + (X 4 * X 4 + (X 5 * X 5 + (X 6 * X 6 + (X 7 * X 7 + 0)))))))) - sI (fun e=>X e.1 * X e.2) es:=rfl
theorem pos_a:DPos (pN 8) aE:=by
 rintro X ⟨p,hp,hx⟩
 refine Jag fun c=>hx ?_
 have e:=q8 (es:=aE) (X:=X)
 rw [show sI (fun e=>X e.1 * X e.2) aE = X 0 * X 1 + (X 1 * X 2 + (X 2 * X 3 + (X 3 * X 4 + (X 4 * X 5 + (X 5 * X 6 + (X 6 * X 7 + 0)))))) from rfl] at e
 have id:2 * qf (pN 8) aE X = X 0 * X 0 + (X 0 - X 1) * (X 0 - X 1) + (X 1 - X 2) * (X 1 - X 2) + (X 2 - X 3) * (X 2 - X 3) + (X 3 - X 4) * (X 3 - X 4) + (X 4 - X 5) * (X 4 - X 5) + (X 5 - X 6) * (X 5 - X 6) + (X 6 - X 7) * (X 6 - X 7) + X 7 * X 7:=by rw [e]; grind
 have n0:=Zbr (X 0); have n1:=Zbr (X 0 - X 1); have n2:=Zbr (X 1 - X 2); have n3:=Zbr (X 2 - X 3); have n4:=Zbr (X 3 - X 4); have n5:=Zbr (X 4 - X 5); have n6:=Zbr (X 5 - X 6); have n7:=Zbr (X 6 - X 7); have n8:=Zbr (X 7)
 have z0:=Ze7 (x:=X 0) (by omega)
 have z1:=Ze7 (x:=X 0 - X 1) (by omega)
 have z2:=Ze7 (x:=X 1 - X 2) (by omega)
 have z3:=Ze7 (x:=X 2 - X 3) (by omega)
 have z4:=Ze7 (x:=X 3 - X 4) (by omega)
 have z5:=Ze7 (x:=X 4 - X 5) (by omega)
 have z6:=Ze7 (x:=X 5 - X 6) (by omega)
 have z7:=Ze7 (x:=X 6 - X 7) (by omega)
 exact Zhl hp z0 (by omega) (by omega) (by omega) (by omega) (by omega) (by omega) (by omega)
theorem pos_d:DPos (pN 8) dE:=by
 rintro X ⟨p,hp,hx⟩
 refine Jag fun c=>hx ?_
 have e:=q8 (es:=dE) (X:=X)
 rw [show sI (fun e=>X e.1 * X e.2) dE = X 0 * X 1 + (X 0 * X 2 + (X 0 * X 3 + (X 3 * X 4 + (X 4 * X 5 + (X 5 * X 6 + (X 6 * X 7 + 0)))))) from rfl] at e
 have id:4 * qf (pN 8) dE X = (2 * X 1 - X 0) * (2 * X 1 - X 0) + (2 * X 2 - X 0) * (2 * X 2 - X 0) + 2 * ((X 0 - X 3) * (X 0 - X 3)) + 2 * ((X 3 - X 4) * (X 3 - X 4)) + 2 * ((X 4 - X 5) * (X 4 - X 5)) + 2 * ((X 5 - X 6) * (X 5 - X 6)) + 2 * ((X 6 - X 7) * (X 6 - X 7)) + 2 * (X 7 * X 7):=by rw [e]; grind
 have n0:=Zbr (X 7); have n1:=Zbr (2 * X 1 - X 0); have n2:=Zbr (2 * X 2 - X 0); have n3:=Zbr (X 0 - X 3); have n4:=Zbr (X 3 - X 4); have n5:=Zbr (X 4 - X 5); have n6:=Zbr (X 5 - X 6); have n7:=Zbr (X 6 - X 7)
 have z0:=Ze7 (x:=X 7) (by omega)
 have z1:=Ze7 (x:=2 * X 1 - X 0) (by omega)
 have z2:=Ze7 (x:=2 * X 2 - X 0) (by omega)
 have z3:=Ze7 (x:=X 0 - X 3) (by omega)
 have z4:=Ze7 (x:=X 3 - X 4) (by omega)
 have z5:=Ze7 (x:=X 4 - X 5) (by omega)
 have z6:=Ze7 (x:=X 5 - X 6) (by omega)
 have z7:=Ze7 (x:=X 6 - X 7) (by omega)
 exact Zhl hp (by omega) (by omega) (by omega) (by omega) (by omega) (by omega) (by omega) (by omega)
theorem pos_e:DPos (pN 8) eE:=by
 rintro X ⟨p,hp,hx⟩
 refine Jag fun c=>hx ?_
 have e:=q8 (es:=eE) (X:=X)
 rw [show sI (fun e=>X e.1 * X e.2) eE = X 0 * X 1 + (X 0 * X 2 + (X 2 * X 3 + (X 0 * X 4 + (X 4 * X 5 + (X 5 * X 6 + (X 6 * X 7 + 0)))))) from rfl] at e
 have id:120 * qf (pN 8) eE X = 2 * (X 0 * X 0) + 30 * ((2 * X 1 - X 0) * (2 * X 1 - X 0)) + 30 * ((2 * X 3 - X 2) * (2 * X 3 - X 2)) + 10 * ((3 * X 2 - 2 * X 0) * (3 * X 2 - 2 * X 0)) + 30 * ((2 * X 7 - X 6) * (2 * X 7 - X 6)) + 10 * ((3 * X 6 - 2 * X 5) * (3 * X 6 - 2 * X 5)) + 5 * ((4 * X 5 - 3 * X 4) * (4 * X 5 - 3 * X 4)) + 3 * ((5 * X 4 - 4 * X 0) * (5 * X 4 - 4 * X 0)):=by rw [e]; grind
 have n0:=Zbr (X 0); have n1:=Zbr (2 * X 1 - X 0); have n2:=Zbr (2 * X 3 - X 2); have n3:=Zbr (3 * X 2 - 2 * X 0); have n4:=Zbr (2 * X 7 - X 6); have n5:=Zbr (3 * X 6 - 2 * X 5); have n6:=Zbr (4 * X 5 - 3 * X 4); have n7:=Zbr (5 * X 4 - 4 * X 0)
 have z0:=Ze7 (x:=X 0) (by omega)
 have z1:=Ze7 (x:=2 * X 1 - X 0) (by omega)
 have z2:=Ze7 (x:=2 * X 3 - X 2) (by omega)
 have z3:=Ze7 (x:=3 * X 2 - 2 * X 0) (by omega)
 have z4:=Ze7 (x:=2 * X 7 - X 6) (by omega)
 have z5:=Ze7 (x:=3 * X 6 - 2 * X 5) (by omega)
 have z6:=Ze7 (x:=4 * X 5 - 3 * X 4) (by omega)
 have z7:=Ze7 (x:=5 * X 4 - 4 * X 0) (by omega)
 exact Zhl hp z0 (by omega) (by omega) (by omega) (by omega) (by omega) (by omega) (by omega)
theorem Zq7 (n m:Nat):pN (n + m) = pN n ++ (List.range m).map fun j=>((n + j:Nat):Int):=by
 unfold pN
 rw [List.range_add,Jbf,Jb6]
 rfl
def bel (n:Nat) (X:Int->Int) (r:Int):Int:=if r < (n:Int) then X r else 0
theorem Zi6 {es rest:List Ed} {n m:Nat} (h:DPos (pN (n + m)) (es ++ rest)) (hr:∀ e ∈ rest,(n:Int)<=e.2) (ins:Ins (pN n) es):DPos (pN n) es:=by
 rintro X ⟨p,hp,hx⟩
 have key:∀ r ∈ pN n,bel n X r = X r:=fun r hr=>if_pos (Zgg.mp hr).2
 have out:∀ r,(n:Int)<=r->bel n X r = 0:=fun r hr=>if_neg (by omega)
 have:=h (bel n X) ⟨p,by rw [Zq7]; exact Jce _ hp,by rw [key p hp]; exact hx⟩
 have e:qf (pN (n + m)) (es ++ rest) (bel n X) = qf (pN n) es X:=by
  unfold qf
  rw [Zq7,Zee,Zee]
  rw [Zcj (l:=(List.range m).map fun j=>((n + j:Nat):Int)) fun r hr=>by
   obtain ⟨j,_,rfl⟩:=Jak.mp hr
   rw [out _ (by omega)]; rfl]
  rw [Zcj (l:=rest) fun e he=>by rw [out _ (hr e he)]; exact Jfy _]
  rw [Zai (h:=fun p=>X p * X p) fun r hr=>by rw [key r hr],Zai (l:=es) (h:=fun e=>X e.1 * X e.2) fun e he=>by rw [key _ (ins e he).1,key _ (ins e he).2]]
  omega
 rw [e] at this
 exact this
theorem Zqd {pts:List Int} {es es':List Ed} (s:es.Sublist es') (h:DPos pts es'):DPos pts es:=by
 rintro X ⟨p,hp,hx⟩
 have:=h (fun r=>((X r).natAbs:Int)) ⟨p,hp,by omega⟩
 have e1:sI (fun p=>((X p).natAbs:Int) * ((X p).natAbs:Int)) pts = sI (fun p=>X p * X p) pts:=Zai fun r _=>Int.natAbs_mul_self' ..
 have e2:sI (fun e:Ed=>((X e.1).natAbs:Int) * ((X e.2).natAbs:Int)) es<=sI (fun e:Ed=>((X e.1).natAbs:Int) * ((X e.2).natAbs:Int)) es':=Zk0 s fun e _=>Jd6 (Int.natCast_nonneg _) (Int.natCast_nonneg _)
 have e3:sI (fun e:Ed=>X e.1 * X e.2) es<=sI (fun e:Ed=>((X e.1).natAbs:Int) * ((X e.2).natAbs:Int)) es:=Zmf fun e _=>by
  rw [<- Int.natCast_mul,<- Int.natAbs_mul]; exact Int.le_natAbs
 unfold qf at *
 dsimp only at this
 omega
def gt (ys:List Int) (i:Int):Int:=ys.getD i.toNat 0
theorem Zn8 {n:Nat} {es rs:List Ed} {ys:List Int} (hy:ys.Perm (pN n)) (h:∀ X:Int->Int,sI (fun e=>X e.1 * X e.2) rs = sI (fun e=>X (gt ys e.1) * X (gt ys e.2)) es) (d:DPos (pN n) es):DPos (pN n) rs:=by
 have hl:ys.length = n:=by rw [hy.length_eq]; unfold pN; simp
 have em:(pN n).map (gt ys) = ys:=by
  refine List.ext_getElem (by unfold pN; simp [hl]) fun i h1 h2=>?_
  unfold pN gt
  simp [h2]
 rintro X ⟨p,hp,hx⟩
 obtain ⟨i,hi,rfl⟩:=Jcl (hy.mem_iff.mpr hp)
 have gi:gt ys (i:Nat) = ys[i]:=by unfold gt; simp [hi]
 have:=d (fun r=>X (gt ys r)) ⟨(i:Nat),Zgg.mpr ⟨by omega,by omega⟩,by rw [gi]; exact hx⟩
 have e1:sI (fun p=>X p * X p) (pN n) = sI (fun r=>X (gt ys r) * X (gt ys r)) (pN n):=by
  rw [<- Zen (g:=fun p=>X p * X p) hy]
  conv=>lhs; rw [<- em]
  rw [Zju]
 unfold qf at *
 rw [h X,e1]
 exact this
end L3
namespace L3
def okB (E8:List Ed) (n:Nat):Bool:=(E8.drop (n - 1)).all (fun e=>decide ((n:Int)<=e.2)) && (E8.take (n - 1)).all fun e=>decide (0<=e.1) && decide (e.1 < (n:Int)) && decide (0<=e.2) && decide (e.2 < (n:Int))
theorem Zna {E8:List Ed} {n:Nat} (h:okB E8 n = true):∀ e ∈ E8.take (n - 1),0<=e.1/\e.1 < (n:Int)/\0<=e.2/\e.2 < (n:Int):=fun e he=>by
 unfold okB at h
 rw [Jb4,Jck,Jck] at h
 have:=h.2 e he
 simp at this
 omega
theorem base {E8:List Ed} (d:DPos (pN 8) E8) {n:Nat} (n8:n<=8) (h:okB E8 n = true):DPos (pN n) (E8.take (n - 1)):=by
 have h':=h
 unfold okB at h'
 rw [Jb4,Jck,Jck] at h'
 refine Zi6 (m:=8 - n) (rest:=E8.drop (n - 1)) ?_ (fun e he=>Jav (h'.1 e he)) fun e he=>?_
 ·rw [Jbt,show n + (8 - n) = 8 by omega]; exact d
 ·have:=Zna h e he
  exact ⟨Zgg.mpr ⟨this.1,this.2.1⟩,Zgg.mpr this.2.2⟩
theorem to8 {P:Nat->Prop} {n:Nat} (h1:1<=n) (h8:n<=8) (p1:P 1) (p2:P 2) (p3:P 3) (p4:P 4) (p5:P 5) (p6:P 6) (p7:P 7) (p8:P 8):P n:=by
 have:n = 1\/n = 2\/n = 3\/n = 4\/n = 5\/n = 6\/n = 7\/n = 8:=by omega
 rcases this with rfl | rfl | rfl | rfl | rfl | rfl | rfl | rfl <;> assumption
theorem okA {n:Nat} (h1:1<=n) (h8:n<=8):okB aE n = true:=to8 (P:=fun n=>okB aE n = true) h1 h8 (by decide) (by decide) (by decide) (by decide) (by decide) (by decide) (by decide) (by decide)
theorem okD {n:Nat} (h1:4<=n) (h8:n<=8):okB dE n = true:=by
 have:n = 4\/n = 5\/n = 6\/n = 7\/n = 8:=by omega
 rcases this with rfl | rfl | rfl | rfl | rfl <;> decide
theorem okE {n:Nat} (h1:6<=n) (h8:n<=8):okB eE n = true:=by
 have:n = 6\/n = 7\/n = 8:=by omega
 rcases this with rfl | rfl | rfl <;> decide
theorem perm_pN {n:Nat} {ys:List Int} (nd:ys.Nodup) (hl:ys.length = n) (h:∀ y ∈ ys,0<=y/\y < (n:Int)):ys.Perm (pN n):=by
 have ndp:(pN n).Nodup:=by
  unfold pN
  refine Jd1.mpr (Jd8.imp fun ne e=>ne (by omega))
 have sub:∀ y ∈ ys,y ∈ pN n:=fun y hy=>Zgg.mpr (h y hy)
 have sup:∀ y ∈ pN n,y ∈ ys:=fun y hy=>Jag fun z=>by
  have:(y :: ys).length<=(pN n).length:=(Jbo.mpr ⟨z,nd⟩).length_le_of_subset fun a ha=>by
   rcases Jam.mp ha with rfl | ha
   ·exact hy
   ·exact sub a ha
  rw [Jau,hl] at this
  unfold pN at this
  simp at this
  omega
 exact (List.perm_ext_iff_of_nodup nd ndp).mpr fun a=>⟨sub a,sup a⟩
end L3
namespace L2
open PySem PySem.Spec PyProof.Rows
section
variable {X:Cx} {o e:Expr} {es:List Expr} {to:TE} {t:TA} {name:Str} {apos cpos:Pos} {T id:String} {r:V->List V->Hp->VK->Prop}
theorem pe_bmK (K:PySem.W.Frag) (hK:X.K = K) (pa:PlainAttrs T) (slot:Slot T name id) (hty:typeOf (.builtin id) = pure (.type "method_descriptor")) (hm:MtR X id r) (ho:PE X o to) (ha:PA X (e :: es) t)
  (hbase:attributeBase o name X.env (eval o X.env) = eval o X.env:=by rfl)
  (hfew:((backTo cpos (starEach (e :: es) X.env)).all (fun x=>!x.1) && (backToKw cpos (keywordEach [] X.env)).all (fun x=>x.1.isSome)
   && decide ((e :: es).length + ([]:List Keyword).length + (if ([]:List Keyword).isEmpty then 0 else 1) < 30)) = true:=by rfl)
  (hline:(apos.endLine == cpos.line) = true:=by rfl) (hs:starEach (e :: es) X.env = (false,eval e X.env) :: starEach es X.env:=by rfl) (hplain:(backTo cpos (starEach es X.env)).any (·.1) = false:=by rfl):
  PE X (.Call (.Attribute o name apos) (e :: es) [] cpos) (tBM K T r to t):=by
 subst hK
 exact Zep pa slot hty hm ho ha hbase hfew hline hs hplain
end
end L2
namespace L2
open PySem PySem.Spec PyProof.Rows
abbrev two (elt t1 i1 t2 i2:Expr) (scope:Scope) (pos:Pos):Expr:=.ListComp elt [⟨t1,i1,[],0⟩,⟨t2,i2,[],0⟩] scope pos
section
variable {prog:Program} {w:World} {A:Around} {R:Result->Shared->Prop} {s:Shared} {elt t1 i1 t2 i2:Expr} {scope:Scope} {pos:Pos} {it acc:Value} {env:Env}
theorem Zl1 (h0:codeAny (model prog w) A (.compLoop (two elt t1 i1 t2 i2 scope pos) 1 it acc env) R s)
  (h:wpAny (model prog w) A (pyIter it) (fun it' s'=>codeAny (model prog w) A (.compLoop (two elt t1 i1 t2 i2 scope pos) 1 it' acc env) R s') (notedBy (model prog w) A env fun x s'=>R (.error x) s') s):
  codeAny (model prog w) A (.compStart (two elt t1 i1 t2 i2 scope pos) 1 it acc env) R s:=by
 refine codeAny_of_tree ?_
 refine wpAny_notedAt ?_
 unfold compStart
 refine Jaa (Jdn (wpAny_ite ?_))
 split
 ·exact Jaa (Jae (Jae ⟨rfl,h0⟩))
 ·refine Jaa (Jec (Jaa (Jc1 (Jaa ?_))))
  exact Jbk h (fun it' s' h'=>Jae ⟨rfl,h'⟩) fun x x_1 x_2=>x_2
theorem Zls:compTurn (two elt t1 i1 t2 i2 scope pos) 1 it acc env = (do
  standAt i2.pos
  let r <- pyNext it
  match r with
  | none=>pure (Fin.done Flow.next)
  | some v=>do
   letOwnedTupleGo t2 it v
   assign t2 env v
   ((eval elt env >>= fun x=>call (.builtin "list.append") [acc,x] >>= fun _=>(pure ():Sem Unit)) >>= fun _=>again (.compLoop (two elt t1 i1 t2 i2 scope pos) 1 it acc env))):=by
 rfl
theorem Zlt:compTurn (two elt t1 i1 t2 i2 scope pos) 0 it acc env = (do
  standAt i1.pos
  let r <- pyNext it
  match r with
  | none=>pure (Fin.done Flow.next)
  | some v=>do
   letOwnedTupleGo t1 it v
   assign t1 env v
   let x <- eval i2 env
   standAt i2.pos
   let x <- foldedSetIterable i2 env x
   let j <- holding [x] (pyIter x)
   let _ <- runOwn (.compStart (two elt t1 i1 t2 i2 scope pos) 1 j acc env) env
   again (.compLoop (two elt t1 i1 t2 i2 scope pos) 0 it acc env)):=by
 rfl
theorem Znk (I:Nat->Shared->Prop)
  (turn:∀ n s,I n s->wpAny (model prog w) A (pyNext it) (fun r s₁=>match r with
   | none=>R (.ok .next) s₁
   | some v=>wpAny (model prog w) A (letOwnedTupleGo t2 it v) (fun _ s₁'=>wpAny (model prog w) A (assign t2 env v) (fun _ s₂=>wpAny (model prog w) A (eval elt env) (fun x s₄=>wpAny (model prog w) A (call (.builtin "list.append") [acc,x]) (fun _ s₅=>∃ m,m < n/\I m s₅) (fun _ _=>False) s₄) (fun _ _=>False) s₂) (fun _ _=>False) s₁') (fun _ _=>False) s₁) (fun _ _=>False) s)
  (n:Nat) (h:I n s):codeAny (model prog w) A (.compLoop (two elt t1 i1 t2 i2 scope pos) 1 it acc env) R s:=by
 refine codeAny_loop rfl I (fun n s hI=>?_) n h
 show wpAny _ A ((compTurn (two elt t1 i1 t2 i2 scope pos) 1 it acc env).onRaise (fun x=>do noteFrame x env; theTreesLotGoes x)) _ _ s
 refine wpAny_noted ?_
 rw [Zls]
 refine Jaa (Jc1 (Jaa (Jbk (turn n s hI) (fun r s₁ h₁=>?_) fun _ _ h'=>h'.elim)))
 cases r with
 | none=>exact Jae h₁
 | some v=>
  refine Jaa (Jbk h₁ (fun _ s₁' h₁'=>?_) fun _ _ h'=>h'.elim)
  refine Jaa (Jbk h₁' (fun _ s₂ h₂=>?_) fun _ _ h'=>h'.elim)
  exact Jaa (Jaa (Jbk h₂ (fun x s₄ h₄=>Jaa (Jbk h₄ (fun _ s₅ h₅=>Jae (Jae ⟨rfl,h₅⟩)) fun _ _ h'=>h'.elim)) fun _ _ h'=>h'.elim))
theorem Znl (hs:∀ x,foldedSetIterable i2 env x = pure x) (I:Nat->Shared->Prop)
  (turn:∀ n s,I n s->wpAny (model prog w) A (pyNext it) (fun r s₁=>match r with
   | none=>R (.ok .next) s₁
   | some v=>wpAny (model prog w) A (letOwnedTupleGo t1 it v) (fun _ s₁'=>wpAny (model prog w) A (assign t1 env v) (fun _ s₂=>wpAny (model prog w) A (eval i2 env) (fun x s₄=>wpAny (model prog w) A (pyIter x) (fun j s₅=>codeAny (model prog w) A (.compStart (two elt t1 i1 t2 i2 scope pos) 1 j acc env) (fun r s₆=>r = .ok .next/\∃ m,m < n/\I m s₆) s₅) (fun _ _=>False) s₄) (fun _ _=>False) s₂) (fun _ _=>False) s₁') (fun _ _=>False) s₁) (fun _ _=>False) s)
  (n:Nat) (h:I n s):codeAny (model prog w) A (.compLoop (two elt t1 i1 t2 i2 scope pos) 0 it acc env) R s:=by
 refine codeAny_loop rfl I (fun n s hI=>?_) n h
 show wpAny _ A ((compTurn (two elt t1 i1 t2 i2 scope pos) 0 it acc env).onRaise (fun x=>do noteFrame x env; theTreesLotGoes x)) _ _ s
 refine wpAny_noted ?_
 rw [Zlt]
 refine Jaa (Jc1 (Jaa (Jbk (turn n s hI) (fun r s₁ h₁=>?_) fun _ _ h'=>h'.elim)))
 cases r with
 | none=>exact Jae h₁
 | some v=>
  refine Jaa (Jbk h₁ (fun _ s₁' h₁'=>?_) fun _ _ h'=>h'.elim)
  refine Jaa (Jbk h₁' (fun _ s₂ h₂=>?_) fun _ _ h'=>h'.elim)
  refine Jaa (Jbk h₂ (fun x s₄ h₄=>?_) fun _ _ h'=>h'.elim)
  refine Jaa (Jc1 (Jaa (wpAny_of_eq (hs x) ?_)))
  refine Jaa (Jbv (Jbk h₄ (fun j s₅ h₅=>?_) fun _ _ h'=>h'.elim))
  refine Jaa (wpAny_runOwn (Jed h₅ fun r s₆ h₆=>?_))
  obtain ⟨rfl,h6⟩:=h₆
  exact Jae ⟨rfl,h6⟩
end
def Zim (g:TG) (wi2:TI) (g2:TG) (te:TE) (J:It) (D:Addr) (σ0:St) (H1:Hp) (Q:VK):Prop:=
 ∃ W:Nat->Nat->St->Hp->Prop,(∃ m,W 0 m σ0 (upd H1 D (.lst [])))/\∀ i m σ' H2,W i m σ' H2->
  (J.stop i H2/\Q (.ref D) H2)\/(J.go i H2/\∀ x H3,J.yld i H2 x H3->g x σ' H3 fun σ4 H4=>wi2 σ4 H4 fun J2 H5=>
   ∃ W2:Nat->Nat->St->Hp->Prop,(∃ m2,W2 0 m2 σ4 H5)/\∀ j m2 σ5 H6,W2 j m2 σ5 H6->
    (J2.stop j H6/\∃ m',m' < m/\W (i + 1) m' σ5 H6)\/(J2.go j H6/\∀ y H7,J2.yld j H6 y H7->g2 y σ5 H7 fun σ8 H8=>te σ8 H8 fun z H9=>
     ∃ vs,H9 D = some (.lst vs)/\vs.length < sizeLine/\∃ m2',m2' < m2/\W2 (j + 1) m2' σ8 (upd H9 D (.lst (vs ++ [z])))))
def tComp2 (k:Nat) (fr:List (Str × Nat)) (wi:TI) (g:TG) (wi2:TI) (g2:TG) (te:TE):TE:=fun σ H Q=>wi σ H fun J H1=>∀ D,H1 D = none->Zim g wi2 g2 te J D (Ze3 k fr σ) H1 Q
section
variable {X:Cx} {tg iter t2 i2 elt:Expr} {scope:Scope} {pos:Pos} {own:List Str} {fr:List (Str × Nat)} {wi wi2:TI} {g g2:TG} {te:TE}
theorem Zoj {pins:List (Addr × Obj)} {s2:Shared} {σ:St} {H2:Hp} {it:Addr} {fp:List Addr} {tn:Nat->Heap->Prop} {J:It} {Q:VK} {cl:List (Str × Addr)} {RR:Value->Addr->Result->Shared->Prop} {E:Value->Shared->Prop}
  (hc:X.calm = true) (B:BlScope X scope own fr)
  (hs:∀ env x,foldedSetIterable i2 env x = pure x)
  (hb:∀ cl s H fp,PG (Zbv X (Zbu own fr) scope cl s H fp) tg g/\PI (Zbv X (Zbu own fr) scope cl s H fp) t2 i2 wi2/\PG (Zbv X (Zbu own fr) scope cl s H fp) t2 g2/\PE (Zbv X (Zbu own fr) scope cl s H fp) elt te)
  (hcl:∀ x c,cl.lookup x = some c->X.env.cells.lookup x = some c) (hcl2:∀ y ∈ scope.names,y.2 = .free->∃ c,cl.lookup y.1 = some c)
  (I2:Inv X pins σ H2 s2) (T:Turn X.prog X.w X.K tg J fp it tn) (st2:tn 0 s2.heap) (f2:∀ b ∈ fp,Zij X pins H2 b) (q:∀ D,H2 D = none->Zim g wi2 g2 te J D (Ze3 own.length fr σ) H2 Q)
  (hRR:∀ D C s' H',Inv X pins σ H' s'->Q (.ref D) H'->(∃ m,s'.heap.Ns C m)->C ≠ X.env.locals->(∀ x c,X.env.cells.lookup x = some c->c ≠ C)->(∀ p ∈ X.pn ++ pins,p.1 ≠ C)->X.s₀.heap.objs.size<=C->H' C = none->RR (.ref D) C (.ok .next) s'):
  wpAny (model X.prog X.w) X.A (newList []) (fun acc s₃=>wpAny (model X.prog X.w) X.A (newFunctionEnv scope X.env.globals cl [] X.env.qual none .none (some X.env)) (fun cenv s₄=>
   codeAny (model X.prog X.w) X.A (.compStart (two elt tg iter t2 i2 scope pos) 0 (.ref it) acc { cenv with scope:=relabel scope X.env }) (RR acc cenv.locals) s₄) E s₃) E s2:=by
 refine Jcm ?_
 have fr0:H2 s2.heap.objs.size = none:=I2.hok.fresh (Jaf _)
 have I3:=I2.lnew (its:=[]) (ys:=[]) (t':=s2.toks) .nil (Jbx _)
 generalize hs3:({ s2 with heap:=s2.heap.push { cls:=.type "list",data:=.seq ([]:List Value).toArray } }:Shared) = s3 at *
 have k23:∀ b o,s2.heap.get? b = some o->s3.heap.get? b = some o:=fun b o e=>by rw [<- hs3]; exact Jad _ e
 have sz3:s3.heap.objs.size = s2.heap.objs.size + 1:=by rw [<- hs3]; exact Jco ..
 have I3':Inv X pins σ (upd H2 s2.heap.objs.size (.lst [])) s3:=I3
 have fne:∀ b ∈ fp,b ≠ s2.heap.objs.size:=fun b hb z=>by
  obtain ⟨o,ho,_⟩:=T.obj 0 _ st2 b hb
  exact absurd (Jal ho) (by rw [z]; exact Jb0 _)
 have f3:∀ b ∈ fp,Zij X pins (upd H2 s2.heap.objs.size (.lst [])) b:=fun b hb=>⟨by rw [Zaf (fne b hb)]; exact (f2 b hb).1,(f2 b hb).2⟩
 have st3:tn 0 s3.heap:=T.keep 0 _ _ st2 fun b _ o e=>k23 b o e
 have hfo:∀ b ∈ fp,∃ o,s3.heap.get? b = some o:=fun b hb=>let ⟨o,ho,_⟩:=T.obj 0 _ st3 b hb; ⟨o,ho⟩
 refine Zdq fun h' hn hk hce=>?_
 have I4:=Zfu (own:=own) I3' B hcl hcl2 f3 hfo hn hk hce
 obtain ⟨hg,hi2,hg2,he⟩:=hb cl s3 (upd H2 s2.heap.objs.size (.lst [])) fp
 have st4:tn 0 h':=T.keep 0 _ _ st3 fun b _ o e=>hk b o e
 have stat:∀ {H':Hp},(∀ b ∈ fp,H' b = none)->∀ b ∈ fp,Zij (Zbv X (Zbu own fr) scope cl s3 (upd H2 s2.heap.objs.size (.lst [])) fp) [] H' b:=fun {H'} hnn b hb=>
  ⟨hnn b hb,(I4.ok.exf b hb).1,I4.ok.exfs b hb,.inl hb,(I4.ok.exf b hb).2,fun p hp=>absurd (show p ∈ ([]:List (Addr × Obj)) from hp) (by simp)⟩
 obtain ⟨W,⟨m0,w0⟩,turn⟩:=q s2.heap.objs.size fr0
 have loop:codeAny (model X.prog X.w) X.A (.compLoop (two elt tg iter t2 i2 scope pos) 0 (.ref it) (.ref s2.heap.objs.size) (Zbv X (Zbu own fr) scope cl s3 (upd H2 s2.heap.objs.size (.lst [])) fp).env)
   (RR (.ref s2.heap.objs.size) s3.heap.objs.size) { s3 with heap:=h' }:=by
  refine Znl (fun x=>hs _ x) (fun n s'=>∃ i σ' H',Inv (Zbv X (Zbu own fr) scope cl s3 (upd H2 s2.heap.objs.size (.lst [])) fp) [] σ' H' s'/\tn i s'.heap/\(∀ b ∈ fp,H' b = none)/\W i n σ' H') ?_ m0
   ⟨0,_,_,I4,st4,fun b hb=>(f3 b hb).1,w0⟩
  rintro n s5 ⟨i,σ5,H5,I5,st5,fr5,w5⟩
  rcases turn i n σ5 H5 w5 with ⟨stop,qn⟩ | ⟨go,step⟩
  ·refine thn (T.done (Zbv X (Zbu own fr) scope cl s3 (upd H2 s2.heap.objs.size (.lst [])) fp) rfl rfl rfl hc i [] s5 σ5 H5 _ I5 (stat fr5) st5 stop) fun r s6 ⟨hr,I6⟩=>?_
   subst hr
   have I7:Inv X pins σ H5 s6:=I3'.call' (ch:=fp) I6.os I6.base I6.hok I6.bare fun b hb=>⟨(f3 b hb).2.2.2.1,(f3 b hb).2.1,(f3 b hb).2.2.2.2.1,(f3 b hb).2.2.2.2.2⟩
   obtain ⟨m6,hn6,_⟩:=I6.loc
   refine hRR _ _ s6 H5 I7 qn ⟨m6,hn6⟩ (Jfq I3'.lt) (fun x c e=>?_) (fun p hp=>?_) I3'.sz I6.free
   ·obtain ⟨v,z⟩:=I3'.cell x c e
    exact Ja8 z.lt
   ·exact Ja8 (Jal (I3'.pin p hp).1)
  ·refine thn (T.item (Zbv X (Zbu own fr) scope cl s3 (upd H2 s2.heap.objs.size (.lst [])) fp) rfl rfl rfl hc i [] s5 σ5 H5 _ I5 (stat fr5) st5 go) fun r s6 ⟨u,hr,h6⟩=>?_
   subst hr
   refine thn h6 fun _ s7 ⟨x,H7,I7,r7,y7,st7,fr7⟩=>?_
   have I7':=I7.pinned (stat fr7) (T.obj _ _ st7)
   refine thn (hg _ s7 σ5 H7 x u _ I7' r7 (step x H7 y7)) fun _ s8 ⟨σ8,H8,I8,q8⟩=>?_
   have again:∀ {sA:Shared} {σA:St} {HA:Hp} {m':Nat},Inv (Zbv X (Zbu own fr) scope cl s3 (upd H2 s2.heap.objs.size (.lst [])) fp) ([] ++ Zeh fp s7.heap) σA HA sA->m' < n->W (i + 1) m' σA HA->
     ∃ m,m < n/\∃ i σ' H',Inv (Zbv X (Zbu own fr) scope cl s3 (upd H2 s2.heap.objs.size (.lst [])) fp) [] σ' H' sA/\tn i sA.heap/\(∀ b ∈ fp,H' b = none)/\W i m σ' H':=fun {sA σA HA m'} IA hm wA=>by
    refine ⟨m',hm,i + 1,σA,HA,IA.unpinned,T.keep _ _ _ st7 fun b hb o e=>(IA.pin (b,o) (Jah _ (Jah _ (Zbc hb e)))).1,fun b hb=>?_,wA⟩
    obtain ⟨o,e,d⟩:=T.obj _ _ st7 b hb
    exact (IA.pin (b,o) (Jah _ (Jah _ (Zbc hb e)))).2.1
   refine thn (hi2 _ s8 σ8 H8 _ I8 q8) fun v s9 h9=>thn h9 fun itv s10 h10=>?_
   obtain ⟨it2,fp2,tn2,J2,H10,e,I10,T2,st10,f10,W2,⟨m2,w2⟩,turn2⟩:=h10
   subst e
   have stat2:∀ {H':Hp},(∀ b ∈ fp2,H' b = none)->∀ b ∈ fp2,Zij (Zbv X (Zbu own fr) scope cl s3 (upd H2 s2.heap.objs.size (.lst [])) fp) ([] ++ Zeh fp s7.heap) H' b:=fun hn b hb=>⟨hn b hb,(f10 b hb).2⟩
   have loop2:codeAny (model X.prog X.w) X.A (.compLoop (two elt tg iter t2 i2 scope pos) 1 (.ref it2) (.ref s2.heap.objs.size) (Zbv X (Zbu own fr) scope cl s3 (upd H2 s2.heap.objs.size (.lst [])) fp).env)
     (fun r s₆=>r = .ok .next/\∃ m,m < n/\∃ i σ' H',Inv (Zbv X (Zbu own fr) scope cl s3 (upd H2 s2.heap.objs.size (.lst [])) fp) [] σ' H' s₆/\tn i s₆.heap/\(∀ b ∈ fp,H' b = none)/\W i m σ' H') s10:=by
    refine Znk (fun n2 s'=>∃ j σ' H',Inv (Zbv X (Zbu own fr) scope cl s3 (upd H2 s2.heap.objs.size (.lst [])) fp) ([] ++ Zeh fp s7.heap) σ' H' s'/\tn2 j s'.heap/\(∀ b ∈ fp2,H' b = none)/\W2 j n2 σ' H') ?_ m2 ⟨0,σ8,H10,I10,st10,fun b hb=>(f10 b hb).1,w2⟩
    rintro n2 s11 ⟨j,σ11,H11,I11,st11,fr11,w11⟩
    rcases turn2 j n2 σ11 H11 w11 with ⟨stop,m',hm,wn⟩ | ⟨go,step2⟩
    ·refine thn (T2.done (Zbv X (Zbu own fr) scope cl s3 (upd H2 s2.heap.objs.size (.lst [])) fp) rfl rfl rfl hc j _ s11 σ11 H11 _ I11 (stat2 fr11) st11 stop) fun r s12 ⟨hr,I12⟩=>?_
     subst hr
     exact ⟨rfl,again I12 hm wn⟩
    ·refine thn (T2.item (Zbv X (Zbu own fr) scope cl s3 (upd H2 s2.heap.objs.size (.lst [])) fp) rfl rfl rfl hc j _ s11 σ11 H11 _ I11 (stat2 fr11) st11 go) fun r s12 ⟨u2,hr,h12⟩=>?_
     subst hr
     refine thn h12 fun _ s13 ⟨y,H13,I13,r13,y13,st13,fr13⟩=>?_
     have I13':=I13.pinned (stat2 fr13) (T2.obj _ _ st13)
     refine thn (hg2 _ s13 σ11 H13 y u2 _ I13' r13 (step2 y H13 y13)) fun _ s14 ⟨σ14,H14,I14,q14⟩=>?_
     refine thn (he _ s14 σ14 H14 _ I14 q14) fun z s15 ⟨vz,H15,I15,r15,vs,hvs,hlen,m2',hm2,w15⟩=>?_
     refine thn (Zba (X:=Zbv X (Zbu own fr) scope cl s3 (upd H2 s2.heap.objs.size (.lst [])) fp) _ s15 σ14 H15 (.ref s2.heap.objs.size) [vz] (.ref s2.heap.objs.size) [z] (fun _ HB=>W2 (j + 1) m2' σ14 HB) I15 rfl (.cons r15 .nil) ⟨_,vs,vz,rfl,rfl,hvs,hlen,w15⟩) fun _ s16 ⟨_,H16,I16,_,w16⟩=>?_
     refine ⟨m2',hm2,j + 1,σ14,H16,I16.unpinned,T2.keep _ _ _ st13 fun b hb o e=>(I16.pin (b,o) (Jah _ (Jah _ (Zbc hb e)))).1,fun b hb=>?_,w16⟩
     obtain ⟨o,e,d⟩:=T2.obj _ _ st13 b hb
     exact (I16.pin (b,o) (Jah _ (Jah _ (Zbc hb e)))).2.1
   exact Zl1 loop2 (T2.self _ 0 _ _ _ st10 loop2)
 exact codeAny_compStart_list loop (T.self _ 0 _ _ _ st4 loop)
theorem Zpi (hc:X.calm = true) (B:BlScope X scope own fr) (hi:PI X tg iter wi)
  (hb:∀ cl s H fp,PG (Zbv X (Zbu own fr) scope cl s H fp) tg g/\PI (Zbv X (Zbu own fr) scope cl s H fp) t2 i2 wi2/\PG (Zbv X (Zbu own fr) scope cl s H fp) t2 g2/\PE (Zbv X (Zbu own fr) scope cl s H fp) elt te)
  (hs2:∀ env x,foldedSetIterable i2 env x = pure x:=by intro _ _; rfl)
  (hs:∀ x,foldedSetIterable iter X.env x = pure x:=by intro _; rfl):
  PE X (two elt tg iter t2 i2 scope pos) (tComp2 own.length fr wi g wi2 g2 te):=by
 intro pins s σ H Q I h
 obtain ⟨cl,hclos,hcl,hcl2⟩:=Zhf (scope:=scope) (env:=X.env) fun y hy hf=>I.ok.has y.1 (B.free y hy hf)
 rw [eval_ListComp]
 refine Jdj (use:=none) rfl hs hclos B.kind B.loc (thn (hi pins s σ H _ I h) fun v s1 h1=>thn h1 fun itv s2 h2=>?_)
 obtain ⟨it,fp,tn,J,H2,e,I2,T,st2,f2,q⟩:=h2
 subst e
 refine Zoj (RR:=fun acc C=>compPost (model X.prog X.w) X.A X.xe none (EP X pins σ Q) acc C) (Q:=Q) hc B hs2 hb hcl hcl2 I2 T st2 f2 q ?_
 intro D C s' H' I' hq hn n1 n2 n3 n4 n5
 obtain ⟨m,hn⟩:=hn
 refine ⟨m,hn,fun h' hs'=>⟨.ref D,H',I'.turned (it:=C) (t':=s'.toks) (fun b o hb e=>SameBut.get hs' b o hb e) n5 (Jds (Jds n1)) (.inr n4) n2 n3,rfl,hq⟩⟩
end
def Zmn:V->List V->Hp->VK->Prop:=fun x vs H Q=>∃ (l:Addr) (ns:List Int) (k:Int),x = .ref l/\vs = [.int k]/\H l = some (.lst (ns.map V.int))/\Q (.int ((ns.count k:Nat):Int)) H
def intU (k:Int):Value->Bool
 | .int i _=>i == k
 | _=>false
theorem Zes (k:Int):∀ {ns:List Int} {its:List Value},Vals (ns.map V.int) its->its.countP (intU k) = ns.count k
 | [],_,.nil=>rfl
 | n :: ns,_,.cons r rs=>by
  obtain ⟨t,rfl⟩:=r
  rw [List.countP_cons,Zes k rs,Jfj]
  rfl
theorem Zkd {A:Around} {s:Shared} (k:Int) (t':Tok):∀ {ns:List Int} {its:List Value},Vals (ns.map V.int) its->∀ y ∈ its,SeqAt.EqAt A s y (.int k t') (intU k y)
 | [],_,.nil=>fun y hy=>by cases hy
 | n :: ns,_,.cons r rs=>fun y hy=>by
  obtain ⟨t,rfl⟩:=r
  rcases Jam.mp hy with rfl | hy
  ·exact SeqAt.EqAt.int_int n t k t'
  ·exact Zkd k t' rs y hy
theorem Zh1 {X:Cx}:MtM X "list.count" Zmn:=by
 intro pins s σ H x vs v us Q I rx rv h
 obtain ⟨l,ns,k,rfl,rfl,hH,q⟩:=h
 cases rx
 obtain ⟨u,rfl,⟨t,rfl⟩⟩:=rv.one
 obtain ⟨z,its,n,r,hl,e⟩:=I.lstM hH
 refine Jf6 F.slot_list_count ⟨_,e,rfl⟩ F.entry_list_count (F.args_list_count_2 _ _) (SeqAt.list_countAt l its.toArray n _ _ (.int k t) (intU k)) ⟨e,fun y hy=>?_,?_⟩
 ·exact Zkd k t r y (by simpa using hy)
 ·refine ⟨.int _,H,I.tok _,⟨_,rfl⟩,?_⟩
  have ec:List.countP (intU k) its.toArray.toList = ns.count k:=by
   rw [show its.toArray.toList = its by simp]
   exact Zes k r
  first | (rw [ec]; exact q) | (rw [Zes k r]; exact q)
section
variable {X:Cx}
def nonV:V->Bool
 | .non=>true
 | _=>false
def NoT (K:PySem.W.Frag) (H:Hp) (x:V):Prop:=x = .non\/∃ a xs,x = .ref a/\SqT K H a xs
def rNotInN (K:PySem.W.Frag):R2:=fun x y H Q=>∃ p xs,x = .non/\y = .ref p/\SqL K H p xs/\(∀ z ∈ xs,NoT K H z)/\Q (.bl (!xs.any nonV)) H
end
end L2
namespace L2
open PySem PySem.Spec PyProof.Rows PySem.W
structure Trk (B:Heap) (fr:List Env) (e:Addr) (cls c0 fl:Value) (h:Heap):Prop where
 st:B.StaysIn h
 nw:B.get? e = none
 ff:h.FunFrames B fr
 ob:∃ (o:Obj) (vs:Array Value) (T:Addr) (oT:Obj) (us:Array Value),h.get? e = some o/\o.cls = cls/\o.data = .fields vs/\vs[2]? = some c0/\vs[1]? = some (.ref T)/\B.get? T = none/\T ≠ e/\h.get? T = some oT/\oT.data = .fields us/\us[3]? = some fl
theorem Trk.outer {B h:Heap} {env:Env} {fr:List Env} {e:Addr} {cls c0 fl:Value} (x:Trk B (env :: fr) e cls c0 fl h):Trk B fr e cls c0 fl h:=⟨x.st,x.nw,x.ff.2.2,x.ob⟩
section
variable {M:Model} {A:Around} {E:Value->Shared->Prop} {s:Shared} {B:Heap} {fr:List Env} {e L:Addr} {cls c0:Value} {Q:Unit->Shared->Prop}
theorem Zf5 {h h':Heap} {T:Addr} {oT:Obj} {us:Array Value} (hT:h.get? T = some oT) (hd:oT.data = .fields us) (k:∀ b,b ≠ T->h'.get? b = h.get? b):h.UpToSlots h':=fun b o hb hn=>
 ⟨o.slots,by rw [k b (fun z=>by rw [z,hT] at hb; cases hb; exact hn us hd)]; exact hb⟩
theorem Zkk {h h':Heap} {B:Heap} {fr:List Env} (x:h.FunFrames B fr) (k:h.UpToSlots h'):h'.FunFrames B fr:=x.of_keeps fun b o hb hn=>let ⟨_,q⟩:=k b o hb hn; ⟨_,q,rfl⟩
theorem Zoy {f0:Value} (fo:Option Addr) (x:Trk B fr e cls c0 f0 s.heap) (k:∀ h',Trk B fr e cls c0 (fo.elim .none fun f=>rawInt f) h'->s.heap.UpToSlots h'->Q () { s with heap:=h' }):wpAny M A (setFlight (.ref e) fo) Q E s:=by
 obtain ⟨o,vs,T,oT,us,he,hc,hd,g2,g1,nT,ne,hT,dT,g3⟩:=x.ob
 have z3:3 < us.size:=(Jcw.mp g3).1
 unfold setFlight
 refine Jaa (wpAny_field he hd g1 ?_)
 rw [if_pos (by simp)]
 have oth:∀ b,b ≠ T->(s.heap.update T (Obj.mapFields (·.setIfInBounds 3 (fo.elim Value.none fun f=>rawInt f)))).get? b = s.heap.get? b:=fun b hb=>Jcg _ _ hb.symm
 have up:=Zf5 hT dT oth
 have me:=Jb2 (Obj.mapFields (·.setIfInBounds 3 (fo.elim Value.none fun f=>rawInt f))) hT (Jdx (Jcr dT _))
 exact Je1 hT dT z3 (k _ ⟨fun b u hb=>by rw [oth b (fun z=>by rw [z,nT] at hb; cases hb)]; exact x.st b u hb,x.nw,Zkk x.ff up,o,vs,T,_,_,by rw [oth e ne.symm]; exact he,hc,hd,g2,g1,nT,ne,me,Jcr dT _,by simp [z3]⟩ up)
theorem Zlw {env:Env} {o:Obj} {vs:Array Value} {hd0:Value} {bb:Bool} (fA:A.frames = some (env :: fr)) (ff:s.heap.FunFrames B (env :: fr)) (fE:env.frame = some L) (st:B.StaysIn s.heap) (nw:B.get? e = none)
  (he:s.heap.get? e = some o) (hd:o.data = .fields vs) (g2:vs[2]? = some c0) (k:∀ h',Trk B (env :: fr) e o.cls c0 (rawInt L) h'->s.heap.UpToSlots h'->Q () { s with heap:=h' }):
  wpAny M A (do let a <- frameOf env; let pl <- entryPlaceOf L bb; let b <- EntryCells.newEntry hd0 a .none (rawInt L) .none pl; setField (.ref e) 1 b) Q E s:=by
 have z2:2 < vs.size:=(Jcw.mp g2).1
 have nfr:e ∉ (env :: fr).filterMap (·.frame):=fun z=>by
  obtain ⟨_,u,hu,hn⟩:=ff.mem z
  rw [he] at hu
  cases hu
  exact hn vs hd
 refine Jaa (wpAny_frameOf_fun fA ff fE fun g sg=>Jaa (wpAny_entryPlaceOf fun pl ip=>?_))
 unfold EntryCells.newEntry newFields
 refine Jaa (Jcm (?_:_) (ip.sizeOk5 _ _ _ _ _))
 have ge:g.get? e = some o:=(sg.2.1 e nfr).trans he
 have stg:B.StaysIn g:=fun b u hb=>(sg.2.1 b fun z=>by rw [(ff.mem z).1] at hb; cases hb).trans (st b u hb)
 have gs:s.heap.UpToSlots g:=fun b u hb _=>sg.2.2 b u hb
 generalize htb:({ cls:=.type "traceback",dict:=none,data:=.fields ([hd0,.ref L,.none,rawInt L,.none] ++ (if pl.isEmpty then List.replicate 6 Value.none else pl)).toArray }:Obj) = tb
 have tbf:tb.isFreed = false:=by rw [<- htb]; rfl
 have ge2:(g.push tb).get? e = some o:=Jad tb ge
 have nT:g.objs.size ≠ e:=Jfq (Jal ge)
 have oth:∀ b u,b ≠ e->g.get? b = some u->((g.push tb).update e (Obj.mapFields (·.setIfInBounds 1 (Value.ref g.objs.size)))).get? b = some u:=fun b u hb q=>by
  rw [Jcg _ _ hb.symm]
  exact Jad tb q
 have up:g.UpToSlots ((g.push tb).update e (Obj.mapFields (·.setIfInBounds 1 (Value.ref g.objs.size)))):=fun b u q hn=>⟨u.slots,oth b u (fun z=>by rw [z,ge] at q; cases q; exact hn vs hd) q⟩
 have me:=Jb2 (Obj.mapFields (·.setIfInBounds 1 (Value.ref g.objs.size))) ge2 (Jdx (Jcr hd _))
 have hT:((g.push tb).update e (Obj.mapFields (·.setIfInBounds 1 (Value.ref g.objs.size)))).get? g.objs.size = some tb:=by
  rw [Jcg _ _ nT.symm]
  exact Jat g tbf
 refine Je1 ge2 hd (by omega) (k _ ⟨fun b u hb=>oth b u (fun z=>by rw [z,nw] at hb; cases hb) (stg b u hb),nw,Zkk ff (gs.trans up),_,_,g.objs.size,tb,_,me,Jf8 _ _,Jcr hd _,by rw [Jex (by decide)]; exact g2,by simp [show 1 < vs.size by omega],stg.fresh,nT,hT,by rw [<- htb],?_⟩ (gs.trans up))
 first | (simp; done) | (rcases ip with rfl | ⟨_,_,_,_,_,_,_,rfl⟩ <;> simp)
theorem Zlv {env:Env} {o:Obj} {vs:Array Value} (fA:A.frames = some (env :: fr)) (ff:s.heap.FunFrames B (env :: fr)) (fE:env.frame = some L) (st:B.StaysIn s.heap) (nw:B.get? e = none)
  (he:s.heap.get? e = some o) (hd:o.data = .fields vs) (g2:vs[2]? = some c0) (g1:vs[1]? = some .none) (k:∀ h',Trk B (env :: fr) e o.cls c0 (rawInt L) h'->s.heap.UpToSlots h'->Q () { s with heap:=h' }):wpAny M A (noteFrame (.ref e) env) Q E s:=by
 unfold noteFrame
 rw [fE]
 refine Jaa (wpAny_field he hd g1 ?_)
 exact Zlw fA ff fE st nw he hd g2 k
theorem Zoz {env:Env} {h0:Heap} {as:List Value} (fA:A.frames = some (env :: fr)) (fE:env.frame = some L) (st:B.StaysIn h0) (ff:h0.FunFrames B (env :: fr)) (x:Heap.MadeExcOf h0 s.heap e cls as)
  (k:∀ h',Trk B fr e cls .none .none h'->s.heap.UpToSlots h'->Q () { s with heap:=h' }):wpAny M A (leaving env (.ref e)) Q E s:=by
 obtain ⟨t,he,_,_⟩:=x.there
 have nw:B.get? e = none:=by
  cases q:B.get? e with
  | none=>rfl
  | some u=>have:=st e u q; rw [x.new] at this; cases this
 unfold leaving
 exact Jaa (Zlv fA (ff.of_keeps fun b u hb _=>⟨u,x.keeps b u hb,rfl⟩) fE (fun b u hb=>x.keeps b u (st b u hb)) nw he rfl rfl rfl fun h1 y q=>Zoy (s:={ s with heap:=h1 }) none y fun h2 y2 q2=>k h2 y2.outer (q.trans q2))
end
end L2
namespace L2
open PySem PySem.Spec PyProof.Rows PySem.W
theorem HOk.track {P:Program} {w:World} {H:Hp} {h h':Heap} (x:HOk P w H h) (k:∀ b u o,H b = some u->h.get? b = some o->h'.get? b = some o):HOk P w H h':=fun a o e=>
 (x a o e).stay (fun b u hb q=>by
  rcases hb with rfl | hb
  ·exact k b o u e q
  ·exact k b _ u hb q) (fun _ z=>z) (fun _ _ z=>z) fun _ _ _ z=>z
theorem ObjOk.there {P:Program} {w:World} {H:Hp} {h:Heap} {a:Addr} {o:HO} (x:ObjOk P w H h a o):∃ u,h.get? a = some u:=by
 cases o with
 | lst xs=>obtain ⟨_,_,_,_,e⟩:=x; exact ⟨_,e⟩
 | tup xs=>obtain ⟨_,_,_,p⟩:=x; obtain ⟨o,e,_⟩:=p; exact ⟨_,e⟩
 | dK kvs=>obtain ⟨_,_,_,_,o,_,_,e,_⟩:=x; exact ⟨_,e⟩
 | dT kvs=>obtain ⟨_,_,_,_,o,_,_,e,_⟩:=x; exact ⟨_,e⟩
 | set S n=>obtain ⟨o,_,_,_,e,_⟩:=x; exact ⟨_,e⟩
 | ins C dx fs=>obtain ⟨_,_,_,e,_⟩:=x; exact ⟨_,e⟩
 | own y=>obtain ⟨_,e⟩:=x; exact ⟨_,e⟩
 | xd fs=>obtain ⟨_,⟨_,_,_,e,_⟩,_⟩:=x; exact ⟨_,e⟩
 | rng lo hi=>obtain ⟨_,_,_,e⟩:=x; exact ⟨_,e⟩
 | frz ob u=>obtain ⟨e,_⟩:=x; exact ⟨_,e⟩
 | tbl ps=>exact ⟨_,(show h.get? a = some _ from x)⟩
 | met f y=>exact ⟨_,(show h.get? a = some _ from x)⟩
 | ext φ=>obtain ⟨_,⟨_,e⟩,_⟩:=x; exact ⟨_,e⟩
 | tab l c q=>
  rcases x with e | ⟨_,_,_,_,e,_⟩
  ·exact ⟨_,e⟩
  ·exact ⟨_,e⟩
structure Fly (P:Program) (w:World) (outer:List Env) (H:Hp) (s:Shared) (a:Addr) (cls c0:Value) (H':Hp) (s':Shared):Prop where
 os:s'.os = s.os
 bare:AllBare s'.gens
 hok:HOk P w H' s'.heap
 un:Un (frs outer) [] H H' s.heap s'.heap
 fly:∃ B,Trk B outer a cls c0 .none s'.heap/\(∀ b o,s.heap.get? b = some o->b ∉ frs outer->∃ o',B.get? b = some o')/\∀ b u,H' b = some u->∃ o',B.get? b = some o'
 new:∀ o,s.heap.get? a ≠ some o
 free:H' a = none
def CXe (P:Program) (w:World):CXT:=fun outer H s E e s'=>∃ (a:Addr) (cls c0:Value) (H':Hp),e = .ref a/\Fly P w outer H s a cls c0 H' s'/\E cls none H'/\(c0 = .none\/E cls (some 0) H')
section
variable {P:Program} {w:World} {K:PySem.W.Frag} {mg:Str->Option Value} {base:Heap} {N:List Str} {qual:Str} {scope:Scope} {f:Addr} {cd:Value} {A:Around} {outer:List Env} {s:Shared} {H:Hp} {E:XK} {pins:List (Addr × Obj)} {σ:St} {H1:Hp} {s1 s2:Shared} {e:Addr} {cls:Value}
theorem xe_made {vs:List Value} (I:Inv (Zi9 (CXe P w) P w K mg base N qual scope f cd A outer s H E) pins σ H1 s1) (hx:Heap.MadeExcOf s1.heap s2.heap e cls vs) (ho:s2.os = s1.os) (hg:AllBare s2.gens) (hE:E cls none H1):
  (Zi9 (CXe P w) P w K mg base N qual scope f cd A outer s H E).xe (.ref e) s2:=by
 show wpAny (model P w) (A.deeper (envOfC qual scope s.heap.objs.size f cd)) (leaving (envOfC qual scope s.heap.objs.size f cd) (.ref e)) (fun _ s''=>CXe P w outer H s E (.ref e) s'') (fun e' s''=>CXe P w outer H s E e' s'') s2
 have hin:∀ env ∈ (envOfC qual scope s.heap.objs.size f cd :: outer),∀ b,env.frame = some b->b ∈ frs (envOfC qual scope s.heap.objs.size f cd :: outer):=fun env he b hb=>Jei.mpr ⟨env,he,hb⟩
 have hstk:s1.heap.FunFrames base (envOfC qual scope s.heap.objs.size f cd :: outer):=I.stack
 have hfree:∀ b ∈ frs (envOfC qual scope s.heap.objs.size f cd :: outer),H1 b = none:=I.stkFree
 have hsub:∀ b ∈ frs (envOfC qual scope s.heap.objs.size f cd :: outer),b ∈ s.heap.objs.size :: frs outer:=I.stkSub
 refine Zoz (B:=hideAll s1.heap (frs (envOfC qual scope s.heap.objs.size f cd :: outer))) (h0:=s1.heap) I.ok.frames rfl (fun b o q=>of_hideAll _ q) (funFrames_hide hstk hin) hx fun h' x1 x4=>?_
 have keepB:∀ b o,s1.heap.get? b = some o->b ∉ frs (envOfC qual scope s.heap.objs.size f cd :: outer)->h'.get? b = some o:=fun b o q nb=>x1.st b o (hideAll_get _ q nb)
 have hne:s1.heap.get? e = none:=hx.new
 have ub:Un (frs outer) [] H H1 s.heap s1.heap:=I.base
 have nst:∀ b o,s.heap.get? b = some o->b ∉ frs outer->b ∉ frs (envOfC qual scope s.heap.objs.size f cd :: outer):=fun b o q nb z=>by
  rcases Jam.mp (hsub b z) with e1 | z
  ·exact absurd (Jal q) (by rw [e1]; exact Jb0 _)
  ·exact nb z
 have slotS:∀ b o,s1.heap.get? b = some o->b ∈ frs (envOfC qual scope s.heap.objs.size f cd :: outer)->∃ sl,h'.get? b = some { o with slots:=sl }:=fun b o q hb=>by
  obtain ⟨_,o',ho',hd⟩:=hstk.mem hb
  rw [q] at ho'
  cases ho'
  exact x4 b o (hx.keeps b o q) hd
 refine ⟨e,cls,.none,H1,rfl,⟨ho.trans I.os,hg,HOk.track I.hok (fun b u o hb q=>keepB b o q (fun z=>by rw [hfree b z] at hb; cases hb)),⟨fun b o q n hb hx=>?_,fun b o q n hb hx=>?_,fun b o q n hx=>ub.free b o q n hx,fun b o q hx=>?_,ub.tups,ub.frzs,ub.tbls⟩,⟨_,x1,fun b o q nb=>?_,fun b u hb=>?_⟩,fun o q=>?_,?_⟩,hE,.inl rfl⟩
 ·exact keepB b o (ub.keep b o q n hb hx) (nst b o q hb)
 ·obtain ⟨sl,e1⟩:=ub.slot b o q n hb hx
  obtain ⟨sl',e2⟩:=slotS b _ e1 (by unfold frs at hb ⊢; rw [Jc8]; split <;> first | exact hb | exact Jbj _ hb)
  exact ⟨sl',e2⟩
 ·obtain ⟨o',e1⟩:=ub.there b o q hx
  by_cases z:b ∈ frs (envOfC qual scope s.heap.objs.size f cd :: outer)
  ·obtain ⟨sl,e2⟩:=slotS b o' e1 z
   exact ⟨_,e2⟩
  ·exact ⟨o',keepB b o' e1 z⟩
 ·obtain ⟨o',e1⟩:=ub.there b o q (by simp)
  exact ⟨o',hideAll_get _ e1 (nst b o q nb)⟩
 ·obtain ⟨o',e1⟩:=ObjOk.there (I.hok b u hb)
  exact ⟨o',hideAll_get _ e1 fun z=>by rw [hfree b z] at hb; cases hb⟩
 ·obtain ⟨o',e1⟩:=ub.there e o q (by simp)
  rw [hne] at e1
  cases e1
 ·cases z:H1 e with
  | none=>rfl
  | some u=>
   obtain ⟨o',e1⟩:=ObjOk.there (I.hok e u z)
   rw [hne] at e1
   cases e1
end
end L2
namespace L2
open PySem PySem.Spec PyProof.Rows PySem.W
def Zlx (t:TA) (R:Hp->Prop):TS:=fun _ σ H=>t σ H fun vs H1=>vs.length<=1000/\R H1
section
variable {X:Cx} {x:Str} {C:Addr} {bm bmN:List Value} {B Bn newId nid initId inN:String} {np cpos pos:Pos} {e₀:Expr} {rest:List Expr} {t:TA} {R:Hp->Prop}
theorem Zpc (hc:X.calm = true) (O:OwnCls x C bm newId X.mg X.base) (Fn:ExcBaseFacts Bn newId inN bmN) (hBn:bm.contains (.type Bn) = true) (FB:ExcBaseFacts B nid initId bm) (hg:Gl X x) (ha:PA X (e₀ :: rest) t)
  (hxe:∀ pins σ H1 s1 s2 e vs,Inv X pins σ H1 s1->Heap.MadeExcOf s1.heap s2.heap e (.ref C) vs->s2.os = s1.os->AllBare s2.gens->R H1->X.xe (.ref e) s2)
  (h1:Zbm e₀ = false:=by rfl) (h2:rest.all (fun x=>!Zbm x) = true:=by rfl) (hd:(x == ("__debug__" : Str)) = false:=by decide):
  PS X (.Raise (some (.Call (.Name x np) (e₀ :: rest) [] cpos)) none pos) (Zlx t R):=by
 intro pins s σ H D I h
 have he:=Za9 (e:=e₀) (es:=rest) (env:=X.env) h1
 have hpl:=Zc4 (pos:=cpos) (env:=X.env) h2
 obtain ⟨tl,N,nm,q,bs,hdct,sn,sub,ab,col,dd,k0,k1,k2,k3,k5,mN,hC,hN,hni,T⟩:=O.obj
 refine wpAny_Raise_call_subU (C:=C) (nm:=nm) (q:=q) (N:=N) (bs:=bs) (bm:=tl) (hdct:=hdct) (sn:=sn) (sub:=sub) (ab:=ab) (col:=col) (dd:=dd) (k0:=k0) (k1:=k1) (k2:=k2) (k3:=k3) (k5:=k5)
  Fn hBn FB (mN:=mN) (T.hasType FB.hasBase) (I.ok.hd hc) (by rw [he]; show (false || (backTo cpos (starEach rest X.env)).any (·.1)) = false; rw [hpl]; rfl) hni (Zg8 I hg O.bound ⟨rfl,?_⟩ hd)
 have hA:=ha cpos pins s σ H _ I h
 rw [he] at hA ⊢
 refine Je9 (Jbk hA (fun us s2 ⟨vs,H2,I2,rv,hl,r2⟩=>⟨rfl,?_,I2.bk _ _ hC,hN.keeps I2.bk,T.keeps I2.bk,fun h' e hm=>?_⟩) fun _ _ y=>y)
 ·rw [<- rv.length]
  exact Jbs (Zah hl)
 ·exact hxe pins σ H2 s2 _ e us I2 hm rfl I2.bare r2
end
end L2
namespace L2
open PySem PySem.Spec PyProof.Rows PySem.W
section
variable {P:Program} {w:World} {K:PySem.W.Frag} {mg:Str->Option Value} {base:Heap}
theorem Fun.okE {x qual:Str} {st:Stmt} {f:Addr} {fd:FuncData} {N ps:List Str} {k:Nat} {sp:Sp} (F:Fun K x qual st f fd) (S:FnScope N ps (Zae st)) (len:∀ vs H Q E,sp vs H Q E->vs.length = ps.length)
  (hbody:∀ (cdv:Value) (A:Around) (outer:List Env) (s:Shared) (H:Hp) (vs:List V) (Q:VK) (E:XK),Room k (A.deeper (envOfC qual (Zae st) s.heap.objs.size f cdv))->sp vs H Q E->
   ∃ t,PSs (Zi9 (CXe P w) P w K mg base N qual (Zae st) f cdv A outer s H E) (Zan st) t/\t { nx:=fun _ H'=>Q .non H',rt:=Q } (start N vs) H):FnOk P w K mg base (CXe P w) (k + 1) f fd ps sp:=by
 obtain ⟨oc,od,kV,doc,pm,an,cdv,ct,osl,rfl,lk,hcd⟩:=F.ex
 exact fn_of lk hcd S len fun A outer s H vs Q E hr hsp=>hbody cdv A outer s H vs Q E hr hsp
theorem Zm4 {x:Str} {C:Addr} {bmB:List Value} {newId:String} {h:Heap} (X:K.In h) (b:mg x = some (.ref C)) (q:excIn K C bmB newId = true):OwnCls x C bmB newId mg h:=by
 refine ⟨b,?_⟩
 unfold excIn at q
 split at q
 ·rename_i dd cd sl ho
  split at q
  ·rename_i C' bm k0 k1 k2 k3 n k5 hm hs
   simp only [Jb4,Jbz,Bool.not_eq_true'] at q
   obtain ⟨⟨⟨⟨⟨rfl,rfl⟩,hdel⟩,ht⟩,hok⟩,hni⟩:=q
   obtain ⟨nm,bs,mro,ns,qn,hd,sn,sub,ab,col,del⟩:=cd
   dsimp only at hm hdel hok hni
   subst hm hdel
   have hsl:sl = #[k0,k1,k2,k3,some (.builtin n),k5]:=by
    obtain ⟨l⟩:=sl
    simp only at hs
    rw [hs]
   subst hsl
   exact ⟨bm,ns,nm,qn,bs,hd,sn,sub,ab,col,dd,k0,k1,k2,k3,k5,_,X _ _ ho,.of_isNs (isNs_of_in X hok),nsMap_none_of_in X hok hni,tail_of_in X ht⟩
  ·cases q
 ·cases q
end
section
variable {X:Cx} {pins:List (Addr × Obj)} {σ:St} {H H':Hp} {s s':Shared} {a:Addr} {cls:Value}
end
end L2
namespace L2
open PySem PySem.Spec PyProof.Rows PySem.W
section
variable {M:Model} {A:Around} {E:Value->Shared->Prop}
variable {nm q:Str} {C N:Addr} {bs bm:List Value} {hdct:Bool} {sn:List Str} {sub:List Value} {ab:Bool} {col:Option Bool} {dd:Option Addr} {k0 k1 k2 k3 k5:Option Value} {newId:String}
variable {nm' q':Str} {C' N':Addr} {bs' bm':List Value} {hdct':Bool} {sn':List Str} {sub':List Value} {ab':Bool} {col':Option Bool} {dd':Option Addr} {j0 j1 j2 j3 j5:Option Value} {newId':String}
end
end L2
namespace L2
open PySem PySem.Spec PyProof.Rows PySem.W
abbrev Cx.pnx (X:Cx) (pins:List (Addr × Obj)):Cx:={ X with pn:=X.pn ++ pins }
abbrev Cx.hnd (X:Cx) (pins:List (Addr × Obj)) (a:Addr):Cx:={ X with pn:=X.pn ++ pins,A:=X.A.mark (some (.ref a)),calm:=false,xe:=fun _ _=>False }
section
variable {X:Cx} {pins pins':List (Addr × Obj)} {σ:St} {H:Hp} {s:Shared} {a:Addr}
theorem Inv.pnx (I:Inv X pins σ H s):Inv (X.pnx pins) [] σ H s:=
 ⟨⟨I.ok.mod,I.ok.kind,I.ok.glob,I.ok.blt,I.ok.above,I.ok.inj,I.ok.has,I.ok.cab,I.ok.hd,I.ok.frames,I.ok.stk,I.ok.exf,I.ok.bs,I.ok.bsz,I.ok.noex,I.ok.exfs,I.ok.funs,I.ok.frf,I.ok.top⟩,I.os,I.bare,I.base,I.loc,I.cell,I.free,I.freeC,fun p hp=>I.pin p (by simpa using hp),I.hok,I.len⟩
theorem Inv.hnd (I:Inv X pins σ H s) (a:Addr):Inv (X.hnd pins a) [] σ H s:=
 ⟨⟨I.ok.mod,I.ok.kind,I.ok.glob,I.ok.blt,I.ok.above,I.ok.inj,I.ok.has,I.ok.cab,(fun z=>nomatch z),I.ok.frames,I.ok.stk,I.ok.exf,I.ok.bs,I.ok.bsz,I.ok.noex,I.ok.exfs,I.ok.funs,I.ok.frf,I.ok.top⟩,I.os,I.bare,I.base,I.loc,I.cell,I.free,I.freeC,fun p hp=>I.pin p (by simpa using hp),I.hok,I.len⟩
end
def isExc (a:Addr) (cls:Value):HO:=.ext fun h=>∃ ob,h.get? a = some ob/\ob.cls = cls
def hEnds (X:Cx) (D:Ends):Ends:={ nx:=fun _ H=>D.nx (List.replicate X.N.length none) H,rt:=D.rt,bk:=fun _ H=>D.bk (List.replicate X.N.length none) H,ct:=fun _ H=>D.ct (List.replicate X.N.length none) H }
def tTry (X:Cx) (E':XK) (tb:TS) (i:Nat) (th:TS):TS:=fun D σ H=>tb D σ H/\∀ (cls:Value) (H':Hp) (a:Addr) (σ':St),E' cls none H'->H' a = none->σ'.length = X.N.length->th (hEnds X D) (σ'.set i (some (.ref a))) (upd H' a (isExc a cls))
section
variable {X:Cx} {x n:Str} {np hpos pos:Pos} {body suite:List Stmt} {b₀:Stmt} {E':XK} {tb th:TS} {i:Nat} {D:Addr} {bmD:List Value} {newD:String}
end
end L2
namespace L2
open PySem PySem.Spec PySem.Calls PyProof.Rows PySem.W Builtin Builtin.ObjectAttr Builtin.Getset_descriptor
structure ExcCls (K:PySem.W.Frag) (C:Addr):Prop where
 ga:findIn K (.ref C) "__getattribute__" = some (some (.builtin "BaseException.__getattribute__"))
 gt:findIn K (.ref C) "__getattr__" = some none
 cl:findIn K (.ref C) "__class__" = some (some (.builtin "object.__class__"))
 so:mroIn K C (.type "object") = some true
 sb:mroIn K C (.type "BaseException") = some true
section
variable {prog:Program} {w:World} {A:Around} {E:Value->Shared->Prop} {h:Heap} {g:Array GenState} {d:Drawn} {t:Nat} {os:OsState} {a C:Addr} {ox:Obj} {K:PySem.W.Frag}
end
end L2
namespace L2
open PySem PySem.Spec PyProof.Rows PySem.W
section
variable {X:Cx}
end
end L2
namespace L2
open PySem PySem.Spec PyProof.Rows PySem.W
structure CalE (P:Program) (w:World) (K:PySem.W.Frag) (mg:Str->Option Value) (base:Heap) (x:Str) (k:Nat) (sp:Sp):Prop where
 ex:∃ (f:Addr) (fd:FuncData) (ps:List Str),FnOk P w K mg base (CXe P w) k f fd ps sp/\mg x = some (.ref f)/\PySem.W.keepIn K (.ref f) = true/\Binds K fd ps []
structure CalME (P:Program) (w:World) (K:PySem.W.Frag) (mg:Str->Option Value) (base:Heap) (C:Addr) (m:Str) (k:Nat) (sp:Sp):Prop where
 ex:∃ (f:Addr) (fd:FuncData) (ps:List Str),FnOk P w K mg base (CXe P w) k f fd ps sp/\Meth K C m f/\Binds K fd ps []
structure CalIE (P:Program) (w:World) (K:PySem.W.Frag) (mg:Str->Option Value) (base:Heap) (x:Str) (C:Addr) (k:Nat) (sp:Sp):Prop where
 ex:∃ (f:Addr) (fd:FuncData) (ps:List Str),FnOk P w K mg base (CXe P w) k f fd ps sp/\Mk K C f/\mg x = some (.ref C)/\Binds K fd ps []
section
variable {X:Cx} {x m:Str} {k:Nat} {sp:Sp} {e o:Expr} {es:List Expr} {ta:TE} {t:TA} {p pos apos:Pos} {E:XK} {C:Addr}
theorem pe_cE (M:CalE X.prog X.w X.K X.mg X.base x k sp) (hx:Ze4 (CXe X.prog X.w) X E) (hr:Room k X.A) (hg:Gl X x) (ha:PA X (e :: es) t) (h:Zbm e = false:=by rfl) (h2:es.all (fun x=>!Zbm x) = true:=by rfl)
  (hdb:(x == ("__debug__" : Str)) = false:=by decide):PE X (.Call (.Name x p) (e :: es) [] pos) (Zl0 sp [] E t):=by
 obtain ⟨f,fd,ps,F,hm,hk,hb⟩:=M.ex
 exact Zm2 F hr hg hm hk hb .nil hx ha hdb (Za9 h) (Zc4 h2)
end
theorem hnd_K {X:Cx} {pins:List (Addr × Obj)} {a:Addr}:(X.hnd pins a).K = X.K:=rfl
theorem pnx_K {X:Cx} {pins:List (Addr × Obj)}:(X.pnx pins).K = X.K:=rfl
theorem pass_no {X:Cx}:Ze4 (CXe X.prog X.w) X (fun _ _ _=>False):=fun _ _ _ _ _ _ _ ⟨_,_,_,_,_,_,h,_⟩=>h.elim
structure CalDE (P:Program) (w:World) (K:PySem.W.Frag) (mg:Str->Option Value) (base:Heap) (C:Addr) (m:Str) (k:Nat) (sp:Sp) (dvs:List V):Prop where
 ex:∃ (f:Addr) (fd:FuncData) (ps:List Str) (ds:List Value),FnOk P w K mg base (CXe P w) k f fd ps sp/\Meth K C m f/\Binds K fd ps ds/\Vals dvs ds
abbrev bmV:List Value:=[.type "ValueError",.type "Exception",.type "BaseException",.type "object"]
abbrev newV:String:="ValueError.__new__"
section
variable {P:Program} {w:World} {K:PySem.W.Frag} {mg:Str->Option Value} {base:Heap} {N:List Str} {qual:Str} {scope:Scope} {f:Addr} {cd:Value} {A:Around} {outer:List Env} {s:Shared} {H:Hp} {E:XK}
theorem ps_rse {x:Str} {C:Addr} {np cpos pos:Pos} {e₀:Expr} {rest:List Expr} {t:TA} (O:OwnCls x C bmV newV mg base) (hg:Gl (Zi9 (CXe P w) P w K mg base N qual scope f cd A outer s H E) x)
  (ha:PA (Zi9 (CXe P w) P w K mg base N qual scope f cd A outer s H E) (e₀ :: rest) t) (h1:Zbm e₀ = false:=by rfl) (h2:rest.all (fun x=>!Zbm x) = true:=by rfl) (hd:(x == ("__debug__" : Str)) = false:=by decide):
  PS (Zi9 (CXe P w) P w K mg base N qual scope f cd A outer s H E) (.Raise (some (.Call (.Name x np) (e₀ :: rest) [] cpos)) none pos) (Zlx t (E (.ref C) none)):=
 Zpc rfl O PySem.F.excBase_ValueError rfl PySem.F.excBase_ValueError hg ha (fun pins σ H1 s1 s2 e vs I hm ho hg hE=>xe_made I hm ho hg hE) h1 h2 hd
theorem Zlo {C:Addr} {b:Value} {r:Bool} (m:mroIn K C b = some r):(clsIn K C).isSome = true:=by
 unfold mroIn at m
 cases h:clsIn K C with
 | none=>rw [h] at m; cases m
 | some cd=>rfl
theorem Zm3 {C D:Addr} {bmB:List Value} {newId:String} {h:Heap} (X:K.In h) (q:excIn K C bmB newId = true) (m:mroIn K C (.ref D) = some true) (ne:C ≠ D):
  ∃ C' nm q N bs bm hdct sn sub ab col dd k0 k1 k2 k3 k5 new,Value.ref C = .ref C'/\h.get? C' = some (excClassObj nm q C' N bs bm hdct sn sub ab col dd k0 k1 k2 k3 k5 new)/\bm.contains (.ref D) = true:=by
 unfold excIn at q
 split at q
 ·rename_i dd cd sl ho
  split at q
  ·rename_i C' bm k0 k1 k2 k3 n k5 hm hs
   simp only [Jb4,Jbz,Bool.not_eq_true'] at q
   obtain ⟨⟨⟨⟨⟨rfl,rfl⟩,hdel⟩,ht⟩,hok⟩,hni⟩:=q
   have hcl:clsIn K C' = some cd:=by unfold clsIn; rw [ho]
   obtain ⟨nm,bs,mro,ns,qn,hd,sn,sub,ab,col,del⟩:=cd
   dsimp only at hm hdel hok hni
   subst hm hdel
   have hsl:sl = #[k0,k1,k2,k3,some (.builtin n),k5]:=by
    obtain ⟨l⟩:=sl
    simp only at hs
    rw [hs]
   subst hsl
   refine ⟨C',nm,qn,ns,bs,bm,hd,sn,sub,ab,col,dd,k0,k1,k2,k3,k5,_,rfl,X _ _ ho,?_⟩
   unfold mroIn at m
   rw [hcl] at m
   have m:(Value.ref C' :: bm).contains (.ref D) = true:=Jbm m
   rw [List.contains_cons,Jfg] at m
   rcases m with m | m
   ·exact absurd (Value.ref.inj (Jbz.mp m)).symm ne
   ·exact m
  ·cases q
 ·cases q
end
end L2
namespace PyProof.Rows
open PySem
def Zn5:Bool->Keyed->Array Keyed->Nat->Nat->Nat->StateT SortSt Sem (Option Nat):=sortPriv% PySem.Builtin.gallop
def Zkb:Array Keyed->Array Keyed->StateT SortSt Sem (Array Keyed):=sortPriv% PySem.Builtin.mergeLo
def Zkc:Array Keyed->Array Keyed->StateT SortSt Sem (Array Keyed):=sortPriv% PySem.Builtin.mergeHi
section
variable {prog:Program} {w:World} {A:Around} {E:Value->Shared->Prop} {s:Shared} {a₀:Array Keyed}
def Zox (prog:Program) (w:World) (A:Around) (E:Value->Shared->Prop) (s:Shared) (a₀:Array Keyed) (κ:SortKind):Prop:=
 ∀ x ∈ a₀,∀ y ∈ a₀,∀ st:SortSt,kindOf st = κ->∀ Q:Option Bool->SortSt->Prop,(∀ b,Q (some b) st)->wpS (model prog w) A E s (lt' x y) Q st
variable {κ:SortKind}
theorem Zay {arr:Array Keyed} {i:Nat} {st:SortSt} {Q:Keyed->SortSt->Prop} (hi:i < arr.size) (h:Q arr[i] st):wpS (model prog w) A E s (elem' arr i) Q st:=by
 rw [elem'_eq,Ja3 hi]
 exact Jao h
theorem Zc2 {left:Bool} {key:Keyed} {arr:Array Keyed} {base n hint:Nat} {st:SortSt} {Q:Option Nat->SortSt->Prop} (LT:Zox prog w A E s a₀ κ) (hk:key ∈ a₀) (ha:∀ x ∈ arr,x ∈ a₀) (hn:base + n<=arr.size) (hh:hint < n) (hs:kindOf st = κ) (h:∀ k,k<=n->Q (some k) st):wpS (model prog w) A E s (Zn5 left key arr base n hint) Q st:=by
 have bey:∀ (i:Nat),i < n->∀ (Q:Option Bool->SortSt->Prop),(∀ b,Q (some b) st)->wpS (model prog w) A E s (do let x <- elem' arr (base + i); if left then lt' x key else return (<- lt' key x).map (!·)) Q st:=fun i hi Q hq=>by
  refine Jai (Zay (by omega) ?_)
  have hx:=ha _ (Jby (show base + i < arr.size by omega))
  cases left with
  | true=>exact LT _ hx _ hk st hs _ hq
  | false=>exact Jai (LT _ hk _ hx st hs _ fun b=>Jao (hq _))
 unfold Zn5
 refine Jai (bey hint hh _ fun b=>?_)
 cases b with
 | true=>
  dsimp only
  rw [if_pos rfl]
  refine Jai (Jdd (Jb3 (I:=fun _ c st'=>∃ lo ofs,c = (none,lo,ofs)/\st = st') (Q:=fun c st'=>∃ lo ofs,c = (none,lo,ofs)/\st = st') ?_ (fun _ _ h=>h) ⟨_,_,rfl,rfl⟩) ?_)
  ·rintro i c st' _ _ ⟨lo,ofs,rfl,rfl⟩
   dsimp only
   split
   ·exact Jao ⟨_,_,rfl,rfl⟩
   ·refine Jai (bey _ (by omega) _ fun b=>?_)
    cases b with
    | true=>exact Jao ⟨_,_,rfl,rfl⟩
    | false=>exact Jao ⟨_,_,rfl,rfl⟩
  ·rintro c st' ⟨lo,ofs,rfl,rfl⟩
   dsimp only
   refine Jai (Jdd (Jb3 (I:=fun _ c st'=>∃ lo hi,c = (none,lo,hi)/\hi<=n/\st = st') (Q:=fun c st'=>∃ lo hi,c = (none,lo,hi)/\hi<=n/\st = st') ?_ (fun _ _ h=>h) ⟨_,_,rfl,by omega,rfl⟩) ?_)
   ·rintro i c st' _ _ ⟨lo,hi,rfl,hhi,rfl⟩
    dsimp only
    split
    ·exact Jao ⟨_,_,rfl,hhi,rfl⟩
    ·refine Jai (bey _ (by omega) _ fun b=>?_)
     cases b with
     | true=>exact Jao ⟨_,_,rfl,hhi,rfl⟩
     | false=>exact Jao ⟨_,_,rfl,by omega,rfl⟩
   ·rintro c st' ⟨lo,hi,rfl,hhi,rfl⟩
    exact Jao (h _ hhi)
 | false=>
  dsimp only
  rw [if_neg (by decide)]
  refine Jai (Jdd (Jb3 (I:=fun _ c st'=>∃ lo ofs,c = (none,lo,ofs)/\st = st') (Q:=fun c st'=>∃ lo ofs,c = (none,lo,ofs)/\st = st') ?_ (fun _ _ h=>h) ⟨_,_,rfl,rfl⟩) ?_)
  ·rintro i c st' _ _ ⟨lo,ofs,rfl,rfl⟩
   dsimp only
   split
   ·exact Jao ⟨_,_,rfl,rfl⟩
   ·refine Jai (bey _ (by omega) _ fun b=>?_)
    cases b with
    | true=>exact Jao ⟨_,_,rfl,rfl⟩
    | false=>exact Jao ⟨_,_,rfl,rfl⟩
  ·rintro c st' ⟨lo,ofs,rfl,rfl⟩
   dsimp only
   refine Jai (Jdd (Jb3 (I:=fun _ c st'=>∃ lo hi,c = (none,lo,hi)/\hi<=n/\st = st') (Q:=fun c st'=>∃ lo hi,c = (none,lo,hi)/\hi<=n/\st = st') ?_ (fun _ _ h=>h) ⟨_,_,rfl,by omega,rfl⟩) ?_)
   ·rintro i c st' _ _ ⟨lo,hi,rfl,hhi,rfl⟩
    dsimp only
    split
    ·exact Jao ⟨_,_,rfl,hhi,rfl⟩
    ·refine Jai (bey _ (by omega) _ fun b=>?_)
     cases b with
     | true=>exact Jao ⟨_,_,rfl,hhi,rfl⟩
     | false=>exact Jao ⟨_,_,rfl,by omega,rfl⟩
   ·rintro c st' ⟨lo,hi,rfl,hhi,rfl⟩
    exact Jao (h _ hhi)
structure SM (st st':SortSt):Prop where
 k:kindOf st' = kindOf st
 a:arrOf st' = arrOf st
 p:pendingOf st' = pendingOf st
 f:failedOf st' = failedOf st
theorem SM.refl (st:SortSt):SM st st:=⟨rfl,rfl,rfl,rfl⟩
theorem SM.trans {s1 s2 s3:SortSt} (h:SM s1 s2) (h':SM s2 s3):SM s1 s3:=⟨h'.k.trans h.k,h'.a.trans h.a,h'.p.trans h.p,h'.f.trans h.f⟩
def Mg (a b out:Array Keyed) (ia ib:Nat):Prop:=(out.toList ++ (a.toList.drop ia ++ b.toList.drop ib)).Perm (a.toList ++ b.toList)
variable {a b out:Array Keyed} {ia ib:Nat}
theorem Mg.swap (h:Mg a b out ia ib):Mg b a out ib ia:=((Jca.append_left _).trans h).trans Jca
theorem Mg.exta {k:Nat} (h:Mg a b out ia ib):Mg a b (out ++ a.extract ia (ia + k)) (ia + k) ib:=by
 refine List.Perm.trans (Jem ?_) h
 rw [Jcy,Jbw,Jbh,Nat.add_sub_cancel_left,Jba,<- Jba ((List.drop ia a.toList).take k),<- List.drop_drop,Jbt]
theorem Mg.pusha (hi:ia < a.size) (h:Mg a b out ia ib):Mg a b (out.push a[ia]) (ia + 1) ib:=by
 refine List.Perm.trans (Jem ?_) h
 rw [Jdk,Jba,show List.drop ia a.toList = a[ia] :: List.drop (ia + 1) a.toList from List.drop_eq_getElem_cons (by simpa using hi)]
 rfl
theorem Mg.extb {k:Nat} (h:Mg a b out ia ib):Mg a b (out ++ b.extract ib (ib + k)) ia (ib + k):=h.swap.exta.swap
theorem Mg.pushb (hi:ib < b.size) (h:Mg a b out ia ib):Mg a b (out.push b[ib]) ia (ib + 1):=(h.swap.pusha hi).swap
theorem Mg.done (h:Mg a b out ia ib):(out ++ a.extract ia a.size ++ b.extract ib b.size).toList.Perm (a.toList ++ b.toList):=by
 refine List.Perm.trans (Jem ?_) h
 rw [Jcy,Jcy,Jbw,Jbw,Jbh,Jbh,Jch (by simp),Jch (by simp),Jba]
theorem Mg.last (h:Mg a b out ia ib):(out ++ b.extract ib b.size ++ a.extract ia a.size).toList.Perm (a.toList ++ b.toList):=h.swap.done.trans Jca
theorem Zak {α:Type} {c:Prop} [Decidable c] {x y:StateT SortSt Sem α} {Q:α->SortSt->Prop} {st:SortSt} (h1:c->wpS (model prog w) A E s x Q st) (h2:¬c->wpS (model prog w) A E s y Q st):wpS (model prog w) A E s (if c then x else y) Q st:=by
 by_cases h:c
 ·rw [if_pos h]; exact h1 h
 ·rw [if_neg h]; exact h2 h
def setG':Nat->StateT SortSt Sem Unit:=sortPriv% PySem.Builtin.setMinGallop
theorem Zgw {g:Nat} {st:SortSt} {Q:Unit->SortSt->Prop} (h:∀ st',SM st st'->Q () st'):wpS (model prog w) A E s (setG' g) Q st:=by
 unfold setG'
 exact Jey (h _ ⟨rfl,rfl,rfl,rfl⟩)
theorem Zb4 {x y:Nat} (h:¬(x == y) = true):x ≠ y:=fun e=>h (by subst e; exact Jdb _)
structure LoI (st:SortSt) (a b out:Array Keyed) (ia ib n:Nat) (st':SortSt):Prop where
 m:SM st st'
 sz:out.size = ia + ib
 la:ia + 1 < a.size
 lb:ib < b.size
 g:Mg a b out ia ib
 n:n<=out.size
section
variable {st st' st2:SortSt} {n n':Nat}
theorem LoI.stt (I:LoI st a b out ia ib n st') (m:SM st' st2):LoI st a b out ia ib n st2:=⟨I.m.trans m,I.sz,I.la,I.lb,I.g,I.n⟩
theorem LoI.le (I:LoI st a b out ia ib n st') (h:n'<=n):LoI st a b out ia ib n' st':=⟨I.m,I.sz,I.la,I.lb,I.g,Jay h I.n⟩
theorem LoI.exta {k:Nat} (I:LoI st a b out ia ib n st') (h:ia + k + 1 < a.size):LoI st a b (out ++ a.extract ia (ia + k)) (ia + k) ib n st':=⟨I.m,by rw [Jcz,Jcs,I.sz]; omega,h,I.lb,I.g.exta,by rw [Jcz]; have:=I.n; omega⟩
theorem LoI.extb {k:Nat} (I:LoI st a b out ia ib n st') (h:ib + k < b.size):LoI st a b (out ++ b.extract ib (ib + k)) ia (ib + k) n st':=⟨I.m,by rw [Jcz,Jcs,I.sz]; omega,I.la,h,I.g.extb,by rw [Jcz]; have:=I.n; omega⟩
theorem LoI.lia (I:LoI st a b out ia ib n st'):ia < a.size:=Jez I.la
theorem LoI.pusha (I:LoI st a b out ia ib n st') (h:¬ (ia + 1 + 1 == a.size) = true):LoI st a b (out.push (a[ia]'I.lia)) (ia + 1) ib (n + 1) st':=⟨I.m,by rw [Jda,I.sz]; omega,Jf0 I.la (Zb4 h),I.lb,I.g.pusha _,by rw [Jda]; exact Jd9 I.n⟩
theorem LoI.pushb (I:LoI st a b out ia ib n st') (h:¬ (ib + 1 == b.size) = true):LoI st a b (out.push (b[ib]'I.lb)) ia (ib + 1) (n + 1) st':=⟨I.m,by rw [Jda,I.sz]; omega,I.la,Jf0 I.lb (Zb4 h),I.g.pushb _,by rw [Jda]; exact Jd9 I.n⟩
end
def LoR (st:SortSt) (a b:Array Keyed) (n:Nat) (r:Option (Array Keyed)) (out:Array Keyed) (ia ib:Nat) (st':SortSt):Prop:=
 match r with
 | some o=>SM st st'/\o.toList.Perm (a.toList ++ b.toList)
 | none=>LoI st a b out ia ib n st'
theorem Zk8 {a b:Array Keyed} {st:SortSt} {Q:Array Keyed->SortSt->Prop} (LT:Zox prog w A E s a₀ κ) (ha:∀ x ∈ a,x ∈ a₀) (hb:∀ x ∈ b,x ∈ a₀) (a1:1<=a.size) (b1:1<=b.size) (hs:kindOf st = κ) (h:∀ out st',SM st st'->out.toList.Perm (a.toList ++ b.toList)->Q out st'):wpS (model prog w) A E s (Zkb a b) Q st:=by
 unfold Zkb
 refine Jai (wpS_lift (Jec ⟨rfl,?_⟩))
 refine Jai (Zay (show 0 < b.size by omega) ?_)
 dsimp only
 have m0:Mg a b #[b[0]] 0 1:=Mg.pushb (out:=#[]) (ia:=0) (ib:=0) (by omega) (List.Perm.refl _)
 refine Zak (fun _=>Jao (h _ _ (SM.refl _) m0.done)) fun n1=>?_
 refine Zak (fun _=>Jao (h _ _ (SM.refl _) m0.last)) fun n2=>?_
 have n1:=Zb4 n1
 have n2:=Zb4 n2
 refine Jai (Jf2 ?_)
 refine Jai (Jdd (Jb3 (I:=fun i c st'=>∃ out ia ib mg,c = (none,out,ia,ib,mg)/\LoI st a b out ia ib (i + 1) st') (Q:=fun c st'=>∃ o,c.1 = some o/\SM st st'/\o.toList.Perm (a.toList ++ b.toList)) ?_ ?_ ⟨_,_,_,_,rfl,SM.refl _,rfl,by omega,by omega,m0,by simp⟩) ?_)
 ·rintro i c st' - hi ⟨out,ia,ib,mg,rfl,I⟩
  dsimp only
  refine Jai (Jdd (Jb3 (I:=fun j c st'=>∃ out ia ib ac bc,c = (none,out,ia,ib,ac,bc)/\LoI st a b out ia ib (i + 1 + j) st') (Q:=fun c st'=>∃ r out ia ib ac bc,c = (r,out,ia,ib,ac,bc)/\LoR st a b (i + 2) r out ia ib st') ?_ ?_ ⟨_,_,_,_,_,rfl,I⟩) ?_)
  ·rintro j c st1 - hj ⟨out,ia,ib,ac,bc,rfl,I⟩
   dsimp only
   refine Jai (Zay I.lb ?_)
   refine Jai (Zay I.lia ?_)
   refine Jai (LT _ (hb _ (Jby _)) _ (ha _ (Jby _)) _ (I.m.k.trans hs) _ fun bw=>?_)
   dsimp only
   refine Zak (fun _=>?_) fun _=>?_
   ·refine Jai (Zay I.lb ?_)
    refine Zak (fun _=>Jao ⟨_,_,_,_,_,_,rfl,I.m,(I.g.pushb I.lb).done⟩) fun n=>?_
    exact Zak (fun _=>Jao ⟨_,_,_,_,_,_,rfl,(I.pushb n).le (by omega)⟩) fun _=>Jao ⟨_,_,_,_,_,rfl,I.pushb n⟩
   ·refine Jai (Zay I.lia ?_)
    refine Zak (fun _=>Jao ⟨_,_,_,_,_,_,rfl,I.m,(I.g.pusha I.lia).last⟩) fun n=>?_
    exact Zak (fun _=>Jao ⟨_,_,_,_,_,_,rfl,(I.pusha n).le (by omega)⟩) fun _=>Jao ⟨_,_,_,_,_,rfl,I.pusha n⟩
  ·rintro c st1 ⟨out,ia,ib,ac,bc,rfl,I⟩
   exact ⟨_,_,_,_,_,_,rfl,I.le (by omega)⟩
  ·rintro c st1 ⟨r,out,ia,ib,ac,bc,rfl,R⟩
   cases r with
   | some o=>exact Jao ⟨_,rfl,R⟩
   | none=>
    dsimp only
    refine Jai (wpS_lift (Jec ⟨rfl,?_⟩))
    refine Jai (Jdd (Jb3 (I:=fun j c st'=>∃ out ia ib mg ac bc,c = (none,out,ia,ib,mg,ac,bc)/\LoI st a b out ia ib (i + 2) st') (Q:=fun c st'=>∃ r out ia ib mg ac bc,c = (r,out,ia,ib,mg,ac,bc)/\LoR st a b (i + 2) r out ia ib st') ?_ ?_ ⟨_,_,_,_,_,_,rfl,R⟩) ?_)
    ·rintro j c st1 - hj ⟨out,ia,ib,mg,ac,bc,rfl,I⟩
     dsimp only
     refine Zak (fun _=>?_) fun _=>?_
     all_goals
      refine Jai (Zgw fun st2 m=>?_)
      have I:=I.stt m
      refine Jai (Zay I.lb ?_)
      refine Jai (Zc2 LT (hb _ (Jby _)) ha (by have:=I.la; omega) (by have:=I.la; omega) (I.m.k.trans hs) fun k hk=>?_)
      dsimp only
      refine Zak (fun _=>Zak (fun _=>Jao ⟨_,_,_,_,_,_,_,rfl,I.m,I.g.exta.last⟩) fun n1=>Zak (fun _=>Jao ⟨_,_,_,_,_,_,_,rfl,I.m,I.g.exta.done⟩) fun n2=>?_) fun z=>?_
      have I:=I.exta (k:=k) (by have:=Zb4 n1; have:=Zb4 n2; have:=I.la; omega)
      all_goals
       refine Jai (Zay I.lb ?_)
       refine Zak (fun _=>Jao ⟨_,_,_,_,_,_,_,rfl,I.m,(I.g.pushb I.lb).done⟩) fun n3=>?_
       have I:=I.pushb n3
       refine Jai (Zay I.lia ?_)
       refine Jai (Zc2 LT (ha _ (Jby _)) hb (by have:=I.lb; omega) (by have:=I.lb; omega) (I.m.k.trans hs) fun k1 hk1=>?_)
       dsimp only
       refine Zak (fun _=>Zak (fun _=>Jao ⟨_,_,_,_,_,_,_,rfl,I.m,I.g.extb.done⟩) fun n4=>?_) fun z1=>?_
       have I:=I.extb (k:=k1) (by have:=Zb4 n4; have:=I.lb; omega)
       all_goals
        refine Jai (Zay I.lia ?_)
        refine Zak (fun _=>Jao ⟨_,_,_,_,_,_,_,rfl,I.m,(I.g.pusha I.lia).last⟩) fun n=>?_
        exact Zak (fun _=>Jao ⟨_,_,_,_,_,_,_,rfl,(I.pusha n).le (by omega)⟩) fun _=>Jao ⟨_,_,_,_,_,_,rfl,(I.pusha n).le (by omega)⟩
    ·rintro c st1 ⟨out,ia,ib,mg,ac,bc,rfl,I⟩
     exact ⟨_,_,_,_,_,_,_,rfl,I⟩
    ·rintro c st1 ⟨r,out,ia,ib,mg,ac,bc,rfl,R⟩
     cases r with
     | some o=>exact Jao ⟨_,rfl,R⟩
     | none=>
      dsimp only
      refine Jai (Zgw fun st2 m=>?_)
      exact Jao ⟨_,_,_,_,rfl,LoI.stt R m⟩
 ·rintro c st1 ⟨out,ia,ib,mg,rfl,I⟩
  have:=I.n; have:=I.sz; have:=I.la; have:=I.lb
  omega
 ·rintro ⟨c1,c⟩ st1 ⟨o,rfl,m,p⟩
  exact Jao (h _ _ m p)
def Mh (a b out:Array Keyed) (na nb:Nat):Prop:=(a.toList.take na ++ (b.toList.take nb ++ out.toList)).Perm (a.toList ++ b.toList)
variable {na nb:Nat}
theorem Mh.swap (h:Mh a b out na nb):Mh b a out nb na:=by
 refine List.Perm.trans ?_ (h.trans Jca)
 rw [<- Jba,<- Jba]
 exact Jca.append_right _
theorem Mh.exta {k:Nat} (hk:k<=na) (h:Mh a b out na nb):Mh a b (out ++ (a.extract k na).reverse) k nb:=by
 refine List.Perm.trans ?_ h
 have e:a.toList.take na = a.toList.take k ++ (a.extract k na).toList:=by
  rw [Jbw,Jbh,List.take_drop,show k + (na - k) = na by omega]
  have:=(Jbt k (List.take na a.toList)).symm
  rw [List.take_take,Nat.min_eq_left hk] at this
  exact this
 rw [e,Jcy,Array.toList_reverse,Jba]
 refine Je2 _ ?_
 rw [<- Jba]
 exact Jca.trans ((Je0 _).append_right _)
theorem Mh.pusha (h0:0 < na) (hi:na - 1 < a.size) (h:Mh a b out na nb):Mh a b (out.push a[na - 1]) (na - 1) nb:=by
 refine List.Perm.trans ?_ h
 have e:a.toList.take na = a.toList.take (na - 1) ++ [a[na - 1]]:=by
  have:=List.take_succ (i:=na - 1) (l:=a.toList)
  rw [show na - 1 + 1 = na by omega,Jac (by simpa using hi)] at this
  exact this
 rw [e,Jdk,Jba]
 refine Je2 _ ?_
 rw [<- Jba]
 exact Jca
theorem Mh.extb {k:Nat} (hk:k<=nb) (h:Mh a b out na nb):Mh a b (out ++ (b.extract k nb).reverse) na k:=(h.swap.exta hk).swap
theorem Mh.pushb (h0:0 < nb) (hi:nb - 1 < b.size) (h:Mh a b out na nb):Mh a b (out.push b[nb - 1]) na (nb - 1):=(h.swap.pusha h0 hi).swap
theorem Mh.done (h:Mh a b out na nb):(a.extract 0 na ++ b.extract 0 nb ++ out.reverse).toList.Perm (a.toList ++ b.toList):=by
 refine List.Perm.trans ?_ h
 rw [Jcy,Jcy,Jbw,Jbw,Jbh,Jbh,Array.toList_reverse,Jba]
 exact ((Je0 _).append_left _).append_left _
theorem Mh.first (h:Mh a b out na nb):(b.extract 0 nb ++ a.extract 0 na ++ out.reverse).toList.Perm (a.toList ++ b.toList):=h.swap.done.trans Jca
structure HiI (st:SortSt) (a b out:Array Keyed) (na nb n:Nat) (st':SortSt):Prop where
 m:SM st st'
 sz:na + nb + out.size = a.size + b.size
 a0:0 < na
 la:na<=a.size
 b0:1 < nb
 lb:nb<=b.size
 g:Mh a b out na nb
 n:n<=out.size
section
variable {st st' st2:SortSt} {n n':Nat}
theorem HiI.stt (I:HiI st a b out na nb n st') (m:SM st' st2):HiI st a b out na nb n st2:=⟨I.m.trans m,I.sz,I.a0,I.la,I.b0,I.lb,I.g,I.n⟩
theorem HiI.le (I:HiI st a b out na nb n st') (h:n'<=n):HiI st a b out na nb n' st':=⟨I.m,I.sz,I.a0,I.la,I.b0,I.lb,I.g,Jay h I.n⟩
theorem HiI.lia (I:HiI st a b out na nb n st'):na - 1 < a.size:=by have:=I.a0; have:=I.la; omega
theorem HiI.lib (I:HiI st a b out na nb n st'):nb - 1 < b.size:=by have:=I.b0; have:=I.lb; omega
theorem HiI.exta {k:Nat} (I:HiI st a b out na nb n st') (hk:k<=na) (h:0 < k):HiI st a b (out ++ (a.extract k na).reverse) k nb n st':=⟨I.m,by rw [Jcz,Array.size_reverse,Jcs]; have:=I.sz; have:=I.la; omega,h,Jay hk I.la,I.b0,I.lb,I.g.exta hk,by rw [Jcz]; have:=I.n; omega⟩
theorem HiI.extb {k:Nat} (I:HiI st a b out na nb n st') (hk:k<=nb) (h:1 < k):HiI st a b (out ++ (b.extract k nb).reverse) na k n st':=⟨I.m,by rw [Jcz,Array.size_reverse,Jcs]; have:=I.sz; have:=I.lb; omega,I.a0,I.la,h,Jay hk I.lb,I.g.extb hk,by rw [Jcz]; have:=I.n; omega⟩
theorem HiI.pusha (I:HiI st a b out na nb n st') (h:¬ (na - 1 == 0) = true):HiI st a b (out.push (a[na - 1]'I.lia)) (na - 1) nb (n + 1) st':=⟨I.m,by rw [Jda]; have:=I.sz; have:=I.a0; omega,Jfx (Zb4 h),Jbs I.lia,I.b0,I.lb,I.g.pusha I.a0 _,by rw [Jda]; exact Jd9 I.n⟩
theorem HiI.pushb (I:HiI st a b out na nb n st') (h:¬ (nb - 1 == 1) = true):HiI st a b (out.push (b[nb - 1]'I.lib)) na (nb - 1) (n + 1) st':=⟨I.m,by rw [Jda]; have:=I.sz; have:=I.b0; omega,I.a0,I.la,by have:=Zb4 h; have:=I.b0; omega,Jbs I.lib,I.g.pushb (Jez I.b0) _,by rw [Jda]; exact Jd9 I.n⟩
end
def HiR (st:SortSt) (a b:Array Keyed) (n:Nat) (r:Option (Array Keyed)) (out:Array Keyed) (na nb:Nat) (st':SortSt):Prop:=
 match r with
 | some o=>SM st st'/\o.toList.Perm (a.toList ++ b.toList)
 | none=>HiI st a b out na nb n st'
theorem Zk9 {a b:Array Keyed} {st:SortSt} {Q:Array Keyed->SortSt->Prop} (LT:Zox prog w A E s a₀ κ) (ha:∀ x ∈ a,x ∈ a₀) (hb:∀ x ∈ b,x ∈ a₀) (a1:1<=a.size) (b1:1<=b.size) (hs:kindOf st = κ) (h:∀ out st',SM st st'->out.toList.Perm (a.toList ++ b.toList)->Q out st'):wpS (model prog w) A E s (Zkc a b) Q st:=by
 unfold Zkc
 refine Jai (wpS_lift (Jec ⟨rfl,?_⟩))
 have l0:a.size - 1 < a.size:=by omega
 refine Jai (Zay l0 ?_)
 dsimp only
 have m0:Mh a b #[a[a.size - 1]] (a.size - 1) b.size:=Mh.pusha (out:=#[]) (na:=a.size) (nb:=b.size) a1 l0 (by unfold Mh; rw [Jch (by simp),Jch (by simp),Jdg])
 refine Zak (fun _=>Jao (h _ _ (SM.refl _) m0.done)) fun n1=>?_
 refine Zak (fun _=>Jao (h _ _ (SM.refl _) m0.first)) fun n2=>?_
 have n1:=Zb4 n1
 have n2:=Zb4 n2
 refine Jai (Jf2 ?_)
 refine Jai (Jdd (Jb3 (I:=fun i c st'=>∃ out na nb mg,c = (none,na,nb,out,mg)/\HiI st a b out na nb (i + 1) st') (Q:=fun c st'=>∃ o,c.1 = some o/\SM st st'/\o.toList.Perm (a.toList ++ b.toList)) ?_ ?_ ⟨_,_,_,_,rfl,SM.refl _,by simp; omega,by omega,by omega,by omega,by omega,m0,by simp⟩) ?_)
 ·rintro i c st' - hi ⟨out,na,nb,mg,rfl,I⟩
  dsimp only
  refine Jai (Jdd (Jb3 (I:=fun j c st'=>∃ out na nb ac bc,c = (none,na,nb,out,ac,bc)/\HiI st a b out na nb (i + 1 + j) st') (Q:=fun c st'=>∃ r out na nb ac bc,c = (r,na,nb,out,ac,bc)/\HiR st a b (i + 2) r out na nb st') ?_ ?_ ⟨_,_,_,_,_,rfl,I⟩) ?_)
  ·rintro j c st1 - hj ⟨out,na,nb,ac,bc,rfl,I⟩
   dsimp only
   refine Jai (Zay I.lib ?_)
   refine Jai (Zay I.lia ?_)
   refine Jai (LT _ (hb _ (Jby _)) _ (ha _ (Jby _)) _ (I.m.k.trans hs) _ fun bw=>?_)
   dsimp only
   refine Zak (fun _=>?_) fun _=>?_
   ·refine Jai (Zay I.lia ?_)
    refine Zak (fun _=>Jao ⟨_,_,_,_,_,_,rfl,I.m,(I.g.pusha I.a0 I.lia).done⟩) fun n=>?_
    exact Zak (fun _=>Jao ⟨_,_,_,_,_,_,rfl,(I.pusha n).le (by omega)⟩) fun _=>Jao ⟨_,_,_,_,_,rfl,I.pusha n⟩
   ·refine Jai (Zay I.lib ?_)
    refine Zak (fun _=>Jao ⟨_,_,_,_,_,_,rfl,I.m,(I.g.pushb (Jez I.b0) I.lib).first⟩) fun n=>?_
    exact Zak (fun _=>Jao ⟨_,_,_,_,_,_,rfl,(I.pushb n).le (by omega)⟩) fun _=>Jao ⟨_,_,_,_,_,rfl,I.pushb n⟩
  ·rintro c st1 ⟨out,na,nb,ac,bc,rfl,I⟩
   exact ⟨_,_,_,_,_,_,rfl,I.le (by omega)⟩
  ·rintro c st1 ⟨r,out,na,nb,ac,bc,rfl,R⟩
   cases r with
   | some o=>exact Jao ⟨_,rfl,R⟩
   | none=>
    dsimp only
    refine Jai (wpS_lift (Jec ⟨rfl,?_⟩))
    refine Jai (Jdd (Jb3 (I:=fun j c st'=>∃ out na nb mg ac bc,c = (none,na,nb,out,mg,ac,bc)/\HiI st a b out na nb (i + 2) st') (Q:=fun c st'=>∃ r out na nb mg ac bc,c = (r,na,nb,out,mg,ac,bc)/\HiR st a b (i + 2) r out na nb st') ?_ ?_ ⟨_,_,_,_,_,_,rfl,R⟩) ?_)
    ·rintro j c st1 - hj ⟨out,na,nb,mg,ac,bc,rfl,I⟩
     dsimp only
     refine Zak (fun _=>?_) fun _=>?_
     all_goals
      refine Jai (Zgw fun st2 m=>?_)
      have I:=I.stt m
      refine Jai (Zay I.lib ?_)
      refine Jai (Zc2 LT (hb _ (Jby _)) ha (by have:=I.la; omega) (by have:=I.a0; omega) (I.m.k.trans hs) fun k hk=>?_)
      dsimp only
      refine Zak (fun _=>Zak (fun _=>Jao ⟨_,_,_,_,_,_,_,rfl,I.m,(I.g.exta hk).done⟩) fun n1=>?_) fun z=>?_
      have I:=I.exta hk (Jfx (Zb4 n1))
      all_goals
       refine Jai (Zay I.lib ?_)
       refine Zak (fun _=>Jao ⟨_,_,_,_,_,_,_,rfl,I.m,(I.g.pushb (Jez I.b0) I.lib).first⟩) fun n3=>?_
       have I:=I.pushb n3
       refine Jai (Zay I.lia ?_)
       refine Jai (Zc2 LT (ha _ (Jby _)) hb (by have:=I.lb; omega) (by have:=I.b0; omega) (I.m.k.trans hs) fun k1 hk1=>?_)
       dsimp only
       refine Zak (fun _=>Zak (fun _=>Jao ⟨_,_,_,_,_,_,_,rfl,I.m,(I.g.extb hk1).first⟩) fun n4=>Zak (fun _=>Jao ⟨_,_,_,_,_,_,_,rfl,I.m,(I.g.extb hk1).done⟩) fun n5=>?_) fun z1=>?_
       have I:=I.extb hk1 (by have:=Zb4 n4; have:=Zb4 n5; omega)
       all_goals
        refine Jai (Zay I.lia ?_)
        refine Zak (fun _=>Jao ⟨_,_,_,_,_,_,_,rfl,I.m,(I.g.pusha I.a0 I.lia).done⟩) fun n=>?_
        exact Zak (fun _=>Jao ⟨_,_,_,_,_,_,_,rfl,(I.pusha n).le (by omega)⟩) fun _=>Jao ⟨_,_,_,_,_,_,rfl,(I.pusha n).le (by omega)⟩
    ·rintro c st1 ⟨out,na,nb,mg,ac,bc,rfl,I⟩
     exact ⟨_,_,_,_,_,_,_,rfl,I⟩
    ·rintro c st1 ⟨r,out,na,nb,mg,ac,bc,rfl,R⟩
     cases r with
     | some o=>exact Jao ⟨_,rfl,R⟩
     | none=>
      dsimp only
      refine Jai (Zgw fun st2 m=>?_)
      exact Jao ⟨_,_,_,_,rfl,HiI.stt R m⟩
 ·rintro c st1 ⟨out,na,nb,mg,rfl,I⟩
  have:=I.n; have:=I.sz; have:=I.a0; have:=I.b0
  omega
 ·rintro ⟨c1,c⟩ st1 ⟨o,rfl,m,p⟩
  exact Jao (h _ _ m p)
structure SK (st st':SortSt):Prop where
 k:kindOf st' = kindOf st
 a:(arrOf st').Perm (arrOf st)
 p:pendingOf st' = pendingOf st
 f:failedOf st' = failedOf st
theorem SK.refl (st:SortSt):SK st st:=⟨rfl,.refl _,rfl,rfl⟩
theorem SK.trans {s1 s2 s3:SortSt} (h:SK s1 s2) (h':SK s2 s3):SK s1 s3:=⟨h'.k.trans h.k,h'.a.trans h.a,h'.p.trans h.p,h'.f.trans h.f⟩
theorem SK.size {s1 s2:SortSt} (h:SK s1 s2):(arrOf s2).size = (arrOf s1).size:=h.a.size_eq
theorem Zeq {i j:Nat} {st:SortSt} {Q:Option Bool->SortSt->Prop} (LT:Zox prog w A E s a₀ κ) (hs:kindOf st = κ) (ha:(arrOf st).Perm a₀) (hi:i < a₀.size) (hj:j < a₀.size) (h:∀ b,Q (some b) st):wpS (model prog w) A E s (ltAt' i j) Q st:=by
 rw [ltAt'_eq]
 refine Jai (Jf2 ?_)
 have z:=ha.size_eq
 refine Jai (Zay (by omega) ?_)
 refine Jai (Zay (by omega) ?_)
 exact LT _ (ha.mem_iff.1 (Jby _)) _ (ha.mem_iff.1 (Jby _)) _ hs _ h
theorem Zjx {st:SortSt} {i j:Nat} {Q:Unit->SortSt->Prop} (h:∀ st',SK st st'->Q () st'):wpS (model prog w) A E s (reverseSlice' i j) Q st:=
 wpS_reverse (h _ ⟨rfl,mirror_perm _ _ _ _,rfl,rfl⟩)
theorem down_ok {st:SortSt} {i j:Nat} {Q:Unit->SortSt->Prop} (h:∀ st',SK st st'->Q () st'):wpS (model prog w) A E s (moveDown' i j) Q st:=by
 rw [moveDown'_eq]
 exact Jey (h _ ⟨rfl,bubble_perm _ _ _,rfl,rfl⟩)
theorem bin_ok {st:SortSt} {lo n ok:Nat} {Q:Bool->SortSt->Prop} (LT:Zox prog w A E s a₀ κ) (hs:kindOf st = κ) (ha:(arrOf st).Perm a₀) (hn:lo + n<=a₀.size) (h:∀ st',SK st st'->Q true st'):wpS (model prog w) A E s (binarySort' lo n ok) Q st:=by
 unfold binarySort'
 refine Jai (Jdd (Jb3 (I:=fun _ c st'=>c = (none,())/\SK st st') (Q:=fun c st'=>c = (none,())/\SK st st') ?_ (fun _ _ h=>h) ⟨rfl,SK.refl _⟩) ?_)
 ·rintro k c st' _ hk ⟨rfl,I⟩
  dsimp only
  refine Jai (Jdd (Jb3 (I:=fun _ c st1=>∃ l r,c = (none,l,r)/\r<=k/\st' = st1) (Q:=fun c st1=>∃ l r,c = (none,l,r)/\st' = st1) ?_ ?_ ⟨_,_,rfl,Jaf _,rfl⟩) ?_)
  ·rintro i c st1 _ hi ⟨l,r,rfl,hr,rfl⟩
   dsimp only
   refine Zak (fun _=>Jao ⟨_,_,rfl,rfl⟩) fun g=>?_
   refine Jai (Zeq LT (I.k.trans hs) (I.a.trans ha) (by omega) (by omega) fun b=>?_)
   exact Zak (fun _=>Jao ⟨_,_,rfl,by omega,rfl⟩) fun _=>Jao ⟨_,_,rfl,hr,rfl⟩
  ·rintro c st1 ⟨l,r,rfl,_,rfl⟩
   exact ⟨_,_,rfl,rfl⟩
  ·rintro c st1 ⟨l,r,rfl,rfl⟩
   exact Jai (down_ok fun st2 m=>Jao ⟨rfl,I.trans m⟩)
 ·rintro c st' ⟨rfl,I⟩
  exact Jao (h _ I)
theorem run_ok {st:SortSt} {lo nrem:Nat} {Q:Option Nat->SortSt->Prop} (LT:Zox prog w A E s a₀ κ) (hs:kindOf st = κ) (ha:(arrOf st).Perm a₀) (hn:lo + nrem<=a₀.size) (h1:1<=nrem) (h:∀ n st',1<=n->n<=nrem->SK st st'->Q (some n) st'):wpS (model prog w) A E s (countRun' lo nrem) Q st:=by
 rw [countRun'_eq]
 dsimp only
 refine Jai (Jdd (Jb3 (I:=fun i c st'=>∃ n,c = (none,n)/\1<=n/\n<=i/\st = st') (Q:=fun c st'=>∃ n,c = (none,n)/\1<=n/\n<=nrem/\st = st') ?_ ?_ ⟨_,rfl,Jaf _,Jaf _,rfl⟩) ?_)
 ·rintro i c st' _ hi ⟨n,rfl,n1,ni,rfl⟩
  dsimp only
  refine Jai (Zeq LT hs ha (by omega) (by omega) fun b=>?_)
  exact Zak (fun _=>Jao ⟨_,rfl,n1,by omega,rfl⟩) fun _=>Jao ⟨_,rfl,by omega,by omega,rfl⟩
 ·rintro c st' ⟨n,rfl,n1,ni,rfl⟩
  exact ⟨_,rfl,n1,by omega,rfl⟩
 ·rintro c st' ⟨n,rfl,n1,ni,rfl⟩
  dsimp only
  refine Zak (fun _=>Jao (h _ _ n1 ni (SK.refl _))) fun e=>?_
  have e:=Zb4 e
  refine Zak (fun _=>?_) fun _=>?_
  refine Jai (Zeq LT hs ha (by omega) (by omega) fun b=>?_)
  dsimp only
  refine Zak (fun _=>Jao (h _ _ n1 ni (SK.refl _))) fun _=>?_
  refine Jai (Zjx fun st2 m=>?_)
  rotate_left
  have m:=SK.refl st
  all_goals
   refine Jai (wpS_lift (Jec ⟨rfl,?_⟩))
   refine Jai (Jdd (Jb3 (I:=fun i c st'=>∃ n q,c = (none,n,q)/\1<=n/\n<=i/\SK st st') (Q:=fun c st'=>∃ n q,c = (none,n,q)/\1<=n/\n<=nrem/\SK st st') ?_ ?_ ⟨_,_,rfl,by omega,Jaf _,m⟩) ?_)
   ·rintro i c st' _ hi ⟨n,q,rfl,n1,ni,I⟩
    dsimp only
    refine Jai (Zeq LT (I.k.trans hs) (I.a.trans ha) (by omega) (by omega) fun b=>?_)
    refine Zak (fun _=>Zak (fun _=>?_) fun _=>?_) fun _=>?_
    ·exact Jai (Zjx fun st3 m=>Jao ⟨_,_,rfl,by omega,by omega,I.trans m⟩)
    ·exact Jao ⟨_,_,rfl,by omega,by omega,I⟩
    ·refine Jai (Zeq LT (I.k.trans hs) (I.a.trans ha) (by omega) (by omega) fun b=>?_)
     exact Zak (fun _=>Jao ⟨_,_,rfl,n1,by omega,I⟩) fun _=>Jao ⟨_,_,rfl,by omega,by omega,I⟩
   ·rintro c st' ⟨n,q,rfl,n1,ni,I⟩
    exact ⟨_,_,rfl,n1,by omega,I⟩
   ·rintro c st' ⟨n,q,rfl,n1,ni,I⟩
    dsimp only
    refine Zak (fun _=>?_) fun _=>?_
    refine Jai (Zjx fun st3 m=>?_)
    have I:=I.trans m
    all_goals
     refine Jai (Zjx fun st3 m=>?_)
     have I:=I.trans m
     refine Jai (Jdd (Jb3 (I:=fun i c st'=>∃ n,c = (none,n)/\1<=n/\n<=i/\SK st st') (Q:=fun c st'=>∃ n,c = (none,n)/\1<=n/\n<=nrem/\SK st st') ?_ ?_ ⟨_,rfl,n1,Jaf _,I⟩) ?_)
     ·rintro i c st' _ hi ⟨n,rfl,n1,ni,I⟩
      dsimp only
      refine Jai (Zeq LT (I.k.trans hs) (I.a.trans ha) (by omega) (by omega) fun b=>?_)
      exact Zak (fun _=>Jao ⟨_,rfl,n1,by omega,I⟩) fun _=>Jao ⟨_,rfl,by omega,by omega,I⟩
     ·rintro c st' ⟨n,rfl,n1,ni,I⟩
      exact ⟨_,rfl,n1,by omega,I⟩
     ·rintro c st' ⟨n,rfl,n1,ni,I⟩
      exact Jao (h _ _ n1 ni I)
theorem laid {b:Nat} (l:List Keyed):∀ (k:Nat) (xs:Array Keyed),b + k + l.length<=xs.size->((l.zipIdx k).foldl (fun a (pj:Keyed × Nat)=>a.setIfInBounds (b + pj.2) pj.1) xs).toList = xs.toList.take (b + k) ++ (l ++ xs.toList.drop (b + k + l.length)):=by
 induction l with
 | nil=>intro k xs _; simp
 | cons p l ih=>
  intro k xs h
  rw [Jau] at h
  rw [List.zipIdx_cons,List.foldl_cons,ih (k + 1) _ (by rw [Array.size_setIfInBounds]; omega)]
  dsimp only
  have hk:b + k < xs.toList.length:=by simp; omega
  rw [Jd3,show b + (k + 1) = b + k + 1 by omega,List.take_succ,Jau,Jer hk,List.take_set_of_le (Jaf _),List.drop_set_of_lt (by omega),show b + k + 1 + l.length = b + k + (l.length + 1) by omega,Jba]
  rfl
theorem set_ok {st st':SortSt} {Q:PUnit->SortSt->Prop} (h:Q ⟨⟩ st'):wpS (model prog w) A E s (set st':StateT SortSt Sem PUnit) Q st:=Jey (f:=fun _=>st') h
theorem Zh4 {xs:Array Keyed} {o:Array Keyed} {b m e:Nat} (bm:b<=m) (me:m<=e) (he:e<=xs.size) (h:o.toList.Perm ((xs.extract b m).toList ++ (xs.extract m e).toList)):(o.toList.zipIdx.foldl (fun a (pj:Keyed × Nat)=>a.setIfInBounds (b + pj.2) pj.1) xs).Perm xs:=by
 have e1:(xs.extract b m).toList ++ (xs.extract m e).toList = (xs.toList.drop b).take (e - b):=by
  rw [Jbw,Jbw,Jbh,Jbh,show xs.toList.drop m = (xs.toList.drop b).drop (m - b) by rw [List.drop_drop,show b + (m - b) = m by omega],show e - b = (m - b) + (e - m) by omega,List.take_add]
 rw [e1] at h
 have l1:o.toList.length = e - b:=by
  rw [h.length_eq,Ja1,Jcv,Jbi]; omega
 refine Array.perm_iff_toList_perm.2 ?_
 rw [laid o.toList 0 xs (by rw [l1]; omega),l1,Nat.add_zero,show b + (e - b) = e by omega]
 refine List.Perm.trans ((h.append_right _).append_left _) (Jem ?_)
 rw [show xs.toList.drop e = (xs.toList.drop b).drop (e - b) by rw [List.drop_drop,show b + (e - b) = e by omega],Jbt,Jbt]
theorem Zla {st:SortSt} {i sa na pw sb nb pw':Nat} {Q:Bool->SortSt->Prop} (LT:Zox prog w A E s a₀ κ) (hs:kindOf st = κ) (ha:(arrOf st).Perm a₀) (hf:failedOf st = none) (p1:(pendingOf st)[i]? = some (sa,na,pw)) (p2:(pendingOf st)[i + 1]? = some (sb,nb,pw')) (hb:sb = sa + na) (na1:1<=na) (nb1:1<=nb) (hz:sb + nb<=a₀.size)
  (h:∀ st',kindOf st' = κ->(arrOf st').Perm a₀->failedOf st' = none->pendingOf st' = ((pendingOf st).setIfInBounds i (sa,na + nb,pw)).eraseIdxIfInBounds (i + 1)->Q true st'):wpS (model prog w) A E s (mergeAt' i) Q st:=by
 have z:=ha.size_eq
 have mm:∀ x ∈ arrOf st,x ∈ a₀:=fun x hx=>ha.mem_iff.1 hx
 unfold mergeAt'
 refine Jai (Jf2 ?_)
 dsimp only
 rw [p1,p2]
 dsimp only
 refine Jai (set_ok ?_)
 refine Jai (Zay (arr:=arrOf st) (by omega) ?_)
 refine Jai (Zc2 (arr:=arrOf st) LT (mm _ (Jby _)) mm (by omega) (by omega) hs fun k hk=>?_)
 dsimp only
 refine Zak (fun _=>Jao (h _ hs ha hf rfl)) fun n1=>?_
 have n1:=Zb4 n1
 refine Jai (Zay (arr:=arrOf st) (by omega) ?_)
 refine Jai (Zc2 (arr:=arrOf st) LT (mm _ (Jby _)) mm (by omega) (by omega) hs fun k' hk'=>?_)
 dsimp only
 refine Zak (fun _=>Jao (h _ hs ha hf rfl)) fun n2=>?_
 have n2:=Zb4 n2
 have mx:∀ b e,∀ x ∈ (arrOf st).extract b e,x ∈ a₀:=fun b e x hx=>mm x (by rw [<- Je8,Jbw,Jbh] at hx; exact Je8.1 (Jd4 (Jd5 hx)))
 refine Zak (fun _=>?_) fun _=>?_
 ·refine Jai (Zk8 (a:=(arrOf st).extract _ _) (b:=(arrOf st).extract _ _) LT (mx _ _) (mx _ _) (by rw [Jcs]; omega) (by rw [Jcs]; omega) hs fun o st1 m pm=>?_)
  refine Jai (Jey ?_)
  refine Jai (Jf2 ?_)
  have hf1:=m.f.trans hf
  rw [show (failedOf st1).isNone = true by rw [hf1]; rfl]
  have ea:=m.a
  refine Jao (h _ (m.k.trans hs) (Array.Perm.trans ?_ ha) hf1 m.p)
  show (o.toList.zipIdx.foldl (fun a (pj:Keyed × Nat)=>a.setIfInBounds (sa + k + pj.2) pj.1) (arrOf st1)).Perm _
  rw [ea]
  exact Zh4 (by omega) (by omega) (by show _<=(arrOf st).size; omega) pm
 ·refine Jai (Zk9 (a:=(arrOf st).extract _ _) (b:=(arrOf st).extract _ _) LT (mx _ _) (mx _ _) (by rw [Jcs]; omega) (by rw [Jcs]; omega) hs fun o st1 m pm=>?_)
  refine Jai (Jey ?_)
  refine Jai (Jf2 ?_)
  have hf1:=m.f.trans hf
  rw [show (failedOf st1).isNone = true by rw [hf1]; rfl]
  have ea:=m.a
  refine Jao (h _ (m.k.trans hs) (Array.Perm.trans ?_ ha) hf1 m.p)
  show (o.toList.zipIdx.foldl (fun a (pj:Keyed × Nat)=>a.setIfInBounds (sa + k + pj.2) pj.1) (arrOf st1)).Perm _
  rw [ea]
  exact Zh4 (by omega) (by omega) (by show _<=(arrOf st).size; omega) pm
def Ch:Nat->List (Nat × Nat × Nat)->Nat->Prop
 | a,[],b=>a = b
 | a,(s,n,_) :: l,b=>s = a/\1<=n/\Ch (a + n) l b
theorem Ch.le:∀ {l:List (Nat × Nat × Nat)} {a b:Nat},Ch a l b->a<=b
 | [],_,_,h=>Jfr h
 | (_,_,_) :: _,_,_,h=>Jay (Nat.le_add_right _ _) h.2.2.le
theorem Ch.push:∀ {l:List (Nat × Nat × Nat)} {a b n p:Nat},Ch a l b->1<=n->Ch a (l ++ [(b,n,p)]) (b + n)
 | [],_,_,_,_,h,h1=>⟨h.symm,h1,by show _ = _; rw [show _ = _ from h]⟩
 | (_,_,_) :: _,_,_,_,_,h,h1=>⟨h.1,h.2.1,h.2.2.push h1⟩
theorem Ch.modify {f:Nat × Nat × Nat->Nat × Nat × Nat} (hf:∀ s n p,∃ q,f (s,n,p) = (s,n,q)):∀ {l:List (Nat × Nat × Nat)} {a b i:Nat},Ch a l b->Ch a (l.modify i f) b
 | [],_,_,i,h=>by cases i <;> exact h
 | (s,n,p) :: l,a,b,0,h=>by
  obtain ⟨q,e⟩:=hf s n p
  show Ch a (f (s,n,p) :: l) b
  rw [e]; exact h
 | (s,n,p) :: l,a,b,i + 1,h=>⟨h.1,h.2.1,Ch.modify hf h.2.2⟩
theorem Ch.two:∀ {l:List (Nat × Nat × Nat)} {a b i sa na pw sb nb pw':Nat},Ch a l b->l[i]? = some (sa,na,pw)->l[i + 1]? = some (sb,nb,pw')->sb = sa + na/\1<=na/\1<=nb/\sb + nb<=b/\Ch a ((l.set i (sa,na + nb,pw)).eraseIdx (i + 1)) b
 | [],_,_,_,_,_,_,_,_,_,_,h1,_=>by simp at h1
 | [_],_,_,0,_,_,_,_,_,_,_,_,h2=>by simp at h2
 | [_],_,_,_ + 1,_,_,_,_,_,_,_,h1,_=>by simp at h1
 | (s,n,p) :: (s',n',p') :: l,a,b,0,sa,na,pw,sb,nb,pw',h,h1,h2=>by
  cases Jbm h1
  cases Jbm h2
  obtain ⟨e,g,e',g',c⟩:=h
  subst e
  subst e'
  refine ⟨rfl,g,g',c.le,rfl,by omega,?_⟩
  rw [<- Nat.add_assoc]; exact c
 | (s,n,p) :: x :: l,a,b,i + 1,sa,na,pw,sb,nb,pw',h,h1,h2=>by
  obtain ⟨q1,q2,q3,q4,q5⟩:=Ch.two h.2.2 h1 h2
  exact ⟨q1,q2,q3,q4,h.1,h.2.1,q5⟩
structure SI (κ:SortKind) (a₀:Array Keyed) (lo:Nat) (st:SortSt):Prop where
 k:kindOf st = κ
 a:(arrOf st).Perm a₀
 f:failedOf st = none
 c:Ch 0 (pendingOf st).toList lo
theorem SI.sk {lo:Nat} {st st':SortSt} (I:SI κ a₀ lo st) (m:SK st st'):SI κ a₀ lo st':=⟨m.k.trans I.k,m.a.trans I.a,m.f.trans I.f,by rw [m.p]; exact I.c⟩
theorem Zlk {α:Type} (xs:Array α) (i j:Nat) (x:α):((xs.setIfInBounds i x).eraseIdxIfInBounds j).toList = (xs.toList.set i x).eraseIdx j:=by
 rw [Array.eraseIdxIfInBounds]
 split
 ·rw [Array.toList_eraseIdx,Jd3]
 ·rename_i hn
  rw [List.eraseIdx_of_length_le (by simpa using hn),Jd3]
theorem SI.merge {lo i:Nat} {st:SortSt} {Q:Bool->SortSt->Prop} (LT:Zox prog w A E s a₀ κ) (I:SI κ a₀ lo st) (hl:lo<=a₀.size) (hi:i + 1 < (pendingOf st).size) (h:∀ st',SI κ a₀ lo st'->Q true st'):wpS (model prog w) A E s (mergeAt' i) Q st:=by
 obtain ⟨⟨sa,na,pw⟩,e1⟩:∃ x,(pendingOf st)[i]? = some x:=⟨_,Ja3 (by omega)⟩
 obtain ⟨⟨sb,nb,pw'⟩,e2⟩:∃ x,(pendingOf st)[i + 1]? = some x:=⟨_,Ja3 hi⟩
 obtain ⟨q1,q2,q3,q4,q5⟩:=I.c.two (by rw [Jb9]; exact e1) (by rw [Jb9]; exact e2)
 refine Zla LT I.k I.a I.f e1 e2 q1 q2 q3 (by omega) fun st' k a f p=>h _ ⟨k,a,f,?_⟩
 rw [p,Zlk]
 exact q5
theorem sort_ok {st:SortSt} {Q:Unit->SortSt->Prop} (LT:Zox prog w A E s a₀ κ) (hs:kindOf st = κ) (ha:(arrOf st).Perm a₀) (hf:failedOf st = none) (hp:pendingOf st = #[]) (h:∀ st',(arrOf st').Perm a₀->failedOf st' = none->Q () st'):wpS (model prog w) A E s sortRuns' Q st:=by
 rw [sortRuns'_eq]
 refine Jai (Jf2 ?_)
 dsimp only
 rw [ha.size_eq]
 generalize minRun' _ _ _ = mr
 refine Jai (Jdd (Jb3 (I:=fun _ c st'=>∃ lo,c = (none,lo)/\lo<=a₀.size/\SI κ a₀ lo st') (Q:=fun c st'=>∃ lo,c = (none,lo)/\lo<=a₀.size/\SI κ a₀ lo st') ?_ (fun _ _ h=>h) ⟨0,rfl,Jbx _,hs,ha,hf,by rw [hp]; rfl⟩) ?_)
 ·rintro i c st' _ hi ⟨lo,rfl,hl,I⟩
  dsimp only
  refine Zak (fun _=>Jao ⟨_,rfl,hl,I⟩) fun g=>?_
  refine Jai (run_ok LT I.k I.a (by omega) (by omega) fun n st1 n1 n2 m=>?_)
  have I:=I.sk m
  dsimp only
  refine Zak (fun q=>?_) fun q=>?_
  refine Jai (wpS_lift (Jec ⟨rfl,?_⟩))
  have n1:1<=min (a₀.size - lo) mr:=by omega
  have n2:min (a₀.size - lo) mr<=a₀.size - lo:=Nat.min_le_left _ _
  refine Jai (bin_ok LT I.k I.a (by omega) fun st1 m=>?_)
  rw [if_neg (by decide)]
  have I:=I.sk m
  generalize min (a₀.size - lo) mr = n at n1 n2 ⊢
  all_goals
   refine Jai (Jf2 ?_)
   rcases hb:(pendingOf st1).back? with _ | ⟨s1,m1,p1⟩
   ·exact Jai (Jey (Jao ⟨_,rfl,by omega,I.k,I.a,I.f,by show Ch 0 ((pendingOf st1).push _).toList _; rw [Jdk]; exact I.c.push n1⟩))
   ·dsimp only
    refine Jai (Jdd (Jb3 (I:=fun _ c st'=>c = (none,())/\SI κ a₀ lo st') (Q:=fun c st'=>c = (none,())/\SI κ a₀ lo st') ?_ (fun _ _ h=>h) ⟨rfl,I⟩) ?_)
    ·rintro j c st2 _ hj ⟨rfl,I⟩
     refine Jai (Jf2 ?_)
     by_cases hz:(pendingOf st2).size > 1
     ·obtain ⟨⟨x1,x2,x3⟩,e⟩:∃ x,(pendingOf st2)[(pendingOf st2).size - 2]? = some x:=⟨_,Ja3 (by omega)⟩
      rw [if_pos hz,e]
      dsimp only
      refine Zak (fun _=>Jao ⟨rfl,I⟩) fun _=>?_
      refine Jai (I.merge LT hl (by omega) fun st3 I=>?_)
      rw [if_neg (by decide)]
      exact Jao ⟨rfl,I⟩
     ·rw [if_neg hz]
      exact Jao ⟨rfl,I⟩
    ·rintro c st2 ⟨rfl,I⟩
     refine Jai (Jey ?_)
     refine Jai (Jey (Jao ⟨_,rfl,by omega,I.k,I.a,I.f,?_⟩))
     show Ch 0 (((pendingOf st2).modify _ _).push _).toList _
     rw [Jdk,Array.toList_modify]
     exact (I.c.modify fun _ _ _=>⟨_,rfl⟩).push n1
 ·rintro c st' ⟨lo,rfl,hl,I⟩
  dsimp only
  refine Jai (Jdd (Jb3 (I:=fun _ c st'=>c = (none,())/\SI κ a₀ lo st') (Q:=fun c st'=>c = (none,())/\SI κ a₀ lo st') ?_ (fun _ _ h=>h) ⟨rfl,I⟩) ?_)
  ·rintro j c st2 _ hj ⟨rfl,I⟩
   refine Jai (Jf2 ?_)
   refine Zak (fun _=>Jao ⟨rfl,I⟩) fun hz=>?_
   have cc:∀ (c:Prop) [Decidable c] (i:Nat),(if c then i - 1 else i)<=i:=fun c _ i=>by split <;> omega
   refine Jai (I.merge LT hl (Jfu (Jd9 (cc _ _)) (by omega)) fun st3 I=>?_)
   rw [if_neg (by decide)]
   exact Jao ⟨rfl,I⟩
  ·rintro c st2 ⟨rfl,I⟩
   exact Jao (h _ I.a I.f)
end
end PyProof.Rows
namespace St
open PySem PySem.SetTable
def lc (m x:Nat):Nat:=(x * 5 + 1) % (m + 1)
def orb (m:Nat):Nat->Nat->Nat
 | 0,x=>x
 | r + 1,x=>orb m r (lc m x)
def orbL (m:Nat):Nat->Nat->List Nat
 | 0,_=>[]
 | r + 1,x=>x :: orbL m r (lc m x)
def has' (j:Nat):List Nat->Bool
 | []=>false
 | x :: l=>if Nat.beq x j then true else has' j l
def Zfa (l:List Nat):Nat->Bool
 | 0=>true
 | j + 1=>if has' j l then Zfa l j else false
def cyc (m:Nat):Bool:=Zfa (orbL m (m + 1) 0) (m + 1) && Nat.beq (orb m (m + 1) 0) 0
def Mk (m:Nat):Prop:=m = 7\/m = 31\/m = 127\/m = 511
theorem Mk.cyc {m:Nat} (h:Mk m):cyc m = true:=by
 rcases h with rfl | rfl | rfl | rfl <;> decide +kernel
theorem Zn2 {j:Nat}:∀ {l:List Nat},has' j l = true->j ∈ l
 | x :: l,h=>by
  unfold has' at h
  by_cases e:Nat.beq x j = true
  ·rw [Nat.eq_of_beq_eq_true e]; exact .head _
  ·rw [if_neg e] at h; exact .tail _ (Zn2 h)
theorem Zjk {l:List Nat}:∀ {n:Nat},Zfa l n = true->∀ j < n,j ∈ l
 | n + 1,h,j,hj=>by
  unfold Zfa at h
  by_cases e:has' n l = true
  ·rw [if_pos e] at h
   rcases Nat.lt_succ_iff_lt_or_eq.1 hj with hj | rfl
   ·exact Zjk h j hj
   ·exact Zn2 e
  ·rw [if_neg e] at h; cases h
theorem Zfq {m:Nat}:∀ (a b x:Nat),orb m (a + b) x = orb m b (orb m a x)
 | 0,b,x=>by rw [Nat.zero_add]; rfl
 | a + 1,b,x=>by rw [show a + 1 + b = (a + b) + 1 by omega]; exact Zfq a b _
theorem Zg7 {m y:Nat}:∀ {n x:Nat},y ∈ orbL m n x->∃ r,r < n/\orb m r x = y
 | n + 1,x,h=>by
  cases h with
  | head=>exact ⟨0,Nat.succ_pos _,rfl⟩
  | tail _ h=>obtain ⟨r,hr,e⟩:=Zg7 h; exact ⟨r + 1,Nat.succ_lt_succ hr,e⟩
theorem full {m x j:Nat} (hm:Mk m) (hx:x<=m) (hj:j<=m):∃ r,r<=m/\orb m r x = j:=by
 have h:=hm.cyc
 unfold cyc at h
 rw [Jb4] at h
 obtain ⟨a,ha,rfl⟩:=Zg7 (Zjk h.1 x (by omega))
 obtain ⟨b,hb,rfl⟩:=Zg7 (Zjk h.1 j (by omega))
 have e0:=Nat.eq_of_beq_eq_true h.2
 by_cases ab:a<=b
 ·exact ⟨b - a,by omega,by rw [<- Zfq,show a + (b - a) = b by omega]⟩
 ·exact ⟨m + 1 - a + b,by omega,by rw [<- Zfq,show a + (m + 1 - a + b) = (m + 1) + b by omega,Zfq,e0]⟩
def tm (m:Nat):SetTable:={ SetTable.fresh 0 0 true with mask:=m }
def pr (m:Nat) (h:Int):Nat->Probe
 | 0=>probeStart (tm m) h
 | n + 1=>advance (tm m) (pr m h n)
def lp (m:Nat) (h:Int):Nat->Nat × Nat
 | 0=>(bits h % (m + 1),bits h)
 | r + 1=>leap m (lp m h r).1 (lp m h r).2
def runAt (m:Nat) (h:Int) (r:Nat):Probe:={ j:=(lp m h r).1,more:=runEnd m (lp m h r).1 - (lp m h r).1,i:=(lp m h r).1,perturb:=(lp m h r).2,dummy:=none }
theorem lp_le {m:Nat} {h:Int}:∀ r,(lp m h r).1<=m
 | 0=>Jen.1 (Nat.mod_lt _ (Nat.succ_pos _))
 | r + 1=>Jen.1 (Nat.mod_lt _ (Nat.succ_pos _))
theorem Zrc {m:Nat} {h:Int}:∀ r,(lp m h r).2 = bits h / 32 ^ r
 | 0=>by rw [Nat.pow_zero,Nat.div_one]; rfl
 | r + 1=>by
  show (lp m h r).2 / 32 = _
  rw [Zrc r,Nat.div_div_eq_div_mul,Nat.pow_succ]
theorem bits_lt (h:Int):bits h < 2 ^ 64:=by
 unfold bits
 have h1:0<=h % (2 ^ 64:Int):=Int.emod_nonneg _ (by decide)
 have h2:h % (2 ^ 64:Int) < 2 ^ 64:=Int.emod_lt_of_pos _ (by decide)
 omega
theorem lp_zero {m:Nat} {h:Int} {r:Nat} (hr:13<=r):(lp m h r).2 = 0:=by
 rw [Zrc]
 refine Nat.div_eq_of_lt (Ja7 (bits_lt h) ?_)
 exact Jay (by decide:2 ^ 64<=32 ^ 13) (Jfa (by decide) hr)
theorem Zrd {m:Nat} {h:Int}:∀ k,(lp m h (13 + k)).1 = orb m k (lp m h 13).1
 | 0=>rfl
 | k + 1=>by
  have e:orb m (k + 1) (lp m h 13).1 = lc m (orb m k (lp m h 13).1):=by rw [Zfq]; rfl
  rw [e,<- Zrd k]
  show (((lp m h (13 + k)).1 * 5 + 1 + (lp m h (13 + k)).2 / 32) % (m + 1)) = _
  rw [lp_zero (by omega)]
  rfl
theorem Zmi (m i:Nat):runEnd m i - i<=9:=by unfold runEnd; split <;> omega
theorem Zfs (m i:Nat):i<=runEnd m i:=by unfold runEnd; split <;> omega
theorem Zgy {m i:Nat} (h:i<=m):runEnd m i<=m:=by unfold runEnd; split <;> omega
theorem pr_in {m:Nat} {h:Int} {r n:Nat} (e:pr m h n = runAt m h r):∀ k,k<=runEnd m (lp m h r).1 - (lp m h r).1->pr m h (n + k) = { runAt m h r with j:=(lp m h r).1 + k,more:=runEnd m (lp m h r).1 - (lp m h r).1 - k }
 | 0,_=>by rw [Nat.add_zero,e]; rfl
 | k + 1,hk=>by
  show advance (tm m) (pr m h (n + k)) = _
  rw [pr_in e k (by omega)]
  unfold advance
  rw [if_pos (by dsimp only; omega)]
  dsimp only
  rw [Nat.sub_sub,Nat.add_assoc]
def nr (m:Nat) (h:Int):Nat->Nat
 | 0=>0
 | r + 1=>nr m h r + (runEnd m (lp m h r).1 - (lp m h r).1) + 1
theorem nr_le {m:Nat} {h:Int}:∀ r,nr m h r<=10 * r
 | 0=>Jaf _
 | r + 1=>by
  have:=nr_le (m:=m) (h:=h) r
  have l9:=Zmi m (lp m h r).1
  unfold nr
  omega
theorem Znc {m:Nat} {h:Int} {r:Nat}:∀ d,nr m h r<=nr m h (r + d)
 | 0=>Jaf _
 | d + 1=>Jay (Znc d) (by rw [<- Nat.add_assoc]; show _<=nr m h (r + d) + _ + 1; omega)
theorem Zmr {m:Nat} {h:Int}:∀ r,pr m h (nr m h r) = runAt m h r
 | 0=>rfl
 | r + 1=>by
  have e:=Zmr (m:=m) (h:=h) r
  show advance (tm m) (pr m h (nr m h r + _)) = _
  rw [pr_in e _ (Jaf _)]
  unfold advance
  rw [if_neg (by dsimp only; omega)]
  rfl
theorem cover {m:Nat} (hm:Mk m) (h:Int) {j:Nat} (hj:j<=m):∃ r,r<=13 + m/\(pr m h (nr m h r)).j = j:=by
 obtain ⟨k,hk,e⟩:=full hm (lp_le (h:=h) 13) hj
 refine ⟨13 + k,by omega,?_⟩
 rw [Zmr,<- e,<- Zrd]
 rfl
def Inc (xs:Array Nat):Prop:=xs.toList.Pairwise (· < ·)
theorem Inc.lt {xs:Array Nat} (h:Inc xs) {i k:Nat} (hk:k < xs.size) (ik:i < k):xs[i] < xs[k]:=by
 have:=List.pairwise_iff_getElem.1 h i k (by simp; omega) (by simpa using hk) ik
 simpa using this
theorem Zhj {xs:Array Nat} {j:Nat} (hx:Inc xs):∀ (fuel lo hi:Nat),lo<=hi->hi<=xs.size->hi - lo<=fuel->(∀ i (h:i < xs.size),i < lo->xs[i] < j)->(∀ i (h:i < xs.size),hi<=i->j<=xs[i])->
  below.go xs j fuel lo hi<=xs.size/\(∀ i (h:i < xs.size),i < below.go xs j fuel lo hi->xs[i] < j)/\(∀ i (h:i < xs.size),below.go xs j fuel lo hi<=i->j<=xs[i])
 | 0,lo,hi,h1,h2,h3,a,b=>by
  have e:lo = hi:=by omega
  subst e
  exact ⟨h2,a,b⟩
 | fuel + 1,lo,hi,h1,h2,h3,a,b=>by
  unfold below.go
  by_cases c:lo < hi
  ·rw [if_pos c]
   have hm:(lo + hi) / 2 < xs.size:=by omega
   dsimp only
   rw [show xs.getD ((lo + hi) / 2) j = xs[(lo + hi) / 2] by simp [Array.getD,hm]]
   by_cases d:xs[(lo + hi) / 2] < j
   ·rw [if_pos d]
    refine Zhj hx fuel _ hi (by omega) h2 (by omega) (fun i h _=>?_) b
    rcases Jeg i ((lo + hi) / 2) with q | q
    ·exact Nat.lt_trans (hx.lt hm q) d
    ·have:i = (lo + hi) / 2:=by omega
     subst this; exact d
   ·rw [if_neg d]
    refine Zhj hx fuel lo _ (by omega) (by omega) (by omega) a fun i h _=>?_
    rcases Jeg ((lo + hi) / 2) i with q | q
    ·exact Jay (Je5 d) (Jbs (hx.lt h q))
    ·have:i = (lo + hi) / 2:=by omega
     subst this; exact Je5 d
  ·rw [if_neg c]
   have e:lo = hi:=by omega
   subst e
   exact ⟨h2,a,b⟩
theorem Zdu {xs:Array Nat} {j:Nat} (hx:Inc xs):below xs j<=xs.size/\(∀ i (h:i < xs.size),i < below xs j->xs[i] < j)/\(∀ i (h:i < xs.size),below xs j<=i->j<=xs[i]):=
 Zhj hx _ _ _ (Jbx _) (Jaf _) (Jaf _) (fun _ _ h=>absurd h (Jeo _)) fun _ h h'=>absurd h (Nat.not_lt.2 h')
theorem Zej {xs:Array Nat} {i j:Nat} (hx:Inc xs) (h:xs[i]? = some j):below xs j = i:=by
 obtain ⟨hi,rfl⟩:=Jcw.1 h
 obtain ⟨h1,h2,h3⟩:=Zdu (j:=xs[i]) hx
 rcases Nat.lt_trichotomy (below xs xs[i]) i with q | q | q
 ·exact absurd (h3 _ (Nat.lt_trans q hi) (Jaf _)) (Nat.not_le.2 (hx.lt hi q))
 ·exact q
 ·exact absurd (h2 _ hi q) (Jb0 _)
theorem Zfb {t:SetTable} {i j:Nat} (hx:Inc t.place) (h:t.place[i]? = some j):t.slot j = .live i:=by
 unfold slot
 dsimp only
 rw [Zej hx h,h,if_pos (Jdb _)]
theorem Zma {t:SetTable} {j:Nat} (hd:t.dummies = #[]) (h:j ∉ t.place.toList):t.slot j = .empty:=by
 unfold slot
 dsimp only
 have n1:¬ ((t.place[below t.place j]? == some j) = true):=fun e=>h (by
  have:=eq_of_beq e
  rw [<- Jb9] at this
  exact Jan this)
 have n2:¬ (has t.dummies j = true):=by rw [hd]; unfold has; simp
 rw [if_neg n1,if_neg n2]
def Path (m:Nat) (occ:List Nat) (h:Int) (j:Nat):Prop:=∃ n,(pr m h n).j = j/\∀ k,k < n->(pr m h k).j ∈ occ
structure Tb (t:SetTable) (hs:List Int):Prop where
 m:Mk t.mask
 d:t.dummies = #[]
 sz:t.place.size = hs.length
 inc:Inc t.place
 le:∀ j ∈ t.place.toList,j<=t.mask
 few:hs.length * 5 < t.mask * 3
 path:∀ e ∈ hs.zip t.place.toList,Path t.mask t.place.toList e.1 e.2
structure Fst (m:Nat) (occ:List Nat) (h:Int) (n:Nat):Prop where
 run:∃ r,r<=13 + m/\n<=nr m h r
 no:(pr m h n).j ∉ occ
 yes:∀ k,k < n->(pr m h k).j ∈ occ
theorem least {P:Nat->Prop}:∀ {n:Nat},P n->∃ k,k<=n/\P k/\∀ i,i < k->¬ P i:=by
 intro n
 induction n using Nat.strongRecOn with
 | ind n ih=>
  intro h
  by_cases c:∃ k,k < n/\P k
  ·obtain ⟨k,hk,pk⟩:=c
   obtain ⟨q,hq,r⟩:=ih k hk pk
   exact ⟨q,Jay hq (Jbs hk),r⟩
  ·exact ⟨n,Jaf _,h,fun i hi pi=>c ⟨i,hi,pi⟩⟩
theorem room {m:Nat} {occ:List Nat} (h:occ.length<=m):∃ j,j<=m/\j ∉ occ:=by
 refine Jag fun c=>?_
 have all:∀ j,j<=m->j ∈ occ:=fun j hj=>Jag fun n=>c ⟨j,hj,n⟩
 have:=(Jd8 (n:=m + 1)).length_le_of_subset (l₂:=occ) fun j hj=>all j (by simpa [Jen] using hj)
 simp at this
 omega
theorem Zri {m:Nat} {occ:List Nat} (hm:Mk m) (hl:occ.length<=m) (h:Int):∃ n,Fst m occ h n:=by
 obtain ⟨j,hj,hn⟩:=room hl
 obtain ⟨r,lr,e⟩:=cover hm h hj
 obtain ⟨k,kn,pk,lk⟩:=least (P:=fun n=>(pr m h n).j ∉ occ) (n:=nr m h r) (by rw [e]; exact hn)
 exact ⟨k,⟨r,lr,kn⟩,pk,fun i hi=>Jag (lk i hi)⟩
theorem Fst.lt {m:Nat} {occ:List Nat} {h:Int} {n:Nat} (F:Fst m occ h n):n < 10 * turns m:=by
 obtain ⟨r,lr,hn⟩:=F.run
 have:=nr_le (m:=m) (h:=h) r
 unfold turns; omega
theorem Zg3 {m:Nat} {h:Int}:∀ n,(pr m h n).dummy = none
 | 0=>rfl
 | n + 1=>by
  show (advance (tm m) (pr m h n)).dummy = none
  unfold advance
  split
  ·exact Zg3 n
  ·exact Zg3 n
theorem adv_eq {t:SetTable} {h:Int} {n:Nat}:t.advance (pr t.mask h n) = pr t.mask h (n + 1):=rfl
theorem Zj2 {t:SetTable} {h:Int} {N:Nat} {f:Nat->Int} (hd:t.dummies = #[]) (hi:Inc t.place) (F:Fst t.mask t.place.toList h N):∀ (fuel n:Nat),n<=N->N - n < fuel->
  (probe.go t f h fuel (pr t.mask h n) = some (.empty (pr t.mask h N).j none)/\∀ k,n<=k->k < N->∀ i,t.place[i]? = some (pr t.mask h k).j->f i ≠ h) \/
  (∃ k i,n<=k/\k < N/\t.place[i]? = some (pr t.mask h k).j/\f i = h/\probe.go t f h fuel (pr t.mask h n) = some (.candidate (pr t.mask h k).j i (pr t.mask h (k + 1)))/\∀ k',n<=k'->k' < k->∀ i,t.place[i]? = some (pr t.mask h k').j->f i ≠ h)
 | 0,n,_,hf=>absurd hf (Jeo _)
 | fuel + 1,n,hn,hf=>by
  unfold probe.go
  rcases Jdr hn with rfl | ln
  ·rw [Zma hd F.no,Zg3]
   exact .inl ⟨rfl,fun k h1 h2=>by omega⟩
  ·obtain ⟨i,li,e⟩:=Jcl (F.yes n ln)
   have ei:t.place[i]? = some (pr t.mask h n).j:=by rw [<- Jb9,Jac li,e]
   have un:∀ i',t.place[i']? = some (pr t.mask h n).j->i' = i:=fun i' e'=>(Zej hi e').symm.trans (Zej hi ei)
   rw [Zfb hi ei]
   dsimp only
   by_cases c:f i = h
   ·rw [if_pos (by rw [c]; exact Jdb _)]
    exact .inr ⟨n,i,Jaf _,ln,ei,c,rfl,fun k' h1 h2=>by omega⟩
   ·rw [if_neg (fun q=>c (eq_of_beq q)),adv_eq]
    rcases Zj2 hd hi F fuel (n + 1) ln (by omega) with ⟨q1,q2⟩ | ⟨k,i2,q1,q2,q3,q4,q5,q6⟩
    ·refine .inl ⟨q1,fun k h1 h2 i' e'=>?_⟩
     rcases Jdr h1 with rfl | h1
     ·rw [un i' e']; exact c
     ·exact q2 k h1 h2 i' e'
    ·refine .inr ⟨k,i2,by omega,q2,q3,q4,q5,fun k' h1 h2 i' e'=>?_⟩
     rcases Jdr h1 with rfl | h1
     ·rw [un i' e']; exact c
     ·exact q6 k' h1 h2 i' e'
theorem Zkh {α:Type} {xs:Array α} {p:Nat} {x:α}:(insertAt xs p x).toList = xs.toList.take p ++ x :: xs.toList.drop p:=by
 unfold insertAt
 rw [Jcy,Jdk,Jbw,Jbw,Jbh,Jbh,Jba,Jch (l:=List.drop p xs.toList) (by simp)]
 simp
theorem zip_ins {α β:Type} {a:List α} {b:List β} {x:α} {y:β} (p:Nat) (hl:a.length = b.length):(a.take p ++ x :: a.drop p).zip (b.take p ++ y :: b.drop p) = (a.zip b).take p ++ (x,y) :: (a.zip b).drop p:=by
 rw [List.zip_append (by simp [hl]),List.zip_cons_cons,Jfl,Jfl,Jfl,List.take_zipWith,List.drop_zipWith]
theorem Zi1 {α:Type} {l:List α} {x y:α} {p:Nat}:y ∈ l.take p ++ x :: l.drop p ↔ y = x\/y ∈ l:=by
 constructor
 ·intro h
  rcases Jbd.1 h with h | h
  ·exact .inr (Jd5 h)
  ·rcases Jam.1 h with h | h
   ·exact .inl h
   ·exact .inr (Jd4 h)
 ·rintro (rfl | h)
  ·exact Jah _ (.head _)
  ·rw [<- Jbt p l] at h
   rcases Jbd.1 h with h | h
   ·exact Jce _ h
   ·exact Jah _ (.tail _ h)
theorem Path.mono {m:Nat} {o o':List Nat} {h:Int} {j:Nat} (s:∀ x ∈ o,x ∈ o') (P:Path m o h j):Path m o' h j:=by
 obtain ⟨n,e,y⟩:=P
 exact ⟨n,e,fun k hk=>s _ (y k hk)⟩
theorem Tb.len {t:SetTable} {hs:List Int} (T:Tb t hs):t.place.toList.length<=t.mask:=by
 have:=T.few; have:=T.sz
 rw [Jbi]; omega
theorem pr_le {m:Nat} {h:Int}:∀ n,(pr m h n).j<=m/\(pr m h n).j + (pr m h n).more<=m
 | 0=>by
  have:=lp_le (m:=m) (h:=h) 0
  have:=Zgy this
  have:=Zfs m (lp m h 0).1
  exact ⟨‹_›,by show (lp m h 0).1 + (runEnd m (lp m h 0).1 - (lp m h 0).1)<=m; omega⟩
 | n + 1=>by
  show (advance (tm m) (pr m h n)).j<=m/\(advance (tm m) (pr m h n)).j + (advance (tm m) (pr m h n)).more<=m
  have ih:=pr_le (m:=m) (h:=h) n
  unfold advance
  split
  ·dsimp only; omega
  ·have q:(leap (tm m).mask (pr m h n).i (pr m h n).perturb).1<=m:=Jen.1 (Nat.mod_lt _ (Nat.succ_pos _))
   dsimp only
   have:=Zgy q
   have:=Zfs m (leap (tm m).mask (pr m h n).i (pr m h n).perturb).1
   refine ⟨q,?_⟩
   show _ + (runEnd m _ - _)<=m
   omega
theorem Zc1 {t:SetTable} {j:Nat}:(t.put j).1.place.toList = t.place.toList.take (t.put j).2 ++ j :: t.place.toList.drop (t.put j).2:=Zkh
theorem Inc.put {t:SetTable} {j:Nat} (hi:Inc t.place) (hn:j ∉ t.place.toList):Inc (t.put j).1.place:=by
 show List.Pairwise _ _
 rw [Zc1]
 obtain ⟨h1,h2,h3⟩:=Zdu (j:=j) hi
 have e:(t.put j).2 = below t.place j:=rfl
 rw [e]
 have pw:t.place.toList.Pairwise (· < ·):=hi
 rw [<- Jbt (below t.place j) t.place.toList,List.pairwise_append] at pw
 obtain ⟨a,b,c⟩:=pw
 have ta:∀ x ∈ t.place.toList.take (below t.place j),x < j:=by
  intro x hx
  obtain ⟨i,hl,rfl⟩:=Jcl hx
  rw [Ja1,Jbi] at hl
  rw [List.getElem_take,Jfb]
  exact h2 i (by omega) (by omega)
 have tb:∀ x ∈ t.place.toList.drop (below t.place j),j < x:=by
  intro x hx
  obtain ⟨i,hl,rfl⟩:=Jcl hx
  rw [Jcv,Jbi] at hl
  have q:=h3 (below t.place j + i) (by omega) (by omega)
  rw [List.getElem_drop,Jfb]
  refine Jf0 q fun e=>hn ?_
  rw [e,<- Jfb]
  exact Jcc _
 refine List.pairwise_append.2 ⟨a,Jep.2 ⟨tb,b⟩,fun x hx y hy=>?_⟩
 rcases Jam.1 hy with rfl | hy
 ·exact ta x hx
 ·exact c x hx y hy
theorem Zfm {t:SetTable} {j:Nat} (hd:t.dummies = #[]):(t.put j).1.dummies = #[]:=by
 unfold SetTable.put
 dsimp only
 rw [hd,if_neg (by unfold has; simp)]
theorem Tb.put {t:SetTable} {hs:List Int} {h:Int} {N:Nat} (T:Tb t hs) (F:Fst t.mask t.place.toList h N) (fw:(hs.length + 1) * 5 < t.mask * 3):Tb (t.put (pr t.mask h N).j).1 (hs.take (t.put (pr t.mask h N).j).2 ++ h :: hs.drop (t.put (pr t.mask h N).j).2):=by
 have ll:(hs.take (t.put (pr t.mask h N).j).2 ++ h :: hs.drop (t.put (pr t.mask h N).j).2).length = hs.length + 1:=by simp; omega
 have sub:∀ x ∈ t.place.toList,x ∈ (t.put (pr t.mask h N).j).1.place.toList:=fun x hx=>by rw [Zc1]; exact Zi1.2 (.inr hx)
 refine ⟨T.m,Zfm T.d,?_,T.inc.put F.no,?_,by rw [ll]; exact fw,?_⟩
 ·rw [ll,<- Jbi,Zc1,<- T.sz,<- Jbi]
  simp; omega
 ·intro j hj
  rw [Zc1] at hj
  rcases Zi1.1 hj with rfl | hj
  ·exact (pr_le N).1
  ·exact T.le j hj
 ·intro e he
  rw [Zc1,zip_ins _ (by rw [Jbi]; exact T.sz.symm)] at he
  rcases Zi1.1 he with rfl | he
  ·exact ⟨N,rfl,fun k hk=>sub _ (F.yes k hk)⟩
  ·exact (T.path e he).mono sub
end St
namespace St
open PySem PySem.SetTable
structure OW (m:Nat) (hs:List Int) (ow:Array (Option Nat)) (js:List Nat):Prop where
 sz:ow.size = m + 1
 len:js.length = hs.length
 at_:∀ j q:Nat,ow[j]? = some (some q) ↔ js[q]? = some j
 le:∀ j ∈ js,j<=m
 path:∀ e ∈ hs.zip js,Path m js e.1 e.2
theorem OW.free {m:Nat} {hs:List Int} {ow:Array (Option Nat)} {js:List Nat} (O:OW m hs ow js) {j:Nat} (hj:j<=m):(ow.getD j (some 0)).isNone = true ↔ j ∉ js:=by
 have hl:j < ow.size:=by rw [O.sz]; omega
 have e:ow.getD j (some 0) = ow[j]:=by simp [Array.getD,hl]
 rw [e]
 cases c:ow[j] with
 | none=>
  refine ⟨fun _ hm=>?_,fun _=>rfl⟩
  obtain ⟨q,lq,eq⟩:=Jcl hm
  have:=(O.at_ j q).2 (by rw [Jac lq,eq])
  rw [Ja3 hl,c] at this
  cases this
 | some q=>
  refine ⟨fun h=>absurd h (by simp),fun h=>absurd ?_ h⟩
  exact Jan ((O.at_ j q).1 (by rw [Ja3 hl,c]))
theorem Zli {p:Nat->Bool} {n k:Nat} (hk:k < n) (h:p k = true) (hn:∀ i,i < k->¬ p i = true):(List.range n).find? p = some k:=by
 rw [List.find?_range_eq_some]
 exact ⟨h,Jcb.2 hk,fun i hi=>by simpa using hn i hi⟩
theorem Zkj {m:Nat} {hs:List Int} {ow:Array (Option Nat)} {js:List Nat} {h:Int} {N:Nat} (O:OW m hs ow js) (F:Fst m js h N):∀ (fuel r:Nat),r + fuel = turns m->nr m h r<=N->layClean.free m ow fuel (lp m h r).1 (lp m h r).2 = some (pr m h N).j
 | 0,r,hr,hn=>by
  obtain ⟨R,lR,hN⟩:=F.run
  have:=Znc (m:=m) (h:=h) (r:=R + 1) (r - (R + 1))
  unfold turns at hr
  rw [show R + 1 + (r - (R + 1)) = r by omega] at this
  have:nr m h R < nr m h (R + 1):=by show _ < nr m h R + _ + 1; omega
  omega
 | fuel + 1,r,hr,hn=>by
  unfold layClean.free
  have le:=lp_le (m:=m) (h:=h) r
  have re:=Zgy le
  have rl:=Zfs m (lp m h r).1
  have inr:∀ k,k<=runEnd m (lp m h r).1 - (lp m h r).1->(pr m h (nr m h r + k)).j = (lp m h r).1 + k:=fun k hk=>by rw [pr_in (Zmr r) k hk]
  by_cases c:N<=nr m h r + (runEnd m (lp m h r).1 - (lp m h r).1)
  ·have e:=inr (N - nr m h r) (by omega)
   rw [show nr m h r + (N - nr m h r) = N by omega] at e
   rw [Zli (k:=N - nr m h r) (by omega) ((O.free (by omega)).2 (by rw [<- e]; exact F.no)) fun i hi hp=>(O.free (by omega)).1 hp (by rw [<- inr i (by omega)]; exact F.yes _ (by omega))]
   dsimp only
   rw [e]
  ·have no:(List.range (runEnd m (lp m h r).1 + 1 - (lp m h r).1)).find? (fun k=>(ow.getD ((lp m h r).1 + k) (some 0)).isNone) = none:=by
    rw [List.find?_eq_none]
    intro k hk hp
    rw [Jcb] at hk
    exact (O.free (by omega)).1 hp (by rw [<- inr k (by omega)]; exact F.yes _ (by omega))
   rw [no]
   dsimp only
   exact Zkj O F fuel (r + 1) (by omega) (by show nr m h r + _ + 1<=N; omega)
theorem OW.add {m:Nat} {hs:List Int} {ow:Array (Option Nat)} {js:List Nat} {h:Int} {N:Nat} (O:OW m hs ow js) (F:Fst m js h N):OW m (hs ++ [h]) (ow.setIfInBounds (pr m h N).j (some hs.length)) (js ++ [(pr m h N).j]):=by
 have lj:=(pr_le (m:=m) (h:=h) N).1
 have hl:(pr m h N).j < ow.size:=by rw [O.sz]; omega
 refine ⟨by rw [Array.size_setIfInBounds,O.sz],by rw [Jaj,Jaj,O.len]; rfl,fun j q=>?_,?_,?_⟩
 ·by_cases e:(pr m h N).j = j
  ·subst e
   rw [Array.getElem?_setIfInBounds_self_of_lt hl]
   constructor
   ·intro e
    cases e
    rw [<- O.len,Ja5 (Jaf _),Nat.sub_self]; rfl
   ·intro e
    rcases Jeg q js.length with c | c
    ·rw [Jbg c] at e
     exact absurd (Jan e) F.no
    ·rw [Ja5 c] at e
     have:q - js.length = 0:=by
      obtain ⟨h1,_⟩:=Jap.1 e
      simpa using h1
     rw [show q = hs.length by rw [<- O.len]; omega]
  ·rw [Jex e,O.at_]
   constructor
   ·intro e'
    obtain ⟨h1,_⟩:=Jap.1 e'
    rw [Jbg h1]; exact e'
   ·intro e'
    rcases Jeg q js.length with c | c
    ·rw [Jbg c] at e'; exact e'
    ·rw [Ja5 c] at e'
     have:q - js.length = 0:=by
      obtain ⟨h1,_⟩:=Jap.1 e'
      simpa using h1
     rw [this] at e'
     exact absurd (Jbm e') e
 ·intro j hj
  rcases Jbd.1 hj with hj | hj
  ·exact O.le j hj
  ·rw [Jaz.1 hj]; exact lj
 ·intro e he
  rw [List.zip_append O.len.symm] at he
  have sub:∀ x ∈ js,x ∈ js ++ [(pr m h N).j]:=fun x hx=>Jce _ hx
  rcases Jbd.1 he with he | he
  ·exact (O.path e he).mono sub
  ·rw [show e = (h,(pr m h N).j) from Jaz.1 he]
   exact ⟨N,rfl,fun k hk=>sub _ (F.yes k hk)⟩
def layG (m:Nat) (acc:Option (Array (Option Nat) × Nat)) (h:Int):Option (Array (Option Nat) × Nat):=
 acc.bind fun a=>(layClean.free m a.1 (turns m) (bits h % (m + 1)) (bits h)).bind fun j=>some (a.1.setIfInBounds j (some a.2),a.2 + 1)
theorem Zi2 (m:Nat) (hs:Array Int):layClean m hs = (hs.toList.foldl (layG m) (some (Array.replicate (m + 1) none,0))).map (·.1):=by
 unfold layClean
 rw [<- Array.foldl_toList]
 rfl
theorem Zke {m:Nat} (hm:Mk m):∀ (rest:List Int) {hs:List Int} {ow:Array (Option Nat)} {js:List Nat},OW m hs ow js->hs.length + rest.length<=m->∃ ow' js',rest.foldl (layG m) (some (ow,hs.length)) = some (ow',hs.length + rest.length)/\OW m (hs ++ rest) ow' js'
 | [],hs,ow,js,O,_=>⟨ow,js,rfl,by rw [Jdg]; exact O⟩
 | h :: rest,hs,ow,js,O,hl=>by
  rw [Jau] at hl
  obtain ⟨N,F⟩:=Zri hm (occ:=js) (by rw [O.len]; omega) h
  have e:layG m (some (ow,hs.length)) h = some (ow.setIfInBounds (pr m h N).j (some hs.length),hs.length + 1):=by
   show (layClean.free m ow (turns m) (lp m h 0).1 (lp m h 0).2).bind _ = _
   rw [Zkj O F (turns m) 0 (Nat.zero_add _) (Jbx _)]
   rfl
  have O':=O.add F
  obtain ⟨ow',js',q1,q2⟩:=Zke hm rest O' (by rw [Jaj,Jdv]; omega)
  refine ⟨ow',js',?_,by rw [Jba] at q2; exact q2⟩
  rw [List.foldl_cons,e]
  rw [Jaj,Jdv] at q1
  rw [q1,Jau]
  congr 2; omega
theorem lay_ok {m:Nat} (hm:Mk m) {hs:Array Int} (hl:hs.size<=m):∃ ow js,layClean m hs = some ow/\OW m hs.toList ow js:=by
 obtain ⟨ow,js,e,O⟩:=Zke hm hs.toList (hs:=[]) (ow:=Array.replicate (m + 1) none) (js:=[]) ⟨by simp,rfl,fun j q=>by simp [Array.getElem?_replicate],fun _ h=>(by cases h),fun _ h=>by cases h⟩ (by simpa using hl)
 refine ⟨ow,js,?_,O⟩
 rw [Zi2,show (0:Nat) = ([]:List Int).length from rfl,e]
 rfl
def lv (m:Nat) (ow:Array (Option Nat)):List (Nat × Nat):=(List.range (m + 1)).filterMap fun j=>(ow.getD j none).map (j,·)
theorem Ze2 {m:Nat} {hs:List Int} {ow:Array (Option Nat)} {js:List Nat} (O:OW m hs ow js) {j q:Nat}:(j,q) ∈ lv m ow ↔ js[q]? = some j:=by
 unfold lv
 rw [Jei,<- O.at_]
 constructor
 ·rintro ⟨j',hj,e⟩
  rw [Jcb] at hj
  have hl:j' < ow.size:=by rw [O.sz]; exact hj
  rw [show ow.getD j' none = ow[j'] by simp [Array.getD,hl]] at e
  cases c:ow[j'] with
  | none=>rw [c] at e; cases e
  | some q'=>
   rw [c] at e
   cases e
   rw [Ja3 hl,c]
 ·intro e
  obtain ⟨hl,e'⟩:=Jcw.1 e
  refine ⟨j,by rw [Jcb,<- O.sz]; exact hl,?_⟩
  rw [show ow.getD j none = ow[j] by simp [Array.getD,hl],e']
  rfl
theorem Zrb {m:Nat} {ow:Array (Option Nat)}:((lv m ow).map (·.1)).Pairwise (· < ·):=by
 unfold lv
 rw [List.map_filterMap]
 refine List.Pairwise.filterMap _ (R:=(· < ·)) ?_ List.pairwise_lt_range
 intro a a' h b hb b' hb'
 cases c:ow.getD a none with
 | none=>rw [c] at hb; cases hb
 | some q=>
  cases c':ow.getD a' none with
  | none=>rw [c'] at hb'; cases hb'
  | some q'=>
   rw [c] at hb; rw [c'] at hb'
   cases hb; cases hb'; exact h
theorem lv_snd {m:Nat} {hs:List Int} {ow:Array (Option Nat)} {js:List Nat} (O:OW m hs ow js):((lv m ow).map (·.2)).Perm (List.range hs.length):=by
 have nd:((lv m ow).map (·.2)).Nodup:=by
  have p:=Zrb (m:=m) (ow:=ow)
  rw [Jd1] at p
  refine Jd1.2 (p.imp_of_mem ?_)
  rintro ⟨j,q⟩ ⟨j',q'⟩ h1 h2 lt e
  dsimp only at lt e
  subst e
  have:=((Ze2 O).1 h1).symm.trans ((Ze2 O).1 h2)
  cases this
  exact Jb0 _ lt
 refine (List.perm_ext_iff_of_nodup nd Jd8).2 fun q=>?_
 rw [Jak,Jcb]
 constructor
 ·rintro ⟨⟨j,q'⟩,h,rfl⟩
  rw [<- O.len]
  exact (Jap.1 ((Ze2 O).1 h)).1
 ·intro hq
  rw [<- O.len] at hq
  exact ⟨(js[q],q),(Ze2 O).2 (Jac hq),rfl⟩
theorem Zdl {α:Type}:∀ (l:List α),(List.range l.length).filterMap (l[·]?) = l
 | []=>rfl
 | x :: l=>by
  rw [Jau,List.range_succ_eq_map,Jc8]
  dsimp only [List.getElem?_cons_zero]
  rw [List.filterMap_map]
  congr 1
  exact (Zdl l)
theorem laid_ok {α:Type} {m f mv:Nat} {ld pn:Bool} (hm:Mk m) {es:Array (Int × α)} (hl:es.size<=m) (fw:es.size * 5 < m * 3):
  ∃ t' order,SetTable.laid m f mv ld pn (es.map (·.1)) = some (t',order)/\t'.led = ld/\t'.plain = pn/\(order.filterMap (es[·]?)).toList.Perm es.toList/\Tb t' ((order.filterMap (es[·]?)).toList.map (·.1)):=by
 obtain ⟨ow,js,e,O⟩:=lay_ok hm (hs:=es.map (·.1)) (by simpa using hl)
 have hz:(es.map (·.1)).toList.length = es.toList.length:=by simp
 have ps:=lv_snd O
 rw [hz] at ps
 refine ⟨{ mask:=m,place:=((lv m ow).map (·.1)).toArray,dummies:=#[],finger:=f,led:=ld,moves:=mv,plain:=pn },((lv m ow).map (·.2)).toArray,?_,rfl,rfl,?_⟩
 ·unfold SetTable.laid
  rw [e]
  rfl
 have el:(((lv m ow).map (·.2)).toArray.filterMap (es[·]?)).toList = ((lv m ow).map (·.2)).filterMap (es.toList[·]?):=by
  simp
 have pe:(((lv m ow).map (·.2)).toArray.filterMap (es[·]?)).toList.Perm es.toList:=by
  rw [el]
  have:=ps.filterMap (es.toList[·]?)
  rw [Zdl] at this
  exact this
 refine ⟨pe,?_⟩
 have ln:(((lv m ow).map (·.2)).toArray.filterMap (es[·]?)).toList.length = es.size:=by rw [pe.length_eq]; simp
 have lj:(lv m ow).length = es.size:=by
  have:=ps.length_eq
  simpa using this
 have occ:∀ j,j ∈ js->j ∈ (lv m ow).map (·.1):=fun j hj=>by
  obtain ⟨q,lq,e⟩:=Jcl hj
  exact Jak.2 ⟨(j,q),(Ze2 O).2 (by rw [Jac lq,e]),rfl⟩
 refine ⟨hm,rfl,by rw [Jab,ln]; simpa using lj,by show List.Pairwise _ _; simpa using Zrb,?_,by rw [Jab,ln]; exact fw,?_⟩
 ·intro j hj
  obtain ⟨⟨j',q⟩,h,rfl⟩:=Jak.1 (show j ∈ (lv m ow).map (·.1) by simpa using hj)
  exact O.le _ (Jan ((Ze2 O).1 h))
 ·intro x hx
  have fm:∀ l:List (Nat × Nat),(∀ y ∈ l,∃ z,es.toList[y.2]? = some z)->∀ x ∈ (((l.map (·.2)).filterMap (es.toList[·]?)).map (·.1)).zip (l.map (·.1)),∃ y ∈ l,∃ z,es.toList[y.2]? = some z/\x = (z.1,y.1):=by
   intro l
   induction l with
   | nil=>intro _ x hx; cases hx
   | cons y l ih=>
    intro hy x hx
    obtain ⟨z,ez⟩:=hy y (.head _)
    rw [Jax,Jax,Jc8,ez] at hx
    dsimp only at hx
    rw [Jax,List.zip_cons_cons] at hx
    rcases Jam.1 hx with rfl | hx
    ·exact ⟨y,.head _,z,ez,rfl⟩
    ·obtain ⟨y',h1,h2⟩:=ih (fun y' h=>hy y' (.tail _ h)) x hx
     exact ⟨y',.tail _ h1,h2⟩
  rw [el] at hx
  obtain ⟨⟨j,q⟩,hy,z,ez,rfl⟩:=fm (lv m ow) (fun y hy=>by
   have:=(Jap.1 ((Ze2 O).1 hy)).1
   rw [O.len,hz] at this
   exact ⟨_,Jac this⟩) x (by simpa using hx)
  have ej:=(Ze2 O).1 hy
  refine Path.mono (by simpa using occ) (O.path (z.1,j) ?_)
  have:((es.map (·.1)).toList.zip js)[q]? = some (z.1,j):=by
   rw [List.getElem?_zip_eq_some]
   exact ⟨by rw [Array.toList_map,Jbe,ez]; rfl,ej⟩
  exact Jan this
end St
namespace St
open PySem PySem.SetTable
section
variable (prog:Program) (w:World)
def rh (k:List Int):Int:=tupleKeyHash (intKind prog w) k
def ent (x:List Int × Addr):Int × Value:=(rh prog w x.1,.ref x.2)
def es (xs:List (List Int × Addr)):Array (Int × Value):=(xs.map (ent prog w)).toArray
structure SetAt (h:Heap) (a:Addr) (xs:List (List Int × Addr)) (t:SetTable):Prop where
 ex:∃ o ep,h.get? a = some o/\o.ExactSet/\o.data = .set (es prog w xs) ep t
 tb:Tb t (xs.map fun x=>rh prog w x.1)
 pl:t.plain = true
def Zf2 (h:Heap) (xs:List (List Int × Addr)):Prop:=∀ x ∈ xs,IsTupleKey (intKind prog w) h x.1 x.2
end
section
variable {prog:Program} {w:World} {A:Around} {E:Value->Shared->Prop} {s:Shared}
theorem Zcu {xs:List (List Int × Addr)}:(es prog w xs).size = xs.length:=by simp [es]
theorem Tb.fits {t:SetTable} {hs:List Int} (T:Tb t hs):t.fits hs.length = true:=by
 unfold SetTable.fits SetTable.fill
 rw [T.d,T.sz]
 have:=T.few
 simp; omega
theorem Mk.odd {m:Nat} (h:Mk m):(m % 2 == 0) = false:=by rcases h with rfl | rfl | rfl | rfl <;> rfl
theorem SetAt.fits {h:Heap} {a:Addr} {xs:List (List Int × Addr)} {t:SetTable} (S:SetAt prog w h a xs t):t.fits (es prog w xs).size = true:=by
 rw [Zcu]
 have:=S.tb.fits
 rwa [Jab] at this
theorem SetAt.typeIs {a:Addr} {xs:List (List Int × Addr)} {t:SetTable} (S:SetAt prog w s.heap a xs t):s.TypeIs (.ref a) "set" :=
 let ⟨o,_,ho,hc,_⟩:=S.ex; ⟨o,ho,hc.1⟩
theorem Zgm {k:List Int} {a:Addr} {Q:Bool->Shared->Prop} (hk:IsTupleKey (intKind prog w) s.heap k a) (h:Q false s):wpAny (model prog w) A (ofAClassStatement 8 (.ref a)) Q E s:=by
 have hT:=hk.typeIs
 obtain ⟨o,items,n,ho,_,hd,hi⟩:=hk
 unfold ofAClassStatement
 refine Jaa (wpAny_typeOf hT ?_)
 dsimp only
 rw [if_pos (by decide)]
 refine Jaa (Jae ?_)
 rw [if_neg (by decide)]
 refine Jaa (wpAny_seqItems ho hd ?_)
 dsimp only
 refine Jaa ?_
 show wpAny _ _ (forIn items _ _) _ _ s
 rw [<- Array.forIn_toList]
 refine wpAny_forIn_list _ (fun rest r s'=>r.1 = none/\s' = s/\∀ v ∈ rest,carriedByValue v = true) _ ?_ ?_ _ _ ⟨rfl,rfl,hi.byValue⟩
 ·rintro v rest r s' ⟨hr,rfl,hall⟩
  have e:ofAClassStatement 7 v = pure false:=by
   have:=hall v (.head _)
   cases v <;> first | rfl | (simp [carriedByValue] at this) | (unfold ofAClassStatement; rfl)
  rw [e]
  refine Jaa (Jae ?_)
  rw [if_neg (by decide)]
  exact Jae ⟨rfl,rfl,fun u hu'=>hall u (.tail _ hu')⟩
 ·rintro ⟨r1,r2⟩ s' ⟨hr,rfl,_⟩
  dsimp only at hr
  subst hr
  exact Jae h
theorem seen_no {k:List Int} {x:Addr} {xs:List (List Int × Addr)} {Q:Bool->Shared->Prop} (hk:IsTupleKey (intKind prog w) s.heap k x) (R:Zf2 prog w s.heap xs) (h:Q false s):
  wpAny (model prog w) A (searchCouldBeSeen (.ref x) (xs.map (Value.ref ·.2))) Q E s:=by
 unfold searchCouldBeSeen
 refine Jaa ?_
 refine wpAny_forIn_list _ (fun rest r s'=>r.1 = none/\s' = s/\∀ v ∈ rest,∃ k a,v = Value.ref a/\IsTupleKey (intKind prog w) s.heap k a) _ ?_ ?_ _ _ ⟨rfl,rfl,fun v hv=>?_⟩
 ·rintro v rest r s' ⟨hr,rfl,hall⟩
  obtain ⟨k',a',rfl,hk'⟩:=hall v (.head _)
  have nx:∀ u ∈ rest,∃ k a,u = Value.ref a/\IsTupleKey (intKind prog w) s'.heap k a:=fun u hu=>hall u (.tail _ hu)
  dsimp only
  by_cases c:(x == a' || carriedByValue (Value.ref x) && carriedByValue (Value.ref a')) = true
  ·rw [if_pos c]
   exact Jae ⟨rfl,rfl,nx⟩
  ·rw [if_neg c]
   refine Jaa (wpAny_eqIsQuiet_tuple hk ?_)
   rw [if_neg (by decide)]
   refine Jaa (wpAny_eqIsQuiet_tuple hk' ?_)
   rw [if_neg (by decide)]
   refine Jaa (Zgm hk ?_)
   rw [if_neg (by decide)]
   refine Jaa (Zgm hk' ?_)
   rw [if_neg (by decide)]
   exact Jae ⟨rfl,rfl,nx⟩
 ·rintro ⟨r1,r2⟩ s' ⟨hr,rfl,_⟩
  dsimp only at hr
  subst hr
  exact Jae h
 ·obtain ⟨y,hy,rfl⟩:=Jak.1 hv
  exact ⟨_,_,rfl,R y hy⟩
theorem Zrp {xs:List (List Int × Addr)} {i:Nat} (h:i < xs.length):(es prog w xs)[i]? = some (ent prog w xs[i]):=by
 unfold es
 rw [List.getElem?_toArray,Jbe,Jac h]; rfl
theorem Zis {a x:Addr} {k:List Int} {xs:List (List Int × Addr)} {t:SetTable} {ad:Bool} {Q:SetFound->Shared->Prop} (hu:A.units < cLine) (S:SetAt prog w s.heap a xs t) (R:Zf2 prog w s.heap xs) (hk:IsTupleKey (intKind prog w) s.heap k x)
  {N:Nat} (F:Fst t.mask t.place.toList (rh prog w k) N) (h:∀ r i,(r = .there i/\(ad = false->i ≠ none)/\∃ y ∈ xs,y.1 = k)\/(r = .free (pr t.mask (rh prog w k) N).j false/\∀ y ∈ xs,y.1 ≠ k)->Q r s):
  ∀ (fuel n:Nat) (st:Option Probe),n<=N->N - n < fuel->st.getD (t.probeStart (rh prog w k)) = pr t.mask (rh prog w k) n->
   (∀ n',n' < n->∀ i,t.place[i]? = some (pr t.mask (rh prog w k) n').j->∀ hi:i < xs.length,xs[i].1 ≠ k)->
   wpAny (model prog w) A (setSearchFrom a (.ref x) (rh prog w k) ad fuel st) Q E s:=by
 obtain ⟨o,ep,ho,hex,hd⟩:=S.ex
 intro fuel
 induction fuel with
 | zero=>intro n st _ hf; exact absurd hf (Jeo _)
 | succ fuel ih=>
  intro n st hn hf hst past
  have szp:t.place.size = xs.length:=by have:=S.tb.sz; rwa [Jab] at this
  unfold setSearchFrom
  refine Jaa (Jcn ho hd S.fits ?_)
  dsimp only
  rw [if_neg (by unfold SetTable.gaveWay; rw [S.tb.m.odd]; decide),hst]
  generalize hp:t.probe _ _ _ = pv
  have hp':probe.go t (fun i=>((es prog w xs)[i]?.map (·.1)).getD 0) (rh prog w k) (10 * turns t.mask) (pr t.mask (rh prog w k) n) = pv:=hp
  have hash:∀ i (hi:i < xs.length),((es prog w xs)[i]?.map (·.1)).getD 0 = rh prog w xs[i].1:=fun i hi=>by rw [Zrp hi]; rfl
  rcases Zj2 (f:=fun i=>((es prog w xs)[i]?.map (·.1)).getD 0) S.tb.d S.tb.inc F (10 * turns t.mask) n hn (Jfu (Nat.sub_le _ _) F.lt) with ⟨q1,q2⟩ | ⟨m,i,q1,q2,q3,q4,q5,q6⟩
  ·rw [q1] at hp'
   subst hp'
   dsimp only
   refine Jae (h _ none (.inr ⟨rfl,fun y hy e=>?_⟩))
   obtain ⟨i,hi,rfl⟩:=Jcl hy
   have hl:i < t.place.toList.length:=by rw [Jbi,szp]; exact hi
   obtain ⟨n',e1,e2⟩:=S.tb.path (rh prog w xs[i].1,t.place.toList[i]) (Jan (i:=i) (by rw [List.getElem?_zip_eq_some]; exact ⟨by rw [Jbe,Jac hi]; rfl,Jac hl⟩))
   dsimp only at e1 e2
   rw [e] at e1 e2
   have lt:n' < N:=by
    refine Nat.lt_of_not_le fun c=>?_
    rcases Jdr c with rfl | c
    ·exact F.no (by rw [e1]; exact Jcc _)
    ·exact F.no (e2 N c)
   have ep:t.place[i]? = some (pr t.mask (rh prog w k) n').j:=by rw [<- Jb9,Jac hl,e1]
   rcases Jeg n' n with c | c
   ·exact past n' c i ep hi e
   ·exact q2 n' c lt i ep (by rw [hash i hi,e])
  ·rw [q5] at hp'
   subst hp'
   dsimp only
   have hi:i < xs.length:=by rw [<- szp]; exact (Jcw.1 q3).1
   have ee:=Zrp (prog:=prog) (w:=w) hi
   have key:=R _ (Jcc hi)
   have fe:(((es prog w xs).filter (·.1 == rh prog w k)).toList.map (·.2)) = (xs.filter (fun y=>rh prog w y.1 == rh prog w k)).map (Value.ref ·.2):=by
    unfold es
    rw [List.filter_toArray,List.filter_map,Jb6]
    rfl
   by_cases hl:(!t.led) = true
   rw [if_pos hl,fe]
   refine Jaa (seen_no hk (fun y hy=>R y (Jas.1 hy).1) ?_)
   rw [if_neg (by decide),ee]
   rotate_left
   rw [if_neg hl,ee]
   all_goals
    dsimp only [ent]
    refine Jaa (Jbv (wpAny_eqBool_tuple hu key hk ?_))
    refine Jaa (Jcn ho hd S.fits ?_)
    dsimp only
    by_cases c:xs[i].1 = k
    ·rw [Ja2 c]
     by_cases ca:ad = true
     ·subst ca
      rw [if_pos (by decide)]
      exact Jae (h _ none (.inl ⟨rfl,(fun z=>by cases z),_,Jcc hi,c⟩))
     ·rw [if_neg (by simp [ca])]
      unfold SetTable.sameMemory
      rw [if_pos (Jdb _)]
      dsimp only
      rw [if_pos rfl,Zfb S.tb.inc q3]
      dsimp only
      rw [ee]
      refine Jaa (wpAny_isSame_ref_self (Jaa (Jae ?_)))
      rw [if_pos rfl]
      dsimp only
      rw [if_pos rfl]
      exact Jae (h _ (some i) (.inl ⟨rfl,(fun _ z=>by cases z),_,Jcc hi,c⟩))
    ·rw [Jb7 c,if_neg (by simp)]
     unfold SetTable.sameMemory
     rw [if_pos (Jdb _)]
     dsimp only
     rw [if_pos rfl,Zfb S.tb.inc q3]
     dsimp only
     rw [ee]
     refine Jaa (wpAny_isSame_ref_self (Jaa (Jae ?_)))
     rw [if_pos rfl]
     dsimp only
     rw [if_neg (by decide)]
     refine ih (m + 1) _ q2 (by omega) rfl fun n' ln i' e' hi'=>?_
     rcases Jeg n' n with d | d
     ·exact past n' d i' e' hi'
     ·rcases Jdr (Jen.1 ln) with rfl | ln
      ·have:i' = i:=(Zej S.tb.inc e').symm.trans (Zej S.tb.inc q3)
       subst this; exact c
      ·intro z
       exact q6 n' d ln i' e' (by rw [hash i' hi',z])
theorem Zo2 {t:SetTable} {h:Int}:t.probeStart h = pr t.mask h 0:=rfl
theorem Zhs {a x:Addr} {k:List Int} {xs:List (List Int × Addr)} {t:SetTable} {ad:Bool} {Q:SetFound->Shared->Prop} (hu:A.units < cLine) (S:SetAt prog w s.heap a xs t) (R:Zf2 prog w s.heap xs) (hk:IsTupleKey (intKind prog w) s.heap k x)
  (hy:∀ i,(ad = false->i ≠ none)->(∃ y ∈ xs,y.1 = k)->Q (.there i) s) (hn:∀ N,Fst t.mask t.place.toList (rh prog w k) N->(∀ y ∈ xs,y.1 ≠ k)->Q (.free (pr t.mask (rh prog w k) N).j false) s):
  wpAny (model prog w) A (setSearch a (.ref x) (rh prog w k) ad) Q E s:=by
 obtain ⟨N,F⟩:=Zri S.tb.m S.tb.len (rh prog w k)
 refine Zis hu S R hk F (fun r i q=>?_) 100000 0 none (Jbx _) ?_ Zo2 fun n' h'=>absurd h' (Jeo _)
 ·rcases q with ⟨rfl,q1,q2⟩ | ⟨rfl,q⟩
  ·exact hy i q1 q2
  ·exact hn N F q
 ·have:=F.lt
  have m:=S.tb.m
  unfold turns at this
  rcases m with e | e | e | e <;> rw [e] at this <;> omega
theorem Znd {x:Addr} {es:Array (Int × Value)}:byScan (.ref x) es = false:=rfl
theorem find_ok {a x:Addr} {k:List Int} {xs:List (List Int × Addr)} {t:SetTable} {Q:Option Nat->Shared->Prop} (hu:A.units < cLine) (S:SetAt prog w s.heap a xs t) (R:Zf2 prog w s.heap xs) (hk:IsTupleKey (intKind prog w) s.heap k x)
  (h:∀ r:Option Nat,(r.isSome = true ↔ ∃ y ∈ xs,y.1 = k)->Q r s):wpAny (model prog w) A (setFind a (.ref x) (rh prog w k)) Q E s:=by
 obtain ⟨o,ep,ho,hex,hd⟩:=S.ex
 unfold setFind
 unfold setFindIn
 refine Jaa (Jcn ho hd S.fits ?_)
 dsimp only
 rw [if_neg (by rw [Znd]; decide)]
 refine Jaa (Zhs hu S R hk (fun i hi hy=>?_) fun N F hn=>?_)
 ·refine Jae (h _ ⟨fun _=>hy,fun _=>?_⟩)
  cases i with
  | none=>exact absurd rfl (hi rfl)
  | some _=>rfl
 ·refine Jae (h _ ⟨fun z=>(by cases z),fun ⟨y,hy,e⟩=>absurd e (hn y hy)⟩)
theorem Zjg {k:List Int} {x:Addr} {Q:Bool->Shared->Prop} (hk:IsTupleKey (intKind prog w) s.heap k x) (h:Q true s):wpAny (model prog w) A (hashByValue 8 (.ref x)) Q E s:=by
 have hT:=hk.typeIs
 obtain ⟨o,items,n,ho,_,hd,hi⟩:=hk
 have nts:∀ v ∈ items.toList,∃ z t,v = Value.int z t:=by
  have:∀ {k:List Int} {vs:List Value},ItemsAre (intKind prog w) k vs->∀ v ∈ vs,∃ z t,v = Value.int z t:=by
   intro k vs hi
   induction hi with
   | nil=>intro v hv; cases hv
   | cons h1 _ ih=>
    intro v hv
    rcases Jam.1 hv with rfl | hv
    ·obtain ⟨t,e⟩:=Jf4 h1; exact ⟨_,t,e⟩
    ·exact ih v hv
  exact this hi
 unfold hashByValue
 refine Jaa (Jel hT F.slot_tuple_hash.lookup ?_)
 show wpAny _ _ (seqItems? (.ref x) >>= _) _ _ _
 refine Jaa (wpAny_seqItems ho hd ?_)
 refine Jaa ?_
 show wpAny _ _ (forIn items _ _) _ _ s
 rw [<- Array.forIn_toList]
 refine wpAny_forIn_list _ (fun rest r s'=>r.1 = none/\s' = s/\∀ v ∈ rest,∃ z t,v = Value.int z t) _ ?_ ?_ _ _ ⟨rfl,rfl,nts⟩
 ·rintro v rest r s' ⟨hr,rfl,hall⟩
  obtain ⟨z,t,rfl⟩:=hall v (.head _)
  have e:hashByValue 7 (.int z t) = pure true:=by unfold hashByValue; rfl
  rw [e]
  refine Jaa (Jae ?_)
  rw [if_neg (by decide)]
  exact Jae ⟨rfl,rfl,fun u hu'=>hall u (.tail _ hu')⟩
 ·rintro ⟨r1,r2⟩ s' ⟨hr,rfl,_⟩
  dsimp only at hr
  subst hr
  exact Jae h
theorem Zn4 {m n:Nat} (hm:Mk m) (f:n * 5 < m * 3) (g:m * 3<=(n + 1) * 5) (hn:n + 1<=256):Mk (sizeAbove (grown (n + 1)) - 1)/\(n + 1) * 5 < (sizeAbove (grown (n + 1)) - 1) * 3/\n + 1<=sizeAbove (grown (n + 1)) - 1/\sizeAbove (grown (n + 1))<=sizeLine:=by
 rcases hm with rfl | rfl | rfl | rfl
 ·have:n = 4:=by omega
  subst this; exact ⟨.inr (.inl (by decide +kernel)),by decide +kernel,by decide +kernel,by decide +kernel⟩
 ·have:n = 18:=by omega
  subst this; exact ⟨.inr (.inr (.inl (by decide +kernel))),by decide +kernel,by decide +kernel,by decide +kernel⟩
 ·have:n = 76:=by omega
  subst this; exact ⟨.inr (.inr (.inr (by decide +kernel))),by decide +kernel,by decide +kernel,by decide +kernel⟩
 ·omega
theorem ins_es {xs:List (List Int × Addr)} {p:Nat} {y:List Int × Addr}:insertAt (es prog w xs) p (ent prog w y) = es prog w (xs.take p ++ y :: xs.drop p):=by
 apply Array.toList_inj.1
 rw [Zkh]
 simp [es]
theorem Zdo {α β:Type} {f:α->β} {l m:List β} (p:l.Perm m):∀ {xs:List α},m = xs.map f->∃ ys:List α,ys.Perm xs/\l = ys.map f:=by
 induction p with
 | nil=>intro xs e; exact ⟨[],by rw [List.map_eq_nil_iff.1 e.symm],rfl⟩
 | cons x p ih=>
  intro xs e
  obtain ⟨a,l,rfl,rfl,e'⟩:=Jfc.1 e.symm
  obtain ⟨ys,q,rfl⟩:=ih e'.symm
  exact ⟨a :: ys,q.cons _,rfl⟩
 | swap x y l=>
  intro xs e
  obtain ⟨a,l1,rfl,rfl,e'⟩:=Jfc.1 e.symm
  obtain ⟨b,l2,rfl,rfl,e''⟩:=Jfc.1 e'
  exact ⟨b :: a :: l2,.swap _ _ _,by rw [<- e'']; rfl⟩
 | trans p q ih1 ih2=>
  intro xs e
  obtain ⟨ys,r,e'⟩:=ih2 e
  obtain ⟨zs,r',e''⟩:=ih1 e'
  exact ⟨zs,r'.trans r,e''⟩
theorem Zo6 {a:Addr} {o:Obj} {ep n:Nat} {xs:List (List Int × Addr)} {t:SetTable} {Q:Unit->Shared->Prop} (ho:s.heap.get? a = some o) (hex:o.ExactSet) (hd:o.data = .set (es prog w xs) ep t) (hf:t.fits (es prog w xs).size = true) (hp:t.plain = true)
  (M:Mk (sizeAbove n - 1)/\xs.length * 5 < (sizeAbove n - 1) * 3/\xs.length<=sizeAbove n - 1/\sizeAbove n<=sizeLine)
  (h:∀ h' xs' t',Heap.SameBut a s.heap h'->xs'.Perm xs->SetAt prog w h' a xs' t'->t'.led = t.led->Q () { s with heap:=h' }):wpAny (model prog w) A (setRelay a n) Q E s:=by
 obtain ⟨m1,m2,m3,m4⟩:=M
 unfold setRelay
 refine Jaa (Jcn ho hd hf ?_)
 dsimp only
 rw [if_neg (Nat.not_lt.2 m4)]
 obtain ⟨t',od,e1,e2,e3,e4,e5⟩:=laid_ok (f:=t.finger) (mv:=t.movedTo (sizeAbove n - 1)) (ld:=t.led) (pn:=t.plain) m1 (es:=es prog w xs) (by rw [Zcu]; exact m3) (by rw [Zcu]; exact m2)
 have e1':t.relaid ((es prog w xs).map (·.1)) n = some (t',od):=e1
 rw [e1']
 obtain ⟨ys,py,ey⟩:=Zdo e4 (xs:=xs) (f:=ent prog w) (by simp [es])
 have ez:Array.filterMap (fun x=>(es prog w xs)[x]?) od = es prog w ys:=by
  apply Array.toList_inj.1
  rw [ey]; simp [es]
 rw [ez] at e5
 have sz:(es prog w ys).size = (es prog w xs).size:=by rw [Zcu,Zcu,py.length_eq]
 show wpAny (model prog w) A ((if ((Array.filterMap (fun x=>(es prog w xs)[x]?) od).size != (es prog w xs).size) = true then (unsupported "internal:set-table-lost-an-element" : Sem Unit) >>= fun _=>pure (Array.filterMap (fun x=>(es prog w xs)[x]?) od,t') else pure (Array.filterMap (fun x=>(es prog w xs)[x]?) od,t')) >>= fun x=>storeSet a x.1 x.2) Q E s
 rw [ez,if_neg (by rw [sz]; simp)]
 refine Jaa (Jae ?_)
 dsimp only
 have T':Tb t' (ys.map fun x=>rh prog w x.1):=by
  have:(es prog w ys).toList.map (·.1) = ys.map fun x=>rh prog w x.1:=by simp [es]; intro _ _ _; rfl
  rwa [this] at e5
 refine wpAny_storeSet_of ho hd (h _ ys t' (Jc0 ..) py ⟨⟨{ o with data:=.set (es prog w ys) (ep + 1) t' },ep + 1,?_,hex,rfl⟩,T',e3.trans hp⟩ e2) ?_
 ·have:=Jb2 (Obj.putSet (es prog w ys) t') ho (by rw [putSet_of (es prog w ys) t' hd]; rfl)
  rw [putSet_of (es prog w ys) t' hd] at this; exact this
 ·rw [Zcu,py.length_eq]; omega
theorem add_ok {a x:Addr} {k:List Int} {xs:List (List Int × Addr)} {t:SetTable} {Q:Bool->Shared->Prop} (hu:A.units < cLine) (S:SetAt prog w s.heap a xs t) (R:Zf2 prog w s.heap xs) (hk:IsTupleKey (intKind prog w) s.heap k x) (hl:xs.length + 1<=256)
  (hy:(∃ y ∈ xs,y.1 = k)->Q false s) (hn:(∀ y ∈ xs,y.1 ≠ k)->∀ h' xs' t',Heap.SameBut a s.heap h'->xs'.Perm ((k,x) :: xs)->SetAt prog w h' a xs' t'->t'.led = t.led->Q true { s with heap:=h' }):
  wpAny (model prog w) A (setAddHashed a (.ref x) (rh prog w k)) Q E s:=by
 obtain ⟨o,ep,ho,hex,hd⟩:=S.ex
 unfold setAddHashed
 refine Jbv ?_
 unfold setAddHashedIn
 refine Jaa (Jcn ho hd S.fits ?_)
 dsimp only
 rw [if_neg (by rw [Znd]; decide)]
 refine Jaa (Zhs hu S R hk (fun i _ q=>Jae (hy q)) fun N F q=>?_)
 dsimp only
 refine Jaa (Jcn ho hd S.fits ?_)
 dsimp only
 have pl:(t.put (pr t.mask (rh prog w k) N).j).1.plain = true:=S.pl
 have ld:(t.put (pr t.mask (rh prog w k) N).j).1.led = t.led:=rfl
 have mk:(t.put (pr t.mask (rh prog w k) N).j).1.mask = t.mask:=rfl
 have dm:=Zfm (t:=t) (j:=(pr t.mask (rh prog w k) N).j) S.tb.d
 have pls:=Zc1 (t:=t) (j:=(pr t.mask (rh prog w k) N).j)
 have szp:t.place.size = xs.length:=by have:=S.tb.sz; rwa [Jab] at this
 have few:=S.tb.few
 rw [Jab] at few
 have szq:(t.put (pr t.mask (rh prog w k) N).j).1.place.size = xs.length + 1:=by
  rw [<- Jbi,pls,Jaj,Jau,Ja1,Jcv,Jbi,szp]; omega
 have put:=S.tb.put F
 generalize t.put (pr t.mask (rh prog w k) N).j = tp at pl ld mk dm pls szq put ⊢
 obtain ⟨t1,p⟩:=tp
 dsimp only at pl ld mk dm pls szq put ⊢
 rw [if_pos pl]
 refine Jaa (Zjg hk ?_)
 rw [if_pos rfl]
 have fill:t1.fill = xs.length + 1:=by unfold SetTable.fill; rw [szq,dm]; rfl
 have pm:(xs.take p ++ (k,x) :: xs.drop p).Perm ((k,x) :: xs):=by
  have:=(List.perm_middle (a:=(k,x)) (l₁:=xs.take p) (l₂:=xs.drop p))
  rwa [Jbt] at this
 have ll:=pm.length_eq
 rw [Jau] at ll
 rw [show (rh prog w k,Value.ref x) = ent prog w (k,x) from rfl,ins_es]
 have fits:t1.fits (es prog w (xs.take p ++ (k,x) :: xs.drop p)).size = true:=by
  rw [Zcu,ll]
  unfold SetTable.fits
  rw [fill,szq,mk]
  simp; omega
 have g1:(s.heap.update a (Obj.putSet (es prog w (xs.take p ++ (k,x) :: xs.drop p)) t1)).get? a = some { o with data:=.set (es prog w (xs.take p ++ (k,x) :: xs.drop p)) (ep + 1) t1 }:=by
  have:=Jb2 (Obj.putSet (es prog w (xs.take p ++ (k,x) :: xs.drop p)) t1) ho (by rw [putSet_of _ t1 hd]; rfl)
  rw [putSet_of _ t1 hd] at this; exact this
 refine Jaa (wpAny_storeSet_of ho hd ?_ (by rw [Zcu,ll,Jde]; omega))
 by_cases c:(!false && t1.tooFull) = true
 ·rw [if_pos c]
  have c':t.mask * 3<=(xs.length + 1) * 5:=by
   have:t1.tooFull = true:=by simpa using c
   unfold SetTable.tooFull at this
   rw [fill,mk] at this
   simpa using this
  refine Jaa (Zo6 (s:={ s with heap:=s.heap.update a (Obj.putSet (es prog w (xs.take p ++ (k,x) :: xs.drop p)) t1) }) g1 hex rfl fits pl ?_ fun h' xs' t' sb pm' S' l'=>Jae (hn q h' xs' t' ⟨sb.1.trans (Jc0 ..).1,fun b hb=>(sb.2 b hb).trans ((Jc0 ..).2 b hb)⟩ (pm'.trans pm) S' (l'.trans ld)))
  rw [ll,Zcu]
  exact Zn4 S.tb.m few c' hl
 ·rw [if_neg c]
  have c':(xs.length + 1) * 5 < t.mask * 3:=by
   have:¬ t1.tooFull = true:=by simpa using c
   unfold SetTable.tooFull at this
   rw [fill,mk] at this
   simpa using this
  refine Jae (hn q _ _ t1 (Jc0 ..) pm ⟨⟨_,ep + 1,g1,hex,rfl⟩,?_,pl⟩ ld)
  have:=put (by rw [Jab]; exact c')
  rw [<- Jgb,<- List.map_drop] at this
  rw [Jbf,Jax]
  exact this
theorem notIn_ok {a x:Addr} {k:List Int} {xs:List (List Int × Addr)} {t:SetTable} {Q:Value->Shared->Prop} (hu:A.units + 1 < cLine) (S:SetAt prog w s.heap a xs t) (R:Zf2 prog w s.heap xs) (hk:IsTupleKey (intKind prog w) s.heap k x)
  (h:∀ b:Bool,(b = true ↔ ∀ y ∈ xs,y.1 ≠ k)->Q (.bool b) { s with toks:=s.toks + (k.length + 1) }):wpAny (model prog w) A (compareOp .NotIn (.ref x) (.ref a)) Q E s:=by
 show wpAny _ _ (do return .bool (!(<- contains (.ref a) (.ref x)))) Q E s
 refine Jaa ?_
 unfold contains
 try with_reducible refine Jbv ?_
 refine Jaa (Jel S.typeIs Jfm.lookup ?_)
 show wpAny _ _ (if (some (Value.builtin "set.__contains__") == some Value.none) = true then _ else _) _ E s
 rw [if_neg (by rw [beq_builtin_none]; exact Jar)]
 refine Jaa (wpAny_callSpecialUnlessNone?_slot (name:=Str.ofString "__contains__") S.typeIs Jfm
  (Jdc Jfm S.typeIs entry_set_contains ?_ (F.args_set_contains_2 _ _)))
 unfold Builtin.«frozenset.__contains__» Builtin.Frozenset.oneOther
 simp only [Jea,bind_assoc]
 unfold Builtin.Frozenset.addrOf Builtin.Frozenset.withSetAsKey setContains
 refine Jaa (Jae ?_)
 try dsimp only
 refine Jaa (Jae ?_)
 try dsimp only
 refine Jaa (wpAny_tryCatch ?_)
 refine Jbv ?_
 refine Jaa (wpAny_pyHash_tuple ?_ hk ?_)
 ·exact hu
 refine Jaa (find_ok (s:={ s with toks:=s.toks + (k.length + 1) }) ?_ S R hk fun r hr=>?_)
 ·exact hu
 refine Jae ?_
 show wpAny _ _ (ret (Value.bool r.isSome)) _ _ _
 refine Jae ⟨_,rfl,Jb5 (Jae (h _ ?_))⟩
 constructor
 ·intro e y hy c
  rw [hr.2 ⟨y,hy,c⟩] at e; cases e
 ·intro q
  cases e:r.isSome with
  | false=>rfl
  | true=>obtain ⟨y,hy,c⟩:=hr.1 e; exact absurd c (q y hy)
theorem setAdd_ok {a x:Addr} {k:List Int} {xs:List (List Int × Addr)} {t:SetTable} {Q:Value->Shared->Prop} (hu:A.units + 1 < cLine) (S:SetAt prog w s.heap a xs t) (R:Zf2 prog w s.heap xs) (hk:IsTupleKey (intKind prog w) s.heap k x) (hl:xs.length + 1<=256)
  (hy:(∃ y ∈ xs,y.1 = k)->Q .none { s with toks:=s.toks + (k.length + 1) }) (hn:(∀ y ∈ xs,y.1 ≠ k)->∀ h' xs' t',Heap.SameBut a s.heap h'->xs'.Perm ((k,x) :: xs)->SetAt prog w h' a xs' t'->t'.led = t.led->Q .none { s with heap:=h',toks:=s.toks + (k.length + 1) }):
  wpAny (model prog w) A (call (.builtin "set.add") [.ref a,.ref x]) Q E s:=by
 refine Jdc F.slot_set_add S.typeIs F.entry_set_add ?_ (F.args_set_add_2 _ _)
 unfold Builtin.«set.add» Builtin.Frozenset.oneOther
 simp only [Jea,bind_assoc]
 unfold Builtin.Frozenset.addrOf setAdd
 refine Jaa (Jae ?_)
 try dsimp only
 refine Jaa (Jae ?_)
 try dsimp only
 refine Jaa ?_
 refine Jbv ?_
 refine Jaa (wpAny_pyHash_tuple ?_ hk ?_)
 ·exact hu
 refine add_ok (s:={ s with toks:=s.toks + (k.length + 1) }) ?_ S R hk hl (fun q=>?_) fun q h' xs' t' sb pm S' l'=>?_
 ·exact hu
 ·show wpAny _ _ (ret Value.none) _ _ _
  exact Jae ⟨_,rfl,hy q⟩
 ·show wpAny _ _ (ret Value.none) _ _ _
  exact Jae ⟨_,rfl,hn q h' xs' t' sb pm S' l'⟩
end
end St
namespace PySem.F
theorem slot_sit_next:Slot "set_iterator" "__next__" "set_iterator.__next__" :=
 .of (owner:="set_iterator") (n:="__next__") (by rw [typeLookup_type,builtinLookup_eq_fast]; kernel_rfl) (by decide +kernel) (by decide +kernel) (by decide +kernel)
  (by first | exact .inl (by decide +kernel) | exact .inr (by decide +kernel)) (by rw [isSubtype_type]; kernel_rfl)
theorem entry_sit_next:entryFor table "set_iterator.__next__" = some Builtin.«set_iterator.__next__»:=entryFor_of_tree (by kernel_rfl)
theorem Zhx:Manifest.owners.lookup (String.ofList ['r','o','t','a','r','e','t','i','_','t','e','s'].reverse) = some Manifest.sig_set_iterator:=by kernel_rfl
theorem args_sit_next (a:Value):argsOk "set_iterator.__next__" ⟨[a],[]⟩:=by
 unfold argsOk; rw [signature?_of (id:="set_iterator.__next__") (n:=['_','_','t','x','e','n','_','_']) (o:=['r','o','t','a','r','e','t','i','_','t','e','s']) (by kernel_rfl) Zhx]; kernel_rfl
theorem slot_sit_iter:Slot "set_iterator" "__iter__" "set_iterator.__iter__" :=
 .of (owner:="set_iterator") (n:="__iter__") (by rw [typeLookup_type,builtinLookup_eq_fast]; kernel_rfl) (by decide +kernel) (by decide +kernel) (by decide +kernel)
  (by first | exact .inl (by decide +kernel) | exact .inr (by decide +kernel)) (by rw [isSubtype_type]; kernel_rfl)
theorem entry_sit_iter:entryFor table "set_iterator.__iter__" = some Builtin.«dict_keyiterator.__iter__»:=
 entryFor_alias (id':="dict_keyiterator.__iter__") (by kernel_rfl) rfl (by decide +kernel) (by kernel_rfl)
theorem args_sit_iter (a:Value):argsOk "set_iterator.__iter__" ⟨[a],[]⟩:=by
 unfold argsOk; rw [signature?_of (id:="set_iterator.__iter__") (n:=['_','_','r','e','t','i','_','_']) (o:=['r','o','t','a','r','e','t','i','_','t','e','s']) (by kernel_rfl) Zhx]; kernel_rfl
theorem entry_set_iter:entryFor table "set.__iter__" = some Builtin.«frozenset.__iter__»:=
 entryFor_alias (id':="frozenset.__iter__") (by kernel_rfl) rfl (by decide +kernel) (by kernel_rfl)
end PySem.F
namespace St
open PySem PySem.SetTable
theorem Zlj {α:Type} {l:List α} {i:Nat} (h:i < l.length):(l[i] :: l.eraseIdx i).Perm l:=by
 have e:l = l.take i ++ l[i] :: l.drop (i + 1):=by rw [Jet,Jbt]
 rw [List.eraseIdx_eq_take_drop_succ]
 have:=(List.perm_middle (a:=l[i]) (l₁:=l.take i) (l₂:=l.drop (i + 1))).symm
 rwa [<- e] at this
theorem Zmu {α:Type} (next:Nat->Nat):∀ (fuel k:Nat) (left:List α) (out:Array α),left.length = fuel->(pickOrder.go next fuel k left out).toList.Perm (out.toList ++ left)
 | 0,k,left,out,h=>by
  rw [Jc4.1 h,Jdg]; exact .refl _
 | fuel + 1,k,left,out,h=>by
  have hl:next k % left.length < left.length:=Nat.mod_lt _ (by omega)
  unfold pickOrder.go
  rw [Jac hl]
  dsimp only
  refine (Zmu next fuel (k + 1) _ _ (by rw [List.length_eraseIdx_of_lt hl]; omega)).trans ?_
  rw [Jdk,Jba]
  exact Je2 _ (Zlj hl)
def wk (w:World) (a:Addr) (ep:Nat) (E:Array (Int × Value)):Array (Int × Value):=if w.params.followText "set-order" = true then pickOrder (w.params.setOrder a ep) E else E
theorem Zgn (w:World) (a:Addr) (ep:Nat) (E:Array (Int × Value)):(wk w a ep E).toList.Perm E.toList:=by
 unfold wk
 split
 ·unfold pickOrder
  simpa using Zmu (w.params.setOrder a ep) E.size 0 E.toList #[] (by simp)
 ·exact .refl _
def sl (w:World) (t:SetTable):Nat->Nat
 | 0=>0
 | i + 1=>if w.params.followText "set-order" = true then 0 else t.place.getD i 0 + 1
theorem Zgu {w:World} {t:SetTable} {i:Nat}:sl w t (i + 1) = if w.params.followText "set-order" = true then 0 else t.place.getD i 0 + 1:=rfl
def IsSit (h:Heap) (I a:Addr) (j i n ep:Nat):Prop:=∃ o,h.get? I = some o/\o.cls = .type "set_iterator" /\ o.data = .fields #[.int j 0,.int i 0,.ref a,.int n 0,.int ep 0]
theorem Zql {w:World} {t:SetTable} (hi:Inc t.place) (hl:(w.params.followText "set-order") = false):∀ {i:Nat},i<=t.place.size->below t.place (sl w t i) = i
 | 0,_=>by
  obtain ⟨h1,h2,h3⟩:=Zdu (j:=0) hi
  refine Nat.eq_zero_of_not_pos fun c=>?_
  exact absurd (h2 0 (Ja7 c h1) c) (Jeo _)
 | i + 1,h=>by
  rw [Zgu,hl,if_neg (by decide)]
  have e:t.place.getD i 0 = t.place[i]:=by simp [Array.getD,show i < t.place.size by omega]
  rw [e]
  obtain ⟨h1,h2,h3⟩:=Zdu (j:=t.place[i] + 1) hi
  rcases Nat.lt_trichotomy (below t.place (t.place[i] + 1)) (i + 1) with q | q | q
  ·exact absurd (h3 i (by omega) (by omega)) (by omega)
  ·exact q
  ·have:=h2 (i + 1) (by omega) q
   have:=hi.lt (i:=i) (k:=i + 1) (by omega) (by omega)
   omega
section
variable {prog:Program} {w:World} {A:Around} {E:Value->Shared->Prop} {s:Shared}
theorem IsSit.typeIs {I a:Addr} {j i n ep:Nat} (h:IsSit s.heap I a j i n ep):s.TypeIs (.ref I) "set_iterator" := let ⟨o,ho,hc,_⟩:=h; ⟨o,ho,hc⟩
theorem Zne {a:Addr} {o:Obj} {xs:Array (Int × Value)} {ep i:Nat} {t:SetTable} {Q:Option (Value × Nat)->Shared->Prop} (ho:s.heap.get? a = some o) (hd:o.data = .set xs ep t) (hf:t.fits xs.size = true) (hi:Inc t.place) (hp:t.plain = true) (hl:t.led = !(w.params.followText "set-order"))
  (hz:i<=xs.size) (h:Q ((wk w a ep xs)[i]?.map fun e=>(e.2,sl w t (i + 1))) s):wpAny (model prog w) A (setNext a (sl w t i) i ep) Q E s:=by
 have szp:t.place.size = xs.size:=by
  unfold SetTable.fits at hf
  simp at hf; exact hf.1
 unfold setNext
 refine Jaa (Jcn ho hd hf ?_)
 dsimp only
 unfold setsByText
 refine Jaa (Jaa (Jdn (Jae ?_)))
 show wpAny _ _ (if w.params.followText "set-order" = true then _ else _) _ _ _
 by_cases c:w.params.followText "set-order" = true
 ·rw [if_pos c,if_neg (by simp)]
  unfold setWalk
  refine Jaa (Jaa (Jcn ho hd hf ?_))
  dsimp only
  unfold setsByText
  refine Jaa (Jaa (Jdn (Jae ?_)))
  show wpAny _ _ (if w.params.followText "set-order" = true then _ else _) _ _ _
  rw [if_pos c]
  refine Jaa (Jdn (Jae ?_))
  refine Jae ?_
  have e0:sl w t i = 0:=by cases i with
   | zero=>rfl
   | succ i=>rw [Zgu,if_pos c]
  have e1:sl w t (i + 1) = 0:=by rw [Zgu,if_pos c]
  unfold wk at h
  rw [if_pos c,e1] at h
  rw [e0]
  exact h
 ·rw [if_neg c]
  have c':w.params.followText "set-order" = false:=by simpa using c
  rw [c'] at hl
  show wpAny _ _ (if (!t.plain && decide (xs.size > 1)) = true then _ else _) _ _ _
  rw [if_neg (by rw [hp]; simp)]
  show wpAny _ _ ((if (!t.led && !xs.isEmpty) = true then unsupported "set:maker-not-led" else pure ()) >>= _) _ _ _
  rw [if_neg (by rw [hl]; simp)]
  refine Jaa (Jae ?_)
  rw [Zql hi c' (by omega)]
  unfold wk at h
  rw [if_neg c] at h
  refine Jae ?_
  rcases Jeg i xs.size with q | q
  ·have q':i < t.place.size:=by omega
   rw [Ja3 q,Ja3 q']
   rw [Ja3 q] at h
   have e:sl w t (i + 1) = t.place[i] + 1:=by
    rw [Zgu,if_neg c]; simp [Array.getD,q']
   rw [e] at h
   exact h
  ·rw [Jeu q] at h ⊢
   exact h
end
end St
namespace St
open PySem PySem.SetTable
section
variable {prog:Program} {w:World} {A:Around} {E:Value->Shared->Prop} {s:Shared}
structure Walk (w:World) (h:Heap) (a:Addr) (xs:Array (Int × Value)) (ep:Nat) (t:SetTable):Prop where
 at_:∃ o,h.get? a = some o/\o.cls = .type "set" /\ o.data = .set xs ep t
 fits:t.fits xs.size = true
 inc:Inc t.place
 pl:t.plain = true
 led:t.led = !(w.params.followText "set-order")
theorem Walk.keep {h h':Heap} {a:Addr} {xs:Array (Int × Value)} {ep:Nat} {t:SetTable} (W:Walk w h a xs ep t) (k:∀ o,h.get? a = some o->h'.get? a = some o):Walk w h' a xs ep t:=
 ⟨let ⟨o,ho,r⟩:=W.at_; ⟨o,k o ho,r⟩,W.fits,W.inc,W.pl,W.led⟩
theorem iter_ok {a:Addr} {xs:Array (Int × Value)} {ep:Nat} {t:SetTable} {Q:Value->Shared->Prop} (W:Walk w s.heap a xs ep t)
  (h:Q (.ref s.heap.objs.size) { s with heap:=s.heap.push { cls:=.type "set_iterator",data:=.fields #[.int 0 0,.int 0 0,.ref a,.int xs.size 0,.int ep 0] } }):wpAny (model prog w) A (pyIter (.ref a)) Q E s:=by
 obtain ⟨o,ho,hc,hd⟩:=W.at_
 have hT:s.TypeIs (.ref a) "set" := ⟨o,ho,hc⟩
 refine wpAny_pyIter_slot hT F.slot_set_iter (Jdc F.slot_set_iter hT F.entry_set_iter ?_ (F.args_set_iter_1 _))
 unfold Builtin.«frozenset.__iter__» Builtin.Frozenset.slot0 slotArgs
 simp only [Jea,Bool.not_true,Jcp,↓reduceIte,bind_assoc,Jfi,Jd2]
 unfold Builtin.Frozenset.addrOf Builtin.Frozenset.sizeOf
 refine Jaa (Jae ?_)
 try dsimp only
 refine Jaa (Jae ?_)
 refine Jaa (Jaa (Jfn ho hd W.fits (Jae ?_)))
 unfold setDrawn
 refine Jaa (Jaa (Jcn ho hd W.fits ?_))
 dsimp only
 unfold setsByText
 refine Jaa (Jaa (Jdn (Jae ?_)))
 refine Jae ?_
 show wpAny _ _ (if (!_ && (!t.plain && decide (xs.size > 1))) = true then _ else _) _ _ _
 rw [if_neg (by rw [W.pl]; simp)]
 refine Jaa (Jae ?_)
 refine Jaa (wpAny_setEpoch_of ho hd W.fits ?_)
 refine Jaa (Jcm (Jae ⟨_,rfl,"set_iterator",_,⟨_,Jat _ rfl,rfl⟩,F.slot_sit_next.lookup,h⟩))
theorem item_ok {a I:Addr} {xs:Array (Int × Value)} {ep i:Nat} {t:SetTable} {Q:Option Value->Shared->Prop} (W:Walk w s.heap a xs ep t) (hit:IsSit s.heap I a (sl w t i) i xs.size ep) (hi:i < xs.size)
  (h:∀ v h',(wk w a ep xs)[i]?.map (·.2) = some v->IsSit h' I a (sl w t (i + 1)) (i + 1) xs.size ep->Heap.SameBut I s.heap h'->Q (some v) { s with heap:=h' }):wpAny (model prog w) A (pyNext (.ref I)) Q E s:=by
 obtain ⟨o,ho,hc,hd⟩:=W.at_
 obtain ⟨oi,hoi,hci,hdi⟩:=id hit
 have hl:i < (wk w a ep xs).size:=by
  have:=(Zgn w a ep xs).length_eq
  simp at this; omega
 unfold pyNext
 refine Jaa (wpAny_attempt (wpAny_callSpecial?_slot (name:=Str.ofString "__next__") hit.typeIs F.slot_sit_next
  (Jdc F.slot_sit_next hit.typeIs F.entry_sit_next ?_ (F.args_sit_next _))))
 unfold Builtin.«set_iterator.__next__» slotArgs
 simp only [Jea,Bool.not_true,Jcp,↓reduceIte,bind_assoc,Jfi,Jd2]
 refine Jaa (Jae ?_)
 refine Jaa (wpAny_fieldsOf hoi hdi ?_)
 dsimp only
 refine Jaa (Jfn ho hd W.fits ?_)
 rw [if_neg (by simp)]
 rw [Jaw,Jaw,Jaw]
 refine Jaa (Zne ho hd W.fits W.inc W.pl W.led (Jbs hi) ?_)
 rw [Ja3 hl]
 dsimp only [Option.map]
 refine Jaa (Je1 hoi hdi (by simp) ?_)
 have g1:=Jb2 (Obj.mapFields (·.setIfInBounds 0 (rawInt (sl w t (i + 1))))) hoi (Jdx (Jcr hdi _))
 have d1:=Jcr hdi (·.setIfInBounds 0 (rawInt (sl w t (i + 1))))
 refine Jaa (Je1 (s:={ s with heap:=s.heap.update I (Obj.mapFields (·.setIfInBounds 0 (rawInt (sl w t (i + 1))))) }) g1 d1 (by simp) ?_)
 have g2:=Jb2 (Obj.mapFields (·.setIfInBounds 1 (rawInt ((i:Int) + 1)))) g1 (Jdx (Jcr d1 _))
 have d2:=Jcr d1 (·.setIfInBounds 1 (rawInt ((i:Int) + 1)))
 have s1:=Jc0 s.heap I (Obj.mapFields (·.setIfInBounds 0 (rawInt (sl w t (i + 1)))))
 refine Jae ⟨_,rfl,Jae (h _ _ (by rw [Ja3 hl]; rfl) ⟨_,g2,?_,?_⟩ (s1.trans (Jc0 ..)))⟩
 ·rw [Jf8,Jf8]; exact hci
 ·rw [d2]; simp [rawInt]
theorem end_ok {a I:Addr} {xs:Array (Int × Value)} {ep:Nat} {t:SetTable} {Q:Option Value->Shared->Prop} (hh:A.handled = none) (W:Walk w s.heap a xs ep t) (hit:IsSit s.heap I a (sl w t xs.size) xs.size xs.size ep)
  (h:∀ h',Heap.ExtBut I s.heap h'->Q none { s with heap:=h' }):wpAny (model prog w) A (pyNext (.ref I)) Q E s:=by
 obtain ⟨o,ho,hc,hd⟩:=W.at_
 obtain ⟨oi,hoi,hci,hdi⟩:=id hit
 have hl:(wk w a ep xs).size = xs.size:=by
  have:=(Zgn w a ep xs).length_eq
  simpa using this
 unfold pyNext
 refine Jaa (wpAny_attempt (wpAny_callSpecial?_slot (name:=Str.ofString "__next__") hit.typeIs F.slot_sit_next
  (Jdc F.slot_sit_next hit.typeIs F.entry_sit_next ?_ (F.args_sit_next _))))
 unfold Builtin.«set_iterator.__next__» slotArgs
 simp only [Jea,Bool.not_true,Jcp,↓reduceIte,bind_assoc,Jfi,Jd2]
 refine Jaa (Jae ?_)
 refine Jaa (wpAny_fieldsOf hoi hdi ?_)
 dsimp only
 refine Jaa (Jfn ho hd W.fits ?_)
 rw [if_neg (by simp)]
 rw [Jaw,Jaw,Jaw]
 refine Jaa (Zne ho hd W.fits W.inc W.pl W.led (Jaf _) ?_)
 rw [Jeu (by rw [hl]; exact Jaf _)]
 dsimp only [Option.map]
 refine Jaa (Je1 hoi hdi (by simp) ?_)
 show wpAny _ _ (newExc (.type "StopIteration") [] >>= _) _ _ _
 refine Jaa ?_
 simp only [newExc,newTuple]
 refine Jaa (Jcm ?_ (by size_fits))
 refine Jaa (m:=firstArgMember _ _) (wpAny_of_eq (a:=Value.none) (by first | rfl | (simp only [firstArgMember]; rfl)) ?_)
 refine Jcm ?_ (by size_fits)
 simp only [raiseNew]
 refine Jaa (wpAny_handled ?_)
 rw [show A.in1.handled = none from hh]
 refine Jaa (Jae (wpAny_throw ?_))
 refine Jaa (wpAny_isInstance (T:="StopIteration") (b:=true) ⟨_,Jat _ rfl,rfl⟩ isSubtype_stop ?_)
 exact Jae (h _ (((Jc0 ..).extBut.push _).push _))
theorem walks {a I:Addr} {xs:Array (Int × Value)} {ep:Nat} {t:SetTable} (hh:A.handled = none) (hne:a ≠ I):
  Walks prog w A I [I,a] [I] xs.size (fun i v=>(wk w a ep xs)[i]?.map (·.2) = some v) (fun i h=>IsSit h I a (sl w t i) i xs.size ep/\Walk w h a xs ep t) where
 sub:=fun b hb=>by simp at hb; simp [hb]
 frame:=fun i h h' st hk=>⟨let ⟨o,ho,r⟩:=st.1; ⟨o,hk I (by simp) o ho,r⟩,st.2.keep fun o e=>hk a (by simp) o e⟩
 item:=fun i s Q E hi st hQ=>by
  refine item_ok st.2 st.1 hi fun v h' e hit' hs'=>?_
  exact hQ v h' s.toks e ⟨hit',st.2.keep fun o e=>(hs'.2 a hne).trans e⟩ fun b o hb e=>hs'.extBut b o (fun h=>hb (by simp [h])) e
 done:=fun s Q E st hQ=>end_ok hh st.2 st.1 fun h' he'=>hQ h' s.toks fun b o hb e=>he' b o (fun h=>hb (by simp [h])) e
 self:=fun i s Q E st hQ=>by
  refine wpAny_pyIter_slot st.1.typeIs F.slot_sit_iter (Jdc F.slot_sit_iter st.1.typeIs F.entry_sit_iter ?_ (F.args_sit_iter _))
  show wpAny _ _ (ret (.ref I)) _ _ s
  exact Jae ⟨_,rfl,"set_iterator",_,st.1.typeIs,F.slot_sit_next.lookup,hQ⟩
theorem Zk6:typeLookup (.type "set") "__len__" = pure (some (.builtin "set.__len__")):=F.slot_set_len.lookup
theorem Zln {a:Addr} {xs:Array (Int × Value)} {ep:Nat} {t:SetTable} {Q:List Value->Shared->Prop} (hh:A.handled = none) (W:Walk w s.heap a xs ep t) (hn:xs.size<=300)
  (h:∀ s' acc,(∀ b o,s.heap.get? b = some o->s'.heap.get? b = some o)->s'.gens = s.gens->s'.drawn = s.drawn->s'.os = s.os->s.toks<=s'.toks->s.heap.objs.size<=s'.heap.objs.size->acc.Perm (xs.toList.map (·.2))->Q acc s'):
  wpAny (model prog w) A (collect (.ref a)) Q E s:=by
 obtain ⟨o,ho,hc,hd⟩:=W.at_
 unfold collect
 refine Jaa (wpAny_runValue (Jfo F.entry_proto_collect ?_))
 rw [Jfd F.plain_proto_collect _]
 show wpAny _ A.in1 (newList [] >>= fun l=>again (.builtin "list.__iadd__" ⟨[l,.ref a],[]⟩)) _ _ s
 refine Jaa (Jcm ?_)
 refine Jae ⟨plainId_quiet F.plain_list_iadd _,Jfo F.entry_list_iadd ?_⟩
 rw [Jfd F.plain_list_iadd _]
 have hS₁:(s.heap.push { cls:=.type "list",data:=.seq ([]:List Value).toArray }).get? s.heap.objs.size = some { cls:=.type "list",data:=.seq ([]:List Value).toArray }:=Jat _ rfl
 have hSa:s.heap.objs.size ≠ a:=(Ja8 (Jal ho)).symm
 have h1:Builtin.List.listSameRef (.ref s.heap.objs.size) (.ref a) = false:=by simp [Builtin.List.listSameRef,hSa]
 have W1:=W.keep (h':=s.heap.push { cls:=.type "list",data:=.seq ([]:List Value).toArray }) fun o e=>Jad _ e
 obtain ⟨o1,ho1,hc1,hd1⟩:=W1.at_
 show wpAny _ A.in1 (Builtin.List.listExtendWith (.ref s.heap.objs.size) (.ref a) (.ref s.heap.objs.size)) _ _ _
 unfold Builtin.List.listExtendWith
 refine Jaa (wpAny_typeOf (s:={ s with heap:=s.heap.push { cls:=.type "list",data:=.seq ([]:List Value).toArray } }) ⟨o1,ho1,hc1⟩ ?_)
 rw [if_neg (by rw [h1]; decide)]
 refine Jaa (iter_ok (s:={ s with heap:=s.heap.push { cls:=.type "list",data:=.seq ([]:List Value).toArray } }) W1 ?_)
 refine Jaa (Jbv ?_)
 unfold Builtin.List.listLengthHint
 refine Jaa (Jel ⟨o1,Jad _ ho1,hc1⟩ Zk6 ?_)
 (generalize hid:("set.__len__" : String) = id0; (fail_if_success (clear hid id0)); wp_delta; rw [show splitId id0 = some ("set","__len__") from by subst hid; decide +kernel]; subst hid)
 refine Jaa (wpAny_isInstance (b:=true) (T:="set") ⟨o1,Jad _ ho1,hc1⟩ (by rw [isSubtype_type]; kernel_rfl) ?_)
 rw [if_neg (by decide),if_pos (by decide +kernel)]
 refine Jaa (wpAny_typeOf ⟨o1,Jad _ ho1,hc1⟩ ?_)
 refine Jae ?_
 rw [if_pos (by decide +kernel)]
 refine Jaa (Jec ?_)
 have k1:∀ b o,s.heap.get? b = some o->(s.heap.push { cls:=.type "list",data:=.seq ([]:List Value).toArray }).get? b = some o:=fun b o e=>Jad _ e
 have z1:(s.heap.push { cls:=.type "list",data:=.seq ([]:List Value).toArray }).objs.size = s.heap.objs.size + 1:=Jco ..
 generalize hh1:s.heap.push { cls:=.type "list",data:=.seq ([]:List Value).toArray } = h1' at hS₁ W1 ho1 k1 z1
 have k2:∀ b o,h1'.get? b = some o->(h1'.push { cls:=.type "set_iterator",data:=.fields #[.int 0 0,.int 0 0,.ref a,.int xs.size 0,.int ep 0] }).get? b = some o:=fun b o e=>Jad _ e
 have g2:(h1'.push { cls:=.type "set_iterator",data:=.fields #[.int 0 0,.int 0 0,.ref a,.int xs.size 0,.int ep 0] }).get? h1'.objs.size = some { cls:=.type "set_iterator",data:=.fields #[.int 0 0,.int 0 0,.ref a,.int xs.size 0,.int ep 0] }:=Jat _ rfl
 have z2:(h1'.push { cls:=.type "set_iterator",data:=.fields #[.int 0 0,.int 0 0,.ref a,.int xs.size 0,.int ep 0] }).objs.size = h1'.objs.size + 1:=Jco ..
 dsimp only
 generalize h1'.push { cls:=.type "set_iterator",data:=.fields #[.int 0 0,.int 0 0,.ref a,.int xs.size 0,.int ep 0] } = h2' at k2 g2 z2 ⊢
 have hS2:=k2 _ _ hS₁
 have hIS:s.heap.objs.size ≠ h1'.objs.size:=by rw [z1]; exact (Nat.succ_ne_self _).symm
 have haI:a ≠ h1'.objs.size:=by rw [z1]; exact Ja8 (Jc6 (Jal ho))
 refine Jaa ?_
 show wpAny _ A.in1 (updateSeq s.heap.objs.size (·.push .none) >>= fun _=>updateSeq s.heap.objs.size (·.pop)) _ _ _
 refine Jaa (wpAny_updateSeq hS2 rfl ?_)
 have hS₂:=Jb2 (Obj.mapSeq (·.push Value.none)) hS2 rfl
 refine wpAny_updateSeq hS₂ rfl ?_
 have hS₃:=Jb2 (Obj.mapSeq (·.pop)) hS₂ rfl
 have oth:∀ b o,b ≠ s.heap.objs.size->h2'.get? b = some o->
   ((h2'.update s.heap.objs.size (Obj.mapSeq (·.push Value.none))).update s.heap.objs.size (Obj.mapSeq (·.pop))).get? b = some o:=
  fun b o hb e=>(Jcg _ _ (Jds hb)).trans ((Jcg _ _ (Jds hb)).trans e)
 have WS:=(walks (prog:=prog) (w:=w) (A:=A.in1) (a:=a) (I:=h1'.objs.size) (xs:=xs) (ep:=ep) (t:=t) hh haI).toS
 refine Jae ⟨plainId_quiet F.plain_extend_loop _,codeAny_extend_loopS WS (Jay hn (by rw [Jde]; omega)) _ (by simp [hIS,hSa]) _ xs.size 0 _ _ _ rfl (Jbx _)
  ⟨⟨_,oth _ _ hIS.symm g2,rfl,rfl⟩,W1.keep fun o e=>oth _ _ hSa.symm (k2 _ _ e)⟩ hS₃ (ItemsOf.nil _) fun s' acc' c' hm hS' hacc=>?_⟩
 show wpAny _ A (load s.heap.objs.size >>= _) _ _ s'
 refine Jaa (wpAny_load hS' ?_)
 refine Jae (h s' acc'.toList (fun b o e=>?_) hm.gens hm.drawn hm.os hm.toks ?_ ?_)
 ·have lt:=Jal e
  have n1:b ≠ s.heap.objs.size:=Ja8 lt
  have n2:b ≠ h1'.objs.size:=by rw [z1]; exact Ja8 (Jc6 lt)
  exact hm.heap b o (by simp [n1,n2]) (oth b o n1 (k2 _ _ (k1 _ _ e)))
 ·exact Jbs (Jal hS')
 ·have e:acc'.toList = (wk w a ep xs).toList.map (·.2):=by
   refine List.ext_getElem? fun j=>?_
   rw [Jbe,Jb9,Jb9]
   cases c:acc'[j]? with
   | some v=>exact (hacc.2 j v c).symm
   | none=>
    have hl:=(Zgn w a ep xs).length_eq
    rw [Jbi,Jbi] at hl
    rw [Jeu (by have:=Array.getElem?_eq_none_iff.1 c; rw [hacc.1] at this; omega)]
    rfl
  rw [e]
  exact (Zgn w a ep xs).map _
end
end St
namespace St
open PySem PyProof.Rows PySem.W
section
variable {prog:Program} {w:World} {A:Around} {E:Value->Shared->Prop} {s:Shared}
theorem Zre {fin:Bool} {Q:Bool->Shared->Prop} (h:∀ b,Q b s):∀ (l:List (Value × Value)) (i:Nat),(∀ p ∈ l,(∃ a t,p.1 = Value.int a t)/\∃ a t,p.2 = Value.int a t)->KatLex prog w A true fin Q l i s
 | [],i,_=>h _
 | (p,q) :: l,i,hl=>by
  obtain ⟨⟨a,t,e1⟩,b,u,e2⟩:=hl _ (.head _)
  dsimp only at e1 e2
  subst e1 e2
  refine kat_cons (wpAny_eqBool_int ?_)
  by_cases c:(a == b) = true
  ·rw [c]; exact kat_yes (Zre h l (i + 1) fun p hp=>hl p (.tail _ hp))
  ·rw [show (a == b) = false by simpa using c]
   refine kat_no ?_
   cases i with
   | zero=>exact oneLt_int (h _)
   | succ i=>
    rw [show (true && i + 1 == 0) = false by simp]
    refine kat_one _ _ ?_
    exact wpAny_lt_int (h _)
theorem Zfl {k:List Int} {x:Addr} {h:Heap} (hk:IsTupleKey (intKind prog w) h k x):∃ o items n,h.get? x = some o/\o.cls = .type "tuple" /\ o.data = .seq items n/\(∀ v ∈ items.toList,∃ a t,v = Value.int a t)/\items.size = k.length:=by
 obtain ⟨o,items,n,ho,hc,hd,hi⟩:=hk
 refine ⟨o,items,n,ho,hc,hd,?_,?_⟩
 ·have:∀ {k:List Int} {vs:List Value},ItemsAre (intKind prog w) k vs->∀ v ∈ vs,∃ z t,v = Value.int z t:=by
   intro k vs hi
   induction hi with
   | nil=>intro v hv; cases hv
   | cons h1 _ ih=>
    intro v hv
    rcases Jam.1 hv with rfl | hv
    ·obtain ⟨t,e⟩:=Jf4 h1; exact ⟨_,t,e⟩
    ·exact ih v hv
  exact this hi
 ·have:=hi.length
  rw [this]; simp
theorem row_lt {k k':List Int} {x y:Addr} {Q:Bool->Shared->Prop} (hx:IsTupleKey (intKind prog w) s.heap k x) (hy:IsTupleKey (intKind prog w) s.heap k' y) (h:∀ b,Q b s):wpAny (model prog w) A (keyLt' (tuples' true) (.ref x) (.ref y)) Q E s:=by
 obtain ⟨ox,xs,n,h1,h2,h3,h4,_⟩:=Zfl hx
 obtain ⟨oy,ys,m,g1,g2,g3,g4,_⟩:=Zfl hy
 refine kat_lt h1 h3 g1 g3 (Zre h _ 0 fun p hp=>?_)
 obtain ⟨p1,p2⟩:=p
 have:=Jej hp
 exact ⟨h4 _ this.1,g4 _ this.2⟩
theorem Zou {a₀:Array Keyed} (h:∀ x ∈ a₀,∃ k a,x.1 = Value.ref a/\IsTupleKey (intKind prog w) s.heap k a):Zox prog w A E s a₀ (tuples' true):=by
 intro x hx y hy st hs Q hQ
 obtain ⟨k,a,e1,r1⟩:=h x hx
 obtain ⟨k',a',e2,r2⟩:=h y hy
 rw [lt'_eq]
 refine Jai (Jf2 ?_)
 rw [hs,e1,e2]
 refine Jai (wpS_lift (wpAny_attempt (row_lt r1 r2 fun b=>⟨rfl,?_⟩)))
 exact Jao (hQ b)
theorem Zno:∀ {xs:List (List Int × Addr)},0 < xs.length->(∀ x ∈ xs,IsTupleKey (intKind prog w) s.heap x.1 x.2/\0 < x.1.length)->∀ {Q:SortKind->Shared->Prop},Q (tuples' true) s->wpAny (model prog w) A (keyKind' (xs.map (Value.ref ·.2)).toArray) Q E s:=by
 intro xs h0 hx Q hQ
 have:∀ xs:List (List Int × Addr),(∀ x ∈ xs,IsTupleKey (intKind prog w) s.heap x.1 x.2/\0 < x.1.length)->∃ fs,KatTups s.heap (xs.map (Value.ref ·.2)) fs/\fs.length = xs.length/\∀ v ∈ fs,∃ a t,v = Value.int a t:=by
  intro xs
  induction xs with
  | nil=>intro _; exact ⟨[],.nil,rfl,fun v hv=>by cases hv⟩
  | cons x xs ih=>
   intro hx
   obtain ⟨fs,q1,q2,q3⟩:=ih fun y hy=>hx y (.tail _ hy)
   obtain ⟨h1,h2⟩:=hx x (.head _)
   obtain ⟨o,items,n,e1,e2,e3,e4,e5⟩:=Zfl h1
   have hl:0 < items.size:=by omega
   refine ⟨items[0] :: fs,.cons e1 e2 e3 (Ja3 hl) q1,by rw [Jau,Jau,q2],fun v hv=>?_⟩
   rcases Jam.1 hv with rfl | hv
   ·exact e4 _ (by simp)
   ·exact q3 v hv
 obtain ⟨fs,q1,q2,q3⟩:=this xs hx
 refine kat_kind q1 (by omega) (T:=.type "int") (fun v hv=>?_) (by decide) hQ
 obtain ⟨a,t,rfl⟩:=q3 v hv
 exact .now
theorem Zl9 {a:Addr} {xs:List (List Int × Addr)} {n:Nat} {P:Fin->Shared->Prop} (ho:s.heap.get? a = some (seqObj "list" (xs.map (Value.ref ·.2)).toArray n))
  (R:∀ x ∈ xs,IsTupleKey (intKind prog w) s.heap x.1 x.2/\0 < x.1.length) (hz:xs.length<=300)
  (h:∀ out:Array Value,out.toList.Perm (xs.map (Value.ref ·.2))->P (.done (.ret .none)) { s with heap:=sortedHeap s.heap a (xs.map (Value.ref ·.2)) out }):
  wpAny (model prog w) A (Builtin.«list.sort» ⟨[.ref a],[]⟩) P E s:=by
 rw [list_sort_plain]
 have ha:a < s.heap.objs.size:=Jal ho
 have hsz:(xs.map (Value.ref ·.2)).toArray.size = xs.length:=by simp
 have hz':xs.length<=sizeLine:=Jay hz (by rw [Jde]; omega)
 refine Jaa (listItems_at ho rfl ?_)
 refine Jaa (listUpdate_at ho rfl ?_ (by rw [hsz]; exact hz') (Jbx _))
 obtain ⟨e1,ho1⟩:∃ e1,(s.heap.update a (Obj.mapSeq fun _=>#[])).get? a = some (seqObj "list" #[] e1):=⟨_,get?_update_seq ho (fun _=>#[])⟩
 refine Jaa (seqEpoch_at ho1 rfl ?_)
 refine Jaa (wpAny_newTuple ?_ (by rw [Jab]; exact hz'))
 refine Jaa (wpAny_newList ?_ (Jbx _))
 refine Jbv ?_
 have ho6:(((s.heap.update a (Obj.mapSeq fun _=>#[])).push (seqObj "tuple" (xs.map (Value.ref ·.2)).toArray 0)).push (seqObj "list" #[] 0)).get? a = some (seqObj "list" #[] e1):=by
  rw [Heap.get?_push_ne _ _ _ (by rw [size_push',Heap.size_update]; exact Ja8 (Jc6 ha)),Heap.get?_push_ne _ _ _ (by rw [Heap.size_update]; exact Ja8 ha)]
  exact ho1
 show wpAny (model prog w) A _ P E { s with heap:=((s.heap.update a (Obj.mapSeq fun _=>#[])).push (seqObj "tuple" (xs.map (Value.ref ·.2)).toArray 0)).push (seqObj "list" #[] 0) }
 dsimp only
 have snd:∀ {q:Array Keyed},q.Perm (pairsOf (xs.map (Value.ref ·.2)))->(q.map (·.2)).toList.Perm (xs.map (Value.ref ·.2)):=by
  intro q hq
  rw [Array.toList_map]
  have:(q.toList.map (·.2)).Perm ((pairsOf (xs.map (Value.ref ·.2))).toList.map (·.2)):=(Array.perm_iff_toList_perm.1 hq).map _
  rw [pairsOf_toList] at this
  refine this.trans (.of_eq ?_)
  rw [List.map_snd_zip]; exact Jaf _
 by_cases h2:(xs.map (Value.ref ·.2)).toArray.size < 2
 ·rw [if_pos h2,if_pos h2]
  refine Jaa (Jae ?_)
  rw [StateT.run_pure]
  refine Jaa (Jae ?_)
  dsimp only
  refine Jaa (seqEpoch_at ho6 rfl ?_)
  refine Jaa (listUpdate_at ho6 rfl ?_ (Jbx _) (by rw [Array.size_map]; show (pairsOf (xs.map (Value.ref ·.2))).size<=_; rw [pairsOf_size,Jab]; omega))
  simp only [Jd2,Jcp,Jfs]
  exact Jae (h _ (snd (Array.Perm.refl _)))
 ·rw [if_neg h2,if_neg h2]
  have keep:∀ x ∈ xs,IsTupleKey (intKind prog w) (((s.heap.update a (Obj.mapSeq fun _=>#[])).push (seqObj "tuple" (xs.map (Value.ref ·.2)).toArray 0)).push (seqObj "list" #[] 0)) x.1 x.2/\0 < x.1.length:=by
   intro x hx
   obtain ⟨⟨o,items,m,q1,q2,q3⟩,hl⟩:=R x hx
   have ne:x.2 ≠ a:=by
    intro e
    rw [e,ho] at q1
    cases q1
    exact absurd q2 (by simp [seqObj])
   refine ⟨⟨o,items,m,Jad _ (Jad _ ?_),q2,q3⟩,hl⟩
   rw [Heap.get?_update_ne _ _ _ _ ne]; exact q1
  refine Jaa (Zno (s:={ s with heap:=((s.heap.update a (Obj.mapSeq fun _=>#[])).push (seqObj "tuple" (xs.map (Value.ref ·.2)).toArray 0)).push (seqObj "list" #[] 0) }) (by rw [hsz] at h2; omega) keep ?_)
  have asks:=Zou (prog:=prog) (w:=w) (A:=A) (E:=E) (s:={ s with heap:=((s.heap.update a (Obj.mapSeq fun _=>#[])).push (seqObj "tuple" (xs.map (Value.ref ·.2)).toArray 0)).push (seqObj "list" #[] 0) }) (a₀:=pairsOf (xs.map (Value.ref ·.2))) (by
   intro x hx
   have hx:x ∈ (pairsOf (xs.map (Value.ref ·.2))).toList:=by simpa using hx
   rw [pairsOf_toList] at hx
   obtain ⟨x1,x2⟩:=x
   obtain ⟨y,hy,e⟩:=Jak.1 (Jej hx).1
   exact ⟨y.1,y.2,e.symm,(keep y hy).1⟩)
  have run:=sort_ok (st:=SortSt.mk' (tuples' true) ((xs.map (Value.ref ·.2)).toArray.zip (xs.map (Value.ref ·.2)).toArray) #[] 7 none) (Q:=fun _ st'=>(arrOf st').Perm (pairsOf (xs.map (Value.ref ·.2)))/\failedOf st' = none) asks rfl (Array.Perm.refl _) rfl rfl fun st' p f=>⟨p,f⟩
  refine Jaa (Jbk run ?_ fun _ _ e=>e)
  rintro ⟨⟨⟩,st'⟩ s' ⟨rfl,hp,hf⟩
  dsimp only
  refine Jaa (seqEpoch_at ho6 rfl ?_)
  refine Jaa (listUpdate_at ho6 rfl ?_ (Jbx _) (by refine Jay (Jfr ((Array.size_map ..).trans (hp.size_eq.trans (pairsOf_size _)))) ?_; rw [Jab]; omega))
  rw [hf]
  simp only [Jd2,Jcp,Jfs]
  exact Jae (h _ (snd hp))
theorem sorted_set {a:Addr} {xs:List (List Int × Addr)} {t:SetTable} {Q:Value->Shared->Prop} (hh:A.handled = none) (S:SetAt prog w s.heap a xs t) (hl:t.led = !(w.params.followText "set-order")) (R:∀ x ∈ xs,IsTupleKey (intKind prog w) s.heap x.1 x.2/\0 < x.1.length) (hz:xs.length<=256)
  (h:∀ s' l e (ys:List (List Int × Addr)),ys.Perm xs->(∀ b o,s.heap.get? b = some o->s'.heap.get? b = some o)->s'.gens = s.gens->s'.drawn = s.drawn->s'.os = s.os->s.toks<=s'.toks->s.heap.objs.size<=l->s'.heap.get? l = some (seqObj "list" (ys.map (Value.ref ·.2)).toArray e)->Q (.ref l) s'):
  wpAny (model prog w) A (call (.builtin "sorted") [.ref a]) Q E s:=by
 obtain ⟨o,ep,ho,hex,hd⟩:=S.ex
 refine Calls.call_function_entry kind_sorted plain_sorted entry_sorted (args_sorted1 _) ?_
 unfold Builtin.«sorted»
 refine Jaa (m:=checkCount "sorted" 1 1 _) (Jae ?_)
 refine Jaa (Zln (t:=t) hh ⟨⟨o,ho,hex.1,hd⟩,S.fits,S.tb.inc,S.pl,hl⟩ (by rw [Zcu]; omega) fun s1 acc k1 g1 d1 o1 t1 z1 pm=>?_)
 obtain ⟨zs,pz,rfl⟩:=Zdo pm (xs:=xs) (f:=(Value.ref ·.2)) (by simp [es,ent])
 refine Jaa (wpAny_newList ?_ (by rw [Jab,pz.length_eq,Jde]; omega))
 have gl:(s1.heap.push (seqObj "list" (zs.map (Value.ref ·.2)).toArray 0)).get? s1.heap.objs.size = some (seqObj "list" (zs.map (Value.ref ·.2)).toArray 0):=Jat _ rfl
 show wpAny _ _ _ _ _ { s1 with heap:=s1.heap.push (seqObj "list" (zs.map (Value.ref ·.2)).toArray 0) }
 have k2:∀ b o,s1.heap.get? b = some o->(s1.heap.push (seqObj "list" (zs.map (Value.ref ·.2)).toArray 0)).get? b = some o:=fun b o e=>Jad _ e
 have zz:(s1.heap.push (seqObj "list" (zs.map (Value.ref ·.2)).toArray 0)).objs.size = s1.heap.objs.size + 1:=size_push' ..
 refine Jaa (Jbv (Jdc slot_list_sort ⟨_,gl,rfl⟩ entry_list_sort (Zl9 (s:={ s1 with heap:=s1.heap.push (seqObj "list" (zs.map (Value.ref ·.2)).toArray 0) }) gl (fun x hx=>?_) (by rw [pz.length_eq]; omega) fun out po=>⟨_,rfl,?_⟩) (args_list_sort _)))
 ·obtain ⟨⟨o',items,m,q1,q2,q3⟩,hlen⟩:=R x (pz.mem_iff.1 hx)
  exact ⟨⟨o',items,m,k2 _ _ (k1 _ _ q1),q2,q3⟩,hlen⟩
 ·obtain ⟨ys,py,ey⟩:=Zdo po (xs:=zs) (f:=(Value.ref ·.2)) rfl
  obtain ⟨e,he⟩:=sortedHeap_at (out:=out) gl
  refine Jae ⟨_,rfl,h _ _ e ys (py.trans pz) (fun b o' q=>?_) g1 d1 o1 t1 z1 ?_⟩
  ·have lt:=Jal (k1 _ _ q)
   show (sortedHeap _ _ _ _).get? b = _
   rw [sortedHeap_old (Ja8 lt) (by rw [zz]; exact Jc6 lt)]
   exact k2 _ _ (k1 _ _ q)
  ·rw [<- ey]; exact he
end
end St
namespace PySem
section
variable {prog:Program} {w:World} {A:Around} {E:Value->Shared->Prop} {s:Shared}
theorem Zhe {Q₁:Value->Shared->Prop}
  (h:∀ led:Bool,led = (!(w.params.followText "set-order"))->Q₁ (.ref s.heap.objs.size) { s with heap:=s.heap.push { cls:=.type "set",dict:=none,data:=.set #[] 0 (.fresh 0 0 led) } }):
  codeAny (model prog w) A (.call (.builtin "set.__new__") ⟨[.type "set"],[]⟩) (wants Q₁ E) s:=by
 refine codeAny_of_tree ?_
 show wpAny _ A.in1 (do checkBuiltinCall "set.__new__" ⟨[.type "set"],[]⟩; again (.builtin "set.__new__" ⟨[.type "set"],[]⟩)) _ _ s
 refine Jaa (wpAny_of_eq F.newCall_set_0 (Jae ⟨plainId_quiet F.plain_set_new _,Jfo F.entry_set_new ?_⟩))
 rw [Jfd F.plain_set_new _]
 unfold Builtin.«set.__new__» Builtin.Frozenset.newClass
 have hsub:=sub_set_self
 obtain ⟨hp,g,d,tk,os⟩:=s
 dsimp only
 wp_walk
 refine Jdn (Jae ?_)
 dsimp only
 simp only [newObj]
 refine Jaa (wpAny_alloc (Jae ?_))
 exact Jae (h _ rfl)
set_option maxHeartbeats 1000000 in
set_option maxRecDepth 100000 in
theorem Zjf {Q:Value->Shared->Prop}
  (h:∀ led:Bool,led = (!(w.params.followText "set-order"))->Q (.ref s.heap.objs.size) { s with heap:=s.heap.push { cls:=.type "set",dict:=none,data:=.set #[] 0 (.fresh 0 0 led) } }):
  wpAny (model prog w) A (call (.type "set") []) Q E s:=by
 obtain ⟨c,tl,hmro⟩:=Jdy.mro
 have hmade:=Jdy.made
 have hsub:=Jdy.sub
 refine wpAny_call (codeAny_of_tree ?_)
 show wpAny _ _ (callAny (.type "set") _) _ _ _
 refine Jae ⟨Code.quiet_builtin _ (by decide +kernel),Jfo F.entry_type_call ?_⟩
 rw [Around.under_plain (weight_type_call_type "set" [] []) rfl]
 have h1:=Jdy.notType
 have h2:=Jdy.canCreate
 have hct:=F.typeCall_set_0
 repeat (any_goals (first | assumption | wp_step))
 refine Jed (Zhe (E:=E) (Q₁:=fun obj s₁=>∃ led:Bool,led = (!(w.params.followText "set-order"))/\obj = .ref s.heap.objs.size/\s₁ = { s with heap:=s.heap.push { cls:=.type "set",dict:=none,data:=.set #[] 0 (.fresh 0 0 led) } }) fun led hl=>⟨led,hl,rfl,rfl⟩) fun r s₁ hr=>?_
 cases r with
 | error e=>exact hr
 | ok fl=>
  cases fl with
  | ret obj=>
   obtain ⟨led,hled,rfl,rfl⟩:=hr
   have hS:(s.heap.push { cls:=.type "set",dict:=none,data:=.set #[] 0 (.fresh 0 0 led) }).get? s.heap.objs.size = some { cls:=.type "set",dict:=none,data:=.set #[] 0 (.fresh 0 0 led) }:=Jat _ rfl
   have hT:Shared.TypeIs { s with heap:=s.heap.push { cls:=.type "set",dict:=none,data:=.set #[] 0 (.fresh 0 0 led) } } (.ref s.heap.objs.size) "set" := ⟨_,hS,rfl⟩
   have hli:=Jdy.init.lookup
   have hbi:=Jdy.init.bind (.ref s.heap.objs.size)
   repeat (any_goals (first | assumption | wp_step))
   refine Jed (codeAny_call_builtin (R:=wants (fun r s₂=>r = .none/\Q (.ref s.heap.objs.size) s₂) E) Jdy.init.plain F.entry_set_init (check_set_init hT ?_)) fun r₂ s₂ hr₂=>?_
   ·unfold Builtin.«set.__init__» noKeywords
    wp_walk
    exact ⟨rfl,h led hled⟩
   ·cases r₂ with
    | error e=>exact hr₂
    | ok fl₂=>
     cases fl₂ with
     | ret r=>
      obtain ⟨rfl,hq⟩:=hr₂
      repeat (any_goals (first | assumption | wp_step))
     | _=>exact hr₂.elim
  | _=>exact hr.elim
end
end PySem
namespace L2
open PySem PySem.Spec PyProof.Rows
def Zii (P:Program) (w:World) (a:Addr) (xs:List (List Int × Addr)):HO:=.ext fun h=>∃ t,St.SetAt P w h a xs t/\t.led = !(w.params.followText "set-order")
def RowH (H:Hp) (x:List Int × Addr):Prop:=H x.2 = some (.tup (x.1.map V.int))
theorem Zqx {P:Program} {w:World}:∀ {ns:List Int} {us:List Value},Vals (ns.map V.int) us->ItemsAre (intKind P w) ns us
 | [],us,r=>by cases r; exact .nil
 | n :: ns,us,r=>by
  cases r with
  | cons r1 r2=>obtain ⟨t,rfl⟩:=r1; exact .cons (by simp [intKind,Value.isInt]) (Zqx r2)
theorem Zfk {P:Program} {w:World} {H:Hp} {h:Heap} {a:Addr} {k:List Int} (ok:HOk P w H h) (e:H a = some (.tup (k.map V.int))):IsTupleKey (intKind P w) h k a:=by
 obtain ⟨_,its,r,o,h1,h2,n,h3⟩:=(show ObjOk P w H h a (.tup (k.map V.int)) from ok a _ e)
 exact ⟨o,its.toArray,n,h1,h2,h3,by simpa using Zqx r⟩
theorem Zgv {P:Program} {w:World} {H:Hp} {h:Heap} {a:Addr} {xs:List (List Int × Addr)} (ok:HOk P w H h) (e:H a = some (Zii P w a xs)):∃ t,St.SetAt P w h a xs t/\t.led = !(w.params.followText "set-order"):=
 (show ObjOk P w H h a (Zii P w a xs) from ok a _ e).1
theorem Zmb {P:Program} {w:World} {H:Hp} {h:Heap} {a:Addr} {xs:List (List Int × Addr)} {t:SetTable} (S:St.SetAt P w h a xs t) (hl:t.led = !(w.params.followText "set-order")):ObjOk P w H h a (Zii P w a xs):=
 ⟨⟨t,S,hl⟩,let ⟨o,_,ho,_⟩:=S.ex; ⟨o,ho⟩,fun h1 h2 ⟨t,S,hl⟩ k=>⟨t,⟨let ⟨o,ep,ho,r⟩:=S.ex; ⟨o,ep,k o ho,r⟩,S.tb,S.pl⟩,hl⟩⟩
section
variable {X:Cx}
theorem cx_P {CX:CXT} {P:Program} {w:World} {K:PySem.W.Frag} {mg:Str->Option Value} {base:Heap} {N:List Str} {qual:Str} {scope:Scope} {f:Addr} {cd:Value} {A:Around} {outer:List Env} {s:Shared} {H:Hp} {E:XK}:(Zi9 CX P w K mg base N qual scope f cd A outer s H E).prog = P:=rfl
theorem cx_W {CX:CXT} {P:Program} {w:World} {K:PySem.W.Frag} {mg:Str->Option Value} {base:Heap} {N:List Str} {qual:Str} {scope:Scope} {f:Addr} {cd:Value} {A:Around} {outer:List Env} {s:Shared} {H:Hp} {E:XK}:(Zi9 CX P w K mg base N qual scope f cd A outer s H E).w = w:=rfl
def rInN0 (K:PySem.W.Frag):R2:=fun x y H Q=>∃ p xs,x = .non/\y = .ref p/\SqL K H p xs/\(∀ z ∈ xs,NoT K H z)/\Q (.bl (xs.any nonV)) H
def rInD:V->V->Hp->VK->Prop:=fun y x H Q=>∃ a o,x = .ref a/\DGet H a y o/\Q (.bl o.isSome) H
theorem op_inD (hu:X.A.units + 1 < cLine):OpR X (compareOp .In) rInD:=by
 intro pins s σ H x y v u Q I rx ry h
 obtain ⟨a,o,rfl,g,q⟩:=h
 cases ry
 exact d_in hu I g rx fun s3 I3=>⟨.bl _,H,I3,rfl,q⟩
theorem Zia (K:PySem.W.Frag) (hK:X.K = K) (hc:X.calm = true):Zc3 X (.builtin "sum") (fun xs H Q=>∃ (p:Addr) (ns:List Int),xs = [.ref p]/\SqL K H p (ns.map V.int)/\Q (.int (preSum (fun i=>ns.getD i 0) ns.length)) H):=hK ▸ Zqk hc
theorem Zoq:Zc3 X (.type "set") (fun xs H Q=>xs = []/\∀ l,H l = none->Q (.ref l) (upd H l (Zii X.prog X.w l []))):=by
 intro pins s σ H xs us Q I r h
 obtain ⟨rfl,q⟩:=h
 cases r
 refine Zjf fun led hl=>?_
 refine ⟨.ref s.heap.objs.size,_,I.laid (a:=s.heap.objs.size) (o:=Zii X.prog X.w s.heap.objs.size []) (t':=s.toks) (fun b o e=>Jad _ e) (Jaf _) ?_,rfl,q _ (I.hok.fresh (Jaf _))⟩
 exact Zmb (t:=.fresh 0 0 led) ⟨⟨_,0,Jat _ rfl,⟨rfl,rfl,rfl⟩,rfl⟩,⟨.inl rfl,rfl,rfl,List.Pairwise.nil,(fun _ h=>by cases h),(by show 0 * 5 < 7 * 3; decide),fun _ h=>by cases h⟩,rfl⟩ hl
def Zml (P:Program) (w:World):R2:=fun x y H Q=>∃ a b xs k,x = .ref b/\y = .ref a/\H b = some (.tup (k.map V.int))/\H a = some (Zii P w a xs)/\(∀ z ∈ xs,RowH H z)/\∀ c:Bool,(c = true ↔ ∀ z ∈ xs,z.1 ≠ k)->Q (.bl c) H
theorem Zm6 (hu:X.A.units + 1 < cLine):OpR X (compareOp .NotIn) (Zml X.prog X.w):=by
 intro pins s σ H x y v u Q I rx ry h
 obtain ⟨a,b,xs,k,rfl,rfl,hb,ha,hr,q⟩:=h
 cases rx
 cases ry
 obtain ⟨t,S,hl⟩:=Zgv I.hok ha
 refine St.notIn_ok hu S (fun z hz=>Zfk I.hok (hr z hz)) (Zfk I.hok hb) fun c hc=>⟨.bl c,H,I.tok _,rfl,q c hc⟩
def rAddR (P:Program) (w:World):V->List V->Hp->VK->Prop:=fun x vs H Q=>∃ a b xs k,x = .ref a/\vs = [.ref b]/\H b = some (.tup (k.map V.int))/\H a = some (Zii P w a xs)/\(∀ z ∈ xs,RowH H z)/\(∀ z ∈ xs,z.1 ≠ k)/\xs.length + 1<=256 /\
 ∀ xs':List (List Int × Addr),xs'.Perm ((k,b) :: xs)->Q .non (upd H a (Zii P w a xs'))
theorem mt_addR (hu:X.A.units + 1 < cLine):MtR X "set.add" (rAddR X.prog X.w):=by
 intro pins s σ H x vs v us Q I rx rv h
 obtain ⟨a,b,xs,k,rfl,rfl,hb,ha,hr,hn,hl,q⟩:=h
 cases rx
 obtain ⟨u,rfl,ru⟩:=rv.one
 cases ru
 obtain ⟨t,S,hled⟩:=Zgv I.hok ha
 refine St.setAdd_ok hu S (fun z hz=>Zfk I.hok (hr z hz)) (Zfk I.hok hb) hl (fun ⟨y,hy,e⟩=>absurd e (hn y hy)) fun _ h' xs' t' sb pm S' l'=>?_
 refine ⟨.non,_,I.write (x:=a) (e:=a) (o:=Zii X.prog X.w a xs') (by rw [ha]; exact trivial) (.inl rfl) (fun c o hc e=>(sb.2 c hc).trans e) (let ⟨o,_,ho,_⟩:=S'.ex; ⟨o,ho⟩) (Zmb S' (l'.trans hled)),rfl,q xs' pm⟩
def tBMR (P:Program) (w:World) (r:V->List V->Hp->VK->Prop) (to:TE) (t:TA):TE:=fun σ H Q=>to σ H fun x H1=>(∃ a xs,x = .ref a/\H1 a = some (Zii P w a xs))/\t σ H1 fun vs H2=>r x vs H2 Q
variable {o e:Expr} {es:List Expr} {to:TE} {t:TA} {apos cpos:Pos}
theorem pe_addR (hu:X.A.units + 1 < cLine) (ho:PE X o to) (ha:PA X (e :: es) t)
  (hbase:attributeBase o "add" X.env (eval o X.env) = eval o X.env:=by rfl)
  (hfew:((backTo cpos (starEach (e :: es) X.env)).all (fun x=>!x.1) && (backToKw cpos (keywordEach [] X.env)).all (fun x=>x.1.isSome)
   && decide ((e :: es).length + ([]:List Keyword).length + (if ([]:List Keyword).isEmpty then 0 else 1) < 30)) = true:=by rfl)
  (hline:(apos.endLine == cpos.line) = true:=by rfl) (hs:starEach (e :: es) X.env = (false,eval e X.env) :: starEach es X.env:=by rfl) (hplain:(backTo cpos (starEach es X.env)).any (·.1) = false:=by rfl):
  PE X (.Call (.Attribute o "add" apos) (e :: es) [] cpos) (tBMR X.prog X.w (rAddR X.prog X.w) to t):=by
 intro pins s σ H Q I h
 refine wpAny_Call_method_late hbase hfew hline rfl (thn (ho pins s σ H _ I h) fun v s1 ⟨x,H1,I1,r1,⟨a,xs,ex,hx⟩,q1⟩=>?_)
 subst ex
 cases r1
 obtain ⟨t,S,hl⟩:=Zgv I1.hok hx
 refine ⟨"set","set.add",F.plainAttrs_set,F.slot_set_add,F.type_set_add,S.typeIs,fun a' e=>by cases e; exact let ⟨o,_,ho,hc,_⟩:=S.ex; ⟨o,ho,hc.2.1⟩,?_⟩
 have hA:=ha cpos pins s1 σ H1 _ I1 q1
 rw [hs] at hA ⊢
 refine Jes (by show (false || (backTo cpos (starEach es X.env)).any (·.1)) = false; rw [hplain] <;> rfl) (Je9 ?_)
 exact thn hA fun us s2 ⟨vs,H2,I2,r2,q2⟩=>mt_addR hu pins s2 σ H2 (.ref a) vs _ us Q I2 rfl r2 q2
theorem Zib (hc:X.calm = true):Zc3 X (.builtin "sorted") (fun xs H Q=>∃ (a:Addr) (ys:List (List Int × Addr)),xs = [.ref a]/\H a = some (Zii X.prog X.w a ys)/\(∀ z ∈ ys,RowH H z/\0 < z.1.length)/\ys.length<=256 /\
  ∀ (l:Addr) (zs:List (List Int × Addr)),H l = none->zs.Perm ys->Q (.ref l) (upd H l (.lst (zs.map (V.ref ·.2))))):=by
 intro pins s σ H xs us Q I r h
 obtain ⟨a,ys,rfl,ha,hr,hl,q⟩:=h
 obtain ⟨u,rfl,rx⟩:=Zgo r
 cases rx
 obtain ⟨t,S,hled⟩:=Zgv I.hok ha
 refine St.sorted_set (I.ok.hd hc) S hled (fun z hz=>⟨Zfk I.hok (hr z hz).1,(hr z hz).2⟩) hl fun s' l e zs pm k g d o tk z gl=>?_
 obtain ⟨h',g',d',t',o'⟩:=s'
 dsimp only at k g d o tk gl
 subst g d o
 have vr:∀ zs:List (List Int × Addr),Vals (zs.map (V.ref ·.2)) (zs.map (Value.ref ·.2)):=by
  intro zs
  induction zs with
  | nil=>exact .nil
  | cons z zs ih=>exact .cons rfl ih
 refine ⟨.ref l,_,I.laid (a:=l) (o:=.lst (zs.map (V.ref ·.2))) (t':=t') k z ⟨?_,zs.map (Value.ref ·.2),e,vr zs,gl⟩,rfl,q l zs (I.hok.fresh z) pm⟩
 rw [Jab,pm.length_eq,Jde]; omega
end
end L2
set_option maxHeartbeats 4000000
open PySem L2 PyProof.Rows
local macro_rules | `($a<&>$b)=>`(@pa_c _ _ _ _ _ $a $b (by rfl))
local macro_rules | `($a<*>$b)=>`(@Zpb _ _ _ _ _ $a $b)
local macro_rules | `($o<|>$a<&&>$b)=>`(@pe_op _ _ _ _ _ _ _ _ $o $a $b)
local macro_rules | `($o<|>$a<||>$b)=>`(@pe_ix _ _ _ _ _ _ _ $o $a $b (fun _ _=>rfl))
local macro_rules | `(~~~$x)=>`(@Zal _ _ _ (@ps_ret _ _ _ _ $x))
local macro_rules | `(tactic| walk_at "wp")=>`(tactic| simp only [tSeq,tIfS,tTest,tOp,tUn,Zjp,tC,tCB,Zf4,Zov,tRet,tRetN,tNext,tDrop,tAsg,tAug,ipI,Zbe,gTup,gCons,gNil,gSub,tTup,tLst,tSl,Zly,tPart,Zlz,Zl0,tBM,tBM0,tPar,tB,tAnd,tOr,tNot,tAndV,tOrV,tNotV,tIf,Zhp,Zo1,tMeth,tFld,sFld,tDGet,Zmn,rNotInN,rInN0,sDPut,gLst,tAugS,rGetL,rI0,rI,rU,rIxL,rIxT,rSetL,rSlL,Zmo,rPop,Zmm,Zml,rAddR,tBMR,rInD,Zqr,tTry,hEnds,Zlx,hnd_K,pnx_K,rCat,rEq,rNe,rEqL,rEqT,rIn,scal_ii,scal_bb,scal_ss,Zi5,iTup,iRng1,iRng2,cV,cx_K,cx_P,cx_W,in_K,wish_K,E0,L2.start,List.map,List.length,List.replicate,Je6,List.nil_append,Jdg,List.getElem?_cons_zero,List.getElem?_cons_succ,Ja0,Jct,Option.some.injEq,exists_eq_left',exists_eq_left,exists_and_left,V.int.injEq,V.bl.injEq,V.ref.injEq,V.ty.injEq,Jcq,reduceCtorEq,false_and,and_false,exists_false,or_false,false_or,and_true,true_and,Nat.reduceSub,Nat.reduceAdd,Nat.reduceLT,Jdu,Jfs,Jcp])
namespace Pf
open PySem L2 PyProof.Rows
def top (i:Nat):Stmt:=PySem.Challenge.pw_limbtables_k24_whole_roots_found.main.body.getD i (.Pass ⟨0,0,0,0⟩)
abbrev Zcg:Stmt:=top 6
abbrev Za2:Stmt:=top 10
abbrev Zch:Stmt:=top 11
abbrev Zbb:Stmt:=Zi4 (top 16) 0
abbrev Zcf:Stmt:=top 24
abbrev Zcx:Stmt:=top 25
abbrev Zce:Stmt:=top 26
abbrev Zby:Stmt:=top 27
abbrev Za0:Stmt:=top 28
abbrev Za3:Stmt:=top 29
abbrev Zbz:Stmt:=top 30
abbrev Zb0:Stmt:=top 31
abbrev Zc0:Stmt:=top 12
abbrev Zcy:Stmt:=top 13
abbrev Zgc:Stmt:=top 14
abbrev Zbh:Stmt:=top 15
abbrev Za1:Stmt:=Zi4 (top 16) 1
abbrev Za4:Stmt:=Zi4 (top 16) 5
abbrev Zcz:Stmt:=top 18
abbrev Zdt:Stmt:=top 19
abbrev Zcb:Stmt:=top 21
abbrev Zem:Stmt:=top 22
abbrev Zcd:Stmt:=top 32
abbrev Zbx:Stmt:=top 33
abbrev Zcc:Stmt:=top 34
abbrev Zgx:Stmt:=top 35
theorem Zfh:FnScope ["thing"] ["thing"] (Zae Zcg):=⟨rfl,rfl,rfl,by decide +kernel,rfl,by decide +kernel,by decide +kernel⟩
theorem Zde:FnScope ["many","arrows"] ["many","arrows"] (Zae Za2):=⟨rfl,rfl,rfl,by decide +kernel,rfl,by decide +kernel,by decide +kernel⟩
theorem Zfi:FnScope ["many","thing"] ["many","thing"] (Zae Zch):=⟨rfl,rfl,rfl,by decide +kernel,rfl,by decide +kernel,by decide +kernel⟩
theorem Zdh:FnScope ["self","many","arrows"] ["self","many","arrows"] (Zae Zbb):=⟨rfl,rfl,rfl,by decide +kernel,rfl,by decide +kernel,by decide +kernel⟩
theorem Zfg:FnScope ["_law_script","_law_k"] ["_law_script","_law_k"] (Zae Zcf):=⟨rfl,rfl,rfl,by decide +kernel,rfl,by decide +kernel,by decide +kernel⟩
theorem Zf8:FnScope ["_law_cell_here"] ["_law_cell_here"] (Zae Zcx):=⟨rfl,rfl,rfl,by decide +kernel,rfl,by decide +kernel,by decide +kernel⟩
theorem Zff:FnScope ["_law_bag_here","_law_many","_law_found"] ["_law_bag_here","_law_many"] (Zae Zce):=⟨rfl,rfl,rfl,by decide +kernel,rfl,by decide +kernel,by decide +kernel⟩
theorem Zey:FnScope ["_law_bag_here","_law_many","_law_left","_law_row","_law_at"] ["_law_bag_here","_law_many"] (Zae Zby):=⟨rfl,rfl,rfl,by decide +kernel,rfl,by decide +kernel,by decide +kernel⟩
theorem Zcv:FnScope ["_law_bag_here","_law_way","_law_edges_here","_law_many","_law_k","_law_one"] ["_law_bag_here","_law_way"] (Zae Za0):=⟨rfl,rfl,rfl,by decide +kernel,rfl,by decide +kernel,by decide +kernel⟩
theorem Zdf:FnScope ["_law_bag_here","_law_sort","_law_many","_law_long","_law_edges_here"] ["_law_bag_here"] (Zae Za3):=⟨rfl,rfl,rfl,by decide +kernel,rfl,by decide +kernel,by decide +kernel⟩
theorem Zez:FnScope ["_law_bag_here","_law_way","_law_many"] ["_law_bag_here","_law_way"] (Zae Zbz):=⟨rfl,rfl,rfl,by decide +kernel,rfl,by decide +kernel,by decide +kernel⟩
theorem Ze0:FnScope ["_law_bag_here","_law_way","_law_many","_law_left","_law_order_here","_law_arrows","_law_at","_law_one","_law_other"] ["_law_bag_here","_law_way"] (Zae Zb0):=⟨rfl,rfl,rfl,by decide +kernel,rfl,by decide +kernel,by decide +kernel⟩
theorem Zgb:FnScope ["points","arrows","least","tail","head","low","high","point"] ["points","arrows"] (Zae Zc0):=⟨rfl,rfl,rfl,by decide +kernel,rfl,by decide +kernel,by decide +kernel⟩
theorem Zf9:FnScope ["points","arrows","many","ends","forks"] ["points","arrows"] (Zae Zcy):=⟨rfl,rfl,rfl,by decide +kernel,rfl,by decide +kernel,by decide +kernel⟩
theorem Zmd:FnScope ["points","arrows","fork","others"] ["points","arrows","fork"] (Zae Zgc):=⟨rfl,rfl,rfl,by decide +kernel,rfl,by decide +kernel,by decide +kernel⟩
theorem Zdy:FnScope ["many","lengths"] ["many","lengths"] (Zae Zbh):=⟨rfl,rfl,rfl,by decide +kernel,rfl,by decide +kernel,by decide +kernel⟩
theorem Zcw:FnScope ["self"] ["self"] (Zae Za1):=⟨rfl,rfl,rfl,by decide +kernel,rfl,by decide +kernel,by decide +kernel⟩
theorem Zdg:FnScope ["self"] ["self"] (Zae Za4):=⟨rfl,rfl,rfl,by decide +kernel,rfl,by decide +kernel,by decide +kernel⟩
theorem Zga:FnScope ["drawing"] ["drawing"] (Zae Zcz):=⟨rfl,rfl,rfl,by decide +kernel,rfl,by decide +kernel,by decide +kernel⟩
theorem Zht:FnScope ["row","point"] ["row","point"] (Zae Zdt):=⟨rfl,rfl,rfl,by decide +kernel,rfl,by decide +kernel,by decide +kernel⟩
theorem Zfc:FnScope ["drawing","point","row","found","tail","head"] ["drawing","point","row"] (Zae Zcb):=⟨rfl,rfl,rfl,by decide +kernel,rfl,by decide +kernel,by decide +kernel⟩
theorem Zjt:FnScope ["drawing","points","waiting","seen","row","mirrors"] ["drawing"] (Zae Zem):=⟨rfl,rfl,rfl,by decide +kernel,rfl,by decide +kernel,by decide +kernel⟩
theorem Zfe:FnScope ["_law_arrows","_law_one","_law_other","_law_total","_law_k","_law_tail","_law_head"] ["_law_arrows","_law_one","_law_other"] (Zae Zcd):=⟨rfl,rfl,rfl,by decide +kernel,rfl,by decide +kernel,by decide +kernel⟩
theorem Zex:FnScope ["_law_many","_law_rows","_law_mark","_law_row","_law_left","_law_k"] ["_law_many"] (Zae Zbx):=⟨rfl,rfl,rfl,by decide +kernel,rfl,by decide +kernel,by decide +kernel⟩
theorem Zfd:FnScope ["_law_many","_law_rows","_law_bag_here","_law_found","_law_turn","_law_row","_law_k","_law_at","_law_made"] ["_law_many","_law_rows","_law_bag_here"] (Zae Zcc):=⟨rfl,rfl,rfl,by decide +kernel,rfl,by decide +kernel,by decide +kernel⟩
theorem Zqs:FnScope ["_law_script","_law_k","_law_bag_here","_law_many","_law_arrows","_law_told","_law_looked","_law_there","_law_row"] ["_law_script"] (Zae Zgx):=⟨rfl,rfl,rfl,by decide +kernel,rfl,by decide +kernel,by decide +kernel⟩
structure Txt (K:PySem.W.Frag) (mg:Str->Option Value) (C:Addr):Prop where
 cl_Drawing:Cls K C
 nM:NoAttr K C "many"
 nA:NoAttr K C "arrows"
 n_len:mg "len" = none
 n_range:mg "range" = none
 n_list:mg "list" = none
 n_min:mg "min" = none
 n_int:mg "int" = none
 n_bool:mg "bool" = none
 n_tuple:mg "tuple" = none
 n_all:mg "all" = none
 n_isinstance:mg "isinstance" = none
 n_sorted:mg "sorted" = none
 n_sum:mg "sum" = none
 n_set:mg "set" = none
 g_MOST_POINTS:∃ t,mg "MOST_POINTS" = some (.int 8 t)
 g_MOST_ARROWS:∃ t,mg "MOST_ARROWS" = some (.int 9 t)
def Zkt (a b:Int):HO:=.lst [.int a,.int b]
def Bag (H:Hp) (l:Addr):Prop:=∃ a b:Int,H l = some (Zkt a b)/\0<=b/\b < 2147483647
def Zl7 (K:PySem.W.Frag):Sp:=fun vs H Q _=>∃ (a:Addr) (ns:List Int) (k:Int),vs = [.ref a,.int k]/\SqL K H a (ns.map V.int)/\ns.length<=63/\0<=k/\∀ c,Q (.int c) H
def spBag:Sp:=fun vs H Q _=>∃ c:Int,vs = [.int c]/\∀ (l:Addr) (a b:Int),H l = none->0<=b->b < 2147483647->Q (.ref l) (upd H l (Zkt a b))
def Zdx:Sp:=fun vs H Q _=>∃ (l:Addr) (a b n:Int),vs = [.ref l,.int n]/\H l = some (Zkt a b)/\0<=b/\b < 2147483647/\0 < n/\n < 1000000000 /\
 ∀ (r a' b':Int),0<=r->r < n->0<=b'->b' < 2147483647->Q (.int r) (upd H l (Zkt a' b'))
section
variable {P:Program} {w:World} {K:PySem.W.Frag} {mg:Str->Option Value} {base:Heap} {C:Addr}
theorem ok_cell {f:Addr} {fd:FuncData} (F:Fun K "_law_cell" "_law_cell" Zcf f fd) (T:Txt K mg C):FnOk P w K mg base CX0 1 f fd ["_law_script","_law_k"] (Zl7 K):=by
 have nd:=Zfg.nd
 refine F.ok Zfg (fun vs H Q E h=>?_) (fun cdv A outer s H vs Q E hr h=>?_)
 ·obtain ⟨a,ns,k,rfl,_⟩:=h
  rfl
 ·obtain ⟨a,ns,k,rfl,hS,hl,h0,q⟩:=h
  refine ⟨_,((@Zbl _ _ _ _ _ _ _ _ (Zaj Zpn (pv 1) (Zb2 Zaq rfl T.n_len Jcd ((pv 0)<&>Zab)) (Zat _)) (~~~(Zaw<|>(pv 0)<||>(pv 1))) Zas)<*>(~~~Zac)),?_⟩
  walk_at "wp"
  refine ⟨_,.inl hS,Zd1 (fun hc=>?_) (fun _=>q 0)⟩
  have hc:=Jav hc
  rw [Jab] at hc
  refine ⟨_,hS,V.int (ns[k.toNat]'(by omega)),Zbw h0 ?_,q _⟩
  rw [Jbe,Jac (by omega)]
  rfl
theorem pow60:IntMulOk (10 ^ (60:Int).toNat) (10 ^ (60:Int).toNat):=IntMulOk.of_bits (by decide +kernel) (by decide +kernel)
theorem cpow (k:Int) (h0:0<=k) (h1:k<=1000):CPow 10 k:=⟨h0,by omega,by decide⟩
theorem Zge (c n:Int) (h:0 < n):0<=c % n:=Int.emod_nonneg _ (by omega)
theorem Zgf (c n:Int) (h:0 < n):c % n < n:=Int.emod_lt_of_pos _ h
theorem ok_bag {f:Addr} {fd:FuncData} (F:Fun K "_law_bag" "_law_bag" Zcx f fd) (T:Txt K mg C):FnOk P w K mg base CX0 1 f fd ["_law_cell_here"] spBag:=by
 have nd:=Zf8.nd
 refine F.ok Zf8 (fun vs H Q E h=>?_) (fun cdv A outer s H vs Q E hr h=>?_)
 ·obtain ⟨c,rfl,_⟩:=h
  rfl
 ·obtain ⟨c,rfl,q⟩:=h
  refine ⟨_,((@Zbl _ _ _ _ _ _ _ _ (Zaj op_ge (pv 0) (Zm5<|>Zac<&&>Zac) (Zat _)) (~~~(@Zbo _ _ _ _ ((Zd0<|>(pv 0)<&&>(Zix<|>(Zm5<|>Zac<&&>Zac)<&&>(Zm5<|>Zac<&&>Zac)))<&>((Zd0<|>(pv 0)<&&>Zac)<&>Zab)))) Zas)<*>(~~~(@Zbo _ _ _ _ (Zac<&>((Zd0<|>(Za5<|>(Zj8<|>(Zd0<|>(pv 0)<&&>Zac)<&&>Zac)<&&>Zac)<&&>Zac)<&>Zab))))),?_⟩
  walk_at "wp"
  refine ⟨cpow _ (by decide) (by decide),Zd1 (fun _=>?_) (fun _=>?_)⟩
  ·exact ⟨cpow _ (by decide) (by decide),cpow _ (by decide) (by decide),pow60,by decide +kernel,by decide,by decide,fun p hp=>q p _ _ hp (Zge _ _ (by decide)) (Zgf _ _ (by decide))⟩
  ·exact ⟨by decide,.inr ⟨by decide,by decide⟩,by decide,by decide,fun p hp=>q p _ _ hp (Zge _ _ (by decide)) (Zgf _ _ (by decide))⟩
theorem ok_draw {f:Addr} {fd:FuncData} (F:Fun K "_law_draw" "_law_draw" Zce f fd) (T:Txt K mg C):FnOk P w K mg base CX0 1 f fd ["_law_bag_here","_law_many"] Zdx:=by
 have nd:=Zff.nd
 refine F.ok Zff (fun vs H Q E h=>?_) (fun cdv A outer s H vs Q E hr h=>?_)
 ·obtain ⟨l,a,b,n,rfl,_⟩:=h
  rfl
 ·obtain ⟨l,a,b,n,rfl,hl,b0,b1,n0,n1,q⟩:=h
  refine ⟨_,((@Zbl _ _ _ _ _ _ _ _ (Zaj op_ge (Zaw<|>(pv 0)<||>Zac) (pv 1) (Zat _)) ((Zao (i:=2) nd rfl (Or.inl rfl) (Zd0<|>(Zaw<|>(pv 0)<||>Zac)<&&>(pv 1)))<*>((Zeg (Zg6<|>(Zaw<|>(pv 0)<||>Zac)<&&>(pv 1)) (Zhv (pv 0) Zac Zc6))<*>(~~~(pv 2)))) Zas)<*>((Zeg Zac (Zhv (pv 0) Zac Zc6))<*>((Zeg (Zd0<|>(Za5<|>(Zj8<|>(Zaw<|>(pv 0)<||>Zac)<&&>Zac)<&&>Zac)<&&>Zac) (Zhv (pv 0) Zac Zc6))<*>(~~~(Zd0<|>(Zg6<|>(Zd0<|>(Zj8<|>(Zaw<|>(pv 0)<||>Zac)<&&>(Za5<|>(Zg6<|>(Zaw<|>(pv 0)<||>Zac)<&&>Zac)<&&>Zac))<&&>Zac)<&&>Zac)<&&>(pv 1)))))),?_⟩
  walk_at "wp"
  refine ⟨_,SqL.of hl,_,rfl,_,rfl,Zd1 (fun hc=>?_) (fun hc=>?_)⟩
  ·refine ⟨_,SqL.of hl,_,rfl,_,rfl,n0,_,SqL.of hl,_,rfl,_,rfl,⟨n0,by omega⟩,_,hl,_,rfl,?_⟩
   exact q _ _ _ (Zge _ _ n0) (Zgf _ _ n0) b0 b1
  ·refine ⟨_,hl,_,rfl,_,SqL.of Zaa,_,rfl,_,rfl,.inr ⟨by decide,by decide⟩,by decide,_,Zaa,_,rfl,_,SqL.of Zaa,_,rfl,_,SqL.of Zaa,_,rfl,_,rfl,⟨by decide,by decide⟩,_,rfl,?_⟩
   have h1:=Zge (b * 48271 + 4099) 2147483647 (by decide)
   have h2:=Zgf (b * 48271 + 4099) 2147483647 (by decide)
   refine ⟨.inl ⟨by omega,by omega⟩,by decide,⟨by decide,by decide⟩,n0,?_⟩
   rw [upd_upd]
   exact q _ _ _ (Zge _ _ n0) (Zgf _ _ n0) h1 h2
end
end Pf
namespace Pf
open PySem L2 PyProof.Rows
section
variable {P:Program} {w:World} {K:PySem.W.Frag} {mg:Str->Option Value} {base:Heap} {C:Addr}
def InR (m:Int) (ys:List Int):Prop:=∀ y ∈ ys,0<=y/\y < m
theorem Zmk (lo hi:Int):Zk2 lo hi = ((List.range (hi - lo).toNat).map fun (i:Nat)=>lo + (i:Int)).map V.int:=by
 unfold Zk2
 rw [Jb6]
 rfl
theorem Zoe (xs:List V) (k:Int) (h0:0<=k) (h1:k<=xs.length):Zeu xs none (some k) = xs.take k.toNat:=by
 unfold Zeu HT.sIx
 have:¬ k < 0:=by omega
 simp only [this,Jfs,List.drop_zero,Nat.sub_zero]
 congr 1
 omega
theorem Zof (xs:List V) (k:Int) (h0:0<=k) (h1:k<=xs.length):Zeu xs (some k) none = xs.drop k.toNat:=by
 unfold Zeu HT.sIx
 have e:¬ k < 0:=by omega
 have e2:min k.toNat xs.length = k.toNat:=by omega
 simp only [e,Jfs,e2]
 rw [Jch]
 rw [Jcv]
 omega
theorem Bag.ne {H:Hp} {l p:Addr} (h:Bag H l) (hp:H p = none):p ≠ l:=by
 obtain ⟨a,b,e,_⟩:=h
 exact (Zad e hp).symm
theorem Bag.new {H:Hp} {l p:Addr} {o:HO} (h:Bag H l) (hp:p ≠ l):Bag (upd H p o) l:=by
 obtain ⟨a,b,e,h1,h2⟩:=h
 exact ⟨a,b,by rw [Zaf hp.symm]; exact e,h1,h2⟩
theorem Bag.set {H:Hp} {l:Addr} {a b:Int} (h1:0<=b) (h2:b < 2147483647):Bag (upd H l (Zkt a b)) l:=⟨a,b,Zaa,h1,h2⟩
def Edge (H:Hp) (m:Int) (x:V):Prop:=∃ (t:Addr) (i j:Int),x = .ref t/\H t = some (.tup [.int i,.int j])/\0<=i/\i < m/\0<=j/\j < m
def Edges (H:Hp) (m:Int) (xs:List V):Prop:=∀ x ∈ xs,Edge H m x
theorem Edge.same {H H':Hp} {m:Int} {x:V} (e:Edge H m x) (s:Same H H'):Edge H' m x:=by
 obtain ⟨t,i,j,h1,h2,h3⟩:=e
 exact ⟨t,i,j,h1,s _ _ h2,h3⟩
theorem Edges.same {H H':Hp} {m:Int} {xs:List V} (e:Edges H m xs) (s:Same H H'):Edges H' m xs:=fun x hx=>(e x hx).same s
theorem Edge.ext {H H':Hp} {m:Int} {l:Addr} {x:V} {ys:List V} (e:Edge H m x) (s:Ext l H H') (hl:H l = some (.lst ys)):Edge H' m x:=by
 obtain ⟨t,i,j,h1,h2,h3⟩:=e
 exact ⟨t,i,j,h1,s _ _ (Zf7 h2 hl (by intro z; cases z)) h2,h3⟩
theorem Edges.ext {H H':Hp} {m:Int} {l:Addr} {xs ys:List V} (e:Edges H m xs) (s:Ext l H H') (hl:H l = some (.lst ys)):Edges H' m xs:=fun x hx=>(e x hx).ext s hl
theorem Edges.nil {H:Hp} {m:Int}:Edges H m []:=fun _ h=>nomatch h
theorem Edges.snoc {H:Hp} {m:Int} {xs:List V} {x:V} (e:Edges H m xs) (h:Edge H m x):Edges H m (xs ++ [x]):=fun y hy=>by
 rcases Jbd.mp hy with z | z
 ·exact e y z
 ·rw [Jaz.mp z]; exact h
theorem Edges.append {H:Hp} {m:Int} {xs ys:List V} (e:Edges H m xs) (h:Edges H m ys):Edges H m (xs ++ ys):=fun y hy=>by
 rcases Jbd.mp hy with z | z
 ·exact e y z
 ·exact h y z
theorem Edges.lift {H:Hp} {m m':Int} {xs:List V} (e:Edges H m xs) (h:m<=m'):Edges H m' xs:=fun y hy=>by
 obtain ⟨t,i,j,h1,h2,h3,h4,h5,h6⟩:=e y hy
 exact ⟨t,i,j,h1,h2,h3,by omega,h5,by omega⟩
theorem Edges.put {H:Hp} {m:Int} {xs ys:List V} {p:Addr} {o:HO} (e:Edges H m xs) (hp:H p = some (.lst ys)):Edges (upd H p o) m xs:=e.ext (l:=p) Ext.set hp
structure Out (l:Addr) (H:Hp) (p e:Addr) (m:Int) (xs:List V) (H':Hp):Prop where
 ext:Ext l H H'
 bag:Bag H' l
 tup:H' p = some (.tup [.int m,.ref e])
 lst:H' e = some (.lst xs)
 new:H e = none
 lo:1<=m
 hi:m<=8
 len:xs.length<=9
 ed:Edges H' m xs
def spOut (K0:List V->Prop):Sp:=fun vs H Q _=>∃ (l:Addr) (r:List V),vs = .ref l :: r/\K0 r/\Bag H l/\∀ p e m xs H',Out l H p e m xs H'->Q (.ref p) H'
def way0 (r:List V):Prop:=r = []
theorem Edge.mk {H:Hp} {p:Addr} {i j m:Int} (h1:0<=i) (h2:i < m) (h3:0<=j) (h4:j < m):Edge (upd H p (.tup [.int i,.int j])) m (.ref p):=⟨p,i,j,rfl,Zaa,h1,h2,h3,h4⟩
theorem Edges.add {H:Hp} {p:Addr} {i j m:Int} {xs:List V} (e:Edges H m xs) (hp:H p = none) (h1:0<=i) (h2:i < m) (h3:0<=j) (h4:j < m):Edges (upd H p (.tup [.int i,.int j])) m (xs ++ [.ref p]):=
 (e.same (Same.new hp)).snoc (Edge.mk h1 h2 h3 h4)
theorem Zev {fr:List (Str × Nat)} {σ:L2.St} {t1 t2:TE} {lo m:Int} {n:Nat} {D:Addr} {H1:Hp} {Q:VK} (a b:Nat->Int) (hD:H1 D = none) (hn:n<=9)
  (h1:∀ i H Q,i < n->Q (.int (a i)) H->t1 (some (.int (lo + (i:Nat))) :: Zcr fr σ) H Q) (h2:∀ i H Q,i < n->Q (.int (b i)) H->t2 (some (.int (lo + (i:Nat))) :: Zcr fr σ) H Q)
  (hr:∀ i,i < n->0<=a i/\a i < m/\0<=b i/\b i < m) (hQ:∀ xs H',Same H1 H'->H' D = some (.lst xs)->xs.length = n->Edges H' m xs->Q (.ref D) H'):
  Zci (Zbe 0) Zhp (tTup (Zf4 t1 (Zf4 t2 Zov))) (Itr lo n) D (Ze3 1 fr σ) H1 Q:=by
 refine Zkn (fun i vs H=>Same H1 H/\H D = some (.lst vs)/\vs.length = i/\Edges H m vs) ⟨Same.new hD,Zaa,rfl,Edges.nil⟩ ?_ (fun vs H ⟨s,e,l,d⟩=>hQ vs H s e l d)
 rintro i x vs σ' H hi rfl sh ⟨s,e,hl,d⟩
 obtain ⟨z,rfl⟩:=sh.one
 simp only [Zdv,Zbe,Zhp,Ja0,Jdu,tTup,Zf4,Zov]
 refine h1 i H _ hi (h2 i H _ hi ⟨by show 2<=sizeLine; decide,fun p hp=>?_⟩)
 obtain ⟨r1,r2,r3,r4⟩:=hr i hi
 have nD:D ≠ p:=Zad e hp
 have e':(upd H p (.tup [.int (a i),.int (b i)])) D = some (.lst vs):=by rw [Zaf nD]; exact e
 exact leaf (ws:=vs ++ [.ref p]) hi Sh.mk1 e' (Zah (by omega)) ⟨(s.trans (Same.new hp)).upd hD,Zaa,by rw [Jaj,hl]; rfl,(d.add hp r1 r2 r3 r4).put e'⟩
theorem Out.fin {l p t:Addr} {m:Int} {xs:List V} {H H2:Hp} (ex:Ext l H H2) (b:Bag H2 l) (hp:H2 p = some (.lst xs)) (new:H p = none) (lo:1<=m) (hi:m<=8) (len:xs.length<=9) (d:Edges H2 m xs) (ht:H2 t = none):
  Out l H t p m xs (upd H2 t (.tup [.int m,.ref p])):=
 ⟨ex.trans (Ext.new ht),b.new (b.ne ht),Zaa,by rw [Zaf (Zad hp ht)]; exact hp,new,lo,hi,len,d.same (Same.new ht)⟩
theorem Bag.draw {H:Hp} {l:Addr} {n:Int} {Q:VK} {E:XK} (b:Bag H l) (h0:0 < n) (h1:n < 1000000000) (q:∀ (r:Int) (H':Hp),0<=r->r < n->Ext l H H'->Bag H' l->Q (.int r) H'):Zdx [.ref l,.int n] H Q E:=by
 obtain ⟨x,y,e,y0,y1⟩:=b
 exact ⟨l,x,y,n,rfl,e,y0,y1,h0,h1,fun r a' b' r0 r1 c0 c1=>q r _ r0 r1 Ext.set (Bag.set c0 c1)⟩
theorem Bag.lst {H:Hp} {l:Addr} (b:Bag H l):∃ ys,H l = some (.lst ys):=by
 obtain ⟨x,y,e,_⟩:=b
 exact ⟨_,e⟩
theorem Bag.same {H H':Hp} {l:Addr} (b:Bag H l) (s:Same H H'):Bag H' l:=by
 obtain ⟨x,y,e,h1,h2⟩:=b
 exact ⟨x,y,s _ _ e,h1,h2⟩
theorem Out.done {l p t:Addr} {m:Int} {xs:List V} {H H2 H5:Hp} (ex:Ext l H H2) (b:Bag H2 l) (s:Same H2 H5) (hp:H5 p = none) (lo:1<=m) (hi:m<=8) (len:xs.length<=9) (d:Edges H5 m xs) (ht:(upd H5 p (.lst xs)) t = none):
  Out l H t p m xs (upd (upd H5 p (.lst xs)) t (.tup [.int m,.ref p])):=
 have b5:=b.same s
 have e5:Ext l H H5:=ex.trans s.ext
 Out.fin (e5.trans (Ext.new hp)) (b5.new (b5.ne hp)) Zaa (e5.free (b5.ne hp) hp) lo hi len (d.same (Same.new hp)) ht
theorem ok_bad {f:Addr} {fd:FuncData} (F:Fun K "_law_bad_edges" "_law_bad_edges" Za3 f fd) (T:Txt K mg C) (C_law_draw:Cal P w K mg base "_law_draw" 1 Zdx):FnOk P w K mg base CX0 2 f fd ["_law_bag_here"] (spOut way0):=by
 have nd:=Zdf.nd
 refine F.ok Zdf (fun vs H Q E h=>?_) (fun cdv A outer s H vs Q E hr h=>?_)
 ·obtain ⟨l,r,rfl,rfl,_⟩:=h
  rfl
 ·obtain ⟨l,r,rfl,rfl,hb,q⟩:=h
  refine ⟨_,((Zao (i:=1) nd rfl (Or.inl rfl) (Zct C_law_draw hr.m rfl ((pv 0)<&>(Zac<&>Zab))))<*>((@Zbl _ _ _ _ _ _ _ _ (Zaj Zdw (pv 1) Zac (Zat _)) ((Zao (i:=2) nd rfl (Or.inr rfl) (Za5<|>Zac<&&>(Zct C_law_draw hr.m rfl ((pv 0)<&>(Zac<&>Zab)))))<*>(~~~(@Zam _ _ _ _ _ ((pv 2)<&>((Zbj (own:=["_law_k"]) (fr:=[("_law_many",2)]) rfl (Zcp (by kernel_rfl)) (Zf6 rfl T.n_range ((pv 2)<&>Zab)) (fun _ _ _ _=>⟨(@Zag _ _ 0 _ (show (["_law_k","_law_many"]:List Str).Nodup by decide +kernel) rfl (Or.inl rfl) (Or.inr rfl)),Zbn,(@Zam _ _ _ _ _ ((pv 0)<&>((Zd0<|>(Za5<|>(pv 0)<&&>Zac)<&&>(pv 1))<&>Zab)))⟩))<&>Zab))))) Zas)<*>((@Zbl _ _ _ _ _ _ _ _ (Zaj Zdw (pv 1) Zac (Zat _)) ((Zao (i:=2) nd rfl (Or.inr rfl) (Za5<|>Zac<&&>(Zct C_law_draw hr.m rfl ((pv 0)<&>(Zac<&>Zab)))))<*>(~~~(@Zam _ _ _ _ _ ((pv 2)<&>((Zbj (own:=["_law_k"]) (fr:=[]) rfl (Zcp (by kernel_rfl)) (Zmx rfl T.n_range (Zac<&>((pv 2)<&>Zab))) (fun _ _ _ _=>⟨(@Zag _ _ 0 _ (show (["_law_k"]:List Str).Nodup by decide +kernel) rfl (Or.inl rfl) (Or.inr rfl)),Zbn,(@Zam _ _ _ _ _ (Zac<&>((pv 0)<&>Zab)))⟩))<&>Zab))))) Zas)<*>((@Zbl _ _ _ _ _ _ _ _ (Zaj Zdw (pv 1) Zac (Zat _)) ((Zao (i:=3) nd rfl (Or.inl rfl) (Za5<|>Zac<&&>(Zct C_law_draw hr.m rfl ((pv 0)<&>(Zac<&>Zab)))))<*>((Zfo (i:=4) (own:=["_law_k"]) (fr:=[]) rfl (Zcp (by kernel_rfl)) (Zf6 rfl T.n_range ((Zdp<|>(pv 3)<&&>Zac)<&>Zab)) (fun _ _ _ _=>⟨(@Zag _ _ 0 _ (show (["_law_k"]:List Str).Nodup by decide +kernel) rfl (Or.inl rfl) (Or.inr rfl)),Zbn,(@Zam _ _ _ _ _ ((pv 0)<&>((Za5<|>(pv 0)<&&>Zac)<&>Zab)))⟩) nd rfl rfl rfl)<*>(~~~(@Zam _ _ _ _ _ ((Za5<|>(pv 3)<&&>Zac)<&>((Zfr<|>(pv 4)<&&>(@Zbo _ _ _ _ ((@Zam _ _ _ _ _ (Zac<&>((pv 3)<&>Zab)))<&>((@Zam _ _ _ _ _ (Zac<&>((Za5<|>(pv 3)<&&>Zac)<&>Zab)))<&>((@Zam _ _ _ _ _ ((Zdp<|>(pv 3)<&&>Zac)<&>((Za5<|>(pv 3)<&&>Zac)<&>Zab)))<&>((@Zam _ _ _ _ _ ((Zdp<|>(pv 3)<&&>Zac)<&>((Za5<|>(pv 3)<&&>Zac)<&>Zab)))<&>Zab))))))<&>Zab)))))) Zas)<*>((@Zbl _ _ _ _ _ _ _ _ (Zaj Zdw (pv 1) Zac (Zat _)) ((Zao (i:=2) nd rfl (Or.inr rfl) (Za5<|>Zac<&&>(Zct C_law_draw hr.m rfl ((pv 0)<&>(Zac<&>Zab)))))<*>(~~~(@Zam _ _ _ _ _ ((pv 2)<&>((@Zb8 _ _ _ _ _ _ _ _ _ _ Zc5 (@Zbo _ _ _ _ ((@Zam _ _ _ _ _ (Zac<&>(Zac<&>Zab)))<&>((@Zam _ _ _ _ _ (Zac<&>(Zac<&>Zab)))<&>((@Zam _ _ _ _ _ (Zac<&>(Zac<&>Zab)))<&>((@Zam _ _ _ _ _ (Zac<&>(Zac<&>Zab)))<&>((@Zam _ _ _ _ _ (Zac<&>(Zac<&>Zab)))<&>((@Zam _ _ _ _ _ (Zac<&>(Zac<&>Zab)))<&>((@Zam _ _ _ _ _ (Zac<&>(Zac<&>Zab)))<&>Zab)))))))) Zc9 (@Zc8 _ _ _ (Zdp<|>(pv 2)<&&>Zac)))<&>Zab))))) Zas)<*>(~~~(@Zam _ _ _ _ _ (Zac<&>((@Zbo _ _ _ _ ((@Zam _ _ _ _ _ (Zac<&>(Zac<&>Zab)))<&>((@Zam _ _ _ _ _ (Zac<&>(Zac<&>Zab)))<&>((@Zam _ _ _ _ _ (Zac<&>(Zac<&>Zab)))<&>((@Zam _ _ _ _ _ (Zac<&>(Zac<&>Zab)))<&>((@Zam _ _ _ _ _ (Zac<&>(Zac<&>Zab)))<&>((@Zam _ _ _ _ _ (Zac<&>(Zac<&>Zab)))<&>((@Zam _ _ _ _ _ (Zac<&>(Zac<&>Zab)))<&>Zab))))))))<&>Zab))))))))),?_⟩
  walk_at "wp"
  refine hb.draw (by decide) (by decide) fun z H1 z0 z1 e1 b1=>⟨rfl,Zd1 (fun _=>?_) (fun _=>⟨rfl,Zd1 (fun _=>?_) (fun _=>⟨rfl,Zd1 (fun _=>?_) (fun _=>⟨rfl,Zd1 (fun _=>?_) (fun _=>?_)⟩)⟩)⟩)⟩
  ·refine b1.draw (by decide) (by decide) fun r H2 r0 r1 e2 b2=>⟨r,rfl,?_⟩
   refine ⟨_,rfl,1 + r,rfl,by omega,by omega,fun D hD=>Zev (m:=1 + r) (fun i=>0 + (i:Int)) (fun i=>(0 + (i:Int) + 1) % (1 + r)) hD (by omega) (fun i H Q _ h=>⟨_,rfl,h⟩) (fun i H Q _ h=>⟨_,rfl,_,_,rfl,rfl,_,rfl,_,_,rfl,rfl,by omega,h⟩)
    (fun i hi=>⟨by omega,by omega,Zge _ _ (by omega),Zgf _ _ (by omega)⟩) fun xs H' s e hl d=>⟨by decide,fun t ht=>?_⟩⟩
   have n1:=b2.ne hD
   have ex:Ext l H H2:=e1.trans e2
   obtain ⟨ya,yb,ye,y0,y1⟩:=id b2
   exact q _ _ _ _ _ (Out.fin (ex.trans s.ext) ⟨ya,yb,s _ _ ye,y0,y1⟩ e (ex.free n1 hD) (by omega) (by omega) (by omega) d ht)
  ·refine b1.draw (by decide) (by decide) fun r H2 r0 r1 e2 b2=>⟨r,rfl,?_⟩
   refine ⟨_,rfl,1,5 + r,rfl,⟨by decide,by decide,by omega,by omega⟩,fun D hD=>Zev (m:=5 + r) (fun i=>0) (fun i=>1 + (i:Int)) hD (by omega) (fun i H Q _ h=>h) (fun i H Q _ h=>⟨_,rfl,h⟩)
    (fun i hi=>⟨by omega,by omega,by omega,by omega⟩) fun xs H' s e hl d=>⟨by decide,fun t ht=>?_⟩⟩
   have n1:=b2.ne hD
   have ex:Ext l H H2:=e1.trans e2
   obtain ⟨ya,yb,ye,y0,y1⟩:=id b2
   exact q _ _ _ _ _ (Out.fin (ex.trans s.ext) ⟨ya,yb,s _ _ ye,y0,y1⟩ e (ex.free n1 hD) (by omega) (by omega) (by omega) d ht)
  ·refine b1.draw (by decide) (by decide) fun r H2 r0 r1 e2 b2=>⟨r,rfl,?_⟩
   refine ⟨_,rfl,_,_,rfl,rfl,_,rfl,by omega,by omega,fun D hD=>Zev (m:=2 + r) (fun i=>0 + (i:Int)) (fun i=>0 + (i:Int) + 1) hD (by omega) (fun i H Q _ h=>⟨_,rfl,h⟩) (fun i H Q _ h=>⟨_,rfl,_,_,rfl,rfl,h⟩)
    (fun i hi=>⟨by omega,by omega,by omega,by omega⟩) fun xs H' s e hl d=>?_⟩
   refine ⟨by decide,fun p1 h1=>⟨by decide,fun p2 h2=>⟨by decide,fun p3 h3=>⟨by decide,fun p4 h4=>⟨by decide,fun p5 h5=>?_⟩⟩⟩⟩⟩
   have D1:=(Edges.nil (H:=H') (m:=2 + r + 4)).add (i:=0) (j:=2 + r) h1 (by omega) (by omega) (by omega) (by omega)
   have D2:=D1.add (i:=0) (j:=2 + r + 1) h2 (by omega) (by omega) (by omega) (by omega)
   have D3:=D2.add (i:=2 + r - 1) (j:=2 + r + 2) h3 (by omega) (by omega) (by omega) (by omega)
   have D4:=D3.add (i:=2 + r - 1) (j:=2 + r + 3) h4 (by omega) (by omega) (by omega) (by omega)
   have S5:=((((Same.new h1).trans (Same.new h2)).trans (Same.new h3)).trans (Same.new h4)).trans (Same.new (o:=.lst [.ref p1,.ref p2,.ref p3,.ref p4]) h5)
   refine ⟨D,rfl,xs,S5 _ _ e,_,Zaa,Zah (by show xs.length + 4<=1000; omega) |> Jbs,fun p6 h6=>⟨by decide,fun p7 h7=>?_⟩⟩
   exact q _ _ _ _ _ (Out.done (e1.trans e2) b2 (s.trans S5) h6 (by omega) (by omega) (by rw [Jaj]; show xs.length + 4<=9; omega) (Edges.append ((d.lift (by omega)).same S5) (D4.same (Same.new h5))) h7)
  ·refine b1.draw (by decide) (by decide) fun r H2 r0 r1 e2 b2=>⟨r,rfl,?_⟩
   refine ⟨by decide,fun p1 h1=>⟨by decide,fun p2 h2=>⟨by decide,fun p3 h3=>⟨by decide,fun p4 h4=>⟨by decide,fun p5 h5=>⟨by decide,fun p6 h6=>⟨by decide,fun p7 h7=>⟨by decide,fun p8 h8=>⟨_,SqL.of Zaa,fun p9 h9=>⟨by decide,fun p10 h10=>?_⟩⟩⟩⟩⟩⟩⟩⟩⟩⟩
   have D1:=(Edges.nil (H:=H2) (m:=7)).add (i:=0) (j:=1) (m:=7) h1 (by omega) (by omega) (by omega) (by omega)
   have D2:=D1.add (i:=1) (j:=2) (m:=7) h2 (by omega) (by omega) (by omega) (by omega)
   have D3:=D2.add (i:=0) (j:=3) (m:=7) h3 (by omega) (by omega) (by omega) (by omega)
   have D4:=D3.add (i:=3) (j:=4) (m:=7) h4 (by omega) (by omega) (by omega) (by omega)
   have D5:=D4.add (i:=0) (j:=5) (m:=7) h5 (by omega) (by omega) (by omega) (by omega)
   have D6:=D5.add (i:=5) (j:=6) (m:=7) h6 (by omega) (by omega) (by omega) (by omega)
   have S8:=(((((((Same.new h1).trans (Same.new h2)).trans (Same.new h3)).trans (Same.new h4)).trans (Same.new h5)).trans (Same.new h6)).trans (Same.new h7)).trans (Same.new (o:=.lst [.ref p1,.ref p2,.ref p3,.ref p4,.ref p5,.ref p6,.ref p7]) h8)
   have E6:=D6.same ((Same.new (o:=.tup [.int 6,.int 7]) h7).trans (Same.new (o:=.lst [.ref p1,.ref p2,.ref p3,.ref p4,.ref p5,.ref p6,.ref p7]) h8))
   rcases (show r = 0\/r = 1 by omega) with rfl | rfl
   ·exact q _ _ _ _ _ (Out.done (e1.trans e2) b2 S8 h9 (by decide) (by decide) (Jay (Zco _ _ _) (by show 7<=9; decide)) (E6.lift (by decide)) h10)
   ·exact q _ _ _ _ _ (Out.done (e1.trans e2) b2 S8 h9 (by decide) (by decide) (Jay (Zco _ _ _) (by show 7<=9; decide)) (((D6.lift (m':=8) (by decide)).add (i:=6) (j:=7) h7 (by decide) (by decide) (by decide) (by decide)).same (Same.new h8)) h10)
  ·refine ⟨by decide,fun p1 h1=>⟨by decide,fun p2 h2=>⟨by decide,fun p3 h3=>⟨by decide,fun p4 h4=>⟨by decide,fun p5 h5=>⟨by decide,fun p6 h6=>⟨by decide,fun p7 h7=>⟨by decide,fun p8 h8=>⟨by decide,fun p9 h9=>?_⟩⟩⟩⟩⟩⟩⟩⟩⟩
   have D1:=(Edges.nil (H:=H1) (m:=8)).add (i:=0) (j:=1) (m:=8) h1 (by omega) (by omega) (by omega) (by omega)
   have D2:=D1.add (i:=0) (j:=2) (m:=8) h2 (by omega) (by omega) (by omega) (by omega)
   have D3:=D2.add (i:=2) (j:=3) (m:=8) h3 (by omega) (by omega) (by omega) (by omega)
   have D4:=D3.add (i:=3) (j:=4) (m:=8) h4 (by omega) (by omega) (by omega) (by omega)
   have D5:=D4.add (i:=0) (j:=5) (m:=8) h5 (by omega) (by omega) (by omega) (by omega)
   have D6:=D5.add (i:=5) (j:=6) (m:=8) h6 (by omega) (by omega) (by omega) (by omega)
   have D7:=D6.add (i:=6) (j:=7) (m:=8) h7 (by omega) (by omega) (by omega) (by omega)
   exact q _ _ _ _ _ (Out.done e1 b1 (((((((Same.new h1).trans (Same.new h2)).trans (Same.new h3)).trans (Same.new h4)).trans (Same.new h5)).trans (Same.new h6)).trans (Same.new h7)) h8 (by decide) (by decide) (by show 7<=9; decide) D7 h9)
end
end Pf
set_option maxHeartbeats 1000000
namespace Pf
open PySem L2 PyProof.Rows
section
variable {P:Program} {w:World} {K:PySem.W.Frag} {mg:Str->Option Value} {base:Heap} {C:Addr}
theorem iteP {c A B:Prop} [Decidable c] (hc:c) (h:A):if c then A else B:=by rw [if_pos hc]; exact h
theorem iteN {c A B:Prop} [Decidable c] (hc:¬ c) (h:B):if c then A else B:=by rw [if_neg hc]; exact h
theorem Zom {a D:Addr} {xs:List V} {fr:List (Str × Nat)} {σ:L2.St} {te:TE} {H1:Hp} {Q:VK} (fb:Nat->Bool) (ha:H1 a = some (.lst xs)) (hD:H1 D = none) (hn:xs.length<=1000)
  (h:∀ (i:Nat) x H (Q:VK),xs[i]? = some x->Same H1 H->(∀ H',Same H H'->Q (.bl (fb i)) H')->te (some x :: Zcr fr σ) H Q)
  (hQ:∀ H',Same H1 H'->H' D = some (.lst (((List.range xs.length).map fb).map V.bl))->Q (.ref D) H'):Zci (Zbe 0) Zhp te (Itl K a) D (Ze3 1 fr σ) H1 Q:=by
 refine Zb9 (xs:=xs) (fun i vs H=>Same H1 H/\H D = some (.lst vs)/\vs = ((List.range i).map fb).map V.bl) ⟨Same.new hD,Zaa,rfl⟩ (fun i vs H _ p=>SqL.of (p.1 _ _ ha)) ?_ (fun vs H ⟨s,e,hv⟩=>hQ H s (by rw [e,hv]))
 rintro i x vs σ' H hi hx sh ⟨s,e,rfl⟩
 obtain ⟨z,rfl⟩:=sh.one
 simp only [Zdv,Zbe,Zhp,Ja0,Jdu]
 refine h i x H _ hx s fun H' s'=>?_
 exact leaf (ws:=((List.range (i + 1)).map fb).map V.bl) hi Sh.mk1 (s' _ _ e) (Zah (by rw [Jab,Jab,Jcx]; omega)) ⟨(s.trans s').upd hD,by rw [Zaa,Jeq,Jbf,Jbf]; rfl,rfl⟩
theorem Zol {a D:Addr} {xs:List V} {fr:List (Str × Nat)} {σ:L2.St} {te:TE} {H1:Hp} {Q:VK} (fb:Nat->Bool) (ha:H1 a = some (.tup xs)) (hD:H1 D = none) (hn:xs.length<=1000)
  (h:∀ (i:Nat) x H (Q:VK),xs[i]? = some x->Same H1 H->(∀ H',Same H H'->Q (.bl (fb i)) H')->te (some x :: Zcr fr σ) H Q)
  (hQ:∀ H',Same H1 H'->H' D = some (.lst (((List.range xs.length).map fb).map V.bl))->Q (.ref D) H'):Zci (Zbe 0) Zhp te (Itt K a) D (Ze3 1 fr σ) H1 Q:=by
 refine Zqi (xs:=xs) (fun i vs H=>Same H1 H/\H D = some (.lst vs)/\vs = ((List.range i).map fb).map V.bl) ⟨Same.new hD,Zaa,rfl⟩ (fun i vs H _ p=>SqT.of (p.1 _ _ ha)) ?_ (fun vs H ⟨s,e,hv⟩=>hQ H s (by rw [e,hv]))
 rintro i x vs σ' H hi hx sh ⟨s,e,rfl⟩
 obtain ⟨z,rfl⟩:=sh.one
 simp only [Zdv,Zbe,Zhp,Ja0,Jdu]
 refine h i x H _ hx s fun H' s'=>?_
 exact leaf (ws:=((List.range (i + 1)).map fb).map V.bl) hi Sh.mk1 (s' _ _ e) (Zah (by rw [Jab,Jab,Jcx]; omega)) ⟨(s.trans s').upd hD,by rw [Zaa,Jeq,Jbf,Jbf]; rfl,rfl⟩
theorem Zks (n:Nat):((List.range n).map fun _=>true).all id = true:=by
 rw [Jck]
 intro b hb
 obtain ⟨_,_,rfl⟩:=Jak.mp hb
 rfl
def Zgq:Sp:=fun vs H Q _=>∃ i:Int,vs = [.int i]/\Q (.bl true) H
theorem Zpo {f:Addr} {fd:FuncData} (F:Fun K "is_whole" "is_whole" Zcg f fd) (T:Txt K mg C):FnOk P w K mg base CX0 1 f fd ["thing"] Zgq:=by
 have nd:=Zfh.nd
 refine F.ok Zfh (fun vs H Q E h=>?_) (fun cdv A outer s H vs Q E hr h=>?_)
 ·obtain ⟨i,rfl,_⟩:=h
  rfl
 ·obtain ⟨i,rfl,q⟩:=h
  refine ⟨_,(~~~(Zq6 (Zb2 Zdd rfl T.n_isinstance Jfp ((pv 0)<&>((Zpe rfl T.n_int boot_int)<&>Zab))) (Zq5 (pe_not (Zb2 Zdd rfl T.n_isinstance Jfp ((pv 0)<&>((Zpe rfl T.n_bool boot_bool)<&>Zab))))))),?_⟩
  walk_at "wp"
  exact ⟨_,_,⟨rfl,rfl⟩,_,rfl,_,.int i,_,Zns K,iteT ⟨_,_,⟨rfl,rfl⟩,_,rfl,_,.int i,_,Zlf K,q⟩⟩
def Zir:Sp:=fun vs H Q _=>∃ (m:Int) (x:V),vs = [.int m,x]/\Edge H m x/\∀ H',Same H H'->Q (.bl true) H'
theorem Zpu {f:Addr} {fd:FuncData} (F:Fun K "is_arrow" "is_arrow" Zch f fd) (T:Txt K mg C) (C_is_whole:Cal P w K mg base "is_whole" 1 Zgq):FnOk P w K mg base CX0 2 f fd ["many","thing"] Zir:=by
 have nd:=Zfi.nd
 refine F.ok Zfi (fun vs H Q E h=>?_) (fun cdv A outer s H vs Q E hr h=>?_)
 ·obtain ⟨m,x,rfl,_⟩:=h
  rfl
 ·obtain ⟨m,x,rfl,⟨t,i,j,rfl,ht,i0,i1,j0,j1⟩,q⟩:=h
  refine ⟨_,((@Zbl _ _ _ _ _ _ _ _ (PW.pt (Zo7 (Zfn (Zhu (Zb2 Zdd rfl T.n_isinstance Jfp ((pv 1)<&>((Zpe rfl T.n_tuple boot_tuple)<&>Zab))))) (Zjz (Zaj Zpm (Zb2 Zaq rfl T.n_len Jcd ((pv 1)<&>Zab)) Zac (Zat _))))) (~~~Zk4) Zas)<*>(~~~(Zb2 (Zhi rfl) rfl T.n_all boot_all ((Zbj (own:=["end"]) (fr:=[("many",0)]) rfl (Zcp (by kernel_rfl)) (Zq4 (pv 1)) (fun _ _ _ _=>⟨(@Zag _ _ 0 _ (show (["end","many"]:List Str).Nodup by decide +kernel) rfl (Or.inl rfl) (Or.inr rfl)),Zbn,(Zq6 (Zct C_is_whole hr.m rfl ((pv 0)<&>Zab)) (Zq5 (Zpj op_le Zpn Zac (pv 0) (pv 1))))⟩))<&>Zab)))),?_⟩
  walk_at "wp"
  refine ⟨_,_,⟨rfl,rfl⟩,_,rfl,_,.tup ht,_,Znr K,iteF ⟨_,.inr (SqT.of ht),iteF ?_⟩⟩
  refine ⟨_,rfl,t,rfl,⟨_,SqT.of ht⟩,fun D hD=>Zol (fun _=>true) ht hD (by show 2<=1000; decide) (fun k x H' Q' hx s' q'=>?_) fun H' s' e'=>⟨D,rfl,_,SqL.of e',?_⟩⟩
  ·have hx':∃ z:Int,x = .int z/\0<=z/\z < m:=by
    match k,hx with
    | 0,hx=>exact ⟨i,(Jbm hx).symm,i0,i1⟩
    | 1,hx=>exact ⟨j,(Jbm hx).symm,j0,j1⟩
    | k + 2,hx=>cases hx
   obtain ⟨z,rfl,z0,z1⟩:=hx'
   refine ⟨_,rfl,⟨z,rfl,true,rfl,iteT ⟨_,rfl,_,_,rfl,rfl,_,rfl,?_⟩⟩⟩
   refine iteP (Ja2 z0) ⟨_,rfl,_,_,rfl,rfl,?_⟩
   show Q' (V.bl (decide (z < m))) H'
   rw [Ja2 z1]
   exact q' H' (Same.refl _)
  ·rw [Zks]
   exact q H' s'
def Zip:Sp:=fun vs H Q _=>∃ (m:Int) (a:Addr) (xs:List V),vs = [.int m,.ref a]/\1<=m/\m<=8/\H a = some (.lst xs)/\xs.length<=9/\Edges H m xs/\∀ H',Same H H'->Q (.bl true) H'
theorem Zps {f:Addr} {fd:FuncData} (F:Fun K "makes_drawing" "makes_drawing" Za2 f fd) (T:Txt K mg C) (C_is_whole:Cal P w K mg base "is_whole" 1 Zgq) (C_is_arrow:Cal P w K mg base "is_arrow" 2 Zir):FnOk P w K mg base CX0 3 f fd ["many","arrows"] Zip:=by
 have nd:=Zde.nd
 refine F.ok Zde (fun vs H Q E h=>?_) (fun cdv A outer s H vs Q E hr h=>?_)
 ·obtain ⟨m,a,xs,rfl,_⟩:=h
  rfl
 ·obtain ⟨m,a,xs,rfl,m0,m8,ha,hl,d,q⟩:=h
  refine ⟨_,((@Zbl _ _ _ _ _ _ _ _ (PW.pt (Zo7 (Zfn (Zhu (Zct C_is_whole hr.m rfl ((pv 0)<&>Zab)))) (Zjz (Zfn (Zpa op_le op_le Zac (pv 0) (Zj6 rfl T.g_MOST_POINTS)))))) (~~~Zk4) Zas)<*>((@Zbl _ _ _ _ _ _ _ _ (PW.pt (Zo7 (Zfn (Zhu (Zb2 Zdd rfl T.n_isinstance Jfp ((pv 1)<&>((Zpe rfl T.n_list Je3)<&>Zab))))) (Zjz (Zaj Zh0 (Zb2 Zaq rfl T.n_len Jcd ((pv 1)<&>Zab)) (Zj6 rfl T.g_MOST_ARROWS) (Zat _))))) (~~~Zk4) Zas)<*>(~~~(Zb2 (Zhi rfl) rfl T.n_all boot_all ((Zbj (own:=["arrow"]) (fr:=[("many",0)]) rfl (Zcp (by kernel_rfl)) (Zaz (pv 1)) (fun _ _ _ _=>⟨(@Zag _ _ 0 _ (show (["arrow","many"]:List Str).Nodup by decide +kernel) rfl (Or.inl rfl) (Or.inr rfl)),Zbn,(Zct C_is_arrow hr.m rfl ((pv 1)<&>((pv 0)<&>Zab)))⟩))<&>Zab))))),?_⟩
  walk_at "wp"
  refine ⟨m,rfl,true,rfl,iteF (iteP (Ja2 m0) (iteN (by rw [Ja2 m8]; decide) ⟨_,_,⟨rfl,rfl⟩,_,rfl,_,.lst ha,_,Zi3 K,iteF ⟨_,.inl (SqL.of ha),iteN (by rw [Jb7 (by omega)]; decide) ?_⟩⟩))⟩
  refine ⟨_,rfl,a,rfl,⟨_,SqL.of ha⟩,fun D hD=>Zom (fun _=>true) ha hD (by omega) (fun k x H' Q' hx s' q'=>?_) fun H' s' e'=>⟨D,rfl,_,SqL.of e',?_⟩⟩
  ·exact ⟨_,rfl,_,rfl,m,x,rfl,(d x (Jan hx)).same s',q'⟩
  ·rw [Zks]
   exact q H' s'
def flds (m:Int) (lp:Addr):List (Str × V):=Zg1 "arrows" (.ref lp) (Zg1 "many" (.int m) [])
theorem Zfw (m:Int) (lp:Addr):(flds m lp).lookup ("arrows" : Str) = some (.ref lp):=by
 unfold flds
 rw [Zcm,if_pos rfl]
theorem Zn7 (m:Int) (lp:Addr) {x:Str} (h1:¬ x = "arrows") (h2:¬ x = "many"):(flds m lp).lookup x = none:=by
 unfold flds
 rw [Zcm,if_neg h1,Zcm,if_neg h2]
 rfl
theorem Zp9 (m:Int):(Zg1 "many" (.int m) ([]:List (Str × V))).length < 1000:=by
 have:=Zd9 "many" (.int m) []
 simp at this
 omega
def Zjs (C:Addr):Sp:=fun vs H Q _=>∃ (p dx:Addr) (m:Int) (a:Addr) (xs:List V),vs = [.ref p,.int m,.ref a]/\H p = some (.ins C dx [])/\1<=m/\m<=8/\H a = some (.lst xs)/\xs.length<=9/\Edges H m xs /\
 ∀ (lp:Addr) (H':Hp),Ext p H H'->H' p = some (.ins C dx (flds m lp))->H lp = none->H' lp = some (.lst xs)->Q .non H'
theorem ok_init {f:Addr} {fd:FuncData} (F:Fun K "__init__" "Drawing.__init__" Zbb f fd) (T:Txt K mg C) (C_makes_drawing:Cal P w K mg base "makes_drawing" 3 Zip):FnOk P w K mg base CX0 4 f fd ["self","many","arrows"] (Zjs C):=by
 have nd:=Zdh.nd
 refine F.ok Zdh (fun vs H Q E h=>?_) (fun cdv A outer s H vs Q E hr h=>?_)
 ·obtain ⟨p,dx,m,a,xs,rfl,_⟩:=h
  rfl
 ·obtain ⟨p,dx,m,a,xs,rfl,hp,m0,m8,ha,hl,d,q⟩:=h
  refine ⟨_,((@Zbl _ _ _ _ _ _ _ _ (Zfn (Zhu (Zct C_makes_drawing hr.m rfl ((pv 1)<&>((pv 2)<&>Zab))))) (@Zal _ _ _ Zpd) Zas)<*>((Zq1 (pv 0) (pv 1) rfl)<*>(@Zal _ _ _ (Zq1 (pv 0) (Zd7 Zb3 rfl T.n_list Je3 ((pv 2)<&>Zab)) rfl)))),?_⟩
  walk_at "wp"
  refine ⟨m,a,xs,rfl,m0,m8,ha,hl,d,fun H1 s1=>⟨true,rfl,iteF ?_⟩⟩
  have nap:a ≠ p:=Zf7 ha hp (by intro z; cases z)
  refine ⟨C,dx,[],s1 _ _ hp,T.cl_Drawing,T.nM,by show 0 < 1000; decide,xs,.inl (SqL.of (by rw [Zaf nap]; exact s1 _ _ ha)),fun l hl0=>?_⟩
  have npl:p ≠ l:=Zad Zaa hl0
  refine ⟨C,dx,_,by rw [Zaf npl]; exact Zaa,T.cl_Drawing,T.nA,Zp9 m,?_⟩
  have fl:H l = none:=by
   rw [Zaf npl.symm] at hl0
   exact s1.free hl0
  refine q l _ (fun b o nb e=>?_) Zaa fl (by rw [Zaf npl.symm]; exact Zaa)
  rw [Zaf nb,Zaf (Zad e fl),Zaf nb]
  exact s1 _ _ e
def Prs (H:Hp) (xs:List V) (ps:List (Int × Int)):Prop:=xs.length = ps.length/\∀ (i:Nat) (x:V) (q:Int × Int),xs[i]? = some x->ps[i]? = some q->∃ t,x = .ref t/\H t = some (.tup [.int q.1,.int q.2])
theorem Prs.same {H H':Hp} {xs:List V} {ps:List (Int × Int)} (h:Prs H xs ps) (s:Same H H'):Prs H' xs ps:=⟨h.1,fun i x q h1 h2=>let ⟨t,e1,e2⟩:=h.2 i x q h1 h2; ⟨t,e1,s _ _ e2⟩⟩
def DrawAt (C:Addr) (H:Hp) (p:Addr) (m:Int) (lp:Addr) (xs:List V):Prop:=∃ dx,H p = some (.ins C dx (flds m lp))/\H lp = some (.lst xs)
def InP (m:Int) (ps:List (Int × Int)):Prop:=∀ q ∈ ps,0<=q.1/\q.1 < m/\0<=q.2/\q.2 < m
theorem Prs.nil {H:Hp}:Prs H [] []:=⟨rfl,fun i x q h=>by simp at h⟩
theorem Prs.put {H:Hp} {D:Addr} {l:List V} {o:HO} {xs:List V} {ps:List (Int × Int)} (h:Prs H xs ps) (hD:H D = some (.lst l)):Prs (upd H D o) xs ps:=
 ⟨h.1,fun i x q h1 h2=>let ⟨t,e1,e2⟩:=h.2 i x q h1 h2; ⟨t,e1,by rw [Zaf (Zf7 e2 hD (by intro z; cases z))]; exact e2⟩⟩
theorem Prs.add {H:Hp} {xs:List V} {ps:List (Int × Int)} {t:Addr} {q:Int × Int} (h:Prs H xs ps) (ht:H t = some (.tup [.int q.1,.int q.2])):Prs H (xs ++ [.ref t]) (ps ++ [q]):=by
 refine ⟨by simp [h.1],fun i x r h1 h2=>?_⟩
 by_cases hi:i < xs.length
 ·rw [Jbg hi] at h1
  rw [Jbg (by rw [<- h.1]; exact hi)] at h2
  exact h.2 i x r h1 h2
 ·rw [Ja5 (by omega)] at h1
  rw [Ja5 (by rw [<- h.1]; omega)] at h2
  have hl:=h.1
  by_cases h0:i - xs.length = 0
  ·rw [h0] at h1
   rw [<- hl,h0] at h2
   simp at h1 h2
   exact ⟨t,h1.symm,by rw [<- h2]; exact ht⟩
  ·rw [List.getElem?_eq_none (by simp; omega)] at h1
   cases h1
theorem Zqa {H:Hp} {m:Int} {xs:List V} {ps:List (Int × Int)} (h:Prs H xs ps) (r:InP m ps):Edges H m xs:=by
 intro x hx
 obtain ⟨i,hi,rfl⟩:=Jc3.mp hx
 have hl:=h.1
 have hq:ps[i]? = some (ps[i]'(by omega)):=Jac _
 obtain ⟨t,e1,e2⟩:=h.2 i _ _ (Jac hi) hq
 exact ⟨t,_,_,e1,e2,r _ (Jan hq)⟩
def Drw (C:Addr) (H:Hp) (p:Addr) (m:Int) (ps:List (Int × Int)):Prop:=∃ lp xs,DrawAt C H p m lp xs/\xs.length<=9/\Prs H xs ps
theorem Drw.same {H H':Hp} {p:Addr} {m:Int} {ps:List (Int × Int)} (h:Drw C H p m ps) (s:Same H H'):Drw C H' p m ps:=by
 obtain ⟨lp,xs,⟨dx,h1,h2⟩,h3,h4⟩:=h
 exact ⟨lp,xs,⟨dx,s _ _ h1,s _ _ h2⟩,h3,h4.same s⟩
theorem room8 {k:Nat} {A:Around} (hr:Room k A):A.units + 8 < cLine:=by have:=hr.units; omega
theorem Same.thru {l:Addr} {H H1 H2:Hp} (s:Same H H1) (h:H l = none) (e:Ext l H1 H2):Same H H2:=fun b o eb=>e b o (Zad eb h) (s b o eb)
end
end Pf
namespace Pf
open PySem L2 PyProof.Rows
def stepL (f:Int->Int) (q:Int × Int):Int->Int:=fun x=>if f x = max (f q.1) (f q.2) then min (f q.1) (f q.2) else f x
def Zbi (ps:List (Int × Int)):Int->Int:=ps.foldl stepL id
def Zqp (h:Int->Int) (ps:List (Int × Int)):Prop:=∀ q ∈ ps,h q.1 = h q.2
structure Lab (m:Int) (ps:List (Int × Int)) (f:Int->Int):Prop where
 le:∀ x,0<=x->x < m->f x<=x
 lo:∀ x,0<=x->x < m->0<=f x
 co:∀ h,Zqp h ps->∀ x,0<=x->x < m->h (f x) = h x
theorem Lab.lt {m:Int} {ps:List (Int × Int)} {f:Int->Int} (L:Lab m ps f) {x:Int} (h0:0<=x) (h1:x < m):f x < m:=Int.lt_of_le_of_lt (L.le x h0 h1) h1
theorem Lab.id (m:Int) (ps:List (Int × Int)):Lab m ps id:=⟨fun x _ _=>Int.le_refl x,fun x h _=>h,fun _ _ _ _ _=>rfl⟩
theorem Lab.stepL {m:Int} {ps:List (Int × Int)} {f:Int->Int} {q:Int × Int} (L:Lab m ps f) (hp:InP m ps) (hq:q ∈ ps):Lab m ps (stepL f q):=by
 obtain ⟨a0,a1,b0,b1⟩:=hp q hq
 have fa:=L.lo _ a0 a1
 have fb:=L.lo _ b0 b1
 refine ⟨fun x h0 h1=>?_,fun x h0 h1=>?_,fun h c x h0 h1=>?_⟩
 ·have:=L.le x h0 h1
  unfold Pf.stepL
  split <;> omega
 ·have:=L.lo x h0 h1
  unfold Pf.stepL
  split <;> omega
 ·have e:=L.co h c x h0 h1
  have ea:=L.co h c _ a0 a1
  have eb:=L.co h c _ b0 b1
  have eq:=c q hq
  unfold Pf.stepL
  split
  ·rename_i hx
   rw [<- e,hx]
   rcases Int.le_total (f q.1) (f q.2) with z | z
   ·rw [Int.min_eq_left z,Int.max_eq_right z]; omega
   ·rw [Int.min_eq_right z,Int.max_eq_left z]; omega
  ·exact e
theorem Zkx {f:Int->Int} {q:Int × Int} {x y:Int} (h:f x = f y):stepL f q x = stepL f q y:=by unfold stepL; rw [h]
theorem Zky {f:Int->Int} {q:Int × Int}:stepL f q q.1 = stepL f q q.2:=by
 unfold stepL
 split <;> split <;> omega
theorem Znn {m:Int} {ps:List (Int × Int)} (hp:InP m ps):∀ (r:List (Int × Int)) (d:List (Int × Int)) (f:Int->Int),(∀ q ∈ r,q ∈ ps)->Lab m ps f->Zqp f d->Lab m ps (r.foldl stepL f)/\Zqp (r.foldl stepL f) (d ++ r)
 | [],d,f,_,L,c=>⟨L,by simpa using c⟩
 | q :: r,d,f,hr,L,c=>by
  have L':=L.stepL hp (hr q Jc2)
  have:=Znn hp r (d ++ [q]) (stepL f q) (fun z hz=>hr z (Jbj _ hz)) L' (fun z hz=>by
   rcases Jbd.mp hz with hz | hz
   ·exact Zkx (c z hz)
   ·rw [Jaz.mp hz]; exact Zky)
  simpa using this
theorem Zg9 {m:Int} {ps:List (Int × Int)} (hp:InP m ps):Lab m ps (Zbi ps)/\Zqp (Zbi ps) ps:=by
 have:=Znn hp ps [] id (fun _ h=>h) (Lab.id m ps) (fun q h=>by simp at h)
 simpa [Zbi] using this
def Zeo (n:Nat) (f:Int->Int) (k:Int):List Int:=((List.range n).filter fun j=>decide (f (j:Nat) = k)).map fun j=>((j:Nat):Int)
def Zc7 (n:Nat) (f:Int->Int):List (List Int):=((List.range n).filter fun i=>decide (f (i:Nat) = (i:Nat))).map fun i=>Zeo n f (i:Nat)
end Pf
namespace Pf
open PySem L2 PyProof.Rows
section
variable {P:Program} {w:World} {K:PySem.W.Frag} {mg:Str->Option Value} {base:Heap} {C:Addr}
theorem room1 {k:Nat} {A:Around} (hr:Room k A):A.units + 1 < cLine:=by have:=hr.units; omega
def ptsV (n:Nat):List V:=(List.range n).map fun j=>V.int ((j:Nat):Int)
theorem Zj0 {m:Int}:Zk2 0 m = ptsV m.toNat:=by unfold Zk2 ptsV; simp
structure Pts (J:It) (H1:Hp) (n:Nat):Prop where
 go:∀ i H,i < n->Same H1 H->J.go i H/\∀ x H',J.yld i H x H'->H' = H/\x = V.int (i:Nat)
 stop:∀ H,Same H1 H->J.stop n H
def RowsF (D:Addr) (H0 H:Hp) (qs:List V) (L:List (List Int)):Prop:=
 qs.length = L.length/\∀ (i:Nat) q r,qs[i]? = some q->L[i]? = some r->∃ t,q = .ref t/\t ≠ D/\H0 t = none/\H t = some (.lst (r.map V.int))
theorem RowsF.nil {D:Addr} {H0 H:Hp}:RowsF D H0 H [] []:=⟨rfl,fun i q r h=>by simp at h⟩
theorem RowsF.same {D:Addr} {H0 H H':Hp} {qs:List V} {L:List (List Int)} (h:RowsF D H0 H qs L) (s:Same H H'):RowsF D H0 H' qs L:=
 ⟨h.1,fun i q r h1 h2=>let ⟨t,e1,e2,e3,e4⟩:=h.2 i q r h1 h2; ⟨t,e1,e2,e3,s _ _ e4⟩⟩
theorem RowsF.put {D:Addr} {H0 H:Hp} {o:HO} {qs:List V} {L:List (List Int)} (h:RowsF D H0 H qs L):RowsF D H0 (upd H D o) qs L:=
 ⟨h.1,fun i q r h1 h2=>let ⟨t,e1,e2,e3,e4⟩:=h.2 i q r h1 h2; ⟨t,e1,e2,e3,by rw [Zaf e2]; exact e4⟩⟩
theorem RowsF.old {D:Addr} {H0 H1 H:Hp} {qs:List V} {L:List (List Int)} (h:RowsF D H1 H qs L) (s:Same H0 H1):RowsF D H0 H qs L:=
 ⟨h.1,fun i q r h1 h2=>let ⟨t,e1,e2,e3,e4⟩:=h.2 i q r h1 h2; ⟨t,e1,e2,s.free e3,e4⟩⟩
theorem RowsF.add {D:Addr} {H0 H:Hp} {qs:List V} {L:List (List Int)} {t:Addr} {r:List Int} (h:RowsF D H0 H qs L) (n:t ≠ D) (f:H0 t = none) (ht:H t = some (.lst (r.map V.int))):RowsF D H0 H (qs ++ [.ref t]) (L ++ [r]):=by
 refine ⟨by simp [h.1],fun i x r' h1 h2=>?_⟩
 by_cases hi:i < qs.length
 ·rw [Jbg hi] at h1
  rw [Jbg (by rw [<- h.1]; exact hi)] at h2
  exact h.2 i x r' h1 h2
 ·rw [Ja5 (by omega)] at h1
  rw [Ja5 (by rw [<- h.1]; omega)] at h2
  have hl:=h.1
  by_cases h0:i - qs.length = 0
  ·rw [h0] at h1
   rw [<- hl,h0] at h2
   simp at h1 h2
   exact ⟨t,h1.symm,n,f,by rw [<- h2]; exact ht⟩
  ·rw [List.getElem?_eq_none (by simp; omega)] at h1
   cases h1
def DRep (n:Nat) (kvs:List (Key × V)) (f:Int->Int):Prop:=kvs.length<=n/\∀ x:Int,0<=x->x < n->Zel kvs (.inl x) = some (.int (f x))
theorem Zo9 {kvs:List (Key × V)} {k:Key} {v:V} (h:(Zel kvs k).isSome = true):(Ze9 kvs k v).length = kvs.length:=by
 unfold Ze9
 rw [Zds,h,if_pos rfl,Jab]
theorem DRep.get {n:Nat} {kvs:List (Key × V)} {f:Int->Int} {H:Hp} {D:Addr} {x:Int} (h:DRep n kvs f) (e:H D = some (.dK kvs)) (h0:0<=x) (h1:x < n):DGet H D (.int x) (some (.int (f x))):=by
 have:=DGet.k (k:=.inl x) e
 rwa [h.2 x h0 h1] at this
theorem sort2 {ns:List Int} {x y:Int} (hp:ns.Perm [x,y]) (hs:ns.Pairwise (·<=·)):ns = [min x y,max x y]:=by
 have hl:=hp.length_eq
 match ns,hl with
 | [u,v],_=>
  have h1:u ∈ [x,y]:=hp.mem_iff.mp (by simp)
  have h2:v ∈ [x,y]:=hp.mem_iff.mp (by simp)
  have h3:x ∈ [u,v]:=hp.mem_iff.mpr (by simp)
  have h4:y ∈ [u,v]:=hp.mem_iff.mpr (by simp)
  have h5:u<=v:=by simpa using hs
  simp at h1 h2 h3 h4
  have e1:u = min x y:=by omega
  have e2:v = max x y:=by omega
  rw [e1,e2]
def Zgs (C:Addr):Sp:=fun vs H Q _=>∃ (x:Addr) (m:Int) (ps:List (Int × Int)),vs = [.ref x]/\Drw C H x m ps/\InP m ps/\1<=m/\m<=8 /\
 ∀ p qs H',Same H H'->H p = none->H' p = some (.lst qs)->RowsF p H H' qs (Zc7 m.toNat (Zbi ps))->Q (.ref p) H'
def GRep (n:Nat) (ns:List Int) (g:Int->Int):Prop:=ns.length = n/\∀ i:Nat,i < n->ns[i]? = some (g (i:Nat))
theorem GRep.set {n:Nat} {ns:List Int} {g:Int->Int} {k v:Int} (h:GRep n ns g) (h0:0<=k) (h1:k < n):GRep n (ns.set k.toNat v) (fun x=>if x = k then v else g x):=by
 have hl:=h.1
 refine ⟨by rw [Jdi]; exact h.1,fun i hi=>?_⟩
 rw [List.getElem?_set]
 show _ = some (if ((i:Nat):Int) = k then v else g (i:Nat))
 by_cases e:k.toNat = i
 ·rw [if_pos e,if_pos (by omega),if_pos (by omega)]
 ·rw [if_neg e,h.2 i hi,if_neg (by omega)]
theorem Zet {L:List Int} {i:Nat} {x:V} (h:(L.map V.int)[i]? = some x):∃ y,L[i]? = some y/\x = .int y:=by
 rw [Jbe] at h
 cases e:L[i]? with
 | none=>rw [e] at h; cases h
 | some y=>rw [e] at h; cases h; exact ⟨y,rfl,rfl⟩
theorem Zjc {a D:Addr} {L:List Int} {fr:List (Str × Nat)} {σ:L2.St} {tt:TT} {H1:Hp} {Q:VK} (g:Int->Bool) (ha:H1 a = some (.lst (L.map V.int))) (hD:H1 D = none) (hn:L.length<=900)
  (h:∀ x H (Q:Bool->Hp->Prop),x ∈ L->Same H1 H->Q (g x) H->tt (some (.int x) :: Zcr fr σ) H Q)
  (hQ:∀ H',Same H1 H'->H' D = some (.lst ((L.filter g).map V.int))->Q (.ref D) H'):Zci (Zbe 0) tt (Zjp 0) (Itl K a) D (Ze3 1 fr σ) H1 Q:=by
 refine Zb9 (xs:=L.map V.int) (fun i vs H=>Same H1 H/\H D = some (.lst vs)/\vs = ((L.take i).filter g).map V.int) ⟨Same.new hD,Zaa,rfl⟩ (fun i vs H _ p=>SqL.of (p.1 _ _ ha)) ?_ (fun vs H ⟨s,e,hv⟩=>hQ H s (by rw [e,hv,Jab,Jbu]))
 rintro i x vs σ' H hi hx sh ⟨s,e,hv⟩
 obtain ⟨z,rfl⟩:=sh.one
 obtain ⟨y,ey,rfl⟩:=Zet hx
 have et:L.take (i + 1) = L.take i ++ [y]:=by rw [Jbn,ey]; rfl
 have hl:=Ja9 g (L.take i)
 rw [Ja1] at hl
 simp only [Zdv,Zbe,Ja0]
 refine h y H _ (Jan ey) s (Zd1 (fun hg=>?_) (fun hg=>?_))
 ·refine ⟨_,rfl,leaf (ws:=vs ++ [.int y]) hi Sh.mk1 e (Zah (by rw [hv,Jab]; omega)) ⟨s.upd hD,Zaa,?_⟩⟩
  rw [et,Jcu,hv]
  simp [hg]
 ·refine Zp2 (ws:=vs) hi Sh.mk1 ⟨s,e,?_⟩
  rw [et,Jcu,hv]
  simp [hg]
theorem Zjb {a D:Addr} {L:List Int} {fr:List (Str × Nat)} {σ:L2.St} {tt:TT} {te:TE} {H1:Hp} {Q:VK} (g:Int->Bool) (row:Int->List Int) (ha:H1 a = some (.lst (L.map V.int))) (hD:H1 D = none) (hn:L.length<=900)
  (h:∀ x H (Q:Bool->Hp->Prop),x ∈ L->Same H1 H->Q (g x) H->tt (some (.int x) :: Zcr fr σ) H Q)
  (he:∀ x H (Q:VK),x ∈ L->Same H1 H->(∀ t H',H t = none->Same H H'->H' t = some (.lst ((row x).map V.int))->Q (.ref t) H')->te (some (.int x) :: Zcr fr σ) H Q)
  (hQ:∀ qs H',Same H1 H'->H' D = some (.lst qs)->RowsF D H1 H' qs ((L.filter g).map row)->Q (.ref D) H'):Zci (Zbe 0) tt te (Itl K a) D (Ze3 1 fr σ) H1 Q:=by
 refine Zb9 (xs:=L.map V.int) (fun i vs H=>Same H1 H/\H D = some (.lst vs)/\RowsF D H1 H vs (((L.take i).filter g).map row)) ⟨Same.new hD,Zaa,RowsF.nil⟩ (fun i vs H _ p=>SqL.of (p.1 _ _ ha)) ?_ (fun vs H ⟨s,e,hv⟩=>hQ vs H s e (by rw [Jab,Jbu] at hv; exact hv))
 rintro i x vs σ' H hi hx sh ⟨s,e,hv⟩
 obtain ⟨z,rfl⟩:=sh.one
 obtain ⟨y,ey,rfl⟩:=Zet hx
 have et:L.take (i + 1) = L.take i ++ [y]:=by rw [Jbn,ey]; rfl
 have hl:=Ja9 g (L.take i)
 rw [Ja1] at hl
 have hv1:=hv.1
 rw [Jab] at hv1
 simp only [Zdv,Zbe,Ja0]
 refine h y H _ (Jan ey) s (Zd1 (fun hg=>?_) (fun hg=>?_))
 ·refine he y H _ (Jan ey) s fun t H' ft s' ht=>?_
  have nt:t ≠ D:=(Zad e ft).symm
  refine leaf (ws:=vs ++ [.ref t]) hi Sh.mk1 (s' _ _ e) (Zah (by omega)) ⟨(s.trans s').upd hD,Zaa,?_⟩
  have:=((hv.same s').add nt (s.free ft) ht).put (o:=.lst (vs ++ [.ref t]))
  rw [et,Jcu,Jbf]
  simpa [hg] using this
 ·refine Zp2 (ws:=vs) hi Sh.mk1 ⟨s,e,?_⟩
  rw [et,Jcu,Jbf]
  simpa [hg] using hv
def DRepL (L:List Int) (kvs:List (Key × V)) (f:Int->Int):Prop:=kvs.length<=L.length/\∀ x ∈ L,Zel kvs (.inl x) = some (.int (f x))
theorem DRepL.put {L:List Int} {kvs:List (Key × V)} {f:Int->Int} {k v:Int} (h:DRepL L kvs f) (hk:k ∈ L):DRepL L (Ze9 kvs (.inl k) (.int v)) (fun y=>if y = k then v else f y):=by
 refine ⟨by rw [Zo9 (by rw [h.2 k hk]; rfl)]; exact h.1,fun x hx=>?_⟩
 rw [Zgp]
 by_cases e:x = k
 ·subst e; simp
 ·show _ = some (V.int (if x = k then v else f x))
  rw [if_neg (by intro z; exact e (Sum.inl.inj z)),if_neg e]; exact h.2 x hx
theorem DRepL.congr {L:List Int} {kvs:List (Key × V)} {f g:Int->Int} (h:DRepL L kvs f) (e:∀ x ∈ L,f x = g x):DRepL L kvs g:=⟨h.1,fun x hx=>by rw [h.2 x hx,e x hx]⟩
theorem DRepL.get {L:List Int} {kvs:List (Key × V)} {f:Int->Int} {H:Hp} {D:Addr} {x:Int} (h:DRepL L kvs f) (e:H D = some (.dK kvs)) (hx:x ∈ L):DGet H D (.int x) (some (.int (f x))):=by
 have:=DGet.k (k:=.inl x) e
 rwa [h.2 x hx] at this
theorem comp_dl {a D:Addr} {L:List Int} {σ:L2.St} {H1:Hp} {Q:VK} (ha:H1 a = some (.lst (L.map V.int))) (nd:L.Nodup) (hD:H1 D = none) (hn:L.length<=900)
  (hQ:∀ kvs H',Same H1 H'->H' D = some (.dK kvs)->DRepL L kvs id->Q (.ref D) H'):Zil (Zbe 0) Zhp (Zjp 0) (Zjp 0) (Itl K a) D (Ze3 1 [] σ) H1 Q:=by
 refine ⟨fun i m σ' H2=>m = L.length - i/\i<=L.length/\(∃ z,σ' = [z])/\∃ kvs,Same H1 H2/\H2 D = some (.dK kvs)/\kvs.length = i/\∀ x:Int,Zel kvs (.inl x) = if x ∈ L.take i then some (.int x) else none,⟨L.length,by simp,Jbx _,⟨none,rfl⟩,[],Same.new hD,Zaa,rfl,fun x=>by simp; rfl⟩,?_⟩
 rintro i m σ' H2 ⟨rfl,hi,⟨z,rfl⟩,kvs,s,e,hl,hv⟩
 by_cases hlt:i < L.length
 ·refine .inr ⟨⟨_,_,SqL.of (s _ _ ha),Jac (by rw [Jab]; exact hlt)⟩,fun x H3 y=>?_⟩
  obtain ⟨rfl,y2⟩:=y
  obtain ⟨u,eu,rfl⟩:=Zet (y2 _ (SqL.of (s _ _ ha)))
  have et:L.take (i + 1) = L.take i ++ [u]:=by rw [Jbn,eu]; rfl
  have nu:u ∉ L.take i:=fun zz=>by
   have h1:(L.take (i + 1)).Nodup:=Jbc (Jf5 _ _) nd
   rw [et] at h1
   exact (List.nodup_append.mp h1).2.2 u zz u (by simp) rfl
  simp only [Zbe,Zhp,Jdu,Ja0]
  refine ⟨_,rfl,_,rfl,kvs,.inl u,rfl,e,Zah (by omega),L.length - (i + 1),by omega,rfl,by omega,⟨_,rfl⟩,Ze9 kvs (.inl u) (.int u),s.upd hD,Zaa,?_,fun x=>?_⟩
  ·rw [Zo8 _ (by rw [hv,if_neg nu])]; simp [hl]
  ·rw [Zgp,et]
   by_cases ex:x = u
   ·subst ex; simp
   ·rw [if_neg (by intro z; exact ex (Sum.inl.inj z)),hv]
    by_cases c:x ∈ L.take i
    ·rw [if_pos c,if_pos (by simp [c])]
    ·rw [if_neg c,if_neg (by simp [c,ex])]
 ·have ei:i = L.length:=by omega
  subst ei
  exact .inl ⟨⟨_,SqL.of (s _ _ ha),by rw [Jab]; exact Jaf _⟩,hQ kvs H2 s e ⟨by omega,fun x hx=>by rw [hv,if_pos (by rw [Jbu]; exact hx)]; rfl⟩⟩
def Zk1 (L:List Int) (f:Int->Int) (k:Int):List Int:=L.filter fun x=>decide (f x = k)
def Zd4 (L:List Int) (f:Int->Int):List (List Int):=(L.filter fun x=>decide (f x = x)).map fun k=>Zk1 L f k
def spHg:Sp:=fun vs H Q _=>∃ (a b:Addr) (L:List Int) (xs:List V) (ps:List (Int × Int)),vs = [.ref a,.ref b]/\H a = some (.lst (L.map V.int))/\H b = some (.lst xs)/\L.Nodup/\L.length<=8/\xs.length<=9/\Prs H xs ps/\(∀ q ∈ ps,q.1 ∈ L/\q.2 ∈ L) /\
 ∀ p qs H',Same H H'->H p = none->H' p = some (.lst qs)->RowsF p H H' qs (Zd4 L (Zbi ps))->Q (.ref p) H'
theorem ok_hg {f:Addr} {fd:FuncData} (F:Fun K "hanging" "hanging" Zc0 f fd) (T:Txt K mg C):FnOk P w K mg base CX0 1 f fd ["points","arrows"] spHg:=by
 have nd:=Zgb.nd
 refine F.ok Zgb (fun vs H Q E h=>?_) (fun cdv A outer s H vs Q E hr h=>?_)
 ·obtain ⟨a,b,L,xs,ps,rfl,_⟩:=h
  rfl
 ·obtain ⟨a,b,L,xs,ps,rfl,ha,hb,nL,hn,hx,hps,hin,q⟩:=h
  have hu1:=room1 hr
  refine ⟨_,((Zao (i:=2) nd rfl (Or.inr rfl) (Zph (own:=["point"]) (fr:=[]) rfl (Zcp (by kernel_rfl)) (Zaz (pv 0)) (fun _ _ _ _=>⟨(@Zag _ _ 0 _ (show (["point"]:List Str).Nodup by decide +kernel) rfl (Or.inl rfl) (Or.inr rfl)),Zbn,(pv 0),(pv 0)⟩)))<*>((Zb7 Jbp rfl (Zaz (pv 1)) (@Zgd _ _ _ _ _ 2 rfl (@Zbf _ _ _ _ _ (@Zag _ _ 3 _ nd rfl (Or.inl rfl) (Or.inl rfl)) (@Zbf _ _ _ _ _ (@Zag _ _ 4 _ nd rfl (Or.inl rfl) (Or.inl rfl)) (@Zd6 _) (by rfl)) (by rfl)) (by rfl) (by rfl)) ((Zeg (Zb2 Zfy rfl T.n_sorted boot_sorted ((@Zbo _ _ _ _ ((Zfp hu1 (pv 2) (pv 3) (fun _ _=>rfl))<&>((Zfp hu1 (pv 2) (pv 4) (fun _ _=>rfl))<&>Zab)))<&>Zab)) (@pg_lst _ _ _ _ _ 2 rfl (@Zbf _ _ _ _ _ (@Zag _ _ 5 _ nd rfl (Or.inl rfl) (Or.inl rfl)) (@Zbf _ _ _ _ _ (@Zag _ _ 6 _ nd rfl (Or.inl rfl) (Or.inl rfl)) (@Zd6 _) (by rfl)) (by rfl)) (by rfl) (by rfl)))<*>(@Zal _ _ _ (Zb7 Jbp rfl (Zaz (pv 0)) (@Zag _ _ 7 _ nd rfl (Or.inl rfl) (Or.inl rfl)) (@Zal _ _ _ (@Zbl _ _ _ _ _ _ _ _ (Zaj Zdw (Zfp hu1 (pv 2) (pv 7) (fun _ _=>rfl)) (pv 6) (Zat _)) (@Zal _ _ _ (Zmp hu1 (pv 2) (pv 7) (pv 5) rfl)) Zas))))))<*>(~~~(Zbj (own:=["first"]) (fr:=[("points",0),("least",2)]) rfl (Zcp (by kernel_rfl)) (Zaz (pv 0)) (fun _ _ _ _=>⟨(@Zag _ _ 0 _ (show (["first","points","least"]:List Str).Nodup by decide +kernel) rfl (Or.inr rfl) (Or.inl rfl)),(Zd5 (Zaj Zdw (Zfp hu1 (pv 2) (pv 0) (fun _ _=>rfl)) (pv 0) (Zat _))),(Zbj (own:=["point"]) (fr:=[("least",2),("first",0)]) rfl (Zcp (by kernel_rfl)) (Zj3 K rfl (pv 1)) (fun _ _ _ _=>⟨(@Zag _ _ 0 _ (show (["point","least","first"]:List Str).Nodup by decide +kernel) rfl (Or.inl rfl) (Or.inr rfl)),(Zd5 (Zaj Zdw (Zfp hu1 (pv 1) (pv 0) (fun _ _=>rfl)) (pv 2) (Zat _))),(pv 0)⟩))⟩))))),?_⟩
  walk_at "wp"
  refine ⟨_,rfl,a,rfl,⟨_,SqL.of ha⟩,fun D hD=>comp_dl ha nL hD (by omega) fun kvs0 H1 s1 hD1 r1=>?_⟩
  refine ⟨_,rfl,b,rfl,⟨_,SqL.of (s1 _ _ hb)⟩,Zdb (xs:=xs) (fun i σ Hi=>∃ v3 v4 v5 v6 v7:Option V,σ = [some (.ref a),some (.ref b),some (.ref D),v3,v4,v5,v6,v7]/\Same H Hi/\∃ kvs,Hi D = some (.dK kvs)/\DRepL L kvs ((ps.take i).foldl stepL id)) ⟨none,none,none,none,none,rfl,s1,kvs0,hD1,r1⟩ (fun i σ Hi _ ⟨_,_,_,_,_,_,si,_⟩=>SqL.of (si _ _ hb)) ?_ ?_⟩
  ·rintro i x σ Hi hxi ⟨v3,v4,v5,v6,v7,rfl,si,kvs,hDi,ri⟩
   have hi:i < ps.length:=by have:=(Jap.mp hxi).1; have:=hps.1; omega
   have hq:ps[i]? = some ps[i]:=Jac hi
   obtain ⟨t,rfl,ht⟩:=hps.2 i x _ hxi hq
   obtain ⟨a0,b0⟩:=hin _ (Jan hq)
   have ef:(ps.take (i + 1)).foldl stepL id = stepL ((ps.take i).foldl stepL id) ps[i]:=by rw [Jbn,hq,List.foldl_append]; rfl
   generalize ps[i] = qq at *
   generalize (ps.take i).foldl stepL id = f0 at *
   walk_at "wp"
   refine ⟨_,SqT.of (si _ _ ht),rfl,_,_,rfl,_,_,rfl,rfl,_,ri.get hDi a0,_,ri.get hDi b0,by decide,fun p hp=>⟨[f0 qq.1,f0 qq.2],SqL.of Zaa,by simp,fun l ns' hl hpm hso=>?_⟩⟩
   have hns:=sort2 hpm hso
   subst hns
   refine ⟨_,SqL.of Zaa,rfl,_,_,rfl,_,_,rfl,rfl,?_⟩
   have s2:Same Hi (upd (upd Hi p (.lst [.int (f0 qq.1),.int (f0 qq.2)])) l (.lst ([min (f0 qq.1) (f0 qq.2),max (f0 qq.1) (f0 qq.2)].map V.int))):=(Same.new hp).trans (Same.new hl)
   generalize upd (upd Hi p (.lst [.int (f0 qq.1),.int (f0 qq.2)])) l (.lst ([min (f0 qq.1) (f0 qq.2),max (f0 qq.1) (f0 qq.2)].map V.int)) = H2 at *
   refine ⟨_,rfl,a,rfl,⟨_,SqL.of (s2 _ _ (si _ _ ha))⟩,Zdb (xs:=L.map V.int) (fun j σ Hj=>∃ w7:Option V,σ = [some (.ref a),some (.ref b),some (.ref D),some (.int qq.1),some (.int qq.2),some (.int (min (f0 qq.1) (f0 qq.2))),some (.int (max (f0 qq.1) (f0 qq.2))),w7]/\Same H Hj/\∃ kvs,Hj D = some (.dK kvs)/\DRepL L kvs (fun x=>if x ∈ L.take j/\f0 x = max (f0 qq.1) (f0 qq.2) then min (f0 qq.1) (f0 qq.2) else f0 x))
    ⟨v7,rfl,si.trans s2,kvs,s2 _ _ hDi,ri.congr fun x _=>by rw [if_neg (by simp)]⟩ (fun j σ Hj _ ⟨_,_,sj,_⟩=>SqL.of (sj _ _ ha)) ?_ ?_⟩
   ·rintro j x σ Hj hxj ⟨w7,rfl,sj,kvs',hDj,rj⟩
    obtain ⟨u,eu,rfl⟩:=Zet hxj
    have hu:=Jan eu
    have et:L.take (j + 1) = L.take j ++ [u]:=by rw [Jbn,eu]; rfl
    have nu:u ∉ L.take j:=fun zz=>by
     have h1:(L.take (j + 1)).Nodup:=Jbc (Jf5 _ _) nL
     rw [et] at h1
     exact (List.nodup_append.mp h1).2.2 u zz u (by simp) rfl
    walk_at "wp"
    have gj:=rj.get (x:=u) hDj hu
    rw [if_neg (fun z=>nu z.1)] at gj
    refine ⟨_,gj,rfl,Zd1 (fun hc=>?_) (fun hc=>?_)⟩
    ·have hc:f0 u = max (f0 qq.1) (f0 qq.2):=V.int.inj (Jav hc)
     refine ⟨_,DPut.k (k:=.inl u) hDj (Zah (by have:=rj.1; omega)),sj.upd hD,_,Zaa,(rj.put (k:=u) hu).congr fun x hxL=>?_⟩
     rw [et]
     by_cases ex:x = u
     ·subst ex; rw [if_pos rfl,if_pos ⟨by simp,hc⟩]
     ·rw [if_neg ex]
      by_cases c:x ∈ L.take j/\f0 x = max (f0 qq.1) (f0 qq.2)
      ·rw [if_pos c,if_pos ⟨by simp [c.1],c.2⟩]
      ·rw [if_neg c,if_neg (by intro z; exact c ⟨by simpa [ex] using z.1,z.2⟩)]
    ·have hc:¬ f0 u = max (f0 qq.1) (f0 qq.2):=fun z=>hc (Ja2 (Jeh V.int z))
     refine ⟨sj,kvs',hDj,rj.congr fun x hxL=>?_⟩
     rw [et]
     by_cases ex:x = u
     ·subst ex; rw [if_neg (fun z=>hc z.2),if_neg (fun z=>hc z.2)]
     ·by_cases c:x ∈ L.take j/\f0 x = max (f0 qq.1) (f0 qq.2)
      ·rw [if_pos c,if_pos ⟨by simp [c.1],c.2⟩]
      ·rw [if_neg c,if_neg (by intro z; exact c ⟨by simpa [ex] using z.1,z.2⟩)]
   ·rintro σ Hj ⟨w7,rfl,sj,kvs',hDj,rj⟩
    refine ⟨_,_,_,_,_,rfl,sj,kvs',hDj,?_⟩
    rw [ef]
    refine rj.congr fun x hxL=>?_
    rw [Jab,Jbu]
    unfold stepL
    by_cases c:f0 x = max (f0 qq.1) (f0 qq.2)
    ·rw [if_pos ⟨hxL,c⟩,if_pos c]
    ·rw [if_neg (fun z=>c z.2),if_neg c]
  ·rintro σ Hi ⟨v3,v4,v5,v6,v7,rfl,si,kvs,hDi,ri⟩
   have hl:ps.take xs.length = ps:=by rw [hps.1,Jbu]
   rw [hl] at ri
   have ri:DRepL L kvs (Zbi ps):=ri
   generalize Zbi ps = f0 at *
   refine ⟨_,rfl,a,rfl,⟨_,SqL.of (si _ _ ha)⟩,fun p hp=>Zjb (fun x=>decide (f0 x = x)) (fun k=>Zk1 L f0 k) (si _ _ ha) hp (by omega) ?_ ?_ fun qs H' s' hp' rr=>q p qs H' (si.trans s') (si.free hp) hp' (rr.old si)⟩
   ·intro x H2 Q2 hx s2 k2
    walk_at "wp"
    refine ⟨_,rfl,D,rfl,_,ri.get (s2 _ _ hDi) hx,rfl,?_⟩
    have e:decide (V.int (f0 x) = V.int x) = decide (f0 x = x):=by simp only [V.int.injEq]
    rw [e]
    exact k2
   ·intro x H2 Q2 hx s2 k2
    refine ⟨_,rfl,a,rfl,⟨_,SqL.of (s2 _ _ (si _ _ ha))⟩,fun t ft=>Zjc (fun y=>decide (f0 y = x)) (s2 _ _ (si _ _ ha)) ft (by omega) ?_ fun H' s' ht=>k2 t H' ft s' ht⟩
    intro y H3 Q3 hy s3 k3
    walk_at "wp"
    refine ⟨_,rfl,D,rfl,_,ri.get (s3 _ _ (s2 _ _ hDi)) hy,_,rfl,rfl,?_⟩
    have e:decide (V.int (f0 y) = V.int x) = decide (f0 y = x):=by simp only [V.int.injEq]
    rw [e]
    exact k3
theorem Zd2 {A X:TS} {D:Ends} {σ:L2.St} {H:Hp} (h:∀ X',X' = X->tSeq A X' D σ H):tSeq A X D σ H:=h X rfl
def Zar (es:List (Int × Int)):List Int:=es.flatMap fun q=>[q.1,q.2]
def esF (es:List (Int × Int)) (f:Int):List (Int × Int):=es.filter fun q=>decide (q.1 ≠ f/\q.2 ≠ f)
def Zih (S:List Int) (es:List (Int × Int)) (f:Int):List Int:=(Zd4 (L3.oth S f) (Zbi (esF es f))).map fun r=>(r.length:Int)
abbrev Kd:=Option (Str × Int)
def KdV (H:Hp) (v:V):Kd->Prop
 | none=>v = .non
 | some k=>∃ t,v = .ref t/\H t = some (.tup [.str k.1,.int k.2])
theorem KdV.same {H H':Hp} {v:V} {k:Kd} (h:KdV H v k) (s:Same H H'):KdV H' v k:=by
 cases k with
 | none=>exact h
 | some k=>obtain ⟨t,e,ht⟩:=h; exact ⟨t,e,s _ _ ht⟩
def kd (n:Int) (ns:List Int):Kd:=if ns.take 2 = [1,1] then some ("D",n) else if ns.take 2 = [1,2]/\(n = 6\/n = 7\/n = 8) then some ("E",n) else none
theorem int_eqD {H:Hp} {n:Nat} {i j:Int}:EqD K H n (.int i) (.int j) (decide (i = j)):=by
 have:=EqD.flat (K:=K) (H:=H) (n:=n) (x:=.int i) (y:=.int j) rfl rfl
 rwa [show eqV (.int i) (.int j) = decide (i = j) by simp [eqV]; rw [Jci]; simp] at this
theorem Zik:∀ {ns ms:List Int},ns.length = ms.length->((List.zipWith (fun a b=>decide (a = b)) ns ms).all id = true ↔ ns = ms)
 | [],[],_=>by simp
 | a :: ns,b :: ms,h=>by
  have:=Zik (ns:=ns) (ms:=ms) (by simpa using h)
  simp only [List.zipWith_cons_cons,Jga,Jb4,this,id_eq,Jcf,Jcq]
theorem Zrk {H:Hp} {ns ms:List Int} {A B:Prop} (h1:ns = ms->B) (h2:ns ≠ ms->A):((ns.map V.int).length ≠ (ms.map V.int).length/\A)\/∃ bs,Zjm K H 6 (ns.map V.int) (ms.map V.int) bs/\if bs.all id = true then B else A:=by
 by_cases hl:ns.length = ms.length
 ·refine .inr ⟨List.zipWith (fun a b=>decide (a = b)) ns ms,⟨by rw [Jab,Jab]; exact hl,by rw [List.length_zipWith,Jab]; omega,fun j x y b e1 e2 e3=>?_⟩,?_⟩
  ·obtain ⟨u,eu,rfl⟩:=Zet e1
   obtain ⟨v,ev,rfl⟩:=Zet e2
   rw [List.getElem?_zipWith,eu,ev] at e3
   cases e3
   exact int_eqD
  ·by_cases e:ns = ms
   ·rw [if_pos ((Zik hl).mpr e)]
    exact h1 e
   ·rw [if_neg (fun z=>e ((Zik hl).mp z))]
    exact h2 e
 ·exact .inl ⟨by rw [Jab,Jab]; exact hl,h2 fun z=>hl (by rw [z])⟩
theorem Zkl (ns:List Int):Zeu (ns.map V.int) none (some 2) = (ns.take 2).map V.int:=by
 unfold Zeu
 have e1:HT.sIx (ns.map V.int).length (ns.map V.int).length (some 2) = min 2 (ns.map V.int).length:=by
  simp only [HT.sIx]
  rw [if_neg (by decide)]
  rfl
 have e0:HT.sIx (ns.map V.int).length 0 none = 0:=rfl
 rw [e1,e0,List.drop_zero,Nat.sub_zero,Jgb]
 exact (List.take_eq_take_min).symm
theorem in678 (n:Int):inV (V.int n) [V.int 6,V.int 7,V.int 8] = true ↔ (n = 6\/n = 7\/n = 8):=by
 simp only [inV,Jdz,List.any_nil,Bool.or_false,Jfg,eqV,Jbz]
 constructor
 ·rintro (h | h | h)
  ·exact .inl (by omega)
  ·exact .inr (.inl (by omega))
  ·exact .inr (.inr (by omega))
 ·rintro (h | h | h)
  ·exact .inl (by omega)
  ·exact .inr (.inl (by omega))
  ·exact .inr (.inr (by omega))
def spFk:Sp:=fun vs H Q _=>∃ (n:Int) (a:Addr) (ns:List Int),vs = [.int n,.ref a]/\H a = some (.lst (ns.map V.int))/\ns.length<=900/\∀ v H',Same H H'->KdV H' v (kd n ns)->Q v H'
theorem ok_fk {f:Addr} {fd:FuncData} (F:Fun K "forked_kind" "forked_kind" Zbh f fd) (T:Txt K mg C):FnOk P w K mg base CX0 1 f fd ["many","lengths"] spFk:=by
 have nd:=Zdy.nd
 refine F.ok Zdy (fun vs H Q E h=>?_) (fun cdv A outer s H vs Q E hr h=>?_)
 ·obtain ⟨n,a,ns,rfl,_⟩:=h
  rfl
 ·obtain ⟨n,a,ns,rfl,ha,hn,q⟩:=h
  refine ⟨_,((@Zbl _ _ _ _ _ _ _ _ (Zaj (Zq8 (room8 hr)) (@Zb8 _ _ _ _ _ _ _ _ _ _ Zc5 (pv 1) Zc9 (@Zc8 _ _ _ Zac)) (@Zbo _ _ _ _ (Zac<&>(Zac<&>Zab))) (Zat _)) (~~~(@Zam _ _ _ _ _ (Zj4<&>((pv 0)<&>Zab)))) Zas)<*>((@Zbl _ _ _ _ _ _ _ _ (PW.pt (pw_and (Zaj (Zq8 (room8 hr)) (@Zb8 _ _ _ _ _ _ _ _ _ _ Zc5 (pv 1) Zc9 (@Zc8 _ _ _ Zac)) (@Zbo _ _ _ _ (Zac<&>(Zac<&>Zab))) (Zat _)) (pw_and1 (Zaj Zhz (pv 0) (@Zam _ _ _ _ _ (Zac<&>(Zac<&>(Zac<&>Zab)))) (by with_unfolding_all rfl))))) (~~~(@Zam _ _ _ _ _ (Zj4<&>((pv 0)<&>Zab)))) Zas)<*>(~~~Zj5))),?_⟩
  have hu:=room8 hr
  refine Zd2 fun X hX=>?_
  walk_at "wp"
  refine ⟨_,SqL.of ha,fun p hp=>⟨by decide,fun p1 hp1=>?_⟩⟩
  rw [Zkl] at *
  have s1:=Same.new (o:=.lst ((ns.take 2).map V.int)) hp
  have s2:=Same.new (o:=.lst [V.int 1,V.int 1]) hp1
  have s12:=s1.trans s2
  have e1:upd (upd H p (.lst ((ns.take 2).map V.int))) p1 (.lst [V.int 1,V.int 1]) p = some (.lst ((ns.take 2).map V.int)):=s2 _ _ Zaa
  have e2:upd (upd H p (.lst ((ns.take 2).map V.int))) p1 (.lst [V.int 1,V.int 1]) p1 = some (.lst (([1,1]:List Int).map V.int)):=Zaa
  generalize upd (upd H p (.lst ((ns.take 2).map V.int))) p1 (.lst [V.int 1,V.int 1]) = H2 at *
  refine ⟨_,SqL.of e1,_,SqL.of e2,Zrk (fun h=>⟨by decide,fun t ht=>q _ _ (s12.trans (Same.new ht)) ?_⟩) (fun h=>?_)⟩
  ·unfold kd
   rw [if_pos h]
   exact ⟨t,rfl,Zaa⟩
  subst hX
  refine Zd2 fun X hX=>?_
  walk_at "wp"
  refine ⟨_,SqL.of (s12 _ _ ha),fun p2 hp2=>⟨by decide,fun p3 hp3=>?_⟩⟩
  rw [Zkl] at *
  have s3:=Same.new (o:=.lst ((ns.take 2).map V.int)) hp2
  have s4:=Same.new (o:=.lst [V.int 1,V.int 2]) hp3
  have s34:=s3.trans s4
  have s14:=s12.trans s34
  have e3:upd (upd H2 p2 (.lst ((ns.take 2).map V.int))) p3 (.lst [V.int 1,V.int 2]) p2 = some (.lst ((ns.take 2).map V.int)):=s4 _ _ Zaa
  have e4:upd (upd H2 p2 (.lst ((ns.take 2).map V.int))) p3 (.lst [V.int 1,V.int 2]) p3 = some (.lst (([1,2]:List Int).map V.int)):=Zaa
  generalize upd (upd H2 p2 (.lst ((ns.take 2).map V.int))) p3 (.lst [V.int 1,V.int 2]) = H4 at *
  have fin:kd n ns = none->∀ H',Same H H'->X { nx:=fun x H'=>Q V.non H',rt:=Q } [some (V.int n),some (V.ref a)] H':=fun ek H' s'=>by
   subst hX
   exact q .non H' s' (by rw [ek]; rfl)
  refine ⟨_,SqL.of e3,_,SqL.of e4,Zrk (fun h2=>⟨by decide,fun p4 hp4=>?_⟩) (fun h2=>fin (by unfold kd; rw [if_neg h,if_neg fun z=>h2 z.1]) H4 s14)⟩
  have s5:=Same.new (o:=.tup [V.int 6,V.int 7,V.int 8]) hp4
  refine ⟨_,.inr (SqT.of Zaa),rfl,rfl,Zd1 (fun hc=>⟨by decide,fun t ht=>q _ _ ((s14.trans s5).trans (Same.new ht)) ?_⟩) (fun hc=>fin ?_ _ (s14.trans s5))⟩
  ·unfold kd
   rw [if_neg h,if_pos ⟨h2,(in678 n).mp hc⟩]
   exact ⟨t,rfl,Zaa⟩
  ·unfold kd
   rw [if_neg h,if_neg fun z=>hc ((in678 n).mpr z.2)]
theorem Zok {a D:Addr} {xs:List V} {es:List (Int × Int)} {fr:List (Str × Nat)} {σ:L2.St} {tt:TT} {H1:Hp} {Q:VK} (g:Int × Int->Bool) (ha:H1 a = some (.lst xs)) (hp:Prs H1 xs es) (hD:H1 D = none) (hn:xs.length<=900)
  (h:∀ t q H (Q:Bool->Hp->Prop),q ∈ es->H t = some (.tup [.int q.1,.int q.2])->Same H1 H->Q (g q) H->tt (some (.ref t) :: Zcr fr σ) H Q)
  (hQ:∀ ys H',Same H1 H'->H' D = some (.lst ys)->Prs H' ys (es.filter g)->ys.length<=xs.length->Q (.ref D) H'):Zci (Zbe 0) tt (Zjp 0) (Itl K a) D (Ze3 1 fr σ) H1 Q:=by
 have hlen:=hp.1
 refine Zb9 (xs:=xs) (fun i vs H=>Same H1 H/\H D = some (.lst vs)/\Prs H vs ((es.take i).filter g)) ⟨Same.new hD,Zaa,Prs.nil⟩ (fun i vs H _ p=>SqL.of (p.1 _ _ ha)) ?_ (fun vs H ⟨s,e,hv⟩=>?_)
 ·rintro i x vs σ' H hi hx sh ⟨s,e,hv⟩
  obtain ⟨z,rfl⟩:=sh.one
  have hi':i < es.length:=by omega
  have hq:es[i]? = some es[i]:=Jac hi'
  obtain ⟨t,rfl,ht⟩:=hp.2 i x _ hx hq
  have et:es.take (i + 1) = es.take i ++ [es[i]]:=by rw [Jbn,hq]; rfl
  have hl:=Ja9 g (es.take i)
  rw [Ja1] at hl
  have hv1:=hv.1
  simp only [Zdv,Zbe,Ja0]
  refine h t _ H _ (Jan hq) (s _ _ ht) s (Zd1 (fun hg=>?_) (fun hg=>?_))
  ·refine ⟨_,rfl,leaf (ws:=vs ++ [.ref t]) hi Sh.mk1 e (Zah (by omega)) ⟨s.upd hD,Zaa,?_⟩⟩
   rw [et,Jcu]
   have:=(hv.add (s _ _ ht)).put (o:=.lst (vs ++ [.ref t])) e
   simpa [hg] using this
  ·refine Zp2 (ws:=vs) hi Sh.mk1 ⟨s,e,?_⟩
   rw [et,Jcu]
   simpa [hg] using hv
 ·rw [hlen,Jbu] at hv
  refine hQ vs H s e hv ?_
  have:=Ja9 g es
  rw [hv.1]
  omega
theorem Zlm {b D:Addr} {xs:List V} {es:List (Int × Int)} {σ:L2.St} {H1:Hp} {Q:VK} (hb:H1 b = some (.lst xs)) (hp:Prs H1 xs es) (hD:H1 D = none) (hn:xs.length<=9)
  (hQ:∀ H',Same H1 H'->H' D = some (.lst ((Zar es).map V.int))->Q (.ref D) H'):Zim (Zbe 0) (iTup K (Zjp 0)) (Zbe 1) (Zjp 1) (Itl K b) D (Ze3 2 [] σ) H1 Q:=by
 have hlen:=hp.1
 refine ⟨fun i m σ' H2=>m = xs.length - i/\i<=xs.length/\∃ v0 v1:Option V,σ' = [v0,v1]/\Same H1 H2/\H2 D = some (.lst ((Zar (es.take i)).map V.int)),⟨xs.length,rfl,Jbx _,none,none,rfl,Same.new hD,Zaa⟩,?_⟩
 rintro i m σ' H2 ⟨rfl,hi,v0,v1,rfl,s2,hD2⟩
 by_cases hlt:i < xs.length
 ·refine .inr ⟨⟨xs,xs[i],SqL.of (s2 _ _ hb),Jac hlt⟩,fun x H3 y=>?_⟩
  obtain ⟨rfl,hy⟩:=y
  have hx:=hy xs (SqL.of (s2 _ _ hb))
  have hq:es[i]? = some es[i]:=Jac (by omega)
  obtain ⟨t,rfl,ht⟩:=hp.2 i x _ hx hq
  have ht2:=s2 _ _ ht
  have nt:t ≠ D:=fun z=>by rw [z,hD2] at ht2; cases ht2
  have et:Zar (es.take (i + 1)) = Zar (es.take i) ++ [es[i].1,es[i].2]:=by
   unfold Zar
   rw [Jbn,hq,List.flatMap_append]
   simp
  have le:(Zar (es.take i)).length<=2 * i:=by
   unfold Zar
   rw [List.length_flatMap]
   have:((es.take i).map fun q=>[q.1,q.2].length) = List.replicate (es.take i).length 2:=by
    rw [List.eq_replicate_iff]
    refine ⟨by rw [Jab],fun z hz=>?_⟩
    obtain ⟨q,_,rfl⟩:=Jak.mp hz
    rfl
   rw [this,List.sum_replicate_nat,Ja1]
   have:min i es.length<=i:=Nat.min_le_left _ _
   omega
  generalize es[i] = q at *
  refine ⟨_,rfl,t,rfl,⟨_,SqT.of ht2⟩,fun j m2 σ5 H6=>m2 = 2 - j/\j<=2/\∃ v1':Option V,σ5 = [some (.ref t),v1']/\Same H1 H6/\H6 D = some (.lst ((Zar (es.take i) ++ [q.1,q.2].take j).map V.int)),⟨2,rfl,by decide,v1,rfl,s2,by rw [hD2]; simp⟩,?_⟩
  rintro j m2 σ5 H6 ⟨rfl,hj,v1',rfl,s6,hD6⟩
  have ht6:=s6 _ _ ht
  by_cases hj2:j < 2
  ·have ej:([V.int q.1,V.int q.2]:List V)[j]? = some (V.int ([q.1,q.2].getD j 0)):=by
    match j,hj2 with
    | 0,_=>rfl
    | 1,_=>rfl
   refine .inr ⟨⟨_,_,SqT.of ht6,ej⟩,fun y H7 yy=>?_⟩
   obtain ⟨rfl,hyy⟩:=yy
   have hyj:=hyy _ (SqT.of ht6)
   rw [ej] at hyj
   cases hyj
   refine ⟨_,rfl,_,hD6,Zah ?_,2 - (j + 1),by omega,rfl,by omega,_,rfl,s6.upd hD,?_⟩
   ·rw [Jab,Jaj]
    have:([q.1,q.2].take j).length<=2:=by rw [Ja1]; exact Nat.min_le_right _ _
    omega
   ·rw [Zaa]
    match j,hj2 with
    | 0,_=>simp
    | 1,_=>simp
  ·have:j = 2:=by omega
   subst this
   refine .inl ⟨⟨_,SqT.of ht6,by show 2<=2; decide⟩,xs.length - (i + 1),by omega,rfl,by omega,_,_,rfl,s6,?_⟩
   rw [hD6,et]
   rfl
 ·have:i = xs.length:=by omega
  subst this
  refine .inl ⟨⟨_,SqL.of (s2 _ _ hb),Jaf _⟩,hQ H2 s2 ?_⟩
  rw [hD2,hlen,Jbu]
def Zl8:Sp:=fun vs H Q _=>∃ (a b:Addr) (S:List Int) (xs:List V) (es:List (Int × Int)) (f:Int),vs = [.ref a,.ref b,.int f]/\H a = some (.lst (S.map V.int))/\H b = some (.lst xs)/\S.Nodup/\S.length<=8/\xs.length<=9/\Prs H xs es/\(∀ q ∈ es,q.1 ∈ S/\q.2 ∈ S) /\
 ∀ (l:Addr) (ns:List Int) (H':Hp),Same H H'->H l = none->H' l = some (.lst (ns.map V.int))->ns.Perm (Zih S es f)->ns.Pairwise (·<=·)->Q (.ref l) H'
theorem ok_arms {f:Addr} {fd:FuncData} (F:Fun K "arms" "arms" Zgc f fd) (T:Txt K mg C) (C_hanging:Cal P w K mg base "hanging" 1 spHg):FnOk P w K mg base CX0 2 f fd ["points","arrows","fork"] Zl8:=by
 have nd:=Zmd.nd
 refine F.ok Zmd (fun vs H Q E h=>?_) (fun cdv A outer s H vs Q E hr h=>?_)
 ·obtain ⟨a,b,S,xs,es,f,rfl,_⟩:=h
  rfl
 ·obtain ⟨a,b,S,xs,es,f,rfl,ha,hb,nS,h8,h9,hp,hin,q⟩:=h
  refine ⟨_,((Zfo (i:=3) (own:=["point"]) (fr:=[("fork",2)]) rfl (Zcp (by kernel_rfl)) (Zaz (pv 0)) (fun _ _ _ _=>⟨(@Zag _ _ 0 _ (show (["point","fork"]:List Str).Nodup by decide +kernel) rfl (Or.inl rfl) (Or.inr rfl)),(Zd5 (Zaj Zpm (pv 0) (pv 1) (Zat _))),(pv 0)⟩) nd rfl rfl rfl)<*>(~~~(Zb2 Zfy rfl T.n_sorted boot_sorted ((Zbj (own:=["arm"]) (fr:=[]) rfl (Zcp (by kernel_rfl)) (Zaz (Zct C_hanging hr.m rfl ((pv 3)<&>((Zbj (own:=["arrow"]) (fr:=[("fork",2)]) rfl (Zcp (by kernel_rfl)) (Zaz (pv 1)) (fun _ _ _ _=>⟨(@Zag _ _ 0 _ (show (["arrow","fork"]:List Str).Nodup by decide +kernel) rfl (Or.inl rfl) (Or.inr rfl)),(Zd5 (Zaj (Zg5 K rfl) (pv 1) (pv 0) (by with_unfolding_all rfl))),(pv 0)⟩))<&>Zab)))) (fun _ _ _ _=>⟨(@Zag _ _ 0 _ (show (["arm"]:List Str).Nodup by decide +kernel) rfl (Or.inl rfl) (Or.inr rfl)),Zbn,(Zb2 (Zhh K rfl) rfl T.n_len Jcd ((pv 0)<&>Zab))⟩))<&>Zab)))),?_⟩
  refine Zd2 fun X hX=>?_
  walk_at "wp"
  refine ⟨_,rfl,a,rfl,⟨_,SqL.of ha⟩,fun D hD=>Zjc (fun x=>decide (x ≠ f)) ha hD (by omega) (fun x H' Q' hx s' q'=>?_) fun H1 s1 e1=>?_⟩
  ·have e:(!decide (V.int x = V.int f)) = decide (x ≠ f):=by
    by_cases z:x = f
    ·simp [z]
    ·simp [z]
   exact ⟨_,rfl,_,rfl,rfl,_,rfl,e ▸ q'⟩
  subst hX
  walk_at "wp"
  refine ⟨_,rfl,_,rfl,b,rfl,⟨_,SqL.of (s1 _ _ hb)⟩,fun D2 hD2=>Zok (fun q=>decide (q.1 ≠ f/\q.2 ≠ f)) (s1 _ _ hb) (hp.same s1) hD2 (by omega) (fun t q' H' Q' hq ht s' k'=>?_) fun ys H2 s2 e2 pr2 ly=>?_⟩
  ·have e:(!inV (V.int f) [V.int q'.1,V.int q'.2]) = decide (q'.1 ≠ f/\q'.2 ≠ f):=by
    have:inV (V.int f) [V.int q'.1,V.int q'.2] = (decide (q'.1 = f) || decide (q'.2 = f)):=by
     simp only [inV,Jdz,List.any_nil,Bool.or_false,eqV]
     rw [Jci]
     simp
    rw [this]
    by_cases z:q'.1 = f <;> by_cases y:q'.2 = f <;> simp [z,y]
   exact ⟨_,rfl,_,rfl,t,_,rfl,.inr (SqT.of ht),rfl,rfl,_,rfl,e ▸ k'⟩
  have nO:(L3.oth S f).Nodup:=Jbc Ja6 nS
  have lO:(L3.oth S f).length<=8:=Jay (Ja9 _ _) h8
  refine ⟨D,D2,L3.oth S f,ys,esF es f,rfl,s2 _ _ e1,e2,nO,lO,by omega,pr2,fun q' hq'=>?_,fun p qs H3 s3 fp hp3 rf=>?_⟩
  ·obtain ⟨m1,m2⟩:=Jas.mp hq'
   have m2:=Jav m2
   exact ⟨L3.Za6.mpr ⟨(hin q' m1).1,m2.1⟩,L3.Za6.mpr ⟨(hin q' m1).2,m2.2⟩⟩
  have rl:=rf.1
  have lr:(Zd4 (L3.oth S f) (Zbi (esF es f))).length<=8:=by
   unfold Zd4
   rw [Jab]
   exact Jay (Ja9 _ _) lO
  refine ⟨p,rfl,⟨_,SqL.of hp3⟩,fun D3 hD3=>Zb9 (xs:=qs) (fun i vs H=>Same H3 H/\H D3 = some (.lst vs)/\vs = (((Zd4 (L3.oth S f) (Zbi (esF es f))).take i).map fun r=>((r.length:Nat):Int)).map V.int) ⟨Same.new hD3,Zaa,rfl⟩ (fun i vs H _ k=>SqL.of (k.1 _ _ hp3)) ?_ ?_⟩
  ·rintro i x vs σ' H' hi hx sh ⟨s',e',rfl⟩
   obtain ⟨z,rfl⟩:=sh.one
   have hi':i < (Zd4 (L3.oth S f) (Zbi (esF es f))).length:=by omega
   have hr':=Jac hi'
   obtain ⟨t,rfl,_,_,ht⟩:=rf.2 i x _ hx hr'
   simp only [Zdv,Zbe,Zhp,Ja0,Jdu]
   refine ⟨_,rfl,_,rfl,_,.inl (SqL.of (s' _ _ ht)),?_⟩
   refine leaf (ws:=(((Zd4 (L3.oth S f) (Zbi (esF es f))).take (i + 1)).map fun r=>((r.length:Nat):Int)).map V.int) hi Sh.mk1 e' (Zah (by rw [Jab,Jab,Ja1]; omega)) ⟨s'.upd hD3,?_,rfl⟩
   rw [Zaa,Jbn,hr',Jbf,Jbf,Jab]
   rfl
  ·rintro vs H4 ⟨s4,e4,rfl⟩
   rw [rl,Jbu] at e4
   refine ⟨D3,rfl,_,SqL.of e4,by rw [Jab]; omega,fun l ns' hl pm so=>q l ns' _ ?_ ?_ Zaa pm so⟩
   ·exact (((s1.trans s2).trans s3).trans s4).trans (Same.new hl)
   ·exact (((s1.trans s2).trans s3).trans s4).free hl
def Zjl (S:List Int) (es:List (Int × Int)) (r:Kd):Prop:=
 (es.length + 1 ≠ S.length/\r = none)\/(es.length + 1 = S.length/\(((S.filter fun x=>decide (2 < (Zar es).count x)) = []/\r = (some (Str.ofString "A",(S.length:Int)):Kd)) \/
  ∃ f rest,(S.filter fun x=>decide (2 < (Zar es).count x)) = f :: rest/\(((rest ≠ []\/3 < (Zar es).count f)/\r = none)\/(rest = []/\¬ 3 < (Zar es).count f/\∃ ns:List Int,ns.Perm (Zih S es f)/\ns.Pairwise (·<=·)/\r = kd S.length ns))))
def spKo:Sp:=fun vs H Q _=>∃ (a b:Addr) (S:List Int) (xs:List V) (es:List (Int × Int)),vs = [.ref a,.ref b]/\H a = some (.lst (S.map V.int))/\H b = some (.lst xs)/\S.Nodup/\S.length<=8/\xs.length<=9/\Prs H xs es/\(∀ q ∈ es,q.1 ∈ S/\q.2 ∈ S) /\
 ∀ r v H',Zjl S es r->Same H H'->KdV H' v r->Q v H'
theorem ok_ko {f:Addr} {fd:FuncData} (F:Fun K "kind_of" "kind_of" Zcy f fd) (T:Txt K mg C) (C_arms:Cal P w K mg base "arms" 2 Zl8) (C_forked_kind:Cal P w K mg base "forked_kind" 1 spFk):FnOk P w K mg base CX0 3 f fd ["points","arrows"] spKo:=by
 have nd:=Zf9.nd
 refine F.ok Zf9 (fun vs H Q E h=>?_) (fun cdv A outer s H vs Q E hr h=>?_)
 ·obtain ⟨a,b,S,xs,es,rfl,_⟩:=h
  rfl
 ·obtain ⟨a,b,S,xs,es,rfl,ha,hb,nS,h8,h9,hp,hin,q⟩:=h
  refine ⟨_,((Zao (i:=2) nd rfl (Or.inl rfl) (Zb2 Zaq rfl T.n_len Jcd ((pv 0)<&>Zab)))<*>((@Zbl _ _ _ _ _ _ _ _ (Zaj Zpm (Zb2 Zaq rfl T.n_len Jcd ((pv 1)<&>Zab)) (Zdp<|>(pv 2)<&&>Zac) (Zat _)) (~~~Zj5) Zas)<*>((Zao (i:=3) nd rfl (Or.inr rfl) (Zpi (own:=["arrow","end"]) (fr:=[]) rfl (Zcp (by kernel_rfl)) (Zaz (pv 1)) (fun _ _ _ _=>⟨(@Zag _ _ 0 _ (show (["arrow","end"]:List Str).Nodup by decide +kernel) rfl (Or.inl rfl) (Or.inr rfl)),(pi_tupK K rfl (pv 0)),(@Zag _ _ 1 _ (show (["arrow","end"]:List Str).Nodup by decide +kernel) rfl (Or.inl rfl) (Or.inr rfl)),(pv 1)⟩)))<*>((Zfo (i:=4) (own:=["point"]) (fr:=[("ends",3)]) rfl (Zcp (by kernel_rfl)) (Zaz (pv 0)) (fun _ _ _ _=>⟨(@Zag _ _ 0 _ (show (["point","ends"]:List Str).Nodup by decide +kernel) rfl (Or.inl rfl) (Or.inr rfl)),(Zd5 (Zaj Zh0 (pe_bmK K rfl Ja4 PySem.F.slot_list_count PySem.F.type_list_count Zh1 (pv 1) ((pv 0)<&>Zab)) Zac (Zat _))),(pv 0)⟩) nd rfl rfl rfl)<*>((@Zbl _ _ _ _ _ _ _ _ (Zfn (Zj1 (pv 4) (fun _=>rfl))) (~~~(@Zam _ _ _ _ _ (Zj4<&>((pv 2)<&>Zab)))) Zas)<*>((@Zbl _ _ _ _ _ _ _ _ (PW.pt (Zo7 (Zaj Zh0 (Zb2 Zaq rfl T.n_len Jcd ((pv 4)<&>Zab)) Zac (Zat _)) (Zjz (Zaj Zh0 (Zep Ja4 PySem.F.slot_list_count PySem.F.type_list_count Zh1 (pv 3) ((Zaw<|>(pv 4)<||>Zac)<&>Zab)) Zac (Zat _))))) (~~~Zj5) Zas)<*>(~~~(Zct C_forked_kind hr.m rfl ((pv 2)<&>((Zct C_arms hr.m rfl ((pv 0)<&>((pv 1)<&>((Zaw<|>(pv 4)<||>Zac)<&>Zab))))<&>Zab)))))))))),?_⟩
  have hl:=hp.1
  refine Zd2 fun X hX=>?_
  walk_at "wp"
  refine ⟨_,.inl (SqL.of ha),?_⟩
  rw [Jab]
  subst hX
  refine Zd2 fun X hX=>?_
  walk_at "wp"
  refine ⟨_,.inl (SqL.of hb),Zd1 (fun hc=>?_) (fun hc=>?_)⟩
  ·refine q none .non H (.inl ⟨fun z=>?_,rfl⟩) (Same.refl _) rfl
   rw [Ja2 (by omega)] at hc
   cases hc
  have el:es.length + 1 = S.length:=by
   have:decide ((xs.length:Int) = (S.length:Int) - 1) = true:=by simpa using hc
   have:=Jav this
   omega
  subst hX
  refine Zd2 fun X hX=>?_
  walk_at "wp"
  refine ⟨_,rfl,b,rfl,⟨_,SqL.of hb⟩,fun D hD=>Zlm hb hp hD h9 fun H1 s1 e1=>?_⟩
  subst hX
  refine Zd2 fun X hX=>?_
  walk_at "wp"
  refine ⟨_,rfl,a,rfl,⟨_,SqL.of (s1 _ _ ha)⟩,fun D2 hD2=>Zjc (fun x=>decide (2 < (Zar es).count x)) (s1 _ _ ha) hD2 (by omega) (fun x H' Q' hx s' q'=>?_) fun H2 s2 e2=>?_⟩
  ·have e:decide ((2:Int) < ((Zar es).count x:Nat)) = decide (2 < (Zar es).count x):=by rw [decide_eq_decide]; omega
   have h1:=s' _ _ e1
   exact ⟨_,rfl,.inl ⟨rfl,_,SqL.of h1⟩,_,rfl,D,_,x,rfl,rfl,h1,_,_,rfl,rfl,_,rfl,e ▸ q'⟩
  have s12:=s1.trans s2
  subst hX
  refine Zd2 fun X hX=>?_
  walk_at "wp"
  cases ef:S.filter (fun x=>decide (2 < (Zar es).count x)) with
  | nil=>
   rw [ef] at e2
   refine ⟨false,.inl ⟨_,SqL.of e2,rfl⟩,iteP rfl ⟨by decide,fun t ht=>?_⟩⟩
   exact q (some (Str.ofString "A",(S.length:Int))) _ _ (.inr ⟨el,.inl ⟨ef,rfl⟩⟩) (s12.trans (Same.new ht)) ⟨t,rfl,Zaa⟩
  | cons f0 rest=>
   rw [ef] at e2
   refine ⟨true,.inl ⟨_,SqL.of e2,rfl⟩,iteN (by decide) ?_⟩
   subst hX
   refine Zd2 fun X hX=>?_
   walk_at "wp"
   have h1:=s2 _ _ e1
   have no:(rest ≠ []\/3 < (Zar es).count f0)->Q .non H2:=fun z=>q none .non H2 (.inr ⟨el,.inr ⟨f0,rest,ef,.inl ⟨z,rfl⟩⟩⟩) s12 rfl
   refine ⟨_,.inl (SqL.of e2),Zd1 (fun hc=>no (.inl fun z=>?_)) (fun hc=>⟨.inl ⟨rfl,_,SqL.of h1⟩,_,SqL.of e2,V.int f0,Zbw (by decide) (by simp),_,f0,rfl,h1,Zd1 (fun h3=>no (.inr ?_)) (fun h3=>?_)⟩)⟩
   ·rw [z] at hc
    simp at hc
   ·have:=Jav h3
    omega
   have hr0:rest = []:=by
    cases rest with
    | nil=>rfl
    | cons y ys=>exact absurd (Ja2 (by simp; omega)) hc
   have h3':¬ 3 < (Zar es).count f0:=fun z=>h3 (Ja2 (by omega))
   subst hX
   walk_at "wp"
   refine ⟨_,SqL.of e2,V.int f0,Zbw (by decide) (by simp),a,b,S,xs,es,f0,rfl,s12 _ _ ha,s12 _ _ hb,nS,h8,h9,hp.same s12,hin,fun l ns H3 s3 fl hl3 pm so=>?_⟩
   have ln:ns.length<=900:=by
    rw [pm.length_eq]
    unfold Zih Zd4
    rw [Jab,Jab]
    have l1:=Ja9 (fun x=>decide (Zbi (esF es f0) x = x)) (L3.oth S f0)
    have l2:(L3.oth S f0).length<=S.length:=Ja9 _ _
    omega
   exact ⟨_,l,ns,rfl,hl3,ln,fun v H4 s4 kv=>q _ v H4 (.inr ⟨el,.inr ⟨f0,rest,ef,.inr ⟨hr0,h3',ns,pm,so,rfl⟩⟩⟩) ((s12.trans s3).trans s4) kv⟩
def Zav (n:Nat):List Int:=(List.range n).map fun j=>((j:Nat):Int)
theorem Zq0 (n:Nat):(Zav n).map V.int = ptsV n:=by unfold Zav ptsV; rw [Jb6]; rfl
theorem Zdn (n:Nat):(Zav n).Nodup:=by
 unfold Zav
 refine L3.Zbg Jd8 fun x _ y _ e=>by omega
theorem Zau {n:Nat} {x:Int}:x ∈ Zav n ↔ 0<=x/\x < n:=by
 unfold Zav
 rw [Jak]
 constructor
 ·rintro ⟨j,hj,rfl⟩
  have:=Jcb.mp hj
  omega
 ·rintro ⟨h0,h1⟩
  exact ⟨x.toNat,Jcb.mpr (by omega),by omega⟩
theorem Zb1 (n:Nat) (f:Int->Int) (k:Int):Zk1 (Zav n) f k = Zeo n f k:=by
 unfold Zk1 Zav Zeo
 rw [List.filter_map]
 rfl
theorem Zdj (n:Nat) (f:Int->Int):Zd4 (Zav n) f = Zc7 n f:=by
 unfold Zd4 Zc7 Zav
 rw [List.filter_map,Jb6]
 refine Jc9 fun i _=>?_
 exact Zb1 n f _
theorem ok_pcs {f:Addr} {fd:FuncData} (F:Fun K "pieces" "Drawing.pieces" Za1 f fd) (T:Txt K mg C) (C_hanging:Cal P w K mg base "hanging" 1 spHg):FnOk P w K mg base CX0 2 f fd ["self"] (Zgs C):=by
 have nd:=Zcw.nd
 refine F.ok Zcw (fun vs H Q E h=>?_) (fun cdv A outer s H vs Q E hr h=>?_)
 ·obtain ⟨x,m,ps,rfl,_⟩:=h
  rfl
 ·obtain ⟨x,m,ps,rfl,⟨lp,xs,⟨dx,hx,hlp⟩,hl9,hps⟩,hin,m0,m8,q⟩:=h
  refine ⟨_,(~~~(Zct C_hanging hr.m rfl ((Zd7 (Zdc rfl) rfl T.n_list Je3 ((Zd7 Zfz rfl T.n_range boot_range ((Zhw (pv 0) rfl)<&>Zab))<&>Zab))<&>((Zhw (pv 0) rfl)<&>Zab)))),?_⟩
  walk_at "wp"
  refine ⟨_,_,_,hx,T.cl_Drawing,T.nM,_,rfl,m,rfl,fun p hp=>⟨_,_,Zaa,⟨by omega,by omega,by omega,by omega⟩,by omega,fun l hl=>?_⟩⟩
  have s2:Same H (upd (upd H p (.rng 0 m)) l (.lst (Zk2 0 m))):=(Same.new hp).trans (Same.new hl)
  have em:((m.toNat:Nat):Int) = m:=Jdm (by omega)
  have lp8:(Zav m.toNat).length = m.toNat:=by unfold Zav; simp
  refine ⟨_,_,_,s2 _ _ hx,T.cl_Drawing,T.nA,_,rfl,l,lp,Zav m.toNat,xs,ps,rfl,by rw [Zaa,Zj0,Zq0],s2 _ _ hlp,Zdn _,by rw [lp8]; omega,hl9,hps.same s2,fun q' hq'=>?_,fun p qs H' s' fp hp' rr=>q p qs H' (s2.trans s') (s2.free fp) hp' (by rw [Zdj] at rr; exact rr.old s2)⟩
  obtain ⟨a1,a2,a3,a4⟩:=hin q' hq'
  exact ⟨Zau.mpr ⟨a1,by omega⟩,Zau.mpr ⟨a3,by omega⟩⟩
def Zbk (ps:List (Int × Int)) (S:List Int):List (Int × Int):=ps.filter fun q=>decide (q.1 ∈ S)
def KdsF (H:Hp) (vs:List V) (L:List (List Int)) (ps:List (Int × Int)):Prop:=vs.length = L.length/\∀ (i:Nat) v S,vs[i]? = some v->L[i]? = some S->∃ r,Zjl S (Zbk ps S) r/\KdV H v r
theorem Zcs {n:Nat} {f:Int->Int} {k x:Int}:x ∈ Zeo n f k ↔ (0<=x/\x < n)/\f x = k:=by
 rw [<- Zb1]
 unfold Zk1
 rw [Jas,Zau,Jcf]
theorem Zef {n:Nat} {f:Int->Int} {S:List Int} (h:S ∈ Zc7 n f):∃ k:Int,f k = k/\(0<=k/\k < n)/\S = Zeo n f k:=by
 rw [<- Zdj] at h
 unfold Zd4 at h
 obtain ⟨k,hk,e⟩:=Jak.mp h
 obtain ⟨h1,h2⟩:=Jas.mp hk
 exact ⟨k,Jav h2,Zau.mp h1,by rw [<- e,Zb1]⟩
theorem Zqw {n:Nat} {f:Int->Int} {k:Int}:(Zeo n f k).Nodup:=by
 rw [<- Zb1]
 exact Jbc Ja6 (Zdn n)
theorem Zrg {m:Int} {ps:List (Int × Int)} (hin:InP m ps) (m0:0<=m) {S:List Int} (h:S ∈ Zc7 m.toNat (Zbi ps)) {q:Int × Int} (hq:q ∈ ps):q.1 ∈ S ↔ q.2 ∈ S:=by
 obtain ⟨k,_,_,rfl⟩:=Zef h
 have c:=(Zg9 hin).2 q hq
 obtain ⟨a1,a2,a3,a4⟩:=hin q hq
 rw [Zcs,Zcs,c]
 constructor
 ·rintro ⟨_,e⟩; exact ⟨⟨a3,by omega⟩,e⟩
 ·rintro ⟨_,e⟩; exact ⟨⟨a1,by omega⟩,e⟩
theorem Zny (S:List Int):(S.map V.int).all Zfx = true:=by
 rw [Jck]
 intro v hv
 obtain ⟨x,_,rfl⟩:=Jak.mp hv
 rfl
theorem in_ints (x:Int) (S:List Int):inV (V.int x) (S.map V.int) = decide (x ∈ S):=by
 rw [Jci,Jcf]
 unfold inV
 rw [List.any_eq_true]
 constructor
 ·rintro ⟨v,hv,e⟩
  obtain ⟨y,hy,rfl⟩:=Jak.mp hv
  simp only [eqV,Jbz] at e
  rw [<- e]
  exact hy
 ·intro h
  exact ⟨V.int x,Jak.mpr ⟨x,h,rfl⟩,by simp [eqV]⟩
theorem KdsF.same {H H':Hp} {vs:List V} {L:List (List Int)} {ps:List (Int × Int)} (h:KdsF H vs L ps) (s:Same H H'):KdsF H' vs L ps:=⟨h.1,fun i v S e1 e2=>let ⟨r,k1,k2⟩:=h.2 i v S e1 e2; ⟨r,k1,k2.same s⟩⟩
theorem KdV.put {H:Hp} {D:Addr} {l:List V} {o:HO} {v:V} {k:Kd} (h:KdV H v k) (hD:H D = some (.lst l)):KdV (upd H D o) v k:=by
 cases k with
 | none=>exact h
 | some k=>
  obtain ⟨t,e,ht⟩:=h
  exact ⟨t,e,by rw [Zaf (fun z=>by rw [z,hD] at ht; cases ht)]; exact ht⟩
theorem KdsF.add {H:Hp} {D:Addr} {l vs:List V} {o:HO} {L:List (List Int)} {ps:List (Int × Int)} {v:V} {S:List Int} {r:Kd} (h:KdsF H vs L ps) (hD:H D = some (.lst l)) (k1:Zjl S (Zbk ps S) r) (k2:KdV H v r):KdsF (upd H D o) (vs ++ [v]) (L ++ [S]) ps:=by
 refine ⟨by rw [Jaj,Jaj,h.1]; rfl,fun i v' S' e1 e2=>?_⟩
 have hl:=h.1
 by_cases hi:i < vs.length
 ·rw [Jbg hi] at e1
  rw [Jbg (by omega)] at e2
  obtain ⟨r',a1,a2⟩:=h.2 i v' S' e1 e2
  exact ⟨r',a1,a2.put hD⟩
 ·rw [Ja5 (by omega)] at e1
  rw [Ja5 (by omega),<- hl] at e2
  cases ei:i - vs.length with
  | zero=>
   rw [ei] at e1 e2
   cases e1
   cases e2
   exact ⟨r,k1,k2.put hD⟩
  | succ j=>
   rw [ei] at e1
   cases e1
def Ziq (C:Addr):Sp:=fun vs H Q _=>∃ (x:Addr) (m:Int) (ps:List (Int × Int)),vs = [.ref x]/\Drw C H x m ps/\InP m ps/\1<=m/\m<=8 /\
 ∀ p us H',Same H H'->H p = none->H' p = some (.lst us)->KdsF H' us (Zc7 m.toNat (Zbi ps)) ps->Q (.ref p) H'
theorem Zpt {f:Addr} {fd:FuncData} (F:Fun K "kinds" "Drawing.kinds" Za4 f fd) (T:Txt K mg C) (C_Drawing_pieces:CalM P w K mg base C "pieces" 2 (Zgs C)) (C_kind_of:Cal P w K mg base "kind_of" 3 spKo):FnOk P w K mg base CX0 4 f fd ["self"] (Ziq C):=by
 have nd:=Zdg.nd
 refine F.ok Zdg (fun vs H Q E h=>?_) (fun cdv A outer s H vs Q E hr h=>?_)
 ·obtain ⟨x,m,ps,rfl,_⟩:=h
  rfl
 ·obtain ⟨x,m,ps,rfl,dw,hin,m0,m8,q⟩:=h
  refine ⟨_,(~~~(Zbj (own:=["piece"]) (fr:=[("self",0)]) rfl (Zcp (by kernel_rfl)) (Zaz (Zmz T.cl_Drawing C_Drawing_pieces hr.m (pv 0))) (fun _ _ _ _=>⟨(@Zag _ _ 0 _ (show (["piece","self"]:List Str).Nodup by decide +kernel) rfl (Or.inr rfl) (Or.inl rfl)),Zbn,(Zct C_kind_of hr.m rfl ((pv 0)<&>((Zbj (own:=["arrow"]) (fr:=[("piece",0)]) rfl (Zcp (by kernel_rfl)) (Zj3 K rfl (Zm0 K rfl (pv 1) rfl)) (fun _ _ _ _=>⟨(@Zag _ _ 0 _ (show (["arrow","piece"]:List Str).Nodup by decide +kernel) rfl (Or.inl rfl) (Or.inr rfl)),(Zd5 (Zaj (Zk5 K rfl) ((ix_tupK K rfl)<|>(pv 0)<||>Zac) (pv 1) (by with_unfolding_all rfl))),(pv 0)⟩))<&>Zab)))⟩))),?_⟩
  obtain ⟨lp,xs,⟨dx,hx,hlp⟩,hl9,hps⟩:=id dw
  walk_at "wp"
  refine ⟨_,rfl,x,dx,_,rfl,hx,Zn7 m lp (by decide) (by decide),x,m,ps,rfl,dw,hin,m0,m8,fun p qs H1 s1 fp hp1 rf=>?_⟩
  have rl:=rf.1
  have lr:(Zc7 m.toNat (Zbi ps)).length<=8:=by
   rw [<- Zdj]
   unfold Zd4 Zav
   rw [Jab]
   refine Jay (Ja9 _ _) ?_
   simp
   omega
  refine ⟨p,rfl,⟨_,SqL.of hp1⟩,fun D hD=>Zb9 (xs:=qs) (fun i vs H=>Same H1 H/\H D = some (.lst vs)/\KdsF H vs ((Zc7 m.toNat (Zbi ps)).take i) ps) ⟨Same.new hD,Zaa,rfl,fun i v S e1 _=>by simp at e1⟩ (fun i vs H _ k=>SqL.of (k.1 _ _ hp1)) ?_ ?_⟩
  ·rintro i x' vs σ' H' hi hx' sh ⟨s',e',kf⟩
   obtain ⟨z,rfl⟩:=sh.one
   have hi':i < (Zc7 m.toNat (Zbi ps)).length:=by omega
   have hr':=Jac hi'
   obtain ⟨t,rfl,_,_,ht⟩:=rf.2 i x' _ hx' hr'
   have mS:=Jan hr'
   generalize (Zc7 m.toNat (Zbi ps))[i] = S at *
   simp only [Zdv,Zbe,Zhp,Ja0,Jdu]
   have sH:=s1.trans s'
   have hx1:=sH _ _ hx
   have hl1:=sH _ _ hlp
   have ht1:=s' _ _ ht
   obtain ⟨k,_,_,eS⟩:=Zef mS
   have nS:S.Nodup:=by rw [eS]; exact Zqw
   have lS:S.length<=8:=by
    rw [eS,<- Zb1]
    unfold Zk1 Zav
    refine Jay (Ja9 _ _) ?_
    simp
    omega
   refine ⟨_,rfl,_,rfl,x,C,dx,_,_,rfl,hx1,T.cl_Drawing,T.nA,Zfw _ _,lp,rfl,⟨_,SqL.of hl1⟩,fun D2 hD2=>Zok (fun q=>decide (q.1 ∈ S)) hl1 (hps.same sH) hD2 (by omega) (fun t' q' H2 Q' hq ht' s2 k'=>?_) fun ys H2 s2 e2 pr2 ly=>?_⟩
   ·exact ⟨_,rfl,t',_,0,V.int q'.1,rfl,rfl,SqT.of ht',Zbw (by decide) (by simp),_,rfl,t,_,rfl,.inl (SqL.of (s2 _ _ ht1)),rfl,Zny S,_,rfl,in_ints q'.1 S ▸ k'⟩
   refine ⟨t,D2,S,ys,Zbk ps S,rfl,s2 _ _ ht1,e2,nS,lS,by omega,pr2,fun q' hq'=>?_,fun r v H3 kp s3 kv=>?_⟩
   ·obtain ⟨m1,m2⟩:=Jas.mp hq'
    have m2:=Jav m2
    exact ⟨m2,(Zrg hin (by omega) mS m1).mp m2⟩
   have s23:=s2.trans s3
   have kl:=kf.1
   rw [Ja1] at kl
   refine leaf (ws:=vs ++ [v]) hi Sh.mk1 (s23 _ _ e') (Zah (by omega)) ⟨(s'.trans s23).upd hD,Zaa,?_⟩
   rw [Jbn,hr']
   exact (kf.same s23).add (s23 _ _ e') kp kv
  ·rintro vs H4 ⟨s4,e4,kf⟩
   rw [rl,Jbu] at kf
   exact q D vs H4 (s1.trans s4) (s1.free hD) e4 kf
end
end Pf
namespace Pf
open PySem L2 PyProof.Rows
section
variable {P:Program} {w:World} {K:PySem.W.Frag} {mg:Str->Option Value} {base:Heap} {C:Addr}
structure Far (ps:List (Int × Int)) (S:List Int) (f:Int) (R:List Int) (d:Int->Nat) (kvs:List (Key × V)):Prop where
 nd:R.Nodup
 fR:f ∈ R
 sub:∀ x ∈ R,x ∈ S
 d0:d f = 0
 vals:∀ x:Int,Zel kvs (.inl x) = if x ∈ R then some (.int ((d x:Nat):Int)) else none
 par:∀ x ∈ R,x ≠ f->∃ q ∈ ps,(q.1 = x/\q.2 ∈ R/\d q.2 + 1 = d x)\/(q.2 = x/\q.1 ∈ R/\d q.1 + 1 = d x)
 len:kvs.length = R.length
end
end Pf
namespace Pf
open PySem L2 PyProof.Rows
section
variable {P:Program} {w:World} {K:PySem.W.Frag} {mg:Str->Option Value} {base:Heap} {C:Addr}
structure Pc (m:Int) (ps:List (Int × Int)) (S:List Int):Prop where
 nd:S.Nodup
 le8:S.length<=8
 ne:S ≠ []
 cl:∀ q ∈ ps,q.1 ∈ S ↔ q.2 ∈ S
 cn:L3.Conn S (Zbk ps S)
 inm:∀ x ∈ S,0<=x/\x < m
 inp:InP m ps
theorem Pc.of {m:Int} {ps:List (Int × Int)} {S:List Int} (hin:InP m ps) (m0:0<=m) (m8:m<=8) (h:S ∈ Zc7 m.toNat (Zbi ps)):Pc m ps S:=by
 have lb:=Zg9 hin
 obtain ⟨k,ek,hk,rfl⟩:=Zef h
 have inS:∀ x ∈ Zeo m.toNat (Zbi ps) k,(0<=x/\x < m)/\Zbi ps x = k:=fun x hx=>by
  obtain ⟨h1,h2⟩:=Zcs.mp hx
  exact ⟨by omega,h2⟩
 refine ⟨Zqw,?_,fun z=>?_,fun q hq=>Zrg hin m0 h hq,fun g hg x hx y hy=>?_,fun x hx=>(inS x hx).1,hin⟩
 ·rw [<- Zb1]
  unfold Zk1 Zav
  refine Jay (Ja9 _ _) ?_
  simp
  omega
 ·have:k ∈ Zeo m.toNat (Zbi ps) k:=Zcs.mpr ⟨hk,ek⟩
  rw [z] at this
  cases this
 ·have co:=lb.1.co (fun z=>if Zbi ps z = k then g z else 0) (fun q hq=>by
   have e:=lb.2 q hq
   obtain ⟨a1,a2,a3,a4⟩:=hin q hq
   by_cases z:Zbi ps q.1 = k
   ·simp only [if_pos z,if_pos (e ▸ z)]
    refine hg q (Jas.mpr ⟨hq,Ja2 (Zcs.mpr ⟨⟨a1,by omega⟩,z⟩)⟩)
   ·simp only [if_neg z,if_neg (fun u=>z (e.trans u))])
  have one:∀ x ∈ Zeo m.toNat (Zbi ps) k,g x = g k:=fun x hx=>by
   obtain ⟨⟨h1,h2⟩,h3⟩:=inS x hx
   have:=co x h1 h2
   simp only [h3,ek,Jdu] at this
   exact this.symm
  rw [one x hx,one y hy]
theorem Zgl {x:Int}:∀ {es:List (Int × Int)},(∀ q ∈ es,q.1 ≠ q.2)->(Zar es).count x = L3.deg es x
 | [],_=>rfl
 | q :: es,h=>by
  have ih:=Zgl (x:=x) (es:=es) fun q' hq'=>h q' (Jbj _ hq')
  have nq:=h q (by simp)
  unfold Zar L3.deg at *
  rw [List.flatMap_cons,List.count_append,ih,List.countP_cons]
  by_cases h1:q.1 = x
  ·by_cases h2:q.2 = x
   ·exact absurd (h1.trans h2.symm) nq
   ·rw [if_pos (by simp [h1])]; simp [h1,h2]; omega
  ·by_cases h2:q.2 = x
   ·rw [if_pos (by simp [h2])]; simp [h1,h2]; omega
   ·rw [if_neg (by simp [h1,h2])]; simp [h1,h2]
theorem Zh3 (p:Int->Bool):∀ l:List Int,l.length = (l.filter p).length + (l.filter fun x=>!p x).length
 | []=>rfl
 | x :: l=>by
  have:=Zh3 p l
  by_cases h:p x = true
  ·simp [h]; omega
  ·simp [h]; omega
theorem Zjr (g:Int->Int):∀ {R:List Int} (l:List Int),R.Nodup->(R.map fun r=>(l.filter fun x=>decide (g x = r)).length).sum<=l.length
 | [],l,_=>Jbx _
 | r :: R,l,nd=>by
  have nd':=Jbo.mp nd
  have ih:=Zjr g (R:=R) (l.filter fun x=>!decide (g x = r)) nd'.2
  have e:(R.map fun r'=>((l.filter fun x=>!decide (g x = r)).filter fun x=>decide (g x = r')).length) = R.map fun r'=>(l.filter fun x=>decide (g x = r')).length:=by
   refine Jc9 fun r' hr'=>?_
   rw [List.filter_filter]
   congr 1
   refine Jew fun x _=>?_
   by_cases z:g x = r'
   ·have:g x ≠ r:=fun u=>nd'.1 (by rw [<- u,z]; exact hr')
    simp [z]
    rw [<- z]
    exact this
   ·simp [z]
  rw [e] at ih
  have h2:l.length = (l.filter fun x=>decide (g x = r)).length + (l.filter fun x=>!decide (g x = r)).length:=Zh3 _ l
  rw [Jax,List.sum_cons]
  omega
theorem Zqm {m:Int} {ps:List (Int × Int)} {S:List Int} {f:Int} {d:Int->Nat} (pc:Pc m ps S) (T:L3.Fk S (Zbk ps S) f d) (hf3:L3.deg (Zbk ps S) f = 3):
  (Zih S (Zbk ps S) f).Perm ((S.filter fun x=>decide (L3.deg (Zbk ps S) x = 1)).map fun x=>((d x:Nat):Int))/\∃ ls:List Nat,Zih S (Zbk ps S) f = ls.map (fun n=>((n:Nat):Int))/\3<=ls.length/\ls.sum + 1<=S.length:=by
 have ie:InP m (esF (Zbk ps S) f):=fun q hq=>pc.inp q (Jas.mp (Jas.mp hq).1).1
 have mF:∀ q ∈ esF (Zbk ps S) f,q ∈ Zbk ps S/\q.1 ≠ f/\q.2 ≠ f:=fun q hq=>by
  obtain ⟨h1,h2⟩:=Jas.mp hq
  exact ⟨h1,Jav h2⟩
 have lb:=Zg9 ie
 have ar:Zih S (Zbk ps S) f = ((L3.oth S f).filter fun x=>decide (Zbi (esF (Zbk ps S) f) x = x)).map fun r=>(((Zk1 (L3.oth S f) (Zbi (esF (Zbk ps S) f)) r).length:Nat):Int):=by
  unfold Zih Zd4
  rw [Jb6]
  rfl
 rw [ar]
 have mFi:∀ q ∈ Zbk ps S,q.1 ≠ f->q.2 ≠ f->q ∈ esF (Zbk ps S) f:=fun q hq h1 h2=>Jas.mpr ⟨hq,Ja2 ⟨h1,h2⟩⟩
 generalize Zbi (esF (Zbk ps S) f) = lab at *
 have nO:(L3.oth S f).Nodup:=Jbc Ja6 pc.nd
 have iO:∀ x ∈ L3.oth S f,0<=x/\x < m:=fun x hx=>pc.inm x (L3.Za6.mp hx).1
 have labO:∀ x ∈ L3.oth S f,lab x ∈ L3.oth S f:=fun x hx=>by
  have:=lb.1.co (fun z=>if z ∈ L3.oth S f then 1 else 0) (fun q hq=>by
   obtain ⟨h1,h2,h3⟩:=mF q hq
   obtain ⟨i1,i2⟩:=T.inS q h1
   simp only [if_pos (L3.Za6.mpr ⟨i1,h2⟩),if_pos (L3.Za6.mpr ⟨i2,h3⟩)]) x (iO x hx).1 (iO x hx).2
  simp only [if_pos hx] at this
  by_cases z:lab x ∈ L3.oth S f
  ·exact z
  ·rw [if_neg z] at this; cases this
 have lab2:∀ x ∈ L3.oth S f,lab (lab x) = lab x:=fun x hx=>lb.1.co lab lb.2 x (iO x hx).1 (iO x hx).2
 have rl:∀ x ∈ L3.oth S f,L3.Zb6 d (Zbk ps S) f (lab x) = L3.Zb6 d (Zbk ps S) f x:=fun x hx=>lb.1.co _ (fun q hq=>by
  obtain ⟨h1,h2,h3⟩:=mF q hq
  obtain ⟨p1,p2,p3,p4⟩:=T.prop h1
  have u:=T.up1_ce h1
  have np:L3.pe d q ≠ f:=by
   rcases L3.Zea (d:=d) q with ⟨e1,e2⟩ | ⟨e1,e2⟩
   ·rw [<- e2]; exact h3
   ·rw [<- e1]; exact h2
  have st:=T.root_step p1 p2 (by rw [u]; exact np)
  rw [u] at st
  rcases L3.Zea (d:=d) q with ⟨e1,e2⟩ | ⟨e1,e2⟩
  ·rw [e1,e2]; exact st
  ·rw [e1,e2]; exact st.symm) x (iO x hx).1 (iO x hx).2
 have lr:∀ (k:Nat) {x:Int},d x<=k->x ∈ L3.oth S f->lab (L3.Zb6 d (Zbk ps S) f x) = lab x:=by
  intro k
  induction k with
  | zero=>
   intro x hk hx
   have:=T.pos (L3.Za6.mp hx).1 (L3.Za6.mp hx).2
   omega
  | succ k ih=>
   intro x hk hx
   obtain ⟨xS,xf⟩:=L3.Za6.mp hx
   by_cases hu:L3.up1 d (Zbk ps S) x = f
   ·rw [T.root_base xS xf hu]
   ·obtain ⟨q,hq,e1,e2⟩:=T.up1_of xS xf
    obtain ⟨u1,u2⟩:=T.up1_prop xS xf
    rw [T.root_step xS xf hu,ih (by omega) (L3.Za6.mpr ⟨u1,hu⟩)]
    have hc:lab q.1 = lab q.2:=lb.2 q (by
     rcases L3.Zea (d:=d) q with ⟨c1,c2⟩ | ⟨c1,c2⟩
     ·exact mFi q hq (by rw [c1,e1]; exact xf) (by rw [c2,<- e2]; exact hu)
     ·exact mFi q hq (by rw [c1,<- e2]; exact hu) (by rw [c2,e1]; exact xf))
    rcases L3.Zea (d:=d) q with ⟨c1,c2⟩ | ⟨c1,c2⟩
    ·rw [c1,c2,e1,<- e2] at hc; exact hc.symm
    ·rw [c1,c2,e1,<- e2] at hc; exact hc
 have mR:∀ r,r ∈ (L3.oth S f).filter (fun x=>decide (lab x = x)) ↔ r ∈ L3.oth S f/\lab r = r:=fun r=>by rw [Jas,Jcf]
 have nR:((L3.oth S f).filter fun x=>decide (lab x = x)).Nodup:=Jbc Ja6 nO
 have same:∀ r ∈ (L3.oth S f).filter (fun x=>decide (lab x = x)),(Zk1 (L3.oth S f) lab r).length = (L3.cls S d (Zbk ps S) f (L3.Zb6 d (Zbk ps S) f r)).length:=fun r hr=>by
  obtain ⟨h1,h2⟩:=(mR r).mp hr
  unfold Zk1 L3.cls
  congr 1
  refine Jew fun x hx=>?_
  rw [decide_eq_decide]
  constructor
  ·intro e; rw [<- rl x hx,e]
  ·intro e; rw [<- lr _ (Jaf _) hx,e,lr _ (Jaf _) h1,h2]
 have hall:∀ x ∈ S,x ≠ f->∃ r ∈ (L3.oth S f).filter (fun x=>decide (lab x = x)),L3.Zb6 d (Zbk ps S) f r = L3.Zb6 d (Zbk ps S) f x:=fun x hx xf=>by
  have xo:=L3.Za6.mpr ⟨hx,xf⟩
  exact ⟨lab x,(mR _).mpr ⟨labO x xo,lab2 x xo⟩,rl x xo⟩
 have pm:=T.arms (by omega) nR (fun r hr=>L3.Za6.mp ((mR r).mp hr).1) (fun r hr r' hr' e=>by
  obtain ⟨h1,h2⟩:=(mR r).mp hr
  obtain ⟨h3,h4⟩:=(mR r').mp hr'
  rw [<- h2,<- h4,<- lr _ (Jaf _) h1,<- lr _ (Jaf _) h3,e]) hall
 rw [<- Jc9 same] at pm
 have sm:=Zjr lab (L3.oth S f) nR
 have ol:=L3.Ziw pc.nd T.fS
 refine ⟨?_,_,(Jb6 (f:=fun r=>(Zk1 (L3.oth S f) lab r).length) (g:=fun n=>((n:Nat):Int))).symm,?_,?_⟩
 ·have:=pm.map (fun n=>((n:Nat):Int))
  rw [Jb6,Jb6] at this
  exact this
 ·have lc:((Zbk ps S).filter fun q=>decide (L3.pe d q = f)).length = 3:=by
   rw [<- hf3,T.deg_f]
   unfold L3.chn
   rw [List.count,List.countP_map,List.countP_eq_length_filter]
   rfl
  have:=L3.Zbd (l:=((Zbk ps S).filter fun q=>decide (L3.pe d q = f)).map (L3.ce d)) (m:=((L3.oth S f).filter fun x=>decide (lab x = x)).map (L3.Zb6 d (Zbk ps S) f)) (Jbc (List.Sublist.map _ Ja6) T.cend) fun c hc=>by
   obtain ⟨q,hq,rfl⟩:=Jak.mp hc
   obtain ⟨h1,h2⟩:=Jas.mp hq
   have h2:=Jav h2
   obtain ⟨p1,p2,p3,p4⟩:=T.prop h1
   obtain ⟨r,hr,er⟩:=hall _ p1 p2
   exact Jak.mpr ⟨r,hr,by rw [er,T.root_base p1 p2 (by rw [T.up1_ce h1,h2])]⟩
  rw [Jab,Jab,lc] at this
  rw [Jab]
  exact this
 ·unfold Zk1
  omega
end
end Pf
namespace Pf
open PySem L2 PyProof.Rows
section
variable {P:Program} {w:World} {K:PySem.W.Frag} {mg:Str->Option Value} {base:Heap} {C:Addr}
def Zl6:Sp:=fun vs H Q _=>∃ (e r1 r2:Addr) (m:Int) (xs:List V) (ps:List (Int × Int)) (a b:List Int),vs = [.ref e,.ref r1,.ref r2]/\H e = some (.lst xs)/\xs.length<=9/\Prs H xs ps/\InP m ps/\H r1 = some (.lst (a.map V.int))/\H r2 = some (.lst (b.map V.int)) /\
 a.length = m.toNat/\b.length = m.toNat/\m<=8/\(∀ n ∈ a,Big n)/\(∀ n ∈ b,Big n)/\Q (.int (Zn6 ps a b)) H
theorem ok_form {f:Addr} {fd:FuncData} (F:Fun K "_law_form" "_law_form" Zcd f fd) (T:Txt K mg C):FnOk P w K mg base CX0 1 f fd ["_law_arrows","_law_one","_law_other"] Zl6:=by
 have nd:=Zfe.nd
 refine F.ok Zfe (fun vs H Q E h=>?_) (fun cdv A outer s H vs Q E hr h=>?_)
 ·obtain ⟨e,r1,r2,m,xs,ps,a,b,rfl,_⟩:=h
  rfl
 ·obtain ⟨e,r1,r2,m,xs,ps,a,b,rfl,he,hl,hps,hin,h1,h2,l1,l2,m8,b1,b2,q⟩:=h
  have hlen:=hps.1
  refine ⟨_,((Zao (i:=3) nd rfl (Or.inl rfl) Zac)<*>((Zb7 Jbp rfl (Zf6 rfl T.n_range ((Zb2 Zaq rfl T.n_len Jcd ((pv 1)<&>Zab))<&>Zab)) (@Zag _ _ 4 _ nd rfl (Or.inl rfl) (Or.inl rfl)) (@Zal _ _ _ (Zao (i:=3) nd rfl (Or.inl rfl) (Za5<|>(pv 3)<&&>(Zix<|>(Zaw<|>(pv 1)<||>(pv 4))<&&>(Zaw<|>(pv 2)<||>(pv 4)))))))<*>((Zb7 Jbp rfl (Zaz (pv 0)) (@Zgd _ _ _ _ _ 2 rfl (@Zbf _ _ _ _ _ (@Zag _ _ 5 _ nd rfl (Or.inl rfl) (Or.inl rfl)) (@Zbf _ _ _ _ _ (@Zag _ _ 6 _ nd rfl (Or.inl rfl) (Or.inl rfl)) (@Zd6 _) (by rfl)) (by rfl)) (by rfl) (by rfl)) (@Zal _ _ _ (Zao (i:=3) nd rfl (Or.inl rfl) (Zdp<|>(pv 3)<&&>(Zix<|>(Zaw<|>(pv 1)<||>(pv 5))<&&>(Zaw<|>(pv 2)<||>(pv 6)))))))<*>(~~~(pv 3))))),?_⟩
  walk_at "wp"
  refine ⟨_,rfl,r1,rfl,_,.inl (SqL.of h1),_,rfl,by simp only [Jab]; omega,by simp only [Jab]; omega,Zcn (fun i σ H2=>∃ v4 v5 v6:Option V,σ = [some (.ref e),some (.ref r1),some (.ref r2),some (.int (dotZ a b i)),v4,v5,v6]/\H2 = H) ⟨none,none,none,rfl,rfl⟩ ?_ ?_⟩
  ·rintro i σ H2 hi ⟨v4,v5,v6,rfl,rfl⟩
   walk_at "wp"
   simp only [Jab] at hi
   have t0:(0 + (i:Int)).toNat < a.length:=by omega
   have t1:(0 + (i:Int)).toNat < b.length:=by omega
   refine ⟨_,SqL.of h1,_,Zbw (by omega) (Zcq t0),_,SqL.of h2,_,Zbw (by omega) (Zcq t1),_,rfl,_,rfl,(Zhk b1 t0).mul (Zhk b2 t1),?_,_,rfl⟩
   rw [Int.zero_add]
   rfl
  ·rintro σ H2 ⟨v4,v5,v6,rfl,rfl⟩
   walk_at "wp"
   refine ⟨_,rfl,e,rfl,⟨_,SqL.of he⟩,Zdb (xs:=xs) (fun i σ H=>∃ v4 v5 v6:Option V,σ = [some (.ref e),some (.ref r1),some (.ref r2),some (.int (dotZ a b a.length - Zig a b (ps.take i))),v4,v5,v6]/\H = H2)
    ⟨v4,v5,v6,?_,rfl⟩ (fun i σ H _ ⟨_,_,_,_,hH⟩=>SqL.of (by rw [hH]; exact he)) ?_ ?_⟩
   ·simp [Zig,arrZ]
   ·rintro i x σ H hi ⟨v4,v5,v6,rfl,rfl⟩
    have hi1:i < xs.length:=(Jap.mp hi).1
    have hq:ps[i]? = some (ps[i]'(by omega)):=Jac _
    obtain ⟨t,rfl,ht⟩:=hps.2 i x _ hi hq
    obtain ⟨p0,p1,p2,p3⟩:=hin _ (Jan hq)
    refine ⟨t,_,rfl,SqT.of ht,rfl,_,_,rfl,_,_,rfl,rfl,?_⟩
    walk_at "wp"
    have t0:(ps[i]'(by omega)).1.toNat < a.length:=by omega
    have t1:(ps[i]'(by omega)).2.toNat < b.length:=by omega
    refine ⟨_,SqL.of h1,_,Zbw p0 (Zcq t0),_,SqL.of h2,_,Zbw p2 (Zcq t1),_,rfl,_,rfl,(Zhk b1 t0).mul (Zhk b2 t1),?_⟩
    rw [Jbn,hq]
    show _ = dotZ a b a.length - Zig a b (ps.take i ++ [ps[i]'(by omega)])/\_
    rw [Zlp]
    exact ⟨by omega,_,rfl⟩
   ·rintro σ H ⟨v4,v5,v6,rfl,rfl⟩
    rw [hlen,Jbu]
    exact ⟨_,rfl,q⟩
end
end Pf
namespace Pf
open PySem L2 PyProof.Rows
section
variable {P:Program} {w:World} {K:PySem.W.Frag} {mg:Str->Option Value} {base:Heap} {C:Addr}
theorem Znf (p:Int):∀ es:List (Int × Int),L3.nb es (fun _=>1) p = ((Zar es).count p:Nat)
 | []=>rfl
 | e :: es=>by
  have ih:=Znf p es
  unfold L3.nb Zar at *
  rw [List.flatMap_cons,List.count_append,L3.sI,ih]
  by_cases h1:e.1 = p <;> by_cases h2:e.2 = p <;> simp [h1,h2] <;> omega
theorem Zp0 {S:List Int} {es:List (Int × Int)} (nd:S.Nodup) (ins:L3.Ins S es) (el:es.length + 1 = S.length) (one:∀ p ∈ S,1<=(Zar es).count p) (fk:(∃ f ∈ S,3 < (Zar es).count f)\/∃ f ∈ S,∃ f' ∈ S,f ≠ f'/\2 < (Zar es).count f/\2 < (Zar es).count f'):
  L3.qf S es (fun p=>if p ∈ S then (if (Zar es).count p = 1 then 1 else 2) else 0)<=0:=by
 have d1:=L3.dbl (x:=fun _=>1) (y:=fun _=>1) nd ins
 have d2:=L3.dbl (x:=fun _=>1) (y:=fun p=>if (Zar es).count p = 1 then 1 else 0) nd ins
 have e1:L3.sI (fun p=>(1:Int) * L3.nb es (fun _=>1) p) S = L3.sI (fun p=>(((Zar es).count p:Nat):Int)) S:=L3.Zai fun p _=>by rw [Znf]; omega
 have e2:L3.sI (fun p=>(if (Zar es).count p = 1 then (1:Int) else 0) * L3.nb es (fun _=>1) p) S = L3.sI (fun p=>if (Zar es).count p = 1 then (1:Int) else 0) S:=L3.Zai fun p _=>by
  rw [Znf]
  by_cases z:(Zar es).count p = 1
  ·simp [z]
  ·simp [z]
 have e3:L3.sI (fun _:Int × Int=>(1:Int) * 1 + 1 * 1) es = 2 * (es.length:Nat):=by rw [L3.Zbs]; rfl
 rw [e1,e3] at d1
 rw [e2] at d2
 have g0:∀ p ∈ S,0<=(((Zar es).count p:Nat):Int) - 2 + (if (Zar es).count p = 1 then (1:Int) else 0):=fun p hp=>by
  have:=one p hp
  split <;> omega
 have sg:L3.sI (fun p=>(((Zar es).count p:Nat):Int) - 2 + (if (Zar es).count p = 1 then (1:Int) else 0)) S = 2 * (es.length:Nat) - 2 * (S.length:Nat) + L3.sI (fun p=>if (Zar es).count p = 1 then (1:Int) else 0) S:=by
  rw [L3.Zck,L3.Zed,d1,L3.Zbs]
 have l4:4<=L3.sI (fun p=>if (Zar es).count p = 1 then (1:Int) else 0) S:=by
  rcases fk with ⟨f,hf,h3⟩ | ⟨f,hf,f',hf',ne,h3,h4⟩
  ·have:=L3.Zdz hf g0
   rw [sg,if_neg (by omega)] at this
   omega
  ·have:=L3.Zqt hf hf' ne g0
   rw [sg,if_neg (by omega),if_neg (by omega)] at this
   omega
 have sq:L3.sI (fun p=>(if p ∈ S then (if (Zar es).count p = 1 then (1:Int) else 2) else 0) * (if p ∈ S then (if (Zar es).count p = 1 then (1:Int) else 2) else 0)) S = 4 * (S.length:Nat) - 3 * L3.sI (fun p=>if (Zar es).count p = 1 then (1:Int) else 0) S:=by
  rw [<- L3.Zdi,<- L3.Zbs,<- L3.Zed]
  refine L3.Zai fun p hp=>?_
  rw [if_pos hp]
  split <;> rfl
 have pr:4 * (es.length:Nat) - 2 * L3.sI (fun e:Int × Int=>(if (Zar es).count e.1 = 1 then (1:Int) else 0) * 1 + (if (Zar es).count e.2 = 1 then (1:Int) else 0) * 1) es<=L3.sI (fun e:Int × Int=>(if e.1 ∈ S then (if (Zar es).count e.1 = 1 then (1:Int) else 2) else 0) * (if e.2 ∈ S then (if (Zar es).count e.2 = 1 then (1:Int) else 2) else 0)) es:=by
  rw [<- L3.Zdi,<- L3.Zbs,<- L3.Zed]
  refine L3.Zmf fun e he=>?_
  rw [if_pos (ins e he).1,if_pos (ins e he).2]
  split <;> split <;> decide
 unfold L3.qf
 dsimp only
 rw [sq]
 rw [<- d2] at pr
 refine Int.le_trans (Int.sub_le_sub_left pr _) ?_
 omega
theorem Zqg {S:List Int} {es:List (Int × Int)} (cn:L3.Conn S es) (ins:L3.Ins S es) (nd:S.Nodup) (ne:S ≠ []):S.length<=es.length + 1:=by
 obtain ⟨z,zS⟩:=Jd7 S ne
 obtain ⟨d,e0,hp⟩:=L3.Zja (f:=z) cn ins nd S.length (A:=[z]) (d:=fun _=>0) (by omega) (by simp) (fun x hx=>by rw [Jaz.mp hx]; exact zS) (by simp) rfl (fun x hx xf=>absurd (Jaz.mp hx) xf)
 have:=L3.Zbd (l:=L3.oth S z) (m:=es.map (L3.ce d)) (Jbc Ja6 nd) fun x hx=>by
  obtain ⟨h1,h2⟩:=L3.Za6.mp hx
  obtain ⟨q,hq,h⟩:=hp x h1 h2
  exact Jak.mpr ⟨q,hq,(L3.Zj7 h).1⟩
 rw [Jab] at this
 have:=L3.Ziw nd zS
 omega
theorem Pc.ins {m:Int} {ps:List (Int × Int)} {S:List Int} (pc:Pc m ps S):L3.Ins S (Zbk ps S):=fun q hq=>by
 obtain ⟨h1,h2⟩:=Jas.mp hq
 have h2:=Jav h2
 exact ⟨h2,(pc.cl q h1).mp h2⟩
theorem Pc.tree {m:Int} {ps:List (Int × Int)} {S:List Int} (pc:Pc m ps S) (el:(Zbk ps S).length + 1 = S.length) {f:Int} (hf:f ∈ S):∃ d:Int->Nat,d f = 0/\L3.Tr S (Zbk ps S) f d/\∀ x,(Zar (Zbk ps S)).count x = L3.deg (Zbk ps S) x:=by
 obtain ⟨d,e0,T⟩:=L3.Zog pc.cn pc.ins pc.nd hf el
 exact ⟨d,e0,T,fun x=>Zgl fun q hq=>T.ne hq⟩
theorem Pc.three {m:Int} {ps:List (Int × Int)} {S:List Int} (pc:Pc m ps S) (el:(Zbk ps S).length + 1 = S.length) {f:Int} {ns:List Int} (hf:(S.filter fun x=>decide (2 < (Zar (Zbk ps S)).count x)) = [f]) (h3:¬ 3 < (Zar (Zbk ps S)).count f) (pm:ns.Perm (Zih S (Zbk ps S) f)):
  ∃ (d:Int->Nat) (a b c:Int),L3.Fk S (Zbk ps S) f d/\L3.Lvs S (Zbk ps S) f d [a,b,c]/\ns = [((d a:Nat):Int),((d b:Nat):Int),((d c:Nat):Int)]/\d a + d b + d c + 1<=S.length:=by
 have mf:f ∈ S/\2 < (Zar (Zbk ps S)).count f:=by
  have:f ∈ S.filter fun x=>decide (2 < (Zar (Zbk ps S)).count x):=by rw [hf]; simp
  obtain ⟨h,h'⟩:=Jas.mp this
  exact ⟨h,Jav h'⟩
 have only:∀ x ∈ S,2 < (Zar (Zbk ps S)).count x->x = f:=fun x hx h=>by
  have:x ∈ S.filter fun x=>decide (2 < (Zar (Zbk ps S)).count x):=Jas.mpr ⟨hx,Ja2 h⟩
  rw [hf] at this
  exact Jaz.mp this
 obtain ⟨d,e0,T,cE⟩:=pc.tree el mf.1
 have f3:L3.deg (Zbk ps S) f = 3:=by rw [<- cE]; omega
 have Tf:L3.Fk S (Zbk ps S) f d:=⟨T,e0,fun x hx xf=>by
  have h6:=T.deg_x hx xf
  rw [<- cE] at h6
  have:¬ 2 < (Zar (Zbk ps S)).count x:=fun u=>xf (only x hx u)
  omega⟩
 obtain ⟨pa,ls,e2,l3,lsum⟩:=Zqm pc Tf f3
 obtain ⟨L,pL,eL⟩:=L3.Zmy (pm.trans pa) _ rfl
 have hL:=(Tf.lvs_is (by omega)).perm pL
 have lL:=Tf.few_ends hL
 rw [f3] at lL
 have l1:=pm.length_eq
 rw [e2,Jab,<- eL,Jab] at l1
 have p2:=pm.map Int.toNat
 have eid:(Int.toNat ∘ fun n:Nat=>(n:Int)) = id:=funext fun x=>Jaw x
 rw [e2,Jb6,eid,List.map_id] at p2
 have s2:=p2.sum_nat
 match L,eL,hL,lL,l1 with
 | [a,b,c],eL,hL,_,_=>
  refine ⟨d,a,b,c,Tf,hL,eL.symm,?_⟩
  rw [<- eL] at s2
  simp only [Jax,Jft,List.sum_cons,List.sum_nil,Jaw] at s2
  omega
 | [],_,_,_,l1=>simp at l1; omega
 | [_],_,_,_,l1=>simp at l1; omega
 | [_,_],_,_,_,l1=>simp at l1; omega
 | _ :: _ :: _ :: _ :: _,_,_,lL,_=>simp at lL
theorem Zp4 {m:Int} {ps:List (Int × Int)} {S:List Int} {r:Str × Int} (pc:Pc m ps S) (k:Zjl S (Zbk ps S) (some r)):L3.DPos S (Zbk ps S):=by
 rcases k with ⟨_,h⟩ | ⟨el,k⟩
 ·cases h
 rcases k with ⟨e0,_⟩ | ⟨f,rest,ef,k⟩
 ·obtain ⟨z,zS⟩:=Jd7 S pc.ne
  obtain ⟨d,d0,T,cE⟩:=pc.tree el zS
  have le:∀ x ∈ S,L3.deg (Zbk ps S) x<=2:=fun x hx=>Jag fun h=>by
   have:x ∈ S.filter fun x=>decide (2 < (Zar (Zbk ps S)).count x):=Jas.mpr ⟨hx,Ja2 (by rw [cE]; omega)⟩
   rw [e0] at this
   cases this
  have Tf:L3.Fk S (Zbk ps S) z d:=⟨T,d0,fun x hx xf=>by
   have h6:=T.deg_x hx xf
   have:=le x hx
   omega⟩
  exact Tf.posA Tf.ends_is (Jay (Tf.few_ends Tf.ends_is) (le z zS))
 ·rcases k with ⟨_,h⟩ | ⟨rfl,h3,ns,pm,so,hk⟩
  ·cases h
  obtain ⟨d,a,b,c,T,hL,e,hs⟩:=pc.three el ef h3 pm
  have:=pc.le8
  unfold kd at hk
  by_cases c1:ns.take 2 = [1,1]
  ·rw [e] at c1
   simp only [Jeb,Jf3,Jcq,and_true] at c1
   exact T.posD hL (by omega) (by omega)
  ·rw [if_neg c1] at hk
   by_cases c2:ns.take 2 = [1,2]
   ·rw [e] at c2
    simp only [Jeb,Jf3,Jcq,and_true] at c2
    exact T.posE hL (by omega) (by omega) (by omega)
   ·rw [if_neg fun z=>c2 z.1] at hk
    cases hk
theorem Zp5 {m:Int} {ps:List (Int × Int)} {S:List Int} (pc:Pc m ps S) (k:Zjl S (Zbk ps S) none):∃ X:Int->Int,(∀ p,p ∉ S->X p = 0)/\(∀ p ∈ S,0<=X p/\X p<=4/\(S.length<=6->X p<=2))/\(∃ p ∈ S,X p ≠ 0)/\L3.qf S (Zbk ps S) X<=0:=by
 rcases k with ⟨hl,_⟩ | ⟨el,k⟩
 ·obtain ⟨z,zS⟩:=Jd7 S pc.ne
  refine ⟨fun p=>if p ∈ S then 1 else 0,fun p hp=>if_neg hp,fun p hp=>by simp only [if_pos hp]; omega,⟨z,zS,by simp only [if_pos zS]; decide⟩,?_⟩
  have:=Zqg pc.cn pc.ins pc.nd pc.ne
  have e1:L3.sI (fun p=>(if p ∈ S then (1:Int) else 0) * (if p ∈ S then (1:Int) else 0)) S = 1 * (S.length:Nat):=by
   rw [<- L3.Zbs]
   exact L3.Zai fun p hp=>by rw [if_pos hp]; rfl
  have e2:L3.sI (fun e:Int × Int=>(if e.1 ∈ S then (1:Int) else 0) * (if e.2 ∈ S then (1:Int) else 0)) (Zbk ps S) = 1 * ((Zbk ps S).length:Nat):=by
   rw [<- L3.Zbs]
   exact L3.Zai fun e he=>by rw [if_pos (pc.ins e he).1,if_pos (pc.ins e he).2]; rfl
  unfold L3.qf
  rw [e1,e2]
  omega
 rcases k with ⟨_,h⟩ | ⟨f,rest,ef,k⟩
 ·cases h
 have mf:f ∈ S/\2 < (Zar (Zbk ps S)).count f:=by
  have:f ∈ S.filter fun x=>decide (2 < (Zar (Zbk ps S)).count x):=by rw [ef]; simp
  obtain ⟨h,h'⟩:=Jas.mp this
  exact ⟨h,Jav h'⟩
 rcases k with ⟨hh,_⟩ | ⟨rfl,h3,ns,pm,so,hk⟩
 ·obtain ⟨d,d0,T,cE⟩:=pc.tree el mf.1
  refine ⟨fun p=>if p ∈ S then (if (Zar (Zbk ps S)).count p = 1 then 1 else 2) else 0,fun p hp=>if_neg hp,fun p hp=>by simp only [if_pos hp]; split <;> omega,⟨f,mf.1,by simp only [if_pos mf.1]; rw [if_neg (by omega)]; decide⟩,?_⟩
  refine Zp0 pc.nd pc.ins el (fun p hp=>?_) ?_
  ·by_cases z:p = f
   ·rw [z]; omega
   ·rw [cE,T.deg_x hp z]; omega
  ·rcases hh with hr | h4
   ·obtain ⟨f',rest',rfl⟩:∃ f' rest',rest = f' :: rest':=by
     cases rest with
     | nil=>exact absurd rfl hr
     | cons y ys=>exact ⟨y,ys,rfl⟩
    have nF:(f :: f' :: rest').Nodup:=by rw [<- ef]; exact Jbc Ja6 pc.nd
    have mf':f' ∈ S.filter fun x=>decide (2 < (Zar (Zbk ps S)).count x):=by rw [ef]; simp
    obtain ⟨g1,g2⟩:=Jas.mp mf'
    exact .inr ⟨f,mf.1,f',g1,fun z=>(Jbo.mp nF).1 (by rw [z]; simp),mf.2,Jav g2⟩
   ·exact .inl ⟨f,mf.1,h4⟩
 ·obtain ⟨d,a,b,c,T,hL,e,hs⟩:=pc.three el ef h3 pm
  have:=pc.le8
  have ha:=(hL.2 a).mp (by simp)
  have pa:=T.pos ha.1 ha.2.1
  subst e
  have so1:=(Jep.mp so).1 ((d b:Nat):Int) (by simp)
  have so2:=(Jep.mp (Jep.mp so).2).1 ((d c:Nat):Int) (by simp)
  unfold kd at hk
  simp only [Jeb,Jf3,Jcq,and_true] at hk
  have n1:¬ (((d a:Nat):Int) = 1/\((d b:Nat):Int) = 1):=fun z=>by rw [if_pos z] at hk; cases hk
  rw [if_neg n1] at hk
  have n2:¬ (((d a:Nat):Int) = 1/\((d b:Nat):Int) = 2):=fun z=>by rw [if_pos ⟨z,by omega⟩] at hk; cases hk
  by_cases c1:d a = 1
  ·have e2:d b = 3:=by omega
   have e3:d c = 3:=by omega
   refine ⟨_,fun p hp=>if_neg hp,fun p hp=>?_,⟨a,ha.1,by simp only [if_pos ha.1,Jdu]; decide⟩,Int.le_of_eq (T.low7 hL c1 e2 e3)⟩
   have:=T.d_le hL (N:=3) hp fun z hz=>by
    simp only [Jam,List.not_mem_nil,or_false] at hz
    rcases hz with rfl | rfl | rfl <;> omega
   simp only [if_pos hp]
   split <;> omega
  ·have e1:d a = 2:=by omega
   have e2:d b = 2:=by omega
   refine ⟨_,fun p hp=>if_neg hp,fun p hp=>?_,⟨a,ha.1,by simp only [if_pos ha.1,e1]; decide⟩,Int.le_of_eq (T.low6 hL e1 e2 (by omega))⟩
   have:=T.d_le hL (N:=3) hp fun z hz=>by
    simp only [Jam,List.not_mem_nil,or_false] at hz
    rcases hz with rfl | rfl | rfl <;> omega
   simp only [if_pos hp]
   omega
def Zqo (n:Nat) (ps:List (Int × Int)):Prop:=∀ S ∈ Zc7 n (Zbi ps),∃ r,Zjl S (Zbk ps S) (some r)
def BadK (n:Nat) (ps:List (Int × Int)):Prop:=∃ S ∈ Zc7 n (Zbi ps),Zjl S (Zbk ps S) none
theorem Zn0 {n:Nat} {ps:List (Int × Int)} (hin:InP (n:Nat) ps):L3.Ins (Zav n) ps:=fun q hq=>by
 obtain ⟨a1,a2,a3,a4⟩:=hin q hq
 exact ⟨Zau.mpr ⟨a1,a2⟩,Zau.mpr ⟨a3,a4⟩⟩
theorem Zp7 {n:Nat} {ps:List (Int × Int)} (hin:InP (n:Nat) ps) (n8:n<=8) (g:Zqo n ps):L3.DPos (Zav n) ps:=fun X hX=>by
 have lb:=Zg9 hin
 have mR:∀ k,k ∈ (Zav n).filter (fun x=>decide (Zbi ps x = x)) ↔ (0<=k/\k < n)/\Zbi ps k = k:=fun k=>by rw [Jas,Zau,Jcf]
 have toR:∀ x:Int,0<=x->x < (n:Nat)->Zbi ps x ∈ (Zav n).filter fun x=>decide (Zbi ps x = x):=fun x h0 h1=>(mR _).mpr ⟨⟨lb.1.lo x h0 h1,lb.1.lt h0 h1⟩,lb.1.co _ lb.2 x h0 h1⟩
 have nR:((Zav n).filter fun x=>decide (Zbi ps x = x)).Nodup:=Jbc Ja6 (Zdn n)
 have e1:=L3.Zmg (g:=fun p=>X p * X p) (Zbi ps) (l:=Zav n) nR fun x hx=>by
  obtain ⟨h0,h1⟩:=Zau.mp hx
  exact toR x h0 h1
 have e2:=L3.Zmg (g:=fun e:Int × Int=>X e.1 * X e.2) (fun e=>Zbi ps e.1) (l:=ps) nR fun e he=>by
  obtain ⟨a1,a2,_⟩:=hin e he
  exact toR _ a1 a2
 have e3:L3.qf (Zav n) ps X = L3.sI (fun k=>L3.qf (Zeo n (Zbi ps) k) (Zbk ps (Zeo n (Zbi ps) k)) X) ((Zav n).filter fun x=>decide (Zbi ps x = x)):=by
  unfold L3.qf
  rw [e1,e2,<- L3.Zed]
  refine L3.Zai fun k hk=>?_
  have r1:(Zav n).filter (fun x=>decide (Zbi ps x = k)) = Zeo n (Zbi ps) k:=Zb1 n _ k
  have r2:ps.filter (fun e=>decide (Zbi ps e.1 = k)) = Zbk ps (Zeo n (Zbi ps) k):=Jew fun e he=>by
   obtain ⟨a1,a2,_⟩:=hin e he
   rw [decide_eq_decide,Zcs]
   exact ⟨fun h=>⟨⟨a1,a2⟩,h⟩,fun h=>h.2⟩
  rw [r1,r2]
 have inL:∀ k,k ∈ (Zav n).filter (fun x=>decide (Zbi ps x = x))->Zeo n (Zbi ps) k ∈ Zc7 n (Zbi ps):=fun k hk=>by
  rw [<- Zdj]
  unfold Zd4
  exact Jak.mpr ⟨k,hk,Zb1 n _ k⟩
 have pos:∀ k ∈ (Zav n).filter (fun x=>decide (Zbi ps x = x)),L3.DPos (Zeo n (Zbi ps) k) (Zbk ps (Zeo n (Zbi ps) k)):=fun k hk=>by
  obtain ⟨r,kp⟩:=g _ (inL k hk)
  exact Zp4 (Pc.of hin (by omega) (by omega) (by rw [Jaw]; exact inL k hk)) kp
 have nn:∀ k ∈ (Zav n).filter (fun x=>decide (Zbi ps x = x)),0<=L3.qf (Zeo n (Zbi ps) k) (Zbk ps (Zeo n (Zbi ps) k)) X:=fun k hk=>by
  by_cases z:∃ p ∈ Zeo n (Zbi ps) k,X p ≠ 0
  ·exact Int.le_of_lt (pos k hk X z)
  ·have z:∀ p ∈ Zeo n (Zbi ps) k,X p = 0:=fun p hp=>Jag fun u=>z ⟨p,hp,u⟩
   unfold L3.qf
   rw [L3.Zcj (fun p hp=>by rw [z p hp]; rfl),L3.Zcj (fun e he=>by rw [z _ (Jav (Jas.mp he).2)]; exact Jfz _)]
   decide
 obtain ⟨p,hp,hz⟩:=hX
 obtain ⟨h0,h1⟩:=Zau.mp hp
 have:=L3.Zdz (toR p h0 h1) nn
 have:=pos _ (toR p h0 h1) X ⟨p,Zcs.mpr ⟨⟨h0,h1⟩,rfl⟩,hz⟩
 rw [e3]
 omega
theorem bad_low {n:Nat} {ps:List (Int × Int)} (hin:InP (n:Nat) ps) (n8:n<=8) (g:BadK n ps):∃ X,L3.Low (Zav n) ps X/\∀ p ∈ Zav n,X p<=4/\(n<=6->X p<=2):=by
 obtain ⟨S,hS,kp⟩:=g
 have pc:=Pc.of hin (by omega) (by omega) (by rw [Jaw]; exact hS)
 obtain ⟨X,x0,x1,⟨p,hp,hz⟩,hq⟩:=Zp5 pc kp
 have inm:=pc.inm
 obtain ⟨k,ek,hk,rfl⟩:=Zef hS
 have le:(Zeo n (Zbi ps) k).length<=n:=by
  rw [<- Zb1]
  unfold Zk1 Zav
  refine Jay (Ja9 _ _) ?_
  simp
 refine ⟨X,⟨fun p _=>?_,⟨p,Zau.mpr (inm p hp),hz⟩,?_⟩,fun p _=>?_⟩
 ·by_cases h:p ∈ Zeo n (Zbi ps) k
  ·exact (x1 p h).1
  ·rw [x0 p h]; decide
 ·have e1:L3.sI (fun p=>X p * X p) (Zav n) = L3.sI (fun p=>X p * X p) (Zeo n (Zbi ps) k):=by
   rw [<- Zb1]
   refine L3.Zfj fun x hx h=>?_
   have:x ∉ Zeo n (Zbi ps) k:=fun z=>by
    have:=(Zcs.mp z).2
    simp [this] at h
   rw [x0 x this]
   rfl
  have e2:L3.sI (fun e:Int × Int=>X e.1 * X e.2) ps = L3.sI (fun e:Int × Int=>X e.1 * X e.2) (Zbk ps (Zeo n (Zbi ps) k)):=L3.Zfj fun e he h=>by
   have:e.1 ∉ Zeo n (Zbi ps) k:=fun z=>by simp [z] at h
   rw [x0 _ this]
   exact Jfz _
  unfold L3.qf at *
  rw [e1,e2]
  exact hq
 ·by_cases h:p ∈ Zeo n (Zbi ps) k
  ·exact ⟨(x1 p h).2.1,fun z=>(x1 p h).2.2 (by omega)⟩
  ·rw [x0 p h]; exact ⟨by decide,fun _=>by decide⟩
theorem DPos.nn {pts:List Int} {ps:List (Int × Int)} (h:L3.DPos pts ps):L3.PosN pts ps:=fun X _ hX=>h X hX
theorem Zpv {n:Nat} {ps:List (Int × Int)} (hin:InP (n:Nat) ps) (n8:n<=8) (g:BadK n ps) (h:L3.PosN (Zav n) ps):False:=by
 obtain ⟨X,⟨h0,h1,h2⟩,_⟩:=bad_low hin n8 g
 have:=h X h0 h1
 omega
theorem form_qf {n:Nat} {ps:List (Int × Int)} {a:List Int} (hl:a.length = n):Zn6 ps a a = L3.qf (Zav n) ps (atZ a):=by
 have e1:∀ k:Nat,dotZ a a k = L3.sI (fun p=>atZ a p * atZ a p) (Zav k):=fun k=>by
  induction k with
  | zero=>rfl
  | succ k ih=>
   show dotZ a a k + atZ a k * atZ a k = _
   unfold Zav at *
   rw [Jeq,Jbf,L3.Zee,<- ih]
   show _ = _ + (_ + 0)
   rw [Jef]
 have e2:∀ l:List (Int × Int),arrZ a a l = L3.sI (fun e:Int × Int=>atZ a e.1 * atZ a e.2) l:=fun l=>by
  induction l with
  | nil=>rfl
  | cons e l ih=>
   show arrZ a a l + atZ a e.1 * atZ a e.2 = _ + L3.sI _ l
   rw [ih,Int.add_comm]
 unfold Zn6 L3.qf Zig
 rw [hl,e1,e2,L3.Zen (Je0 ps)]
theorem sm_kd {H:Hp} {v:V} {k:Kd} (h:KdV H v k):(!decide (v = V.non)) = k.isSome:=by
 cases k with
 | none=>
  have h:v = .non:=h
  subst h
  rfl
 | some k=>
  obtain ⟨t,rfl,_⟩:=h
  rfl
theorem kds_all {H:Hp} {us:List V} {n:Nat} {ps:List (Int × Int)} (kf:KdsF H us (Zc7 n (Zbi ps)) ps):((us.map fun v=>!decide (v = V.non)).all id = true->Zqo n ps)/\((us.map fun v=>!decide (v = V.non)).all id = false->BadK n ps):=by
 obtain ⟨hl,h⟩:=kf
 constructor
 ·intro a S hS
  obtain ⟨i,hi,e⟩:=Jc3.mp hS
  have eS:(Zc7 n (Zbi ps))[i]? = some S:=by rw [Jac hi,e]
  have eu:us[i]? = some (us[i]'(by omega)):=Jac _
  obtain ⟨r,k1,k2⟩:=h i _ S eu eS
  have:=sm_kd k2
  rw [List.all_map,Jck] at a
  have a1:(!decide (us[i]'(by omega) = V.non)) = true:=a _ (Jcc (by omega))
  rw [a1] at this
  cases r with
  | none=>cases this
  | some r=>exact ⟨r,k1⟩
 ·intro a
  rw [List.all_map,List.all_eq_false] at a
  obtain ⟨v,hv,e⟩:=a
  obtain ⟨i,hi,rfl⟩:=Jc3.mp hv
  have eS:(Zc7 n (Zbi ps))[i]? = some ((Zc7 n (Zbi ps))[i]'(by omega)):=Jac _
  obtain ⟨r,k1,k2⟩:=h i _ _ (Jac hi) eS
  have:=sm_kd k2
  have e:¬ (!decide (us[i] = V.non)) = true:=e
  rw [this] at e
  cases r with
  | none=>exact ⟨_,Jan eS,k1⟩
  | some r=>exact absurd rfl e
theorem Zmj (n:Nat) (f:Int->Int):(Zc7 n f).length<=n:=by
 rw [<- Zdj]
 unfold Zd4 Zav
 rw [Jab]
 refine Jay (Ja9 _ _) ?_
 simp
def Zl5 (C:Addr):Sp:=fun vs H Q _=>∃ (x:Addr) (n:Nat) (ps:List (Int × Int)),vs = [.ref x]/\Drw C H x (n:Nat) ps/\InP (n:Nat) ps/\1<=n/\n<=8 /\
 (Zqo n ps->∀ H',Same H H'->Q (.bl true) H')/\(BadK n ps->∀ H',Same H H'->Q (.bl false) H')
theorem ok_good {f:Addr} {fd:FuncData} (F:Fun K "is_good" "is_good" Zcz f fd) (T:Txt K mg C) (C_Drawing_kinds:CalM P w K mg base C "kinds" 4 (Ziq C)):FnOk P w K mg base CX0 5 f fd ["drawing"] (Zl5 C):=by
 have nd:=Zga.nd
 refine F.ok Zga (fun vs H Q E h=>?_) (fun cdv A outer s H vs Q E hr h=>?_)
 ·obtain ⟨x,n,ps,rfl,_⟩:=h
  rfl
 ·obtain ⟨x,n,ps,rfl,dw,hin,n0,n8,q1,q2⟩:=h
  refine ⟨_,(~~~(Zb2 (Zhi rfl) rfl T.n_all boot_all ((Zbj (own:=["kind"]) (fr:=[]) rfl (Zcp (by kernel_rfl)) (Zaz (Zmz T.cl_Drawing C_Drawing_kinds hr.m (pv 0))) (fun _ _ _ _=>⟨(@Zag _ _ 0 _ (show (["kind"]:List Str).Nodup by decide +kernel) rfl (Or.inl rfl) (Or.inr rfl)),Zbn,(Ziv op_notN (pv 0) Zj5 (Zat _))⟩))<&>Zab))),?_⟩
  obtain ⟨lp,xs,⟨dx,hx,hlp⟩,hl9,hps⟩:=id dw
  walk_at "wp"
  refine ⟨_,rfl,x,dx,_,rfl,hx,Zn7 (n:Nat) lp (by decide) (by decide),x,(n:Nat),ps,rfl,dw,hin,by omega,by omega,fun p us H1 s1 fp hp1 kf=>?_⟩
  rw [Jaw] at kf
  have ul:=kf.1
  have lr:=Zmj n (Zbi ps)
  refine ⟨p,rfl,⟨_,SqL.of hp1⟩,fun D hD=>Zb9 (xs:=us) (fun i vs H=>Same H1 H/\H D = some (.lst vs)/\vs = ((us.take i).map fun v=>!decide (v = V.non)).map V.bl) ⟨Same.new hD,Zaa,rfl⟩ (fun i vs H _ k=>SqL.of (k.1 _ _ hp1)) ?_ ?_⟩
  ·rintro i x' vs σ' H' hi hx' sh ⟨s',e',rfl⟩
   obtain ⟨z,rfl⟩:=sh.one
   simp only [Zdv,Zbe,Zhp,Ja0,Jdu]
   refine ⟨_,rfl,rfl,leaf (ws:=((us.take (i + 1)).map fun v=>!decide (v = V.non)).map V.bl) hi Sh.mk1 e' (Zah (by rw [Jab,Jab,Ja1]; omega)) ⟨s'.upd hD,?_,rfl⟩⟩
   rw [Zaa,Jbn,hx',Jbf,Jbf]
   rfl
  ·rintro vs H4 ⟨s4,e4,rfl⟩
   rw [Jbu] at e4
   obtain ⟨g1,g2⟩:=kds_all kf
   refine ⟨D,rfl,_,SqL.of e4,?_⟩
   cases hb:(us.map fun v=>!decide (v = V.non)).all id with
   | true=>exact q1 (g1 hb) _ (s1.trans s4)
   | false=>exact q2 (g2 hb) _ (s1.trans s4)
def spMir (C:Addr):Sp:=fun vs H Q _=>∃ (p r:Addr) (m k:Int) (ps:List (Int × Int)) (ns:List Int),vs = [.ref p,.int k,.ref r]/\Drw C H p m ps/\InP m ps/\H r = some (.lst (ns.map V.int))/\ns.length = m.toNat/\0<=k/\k < m/\m<=8 /\
 ∀ (t:Addr) (H':Hp),Same H H'->H t = none->H' t = some (.lst ((Zh2 k ns ps).map V.int))->Q (.ref t) H'
theorem Zd3 (ns:List Int) (k:Nat) (v:Int):(ns.map V.int).set k (.int v) = (ns.set k v).map V.int:=(List.map_set).symm
theorem Zkg {n:Nat} {k:Int} (h0:0<=k) (h1:k.toNat < n):ixN n k = some k.toNat:=by
 unfold ixN
 simp [h0]
 omega
theorem ok_mir {f:Addr} {fd:FuncData} (F:Fun K "mirrored" "mirrored" Zcb f fd) (T:Txt K mg C):FnOk P w K mg base CX0 1 f fd ["drawing","point","row"] (spMir C):=by
 have nd:=Zfc.nd
 refine F.ok Zfc (fun vs H Q E h=>?_) (fun cdv A outer s H vs Q E hr h=>?_)
 ·obtain ⟨p,r,m,k,ps,ns,rfl,_⟩:=h
  rfl
 ·obtain ⟨p,r,m,k,ps,ns,rfl,⟨lp,xs,⟨dx,hp,hlp⟩,hl,hps⟩,hin,hr1,hln,k0,k1,m8,q⟩:=h
  have hlen:=hps.1
  refine ⟨_,((Zao (i:=3) nd rfl (Or.inl rfl) (Zd7 Zb3 rfl T.n_list Je3 ((pv 2)<&>Zab)))<*>((Zeg (pe_un un_neg (Zaw<|>(pv 2)<||>(pv 1))) (Zhv (pv 3) (pv 1) Zc6))<*>((Zb7 Jbp rfl (Zaz (Zhw (pv 0) rfl)) (@Zgd _ _ _ _ _ 2 rfl (@Zbf _ _ _ _ _ (@Zag _ _ 4 _ nd rfl (Or.inl rfl) (Or.inl rfl)) (@Zbf _ _ _ _ _ (@Zag _ _ 5 _ nd rfl (Or.inl rfl) (Or.inl rfl)) (@Zd6 _) (by rfl)) (by rfl)) (by rfl) (by rfl)) (@Zal _ _ _ (@Zbl _ _ _ _ _ _ _ _ (Zaj Zdw (pv 4) (pv 1) (Zat _)) (@Zal _ _ _ (Zmq (pv 3) (pv 1) Zki (Zaw<|>(pv 2)<||>(pv 5)) Zrf Zc6)) (@Zal _ _ _ (@Zbl _ _ _ _ _ _ _ _ (Zaj Zdw (pv 5) (pv 1) (Zat _)) (@Zal _ _ _ (Zmq (pv 3) (pv 1) Zki (Zaw<|>(pv 2)<||>(pv 4)) Zrf Zc6)) Zas)))))<*>(~~~(pv 3))))),?_⟩
  walk_at "wp"
  have hk:k.toNat < ns.length:=by omega
  refine ⟨_,.inl (SqL.of hr1),fun l hl0=>⟨_,SqL.of (Same.new hl0 _ _ hr1),_,Zbw k0 (Zcq hk),_,rfl,_,Zaa,_,Zkg k0 (by rw [Jab]; exact hk),?_⟩⟩
  rw [Zd3]
  have s0:Same H (upd (upd H l (.lst (ns.map V.int))) l (.lst ((ns.set k.toNat (-atZ ns k)).map V.int))):=(Same.new hl0).upd hl0
  refine ⟨_,rfl,p,C,dx,_,_,rfl,s0 _ _ hp,T.cl_Drawing,T.nA,Zfw _ _,lp,rfl,⟨_,SqL.of (s0 _ _ hlp)⟩,Zdb (xs:=xs) (fun i σ H2=>∃ (v4 v5:Option V),σ = [some (.ref p),some (.int k),some (.ref r),some (.ref l),v4,v5]/\Same H H2 /\
   H2 l = some (.lst ((ns.set k.toNat (Zk7 ns k (ps.take i) - atZ ns k)).map V.int))) ⟨none,none,rfl,s0,?_⟩ (fun i σ H2 _ ⟨_,_,_,s2,_⟩=>SqL.of (s2 _ _ hlp)) ?_ ?_⟩
  ·rw [Zaa]
   simp [Zk7,mirS]
  ·rintro i x σ H2 hi ⟨v4,v5,rfl,s2,hl2⟩
   have hi1:i < xs.length:=(Jap.mp hi).1
   have hq:ps[i]? = some (ps[i]'(by omega)):=Jac _
   obtain ⟨t,rfl,ht⟩:=hps.2 i x _ hi hq
   obtain ⟨p0,p1,p2,p3⟩:=hin _ (Jan hq)
   refine ⟨t,_,rfl,SqT.of (s2 _ _ ht),rfl,_,_,rfl,_,_,rfl,rfl,?_⟩
   walk_at "wp"
   have t0:(ps[i]'(by omega)).1.toNat < ns.length:=by omega
   have t1:(ps[i]'(by omega)).2.toNat < ns.length:=by omega
   have e1:ps.take (i + 1) = ps.take i ++ [ps[i]'(by omega)]:=by rw [Jbn,hq]; rfl
   have hk2:k.toNat < (ns.set k.toNat (Zk7 ns k (ps.take i) - atZ ns k)).length:=by rw [Jdi]; exact hk
   rw [e1,Znh]
   generalize (ps[i]'(by omega)) = pq at *
   refine Zd1 (fun hc=>?_) (fun hc=>Zd1 (fun hc2=>?_) (fun hc2=>?_))
   ·have hc:=Jav hc
    refine ⟨k0,_,SqL.of hl2,_,Zcq hk2,_,SqL.of (s2 _ _ hr1),_,Zbw p2 (Zcq t1),_,rfl,_,rfl,_,hl2,_,Zkg k0 (by rw [Jab]; exact hk2),_,_,⟨rfl,rfl⟩,s2.upd hl0,?_⟩
    rw [Zaa,Zd3,List.set_set,Zf0 hk k0 k0,if_pos rfl,if_pos hc,(show Zk7 ns k (ps.take i) - atZ ns k + atZ ns pq.2 = Zk7 ns k (ps.take i) + atZ ns pq.2 - atZ ns k by omega)]
   ·have hc:¬ pq.1 = k:=fun z=>hc (Ja2 z)
    have hc2:=Jav hc2
    refine ⟨k0,_,SqL.of hl2,_,Zcq hk2,_,SqL.of (s2 _ _ hr1),_,Zbw p0 (Zcq t0),_,rfl,_,rfl,_,hl2,_,Zkg k0 (by rw [Jab]; exact hk2),_,_,⟨rfl,rfl⟩,s2.upd hl0,?_⟩
    rw [Zaa,Zd3,List.set_set,Zf0 hk k0 k0,if_pos rfl,if_neg hc,if_pos hc2,(show Zk7 ns k (ps.take i) - atZ ns k + atZ ns pq.1 = Zk7 ns k (ps.take i) + atZ ns pq.1 - atZ ns k by omega)]
   ·have hc:¬ pq.1 = k:=fun z=>hc (Ja2 z)
    have hc2:¬ pq.2 = k:=fun z=>hc2 (Ja2 z)
    refine ⟨_,_,⟨rfl,rfl⟩,s2,?_⟩
    rw [hl2,if_neg hc,if_neg hc2,Jef]
  ·rintro σ H2 ⟨v4,v5,rfl,s2,hl2⟩
   rw [hlen,Jbu] at hl2
   exact ⟨_,rfl,q l H2 s2 hl0 hl2⟩
theorem mk_draw {H:Hp} {x dx a:Addr} {ys:List V} {B:List (Int × Int)} {n:Nat} {Q:VK} {E:XK} (hx:H x = none) (hdx:H dx = none) (ndx:dx ≠ x) (ha:H a = some (.lst ys)) (l9:ys.length<=9) (pr:Prs H ys B) (iB:InP (n:Nat) B) (n0:1<=n) (n8:n<=8)
  (h:∀ H',Same H H'->Drw C H' x (n:Nat) B->Q .non H'):Zjs C [.ref x,.int (n:Nat),.ref a] (upd (upd H dx (.own x)) x (.ins C dx [])) Q E:=by
 have fx1:(upd H dx (.own x)) x = none:=by rw [Zaf ndx.symm]; exact hx
 have s1:Same H (upd (upd H dx (.own x)) x (.ins C dx [])):=(Same.new hdx).trans (Same.new fx1)
 refine ⟨x,dx,_,a,ys,rfl,Zaa,by omega,by omega,s1 _ _ ha,l9,Zqa (pr.same s1) iB,fun lp H8 ex8 hx8 flp hlp8=>?_⟩
 have s8:Same H H8:=Same.thru s1 hx ex8
 exact h H8 s8 ⟨lp,ys,⟨dx,hx8,hlp8⟩,l9,pr.same s8⟩
end
end Pf
namespace Pf
open PySem L2 PyProof.Rows
section
variable {P:Program} {w:World} {K:PySem.W.Frag} {mg:Str->Option Value} {base:Heap} {C PL cL:Addr}
theorem at_int {ns:List Int} {i:Int} (h0:0<=i) (h1:i < ns.length):atI (ns.map V.int) i = some (.int (ns.getD i.toNat 0)):=by
 refine Zbw h0 ?_
 rw [Jbe,Jbl,Jac (show i.toNat < ns.length by omega)]
 rfl
def Zgr:Sp:=fun vs H Q _=>∃ (z:Addr) (ns:List Int) (k:Int),vs = [.ref z,.int k]/\H z = some (.lst (ns.map V.int))/\ns.length<=8/\0<=k/\k < ns.length/\∀ (z':Addr) (H':Hp),Same H H'->H z' = none->H' z' = some (.lst ((ns.set k.toNat (ns.getD k.toNat 0 + 1)).map V.int))->Q (.ref z') H'
theorem Zm7 {f:Addr} {fd:FuncData} (F:Fun K "raised" "raised" Zdt f fd) (T:Txt K mg C):FnOk P w K mg base CX0 1 f fd ["row","point"] Zgr:=by
 have nd:=Zht.nd
 refine F.ok Zht (fun vs H Q E h=>?_) (fun cdv A outer s H vs Q E hr h=>?_)
 ·obtain ⟨z,ns,k,rfl,_⟩:=h
  rfl
 ·obtain ⟨z,ns,k,rfl,hz,h8,k0,k1,q⟩:=h
  refine ⟨_,(~~~(Zfr<|>(Zfr<|>(@Zb8 _ _ _ _ _ _ _ _ _ _ Zc5 (pv 0) Zc9 (@Zc8 _ _ _ (pv 1)))<&&>(@Zbo _ _ _ _ ((Za5<|>(Zaw<|>(pv 0)<||>(pv 1))<&&>Zac)<&>Zab)))<&&>(@Zb8 _ _ _ _ _ _ _ _ _ _ Zc5 (pv 0) (@Zc8 _ _ _ (Za5<|>(pv 1)<&&>Zac)) Zc9))),?_⟩
  walk_at "wp"
  have hat:atI (ns.map V.int) k = some (.int (ns.getD k.toNat 0)):=at_int k0 k1
  have c1:=Zoe (ns.map V.int) k k0 (by rw [Jab]; omega)
  have c2:=Zof (ns.map V.int) (k + 1) (by omega) (by rw [Jab]; omega)
  refine ⟨_,SqL.of hz,fun p1 h1=>?_⟩
  rw [c1] at *
  have s1:=Same.new (o:=.lst ((ns.map V.int).take k.toNat)) h1
  refine ⟨_,SqL.of (s1 _ _ hz),_,hat,_,rfl,by decide,fun p2 h2=>?_⟩
  have s2:=Same.new (o:=.lst [V.int (ns.getD k.toNat 0 + 1)]) h2
  refine ⟨_,s2 _ _ Zaa,_,Zaa,Jbs (Zah (by rw [Ja1,Jab]; show _ + 1<=1000; omega)),fun p3 h3=>?_⟩
  have s3:=Same.new (o:=.lst ((ns.map V.int).take k.toNat ++ [V.int (ns.getD k.toNat 0 + 1)])) h3
  refine ⟨_,SqL.of (s3 _ _ (s2 _ _ (s1 _ _ hz))),fun p4 h4=>?_⟩
  rw [c2] at *
  have s4:=Same.new (o:=.lst ((ns.map V.int).drop (k + 1).toNat)) h4
  refine ⟨_,s4 _ _ Zaa,_,Zaa,Jbs (Zah (by rw [Jaj,Ja1,Jcv,Jab]; show _ + 1 + _<=1000; omega)),fun p5 h5=>?_⟩
  have s5:=Same.new (o:=.lst ((ns.map V.int).take k.toNat ++ [V.int (ns.getD k.toNat 0 + 1)] ++ (ns.map V.int).drop (k + 1).toNat)) h5
  have sA:=(((s1.trans s2).trans s3).trans s4).trans s5
  refine q p5 _ sA ((((s1.trans s2).trans s3).trans s4).free h5) ?_
  rw [Zaa,List.set_eq_take_append_cons_drop,if_pos (by omega),Jbf,Jax,Jgb,List.map_drop,Jba,show (k + 1).toNat = k.toNat + 1 by omega]
  rfl
theorem up_rs {n:Nat} {a:List Int} {i:Nat} (hl:a.length = n) (hi:i < n):∀ p ∈ Zav n,atZ (a.set i (a.getD i 0 + 1)) p = L3.rs (atZ a) (i:Nat) p:=fun p hp=>by
 obtain ⟨h0,h1⟩:=Zau.mp hp
 have:=Zf0 (ns:=a) (k:=(i:Nat)) (i:=p) (v:=a.getD i 0 + 1) (by rw [Jaw]; omega) (by omega) h0
 rw [Jaw] at this
 rw [this]
 unfold L3.rs atZ
 rw [Jaw]
theorem Zo5 {n:Nat} {f g:Int->Int} {r:Int} (hr:r ∈ Zav n) (h:∀ p ∈ Zav n,f p = g p):∀ p ∈ Zav n,L3.rs f r p = L3.rs g r p:=fun p hp=>by
 unfold L3.rs
 rw [h r hr,h p hp]
theorem Zdm (n:Nat):(Zav n).length = n:=by unfold Zav; simp
end
end Pf
namespace Pf
open PySem L2 PyProof.Rows
structure Cs where
 LimbError:Addr
 NoDrawing:Addr
 NoKind:Addr
structure Xt (K:PySem.W.Frag) (mg:Str->Option Value) (base:Heap) (cc:Cs):Prop where
 g_LimbError:mg "LimbError" = some (.ref cc.LimbError)
 g_NoDrawing:mg "NoDrawing" = some (.ref cc.NoDrawing)
 g_NoKind:mg "NoKind" = some (.ref cc.NoKind)
 o_LimbError:OwnCls "LimbError" cc.LimbError bmV newV mg base
 o_NoKind:OwnCls "NoKind" cc.NoKind bmV newV mg base
 u_NoKind:∃ C' nm q N bs bm hdct sn sub ab col dd k0 k1 k2 k3 k5 new,Value.ref cc.NoKind = .ref C'/\base.get? C' = some (excClassObj nm q C' N bs bm hdct sn sub ab col dd k0 k1 k2 k3 k5 new)/\bm.contains (.ref cc.LimbError) = true
 z:ExcCls K cc.NoKind
 i:(PySem.W.clsIn K cc.NoKind).isSome = true
 v:PySem.W.kitOne K (.ref cc.NoKind) (.type "ValueError") = some true
section
variable {P:Program} {w:World} {K:PySem.W.Frag} {mg:Str->Option Value} {base:Heap} {C:Addr} {cc:Cs}
structure RtR (n:Nat) (ps:List (Int × Int)) (a:List Int):Prop where
 len:a.length = n
 rt:L3.Rt (Zav n) ps (atZ a)
def Zhm (a:List Int):Int:=preSum (fun i=>a.getD i 0) a.length
theorem Zq2 (a:List Int):∀ n:Nat,preSum (fun i=>a.getD i 0) n = L3.sI (atZ a) (Zav n)
 | 0=>rfl
 | n + 1=>by
  have e:Zav (n + 1) = Zav n ++ [((n:Nat):Int)]:=by unfold Zav; rw [Jeq,Jbf]; rfl
  rw [e,L3.Zee,<- Zq2 a n]
  show preSum _ n + _ = _
  congr 1
  show _ = atZ a (n:Nat) + 0
  rw [Jef]; rfl
theorem Zjq {n:Nat} {a:List Int} (hl:a.length = n):Zhm a = L3.sI (atZ a) (Zav n):=by
 unfold Zhm; rw [hl]; exact Zq2 a n
theorem Ziu {n:Nat} {a b:List Int} (ha:a.length = n) (hb:b.length = n) (h:∀ p ∈ Zav n,atZ a p = atZ b p):a = b:=by
 refine List.ext_getElem (by rw [ha,hb]) fun i h1 h2=>?_
 have:=h (i:Nat) (Zau.mpr ⟨by omega,by omega⟩)
 unfold atZ at this
 rw [Jaw,Jbl,Jbl,Jac h1,Jac h2] at this
 exact this
theorem Zos {n:Nat} {x:Int->Int}:∀ p ∈ Zav n,atZ ((Zav n).map x) p = x p:=by
 intro p hp
 obtain ⟨p0,p1⟩:=Zau.mp hp
 unfold atZ Zav
 rw [Jb6,Jbl,Jbe,Jac (by rw [Jcx]; omega),List.getElem_range]
 show x ((p.toNat:Nat):Int) = x p
 rw [Jdm p0]
theorem map_atZ {n:Nat} {a:List Int} (ha:a.length = n):(Zav n).map (atZ a) = a:=
 Ziu (by rw [Jab,Zdm]) ha Zos
theorem Zpx {pts:List Int} {ps:List (Int × Int)} {x y:Int->Int} {p:Int} (ins:L3.Ins pts ps) (h:∀ r ∈ pts,x r = y r):L3.nb ps x p = L3.nb ps y p:=by
 unfold L3.nb
 exact L3.Zai fun e he=>by rw [h _ (ins e he).1,h _ (ins e he).2]
theorem Zpy {pts:List Int} {ps:List (Int × Int)} {x y:Int->Int} {p:Int} (ins:L3.Ins pts ps) (hp:p ∈ pts) (h:∀ r ∈ pts,x r = y r):∀ r ∈ pts,L3.mr ps x p r = L3.mr ps y p r:=by
 intro r hr
 unfold L3.mr
 rw [Zpx ins h,h p hp,h r hr]
theorem Zgz {pts:List Int} {ps:List (Int × Int)} {x y:Int->Int} (ins:L3.Ins pts ps) (h:∀ r ∈ pts,x r = y r) (R:L3.Rt pts ps x):L3.Rt pts ps y:=
 ⟨fun p hp=>by rw [<- h p hp]; exact R.nn p hp,by rw [<- L3.Zg0 ins h]; exact R.one⟩
theorem Zni (ns:List Int) (k:Int):∀ ps:List (Int × Int),(∀ q ∈ ps,¬ (q.1 = k/\q.2 = k))->mirS ns k ps = L3.nb ps (atZ ns) k
 | [],_=>rfl
 | q :: ps,h=>by
  show mirS ns k ps + _ = ((if q.1 = k then atZ ns q.2 else 0) + (if q.2 = k then atZ ns q.1 else 0)) + L3.nb ps (atZ ns) k
  rw [Zni ns k ps fun r hr=>h r (Jbj _ hr)]
  have:=h q (Jc2 ..)
  by_cases h1:q.1 = k
  ·have h2:¬ q.2 = k:=fun z=>this ⟨h1,z⟩
   rw [if_pos h1,if_pos h1,if_neg h2]; omega
  ·rw [if_neg h1,if_neg h1]; omega
theorem no_loop {n:Nat} {ps:List (Int × Int)} (d:L3.DPos (Zav n) ps) {k:Int} (hk:k ∈ Zav n):∀ q ∈ ps,¬ (q.1 = k/\q.2 = k):=fun q hq z=>by
 have l0:=L3.Ze8 d (Zdn n) hk
 have:(if q.1 = k/\q.2 = k then (1:Int) else 0)<=_:=L3.Zdz (g:=fun e:Int × Int=>if e.1 = k/\e.2 = k then (1:Int) else 0) hq fun e _=>by split <;> omega
 rw [if_pos z] at this
 have l1:L3.sI (fun e:Int × Int=>if e.1 = k/\e.2 = k then (1:Int) else 0) ps = 0:=l0
 rw [l1] at this
 exact absurd this (by decide)
theorem Zq9 {n:Nat} {ps:List (Int × Int)} (d:L3.DPos (Zav n) ps) {k:Int} {a:List Int} (hl:a.length = n) (hk:k ∈ Zav n):∀ p ∈ Zav n,atZ (Zh2 k a ps) p = L3.mr ps (atZ a) k p:=by
 intro p hp
 obtain ⟨k0,k1⟩:=Zau.mp hk
 obtain ⟨p0,p1⟩:=Zau.mp hp
 unfold Zh2 L3.mr
 rw [Zf0 (by omega) k0 p0]
 have e:Zk7 a k ps = L3.nb ps (atZ a) k:=by
  unfold Zk7
  rw [Zni a k _ fun q hq=>no_loop d hk q (List.mem_reverse.mp hq)]
  exact L3.Zen (Je0 _)
 rw [e]
theorem Zi0 {k:Int} {a:List Int} {ps:List (Int × Int)}:(Zh2 k a ps).length = a.length:=by unfold Zh2; rw [Jdi]
theorem RtR.up {n:Nat} {ps:List (Int × Int)} {a:List Int} {k:Int} (d:L3.DPos (Zav n) ps) (ins:L3.Ins (Zav n) ps) (R:RtR n ps a) (hk:k ∈ Zav n) (h:Zhm a < Zhm (Zh2 k a ps)):RtR n ps (Zh2 k a ps):=by
 have m:=Zq9 d R.len hk
 have hl:(Zh2 k a ps).length = n:=Zi0.trans R.len
 rw [Zjq R.len,Zjq hl,L3.Zai m] at h
 exact ⟨hl,Zgz ins (fun p hp=>(m p hp).symm) (R.rt.up d (Zdn n) hk h).1⟩
def Zf3 (n:Nat) (k:Int):List Int:=(List.replicate n 0).set k.toNat ((List.replicate n (0:Int)).getD k.toNat 0 + 1)
theorem Zlr {n:Nat} {k:Int} (hk:k ∈ Zav n):∀ p ∈ Zav n,atZ (Zf3 n k) p = L3.rs L3.z0 k p:=by
 intro p hp
 obtain ⟨k0,k1⟩:=Zau.mp hk
 have:=up_rs (n:=n) (a:=List.replicate n 0) (i:=k.toNat) (by rw [Jb1]) (by omega) p hp
 unfold Zf3
 rw [this,Jdm k0]
 refine Zo5 hk (fun p _=>?_) p hp
 unfold atZ L3.z0
 rw [Jbl,Jek]
 split <;> rfl
theorem Zjo {n:Nat} {k:Int}:(Zf3 n k).length = n:=by unfold Zf3; rw [Jdi,Jb1]
theorem RtR.unit {n:Nat} {ps:List (Int × Int)} {k:Int} (d:L3.DPos (Zav n) ps) (ins:L3.Ins (Zav n) ps) (hk:k ∈ Zav n):RtR n ps (Zf3 n k):=
 ⟨Zjo,Zgz ins (fun p hp=>(Zlr hk p hp).symm) (L3.Rt.unit d (Zdn n) hk)⟩
theorem RtR.count {n:Nat} {ps:List (Int × Int)} (d:L3.DPos (Zav n) ps) (ins:L3.Ins (Zav n) ps) (n8:n<=8) {L:List (List Int)} (nL:L.Nodup) (h:∀ l ∈ L,RtR n ps l):L.length<=256:=by
 have:=L3.Zjv d ins nL fun l hl=>⟨atZ l,(h l hl).rt,(map_atZ (h l hl).len).symm⟩
 rw [Zdm] at this
 exact Jay this (Jfa (by decide) n8)
theorem RtR.all {n:Nat} {ps:List (Int × Int)} (d:L3.DPos (Zav n) ps) (ins:L3.Ins (Zav n) ps) {S:List Int->Prop} (h1:∀ k ∈ Zav n,S (Zf3 n k)) (h2:∀ a k,RtR n ps a->S a->k ∈ Zav n->Zhm a < Zhm (Zh2 k a ps)->S (Zh2 k a ps)) {a:List Int} (R:RtR n ps a):S a:=by
 have:=L3.Zqv d (Zdn n) ins (C:=fun x=>∀ b:List Int,b.length = n->(∀ p ∈ Zav n,atZ b p = x p)->S b) (fun x y hx e b hb eb=>hx b hb fun p hp=>(eb p hp).trans (e p hp).symm)
  (fun k hk b hb eb=>by rw [Ziu hb Zjo fun p hp=>(eb p hp).trans (Zlr hk p hp).symm]; exact h1 k hk) (fun x k rx cx hk hs b hb eb=>?_) (L3.sI (atZ a) (Zav n)).toNat R.rt (Int.le_of_eq (Jdm (L3.Zme R.rt.nn)).symm)
 ·exact this a R.len fun _ _=>rfl
 ·have hl:((Zav n).map x).length = n:=by rw [Jab,Zdm]
  have hx:∀ p ∈ Zav n,atZ ((Zav n).map x) p = x p:=Zos
  have m:=Zq9 d (k:=k) hl hk
  have mc:=Zpy (p:=k) ins hk hx
  have em:b = Zh2 k ((Zav n).map x) ps:=Ziu hb (Zi0.trans hl) fun p hp=>by rw [eb p hp,m p hp,mc p hp]
  rw [em]
  refine h2 _ k ⟨hl,Zgz ins (fun p hp=>(hx p hp).symm) rx⟩ (cx _ hl hx) hk ?_
  rw [Zjq hl,Zjq (Zi0.trans hl),L3.Zai hx,L3.Zai m,L3.Zai mc]
  exact hs
theorem cutE {tb:TS} {D:Ends} {σ:L2.St} {H:Hp} (h:∀ D':Ends,D' = D->tb D' σ H):tb D σ H:=h D rfl
theorem Zqh {a D:Addr} {xs:List V} {fr:List (Str × Nat)} {σ:L2.St} {tt:TT} {H1:Hp} {Q:VK} (g:V->Bool) (ha:H1 a = some (.lst xs)) (hD:H1 D = none) (hn:xs.length<=900)
  (h:∀ x H (Q:Bool->Hp->Prop),x ∈ xs->Same H1 H->Q (g x) H->tt (some x :: Zcr fr σ) H Q)
  (hQ:∀ H',Same H1 H'->H' D = some (.lst (xs.filter g))->Q (.ref D) H'):Zci (Zbe 0) tt (Zjp 0) (Itl K a) D (Ze3 1 fr σ) H1 Q:=by
 refine Zb9 (xs:=xs) (fun i vs H=>Same H1 H/\H D = some (.lst vs)/\vs = (xs.take i).filter g) ⟨Same.new hD,Zaa,rfl⟩ (fun i vs H _ p=>SqL.of (p.1 _ _ ha)) ?_ (fun vs H ⟨s,e,hv⟩=>hQ H s (by rw [e,hv,Jbu]))
 rintro i x vs σ' H hi hx sh ⟨s,e,hv⟩
 obtain ⟨z,rfl⟩:=sh.one
 have et:xs.take (i + 1) = xs.take i ++ [x]:=by rw [Jbn,hx]; rfl
 have hl:=Ja9 g (xs.take i)
 rw [Ja1] at hl
 simp only [Zdv,Zbe,Ja0]
 refine h x H _ (Jan hx) s (Zd1 (fun hg=>?_) (fun hg=>?_))
 ·refine ⟨_,rfl,leaf (ws:=vs ++ [x]) hi Sh.mk1 e (Zah (by rw [hv]; omega)) ⟨s.upd hD,Zaa,?_⟩⟩
  rw [et,Jcu,hv]
  simp [hg]
 ·refine Zp2 (ws:=vs) hi Sh.mk1 ⟨s,e,?_⟩
  rw [et,Jcu,hv]
  simp [hg]
theorem comp_ls {a D:Addr} {zs:List (List Int × Addr)} {fr:List (Str × Nat)} {σ:L2.St} {te:TE} {H1:Hp} {Q:VK} (ha:H1 a = some (.lst (zs.map (V.ref ·.2)))) (hD:H1 D = none) (hn:zs.length<=900)
  (he:∀ z H (Q:VK),z ∈ zs->Same H1 H->(∀ t H',H t = none->Same H H'->H' t = some (.lst (z.1.map V.int))->Q (.ref t) H')->te (some (.ref z.2) :: Zcr fr σ) H Q)
  (hQ:∀ qs H',Same H1 H'->H' D = some (.lst qs)->RowsF D H1 H' qs (zs.map (·.1))->Q (.ref D) H'):Zci (Zbe 0) Zhp te (Itl K a) D (Ze3 1 fr σ) H1 Q:=by
 refine Zb9 (xs:=zs.map (V.ref ·.2)) (fun i vs H=>Same H1 H/\H D = some (.lst vs)/\RowsF D H1 H vs ((zs.take i).map (·.1))) ⟨Same.new hD,Zaa,RowsF.nil⟩ (fun i vs H _ p=>SqL.of (p.1 _ _ ha)) ?_ (fun vs H ⟨s,e,hv⟩=>hQ vs H s e (by rw [Jab,Jbu] at hv; exact hv))
 rintro i x vs σ' H hi hx sh ⟨s,e,hv⟩
 obtain ⟨z0,rfl⟩:=sh.one
 rw [Jbe] at hx
 obtain ⟨z,ez,rfl⟩:=Option.map_eq_some_iff.mp hx
 have et:zs.take (i + 1) = zs.take i ++ [z]:=by rw [Jbn,ez]; rfl
 have hv1:=hv.1
 rw [Jab,Ja1] at hv1
 simp only [Zdv,Zbe,Zhp,Ja0,Jdu]
 refine he z H _ (Jan ez) s fun t H' ft s' ht=>?_
 have nt:t ≠ D:=(Zad e ft).symm
 refine leaf (ws:=vs ++ [.ref t]) hi Sh.mk1 (s' _ _ e) (Zah (by omega)) ⟨(s.trans s').upd hD,Zaa,?_⟩
 have:=((hv.same s').add nt (s.free ft) ht).put (o:=.lst (vs ++ [.ref t]))
 rw [et,Jbf]
 exact this
def AllR (n:Nat) (ps:List (Int × Int)) (rs:List (List Int)):Prop:=rs.Nodup/\(∀ r ∈ rs,RtR n ps r)/\∀ r,RtR n ps r->r ∈ rs
structure RI (n:Nat) (ps:List (Int × Int)) (keys rows:List (List Int)):Prop where
 nd:keys.Nodup
 rk:∀ r ∈ keys,RtR n ps r
 rr:∀ r ∈ rows,RtR n ps r
 un:∀ k ∈ Zav n,Zf3 n k ∈ keys\/Zf3 n k ∈ rows
 cl:∀ r ∈ keys,∀ k ∈ Zav n,Zhm r < Zhm (Zh2 k r ps)->Zh2 k r ps ∈ keys\/Zh2 k r ps ∈ rows
section
variable {n:Nat} {ps:List (Int × Int)} {keys keys' rows:List (List Int)} {r:List Int}
theorem RI.start (d:L3.DPos (Zav n) ps) (ins:L3.Ins (Zav n) ps):RI n ps [] ((Zav n).map (Zf3 n)):=
 ⟨Jf1,fun r h=>(by cases h),fun r h=>by obtain ⟨k,hk,rfl⟩:=Jak.mp h; exact RtR.unit d ins hk,fun k hk=>.inr (List.mem_map_of_mem hk),fun r h=>by cases h⟩
theorem RI.drop (I:RI n ps keys (rows ++ [r])) (h:r ∈ keys):RI n ps keys rows:=by
 have w:∀ a,a ∈ keys\/a ∈ rows ++ [r]->a ∈ keys\/a ∈ rows:=fun a ha=>by
  rcases ha with ha | ha
  ·exact .inl ha
  ·rcases Jbd.mp ha with ha | ha
   ·exact .inr ha
   ·rw [Jaz.mp ha]; exact .inl h
 exact ⟨I.nd,I.rk,fun a ha=>I.rr a (Jce _ ha),fun k hk=>w _ (I.un k hk),fun a ha k hk hs=>w _ (I.cl a ha k hk hs)⟩
def ups (n:Nat) (ps:List (Int × Int)) (r:List Int):List (List Int):=((Zav n).map (Zh2 · r ps)).filter fun b=>decide (Zhm r < Zhm b)
theorem RI.step (d:L3.DPos (Zav n) ps) (ins:L3.Ins (Zav n) ps) (I:RI n ps keys (rows ++ [r])) (h:r ∉ keys) (p:keys'.Perm (r :: keys)):RI n ps keys' (rows ++ ups n ps r):=by
 have rt:RtR n ps r:=I.rr r (Jah _ (Jaz.mpr rfl))
 have mk:∀ a,a ∈ keys' ↔ a = r\/a ∈ keys:=fun a=>by rw [p.mem_iff,Jam]
 have w:∀ a,a ∈ keys\/a ∈ rows ++ [r]->a ∈ keys'\/a ∈ rows ++ ups n ps r:=fun a ha=>by
  rcases ha with ha | ha
  ·exact .inl ((mk a).mpr (.inr ha))
  ·rcases Jbd.mp ha with ha | ha
   ·exact .inr (Jce _ ha)
   ·exact .inl ((mk a).mpr (.inl (Jaz.mp ha)))
 refine ⟨p.nodup_iff.mpr (Jbo.mpr ⟨h,I.nd⟩),fun a ha=>?_,fun a ha=>?_,fun k hk=>w _ (I.un k hk),fun a ha k hk hs=>?_⟩
 ·rcases (mk a).mp ha with rfl | ha
  ·exact rt
  ·exact I.rk a ha
 ·rcases Jbd.mp ha with ha | ha
  ·exact I.rr a (Jce _ ha)
  ·obtain ⟨hm,hs⟩:=Jas.mp ha
   obtain ⟨k,hk,rfl⟩:=Jak.mp hm
   exact rt.up d ins hk (Jav hs)
 ·rcases (mk a).mp ha with rfl | ha
  ·exact .inr (Jah _ (Jas.mpr ⟨Jak.mpr ⟨k,hk,rfl⟩,Ja2 hs⟩))
  ·exact w _ (I.cl a ha k hk hs)
theorem RI.few (d:L3.DPos (Zav n) ps) (ins:L3.Ins (Zav n) ps) (n8:n<=8) (I:RI n ps keys (rows ++ [r])) (h:r ∉ keys):keys.length + 1<=256:=
 RtR.count d ins n8 (L:=r :: keys) (Jbo.mpr ⟨h,I.nd⟩) fun a ha=>by
  rcases Jam.mp ha with rfl | ha
  ·exact I.rr _ (Jah _ (Jaz.mpr rfl))
  ·exact I.rk a ha
theorem RI.all (d:L3.DPos (Zav n) ps) (ins:L3.Ins (Zav n) ps) (I:RI n ps keys []):AllR n ps keys:=
 ⟨I.nd,I.rk,fun r hr=>RtR.all d ins (S:=fun a=>a ∈ keys) (fun k hk=>(I.un k hk).resolve_right (by simp)) (fun a k _ ha hk hs=>(I.cl a ha k hk hs).resolve_right (by simp)) hr⟩
theorem AllR.perm {rs:List (List Int)} (h:AllR n ps rs) (p:keys.Perm rs):AllR n ps keys:=⟨p.nodup_iff.mpr h.1,fun r hr=>h.2.1 r (p.mem_iff.mp hr),fun r hr=>p.mem_iff.mpr (h.2.2 r hr)⟩
end
inductive RK (wl:Addr) (H:Hp):List V->List (List Int)->Prop
 | nil:RK wl H [] []
 | cons {t:Addr} {r:List Int} {ws:List V} {rows:List (List Int)}:t ≠ wl->H t = some (.lst (r.map V.int))->RK wl H ws rows->RK wl H (.ref t :: ws) (r :: rows)
section
variable {wl:Addr} {H H':Hp} {ws ws2:List V} {rows rows2:List (List Int)}
theorem RK.len (h:RK wl H ws rows):ws.length = rows.length:=by
 induction h with
 | nil=>rfl
 | cons _ _ _ ih=>rw [Jau,Jau,ih]
theorem RK.keep (h:RK wl H ws rows) (s:∀ t vs,t ≠ wl->H t = some (.lst vs)->H' t = some (.lst vs)):RK wl H' ws rows:=by
 induction h with
 | nil=>exact .nil
 | cons a b _ ih=>exact .cons a (s _ _ a b) ih
theorem RK.app (h:RK wl H ws rows) (h2:RK wl H ws2 rows2):RK wl H (ws ++ ws2) (rows ++ rows2):=by
 induction h with
 | nil=>exact h2
 | cons a b _ ih=>exact .cons a b ih
theorem RK.last (h:RK wl H ws rows) (ne:ws ≠ []):∃ ws' t rows' r,ws = ws' ++ [.ref t]/\rows = rows' ++ [r]/\RK wl H ws' rows'/\t ≠ wl/\H t = some (.lst (r.map V.int)):=by
 induction h with
 | nil=>exact absurd rfl ne
 | @cons t r ws rows a b h ih=>
  by_cases e:ws = []
  ·subst e
   have:rows = []:=Jc4.mp h.len.symm
   subst this
   exact ⟨[],t,[],r,rfl,rfl,.nil,a,b⟩
  ·obtain ⟨ws',t',rows',r',e1,e2,h',a',b'⟩:=ih e
   subst e1 e2
   exact ⟨_,t',_,r',rfl,rfl,.cons a b h',a',b'⟩
theorem RK.of {D:Addr} {H0:Hp} {L:List (List Int)} (h:RowsF D H0 H ws L) (hw:∀ t,H0 t = none->t ≠ D->t ≠ wl):RK wl H ws L:=by
 obtain ⟨hl,h⟩:=h
 induction ws generalizing L with
 | nil=>cases L with
  | nil=>exact .nil
  | cons _ _=>cases hl
 | cons q ws ih=>
  cases L with
  | nil=>cases hl
  | cons r L=>
   obtain ⟨t,rfl,nD,f,e⟩:=h 0 q r rfl rfl
   exact .cons (hw t f nD) e (ih (by simpa using hl) fun i q r h1 h2=>h (i + 1) q r h1 h2)
theorem Znz {a b:List Int} (h:a.map V.int = b.map V.int):a = b:=by
 induction a generalizing b with
 | nil=>cases b with
  | nil=>rfl
  | cons _ _=>cases h
 | cons x a ih=>cases b with
  | nil=>cases h
  | cons y b=>
   rw [Jax,Jax,Jcq] at h
   rw [V.int.inj h.1,ih h.2]
open Classical in
noncomputable def gtV (H:Hp) (r:List Int) (v:V):Bool:=decide (∃ (t:Addr) (a:List Int),v = .ref t/\H t = some (.lst (a.map V.int))/\Zhm r < Zhm a)
open Classical in
theorem Zrh {t:Addr} {a r:List Int} (h:H t = some (.lst (a.map V.int))):gtV H r (.ref t) = decide (Zhm r < Zhm a):=by
 unfold gtV
 by_cases c:Zhm r < Zhm a
 ·rw [Ja2 c]; exact Ja2 ⟨t,a,rfl,h,c⟩
 ·rw [Jb7 c]
  refine Jb7 ?_
  rintro ⟨t',a',e,h',c'⟩
  cases e
  rw [h] at h'
  exact c (Znz (HO.lst.inj (Jbm h')) ▸ c')
theorem RK.filt (h:RK wl H ws rows) (r:List Int):RK wl H (ws.filter (gtV H r)) (rows.filter fun b=>decide (Zhm r < Zhm b)):=by
 induction h with
 | nil=>exact .nil
 | cons a b _ ih=>
  rw [List.filter_cons,List.filter_cons,Zrh b]
  split
  ·exact .cons a b ih
  ·exact ih
theorem RK.mem (h:RK wl H ws rows) {v:V} (hv:v ∈ ws):∃ (t:Addr) (a:List Int),v = .ref t/\H t = some (.lst (a.map V.int)):=by
 induction h with
 | nil=>cases hv
 | cons a b _ ih=>
  rcases Jam.mp hv with rfl | hv
  ·exact ⟨_,_,rfl,b⟩
  ·exact ih hv
end
def Zio (C NK:Addr):Sp:=fun vs H Q E=>∃ (x:Addr) (n:Nat) (ps:List (Int × Int)),vs = [.ref x]/\Drw C H x (n:Nat) ps/\InP (n:Nat) ps/\1<=n/\n<=8 /\
 (BadK n ps->∀ H',Same H H'->E (.ref NK) none H') /\
 (Zqo n ps->∀ (l:Addr) (qs:List V) (rs:List (List Int)) (H':Hp),Same H H'->H l = none->H' l = some (.lst qs)->RowsF l H H' qs rs->AllR n ps rs->Q (.ref l) H')
theorem Zpq {f:Addr} {fd:FuncData} (F:Fun K "roots" "roots" Zem f fd) (T:Txt K mg C) (XT:Xt K mg base cc) (C_is_good:Cal P w K mg base "is_good" 5 (Zl5 C)) (C_raised:Cal P w K mg base "raised" 1 Zgr) (C_mirrored:Cal P w K mg base "mirrored" 1 (spMir C)):FnOk P w K mg base (CXe P w) 6 f fd ["drawing"] (Zio C cc.NoKind):=by
 have nd:=Zjt.nd
 refine F.okE Zjt (fun vs H Q E h=>?_) (fun cdv A outer s H vs Q E hr h=>?_)
 ·obtain ⟨x,n,ps,rfl,_⟩:=h
  rfl
 ·obtain ⟨x,n,ps,rfl,dw,hin,n0,n8,qb,qg⟩:=h
  have hu1:=room1 hr
  refine ⟨_,((@Zbl _ _ _ _ _ _ _ _ (Zfn (Zhu (Zct C_is_good hr.m rfl ((pv 0)<&>Zab)))) (@Zal _ _ _ (ps_rse XT.o_NoKind rfl (Zj4<&>Zab))) Zas)<*>((Zao (i:=1) nd rfl (Or.inl rfl) (Zd7 (Zdc rfl) rfl T.n_list Je3 ((Zd7 Zfz rfl T.n_range boot_range ((Zhw (pv 0) rfl)<&>Zab))<&>Zab)))<*>((Zfo (i:=2) (own:=["point"]) (fr:=[("drawing",0)]) rfl (Zcp (by kernel_rfl)) (Zaz (pv 1)) (fun _ _ _ _=>⟨(@Zag _ _ 0 _ (show (["point","drawing"]:List Str).Nodup by decide +kernel) rfl (Or.inl rfl) (Or.inr rfl)),Zbn,(Zct C_raised hr.m rfl ((op_rep<|>(@Zbo _ _ _ _ (Zac<&>Zab))<&&>(Zm0 K rfl (pv 1) rfl))<&>((pv 0)<&>Zab)))⟩) nd rfl rfl rfl)<*>((Zao (i:=3) nd rfl (Or.inl rfl) (Zk3 Zoq rfl T.n_set boot_set))<*>((Zg2 PassesOwn.leaving (Zj1 (pv 2) (fun _=>rfl)) ((Zao (i:=4) nd rfl (Or.inr rfl) (pe_bm0 Ja4 PySem.F.slot_list_pop PySem.F.type_list_pop mt_pop (pv 2)))<*>(@Zal _ _ _ (@Zbl _ _ _ _ _ _ _ _ (Zaj (Zm6 hu1) (Zd7 Zca rfl T.n_tuple boot_tuple ((pv 4)<&>Zab)) (pv 3) (by with_unfolding_all rfl)) ((Zb5 (pe_addR hu1 (pv 3) ((Zd7 Zca rfl T.n_tuple boot_tuple ((pv 4)<&>Zab))<&>Zab)))<*>((Zfo (i:=5) (own:=["point"]) (fr:=[("drawing",0),("row",4)]) rfl (Zcp (by kernel_rfl)) (Zaz (pv 1)) (fun _ _ _ _=>⟨(@Zag _ _ 0 _ (show (["point","drawing","row"]:List Str).Nodup by decide +kernel) rfl (Or.inl rfl) (Or.inr rfl)),Zbn,(Zct C_mirrored hr.m rfl ((pv 1)<&>((pv 0)<&>((pv 2)<&>Zab))))⟩) nd rfl rfl rfl)<*>(@Zal _ _ _ (Zb5 (Zep Ja4 PySem.F.slot_list_extend PySem.F.type_list_extend Zng (pv 2) ((Zbj (own:=["mirror"]) (fr:=[("row",4)]) rfl (Zcp (by kernel_rfl)) (Zaz (pv 5)) (fun _ _ _ _=>⟨(@Zag _ _ 0 _ (show (["mirror","row"]:List Str).Nodup by decide +kernel) rfl (Or.inl rfl) (Or.inr rfl)),(Zd5 (Zaj Zh0 (Zb2 (Zia K rfl rfl) rfl T.n_sum boot_sum ((pv 0)<&>Zab)) (Zb2 (Zia K rfl rfl) rfl T.n_sum boot_sum ((pv 1)<&>Zab)) (Zat _))),(pv 0)⟩))<&>Zab)))))) Zas))))<*>(~~~(Zbj (own:=["row"]) (fr:=[]) rfl (Zcp (by kernel_rfl)) (Zaz (Zb2 (Zib rfl) rfl T.n_sorted boot_sorted ((pv 3)<&>Zab))) (fun _ _ _ _=>⟨(@Zag _ _ 0 _ (show (["row"]:List Str).Nodup by decide +kernel) rfl (Or.inl rfl) (Or.inr rfl)),Zbn,(Zd7 (Zhg K rfl) rfl T.n_list Je3 ((pv 0)<&>Zab))⟩)))))))),?_⟩
  obtain ⟨lp,xs,⟨dx,hx,hlp⟩,hl9,pr⟩:=id dw
  refine Zd2 fun X hX=>?_
  walk_at "wp"
  refine ⟨x,n,ps,rfl,dw,hin,n0,n8,fun g H1 s1=>⟨true,rfl,Zd1 (fun z=>by cases z) fun _=>?_⟩,fun g H1 s1=>⟨false,rfl,iteP (by decide) ⟨by decide,qb g H1 s1⟩⟩⟩
  have d:=Zp7 hin n8 g
  have ins:=Zn0 hin
  subst hX
  refine Zd2 fun X hX=>?_
  walk_at "wp"
  refine ⟨C,dx,_,s1 _ _ hx,T.cl_Drawing,T.nM,_,rfl,(n:Nat),rfl,fun p hp=>⟨0,(n:Nat),Zaa,⟨by decide,by decide,by omega,by omega⟩,by omega,fun pl hpl=>?_⟩⟩
  have s2:Same H1 (upd (upd H1 p (.rng 0 (n:Nat))) pl (.lst (Zk2 0 (n:Nat)))):=(Same.new hp).trans (Same.new hpl)
  have hpl2:upd (upd H1 p (.rng 0 (n:Nat))) pl (.lst (Zk2 0 (n:Nat))) pl = some (.lst ((Zav n).map V.int)):=by rw [Zaa,Zj0,Zq0,Jaw]
  generalize upd (upd H1 p (.rng 0 (n:Nat))) pl (.lst (Zk2 0 (n:Nat))) = H2 at *
  have s12:=s1.trans s2
  subst hX
  refine Zd2 fun X hX=>?_
  walk_at "wp"
  simp only [Zkw,Zi5,Zjp]
  refine ⟨_,rfl,pl,rfl,⟨_,SqL.of hpl2⟩,fun wl hwl=>Zjb (fun _=>true) (fun k=>Zf3 n k) hpl2 hwl (by rw [Zdm]; omega) (fun k H' Q' _ _ q=>q) (fun k H' Q' hk s' q=>?_) (fun qs H3 s3 hw3 rf=>?_)⟩
  ·obtain ⟨k0,k1⟩:=Zau.mp hk
   walk_at "wp"
   refine ⟨by decide,fun p3 hp3=>⟨_,rfl,x,rfl,C,dx,_,(s12.trans (s'.trans (Same.new hp3))) _ _ hx,T.cl_Drawing,T.nM,_,rfl,p3,(n:Nat),[V.int 0],rfl,rfl,Zaa,by omega,by omega,Jbs (Zah (by rw [Jaw]; show 1 * n<=1000; omega)),fun p4 hp4=>?_⟩⟩
   have u4:=(Same.new (o:=.lst [V.int 0]) hp3).trans (Same.new (o:=.lst (List.replicate (Int.toNat (n:Nat)) [V.int 0]).flatten) hp4)
   have hp4':upd (upd H' p3 (.lst [V.int 0])) p4 (.lst (List.replicate (Int.toNat (n:Nat)) [V.int 0]).flatten) p4 = some (.lst ((List.replicate n (0:Int)).map V.int)):=by rw [Zaa,Jaw,List.map_replicate]; simp
   generalize upd (upd H' p3 (.lst [V.int 0])) p4 (.lst (List.replicate (Int.toNat (n:Nat)) [V.int 0]).flatten) = H4 at *
   exact ⟨p4,List.replicate n 0,k,rfl,hp4',by rw [Jb1]; exact n8,k0,by rw [Jb1]; exact k1,fun z' H5 s5 fz hz=>q z' H5 (u4.free fz) (u4.trans s5) hz⟩
  ·rw [List.filter_eq_self.mpr (fun _ _=>rfl)] at rf
   subst hX
   refine Zd2 fun X hX=>?_
   walk_at "wp"
   intro z hz
   have f2z:H2 z = none:=s3.free hz
   have nzw:z ≠ wl:=(Zad hw3 hz).symm
   subst hX
   refine Zd2 fun X hX=>?_
   refine ⟨fun m σ Hk=>∃ (v4 v5:Option V) (ws:List V) (rows:List (List Int)) (xs:List (List Int × Addr)),σ = [some (.ref x),some (.ref pl),some (.ref wl),some (.ref z),v4,v5]/\Same H2 Hk/\Hk wl = some (.lst ws)/\Hk z = some (Zii P w z xs) /\
    RK wl Hk ws rows/\(∀ y ∈ xs,RowH Hk y)/\RI n ps (xs.map (·.1)) rows/\m = (256 - xs.length) * 9 + ws.length/\m<=2320,⟨256 * 9 + qs.length,none,none,qs,_,[],rfl,s3.trans (Same.new hz),by rw [Zaf nzw.symm]; exact hw3,Zaa,?_,fun y hy=>(by cases hy),RI.start d ins,rfl,?_⟩,?_⟩
   ·refine (RK.of rf fun t ft nt=>nt).keep fun t vs _ e=>?_
    rw [Zaf (Zad e hz)]; exact e
   ·have:=rf.1
    rw [Jab,Zdm] at this
    omega
   rintro m σ Hk ⟨v4,v5,ws,rows,ys,rfl,sk,hkw,hkz,rk,ry,ri,hm,hm2⟩
   refine ⟨_,rfl,!ws.isEmpty,.inl ⟨ws,SqL.of hkw,rfl⟩,Zd1 (fun hne=>⟨_,fun σ' H' h=>h,?_⟩) (fun he=>?_)⟩
   ·refine cutE fun D' hD=>?_
    have ne:ws ≠ []:=fun e=>by rw [e] at hne; cases hne
    obtain ⟨ws',t,rows',r,rfl,rfl,rk',ntw,ht⟩:=rk.last ne
    refine Zd2 fun X2 hX2=>?_
    walk_at "wp"
    refine ⟨.inl ⟨rfl,_,SqL.of hkw⟩,_,hkw,.ref t,by simp,?_⟩
    rw [List.dropLast_concat]
    have hw5:(upd Hk wl (.lst ws')) wl = some (.lst ws'):=Zaa
    have o5:∀ b o,b ≠ wl->Hk b = some o->(upd Hk wl (.lst ws')) b = some o:=fun b o hb e=>by rw [Zaf hb]; exact e
    have s5:Same H2 (upd Hk wl (.lst ws')):=sk.upd hwl
    generalize upd Hk wl (.lst ws') = H5 at *
    have hz5:=o5 _ _ nzw hkz
    have ht5:=o5 _ _ ntw ht
    have ry5:∀ y ∈ ys,RowH H5 y:=fun y hy=>o5 _ _ (Zf7 (ry y hy) hkw (by simp)) (ry y hy)
    have rk5:RK wl H5 ws' rows':=rk'.keep fun t vs nt e=>o5 _ _ nt e
    subst hX2
    refine cutI fun A2 hA2=>?_
    walk_at "wp"
    have lw:(ws' ++ [V.ref t]).length = ws'.length + 1:=by rw [Jaj,Jdv]
    refine ⟨r.map V.int,.inl ⟨SqL.of ht5,fun b1 hb1=>⟨ys,r,Zaa,(Same.new hb1) _ _ hz5,fun y hy=>(Same.new hb1) _ _ (ry5 y hy),fun c hc=>?_⟩⟩⟩
    have s6:=Same.new (o:=.tup (r.map V.int)) hb1
    generalize upd H5 b1 (.tup (r.map V.int)) = H6 at *
    have hz6:=s6 _ _ hz5
    have hw6:=s6 _ _ hw5
    have ht6:=s6 _ _ ht5
    have ry6:∀ y ∈ ys,RowH H6 y:=fun y hy=>s6 _ _ (ry5 y hy)
    have rk6:RK wl H6 ws' rows':=rk5.keep fun t vs _ e=>s6 _ _ e
    have t6:=s5.trans s6
    refine Zd1 (fun c1=>?_) (fun c0=>?_)
    ·have hn:=hc.mp c1
     have nk:r ∉ ys.map (·.1):=fun z=>by
      obtain ⟨y,hy,e⟩:=Jak.mp z
      exact hn y hy e
     have few:=ri.few d ins n8 nk
     rw [Jab] at few
     subst hA2
     refine Zd2 fun X2 hX2=>?_
     walk_at "wp"
     refine ⟨⟨_,hz6⟩,r.map V.int,.inl ⟨SqL.of ht6,fun b2 hb2=>⟨ys,r,Zaa,(Same.new hb2) _ _ hz6,fun y hy=>(Same.new hb2) _ _ (ry6 y hy),hn,few,fun ys' pm=>?_⟩⟩⟩
     have s7:=Same.new (o:=.tup (r.map V.int)) hb2
     have hb7:(upd H6 b2 (.tup (r.map V.int))) b2 = some (.tup (r.map V.int)):=Zaa
     generalize upd H6 b2 (.tup (r.map V.int)) = H7 at *
     have hz7:=s7 _ _ hz6
     have o8:∀ b o,b ≠ z->H7 b = some o->(upd H7 z (Zii P w z ys')) b = some o:=fun b o hb e=>by rw [Zaf hb]; exact e
     have hz8:(upd H7 z (Zii P w z ys')) z = some (Zii P w z ys'):=Zaa
     have t8:Same H2 (upd H7 z (Zii P w z ys')):=(t6.trans s7).upd f2z
     generalize upd H7 z (Zii P w z ys') = H8 at *
     have ft:∀ b vs,H7 b = some (.tup vs)->H8 b = some (.tup vs):=fun b vs e=>o8 _ _ (Zf7 e hz7 fun q=>by cases q) e
     have fl:∀ b vs,H7 b = some (.lst vs)->H8 b = some (.lst vs):=fun b vs e=>o8 _ _ (Zf7 e hz7 fun q=>by cases q) e
     have ry8:∀ y ∈ ys',RowH H8 y:=fun y hy=>by
      rcases Jam.mp (pm.mem_iff.mp hy) with rfl | hy
      ·exact ft _ _ hb7
      ·exact ft _ _ (s7 _ _ (ry6 y hy))
     have rk8:RK wl H8 ws' rows':=rk6.keep fun t vs _ e=>fl _ _ (s7 _ _ e)
     have hw8:=fl _ _ (s7 _ _ hw6)
     have ht8:=fl _ _ (s7 _ _ ht6)
     have ri8:=ri.step d ins nk (keys':=ys'.map (·.1)) (pm.map (·.1))
     have ly:ys'.length = ys.length + 1:=pm.length_eq
     have rr:=ri.rr r (Jah _ (Jaz.mpr rfl))
     subst hX2
     refine Zd2 fun X2 hX2=>?_
     walk_at "wp"
     simp only [Zkw,Zi5,Zjp]
     refine ⟨_,rfl,pl,rfl,⟨_,SqL.of (t8 _ _ hpl2)⟩,fun ml hml=>Zjb (fun _=>true) (fun k=>Zh2 k r ps) (t8 _ _ hpl2) hml (by rw [Zdm]; omega) (fun k H' Q' _ _ q=>q) (fun k H' Q' hk s' q=>?_) (fun qs2 H9 s9 hm9 rf9=>?_)⟩
     ·obtain ⟨k0,k1⟩:=Zau.mp hk
      walk_at "wp"
      exact ⟨_,rfl,_,rfl,x,t,(n:Nat),k,ps,r,rfl,dw.same ((s12.trans t8).trans s'),hin,s' _ _ ht8,by rw [Jaw]; exact rr.len,k0,k1,by omega,fun t' H'' s'' ft' ht'=>q t' H'' ft' s'' ht'⟩
     ·rw [List.filter_eq_self.mpr (fun _ _=>rfl)] at rf9
      have rk9:RK wl H9 qs2 ((Zav n).map (Zh2 · r ps)):=RK.of rf9 fun t' ft' _=>(Zad hw8 ft').symm
      have l9:=rk9.len
      rw [Jab,Zdm] at l9
      subst hX2
      walk_at "wp"
      refine ⟨.inl ⟨rfl,_,SqL.of (s9 _ _ hw8)⟩,?_⟩
      simp only [Zkw,Zi5,Zjp]
      refine ⟨_,rfl,ml,rfl,⟨_,SqL.of hm9⟩,fun D hD10=>Zqh (gtV H9 r) hm9 hD10 (by omega) (fun v H' Q' hv s' q=>?_) (fun H10 s10 e10=>?_)⟩
      ·obtain ⟨t',a,rfl,ht'⟩:=rk9.mem hv
       rw [Zrh ht'] at q
       walk_at "wp"
       exact ⟨_,SqL.of (s' _ _ ht'),_,rfl,t,rfl,_,SqL.of (s' _ _ (s9 _ _ ht8)),q⟩
      ·have lf:=Ja9 (gtV H9 r) qs2
       have hw10:=s10 _ _ (s9 _ _ hw8)
       have s810:=s9.trans s10
       have nDw:D ≠ wl:=(Zad (s9 _ _ hw8) hD10).symm
       refine ⟨D,rfl,_,hw10,_,e10,by rw [Jde]; omega,?_⟩
       subst hD
       refine ⟨(256 - ys'.length) * 9 + (ws' ++ qs2.filter (gtV H9 r)).length,by rw [Jaj]; omega,_,_,_,_,ys',rfl,(t8.trans s810).upd hwl,Zaa,?_,?_,fun y hy=>?_,ri8,rfl,by rw [Jaj]; omega⟩
       ·rw [Zaf nzw]; exact s810 _ _ hz8
       ·exact (rk8.keep fun t vs nt e=>by rw [Zaf nt]; exact s810 _ _ e).app ((rk9.filt r).keep fun t vs nt e=>by rw [Zaf nt]; exact s10 _ _ e)
       ·show upd H10 wl _ y.2 = _
        rw [Zaf (Zf7 (ry8 y hy) hw8 fun q=>by cases q)]
        exact s810 _ _ (ry8 y hy)
    ·have hk:r ∈ ys.map (·.1):=Jag fun z=>c0 (hc.mpr fun y hy e=>z (Jak.mpr ⟨y,hy,e⟩))
     subst hD
     exact ⟨(256 - ys.length) * 9 + ws'.length,by omega,_,_,ws',rows',ys,rfl,t6,hw6,hz6,rk6,ry6,ri.drop hk,rfl,by omega⟩
   ·have e:ws = []:=by cases ws with
     | nil=>rfl
     | cons _ _=>exact absurd rfl he
    subst e
    have e2:rows = []:=Jc4.mp rk.len.symm
    subst e2
    have all:=ri.all d ins
    have few:ys.length<=256:=by
     have:=RtR.count d ins n8 all.1 all.2.1
     rwa [Jab] at this
    subst hX
    walk_at "wp"
    simp only [Zkw,Zi5,tCB,Zf4,Zjp,Zov]
    refine ⟨_,rfl,z,rfl,ys,hkz,fun y hy=>⟨ry y hy,by rw [(all.2.1 _ (List.mem_map_of_mem hy)).len]; omega⟩,few,fun l zs hl pm=>⟨l,rfl,⟨_,SqL.of Zaa⟩,fun D hD=>?_⟩⟩
    have s4:=Same.new (o:=.lst (zs.map (V.ref ·.2))) hl
    refine comp_ls Zaa hD (by rw [pm.length_eq]; omega) (fun y H' Q' hy s' q=>?_) (fun qs H' s' e' rf'=>?_)
    ·refine ⟨_,rfl,y.2,rfl,_,.inr (SqT.of ((s4.trans s') _ _ (ry y (pm.mem_iff.mp hy)))),fun l' hl'=>q l' _ hl' (Same.new hl') Zaa⟩
    ·have t1:=(s12.trans sk).trans s4
     exact qg g D qs _ H' (t1.trans s') (t1.free hD) e' (rf'.old t1) (all.perm (pm.map _))
end
end Pf
namespace Pf
open PySem L2 PyProof.Rows
section
variable {P:Program} {w:World} {K:PySem.W.Frag} {mg:Str->Option Value} {base:Heap} {C:Addr}
def Zl3:Sp:=fun vs H Q _=>∃ (l:Addr) (m:Int),vs = [.ref l,.int m]/\Bag H l/\0<=m/\m<=8 /\
 ∀ (p:Addr) (ys:List Int) (H':Hp),Ext l H H'->Bag H' l->H p = none->H' p = some (.lst (ys.map V.int))->(ys.length:Int) = m->InR m ys->ys.Nodup->Q (.ref p) H'
theorem ok_ordN {f:Addr} {fd:FuncData} (F:Fun K "_law_order" "_law_order" Zby f fd) (T:Txt K mg C) (C_law_draw:Cal P w K mg base "_law_draw" 1 Zdx):FnOk P w K mg base CX0 2 f fd ["_law_bag_here","_law_many"] Zl3:=by
 have nd:=Zey.nd
 refine F.ok Zey (fun vs H Q E h=>?_) (fun cdv A outer s H vs Q E hr h=>?_)
 ·obtain ⟨l,m,rfl,_⟩:=h
  rfl
 ·obtain ⟨l,m,rfl,hb,m0,m8,q⟩:=h
  refine ⟨_,((Zao (i:=2) nd rfl (Or.inl rfl) (Zd7 (Zdc rfl) rfl T.n_list Je3 ((Zd7 Zfz rfl T.n_range boot_range ((pv 1)<&>Zab))<&>Zab)))<*>((Zao (i:=3) nd rfl (Or.inl rfl) (@Zbo _ _ _ _ Zab))<*>((Zg2 Jbp (Zaj Zh0 (Zb2 Zaq rfl T.n_len Jcd ((pv 2)<&>Zab)) Zac (Zat _)) ((Zao (i:=4) nd rfl (Or.inl rfl) (Zct C_law_draw hr.m rfl ((pv 0)<&>((Zb2 Zaq rfl T.n_len Jcd ((pv 2)<&>Zab))<&>Zab))))<*>((Zb5 (Zep Ja4 Jbq Jbr Zba (pv 3) ((Zaw<|>(pv 2)<||>(pv 4))<&>Zab)))<*>(@Zal _ _ _ (Zao (i:=2) nd rfl (Or.inl rfl) (Zfr<|>(@Zb8 _ _ _ _ _ _ _ _ _ _ Zc5 (pv 2) Zc9 (@Zc8 _ _ _ (pv 4)))<&&>(@Zb8 _ _ _ _ _ _ _ _ _ _ Zc5 (pv 2) (@Zc8 _ _ _ (Za5<|>(pv 4)<&&>Zac)) Zc9)))))))<*>(~~~(pv 3))))),?_⟩
  walk_at "wp"
  intro p hp
  refine ⟨_,_,Zaa,⟨by decide,by decide,by omega,by omega⟩,by omega,fun l1 hl1=>⟨by decide,fun p1 hp1=>?_⟩⟩
  have hpl:=hb.ne hp
  have b1:Bag (upd H p (.rng 0 m)) l:=hb.new hpl
  have hll:=b1.ne hl1
  have b2:Bag (upd (upd H p (.rng 0 m)) l1 (.lst (Zk2 0 m))) l:=b1.new hll
  have hl1p:p1 ≠ l1:=(Zad Zaa hp1).symm
  have hHp1:H p1 = none:=((Same.new hp).trans (Same.new hl1)).free hp1
  rw [Zmk] at *
  refine ⟨fun k σ H2=>∃ (pl:Addr) (ls rs:List Int) (v:Option V),σ = [some (.ref l),some (.int m),some (.ref pl),some (.ref p1),v]/\k = ls.length/\Ext l H H2/\Bag H2 l /\
   H2 pl = some (.lst (ls.map V.int))/\H2 p1 = some (.lst (rs.map V.int))/\pl ≠ p1/\pl ≠ l/\((ls.length:Int) + rs.length = m)/\InR m ls/\InR m rs/\(ls ++ rs).Nodup,?_,?_⟩
  ·refine ⟨_,l1,((List.range (m - 0).toNat).map fun (i:Nat)=>(0:Int) + (i:Int)),[],none,rfl,rfl,?_,b2.new (b2.ne hp1),?_,Zaa,hl1p.symm,hll,?_,?_,(fun _ h=>nomatch h),?_⟩
   ·exact ((Ext.new hp).trans (Ext.new hl1)).trans (Ext.new hp1)
   ·rw [Zaf hl1p.symm,Zaa]
   ·rw [Jab,Jcx]
    simp
    omega
   ·intro y hy
    obtain ⟨i,hi,rfl⟩:=Jak.mp hy
    have:=Jcb.mp hi
    omega
   ·rw [Jdg]
    exact Jd1.mpr (Jd8.imp fun ne e=>ne (by omega))
  ·rintro k σ H2 ⟨pl,ls,rs,v,rfl,rfl,ex,hb2,hpl2,hp12,n1,n2,hlen,il,ir,nn⟩
   walk_at "wp"
   refine ⟨_,.inl (SqL.of hpl2),Zd1 (fun hc=>?_) (fun hc=>?_)⟩
   ·refine ⟨_,fun _ _ h=>h,?_⟩
    have hc:=Jav hc
    rw [Jab] at hc
    walk_at "wp"
    refine ⟨_,.inl (SqL.of hpl2),?_⟩
    obtain ⟨a,b,hla,b0,b1'⟩:=hb2
    rw [Jab]
    refine ⟨l,a,b,_,rfl,hla,b0,b1',hc,by omega,fun r a' b' r0 r1 c0 c1=>?_⟩
    have hr1:r.toNat < ls.length:=by omega
    have hp1l:p1 ≠ l:=hb.ne hHp1
    have h3pl:(upd H2 l (Zkt a' b')) pl = some (.lst (ls.map V.int)):=by rw [Zaf n2]; exact hpl2
    have h3p1:(upd H2 l (Zkt a' b')) p1 = some (.lst (rs.map V.int)):=by rw [Zaf hp1l]; exact hp12
    have e1:Ext l H (upd H2 l (Zkt a' b')):=ex.trans Ext.set
    have B1:Bag (upd H2 l (Zkt a' b')) l:=Bag.set c0 c1
    refine ⟨.inl ⟨rfl,_,SqL.of h3p1⟩,_,r,rfl,SqL.of h3pl,V.int (ls[r.toNat]),Zbw r0 (by rw [Jbe,Jac hr1]; rfl),_,h3p1,Zah (by rw [Jab]; omega),r,rfl,_,
     SqL.of (by rw [Zaf n1]; exact h3pl),fun p2 hp2=>⟨r,rfl,ls.map V.int,SqL.of ?g1,fun p3 hp3=>⟨Zeu (ls.map V.int) none (some r),?g2,_,Zaa,?g3,fun p4 hp4=>?g4⟩⟩⟩
    case g1=>
     have:pl ≠ p2:=Zad (by rw [Zaf n1]; exact h3pl) hp2
     rw [Zaf this,Zaf n1]
     exact h3pl
    case g2=>rw [Zaf (Zad Zaa hp3)]; exact Zaa
    case g3=>
     have h1:=Zco (ls.map V.int) none (some r)
     have h2:=Zco (ls.map V.int) (some (r + 1)) none
     rw [Jab] at h1 h2
     exact Jbs (Zah (by omega))
    case g4=>
     have e2:=e1.upd (o:=.lst (rs.map V.int ++ [V.int ls[r.toNat]])) hHp1
     have B2:Bag (upd (upd H2 l (Zkt a' b')) p1 (.lst (rs.map V.int ++ [V.int ls[r.toNat]]))) l:=B1.new hp1l
     have e3:=e2.trans (Ext.new (o:=.lst (Zeu (ls.map V.int) none (some r))) hp2)
     have B3:=B2.new (o:=.lst (Zeu (ls.map V.int) none (some r))) (B2.ne hp2)
     have e4:=e3.trans (Ext.new (o:=.lst (Zeu (ls.map V.int) (some (r + 1)) none)) hp3)
     have B4:=B3.new (o:=.lst (Zeu (ls.map V.int) (some (r + 1)) none)) (B3.ne hp3)
     have n21:p2 ≠ p1:=(Zad Zaa hp2).symm
     have q2:(upd (upd (upd H2 l (Zkt a' b')) p1 (.lst (rs.map V.int ++ [V.int ls[r.toNat]]))) p2 (.lst (Zeu (ls.map V.int) none (some r)))) p1 = some (.lst (rs.map V.int ++ [V.int ls[r.toNat]])):=by
      rw [Zaf n21.symm]; exact Zaa
     have n31:p1 ≠ p3:=Zad q2 hp3
     have q3:(upd (upd (upd (upd H2 l (Zkt a' b')) p1 (.lst (rs.map V.int ++ [V.int ls[r.toNat]]))) p2 (.lst (Zeu (ls.map V.int) none (some r)))) p3 (.lst (Zeu (ls.map V.int) (some (r + 1)) none))) p1 = some (.lst (rs.map V.int ++ [V.int ls[r.toNat]])):=by
      rw [Zaf n31]; exact q2
     have n41:p1 ≠ p4:=Zad q3 hp4
     refine ⟨(ls.take r.toNat ++ ls.drop (r.toNat + 1)).length,by rw [Jaj,Ja1,Jcv]; omega,p4,ls.take r.toNat ++ ls.drop (r.toNat + 1),rs ++ [ls[r.toNat]],_,⟨rfl,rfl⟩,rfl,e4.trans (Ext.new hp4),B4.new (B4.ne hp4),?_,?_,n41.symm,B4.ne hp4,?_,?_,?_,?_⟩
     ·rw [Zaa,Zoe _ _ r0 (by rw [Jab]; omega),Zof _ _ (by omega) (by rw [Jab]; omega),Jbf,Jgb,List.map_drop,show (r + 1).toNat = r.toNat + 1 by omega]
     ·rw [Zaf n41,q3,Jbf]
      rfl
     ·rw [Jaj,Jaj,Ja1,Jcv]
      simp
      omega
     ·intro y hy
      rcases Jbd.mp hy with h | h
      ·exact il y (Jd5 h)
      ·exact il y (Jd4 h)
     ·intro y hy
      rcases Jbd.mp hy with h | h
      ·exact ir y h
      ·rw [Jaz.mp h]
       exact il _ (Jcc hr1)
     ·refine (List.Perm.nodup_iff ?_).mp nn
      have e:ls = ls.take r.toNat ++ ls[r.toNat] :: ls.drop (r.toNat + 1):=by rw [Jet,Jbt]
      have p1:ls.Perm (ls[r.toNat] :: (ls.take r.toNat ++ ls.drop (r.toNat + 1))):=by
       have:=List.perm_middle (a:=ls[r.toNat]) (l₁:=ls.take r.toNat) (l₂:=ls.drop (r.toNat + 1))
       rwa [<- e] at this
      refine (p1.append_right rs).trans ?_
      rw [Je6,<- Jba]
      exact (List.perm_append_singleton _ _).symm
   ·have hc:¬ (0:Int) < ((ls.map V.int).length:Nat):=fun z=>hc (Ja2 z)
    rw [Jab] at hc
    have e0:ls = []:=Jc4.mp (by omega)
    subst e0
    exact q p1 rs H2 ex hb2 hHp1 hp12 (by omega) ir nn
inductive PK (H:Hp):List V->List (Int × Int)->Prop
 | nil:PK H [] []
 | cons {t:Addr} {q:Int × Int} {ws:List V} {qs:List (Int × Int)}:H t = some (.tup [.int q.1,.int q.2])->PK H ws qs->PK H (.ref t :: ws) (q :: qs)
section
variable {H H':Hp} {ws ws2:List V} {qs qs2:List (Int × Int)}
theorem PK.len (h:PK H ws qs):ws.length = qs.length:=by
 induction h with
 | nil=>rfl
 | cons _ _ ih=>rw [Jau,Jau,ih]
theorem PK.keep (h:PK H ws qs) (s:∀ t vs,H t = some (.tup vs)->H' t = some (.tup vs)):PK H' ws qs:=by
 induction h with
 | nil=>exact .nil
 | cons a _ ih=>exact .cons (s _ _ a) ih
theorem PK.same (h:PK H ws qs) (s:Same H H'):PK H' ws qs:=h.keep fun t vs e=>s _ _ e
theorem PK.put (h:PK H ws qs) {D:Addr} {l:List V} {o:HO} (hD:H D = some (.lst l)):PK (upd H D o) ws qs:=h.keep fun t vs e=>by rw [Zaf (Zf7 e hD fun z=>by cases z)]; exact e
theorem PK.bag (h:PK H ws qs) {l:Addr} (b:Bag H l) (e:Ext l H H'):PK H' ws qs:=by
 obtain ⟨ys,hl⟩:=b.lst
 exact h.keep fun t vs q=>e _ _ (Zf7 q hl fun z=>by cases z) q
theorem PK.app (h:PK H ws qs) (h2:PK H ws2 qs2):PK H (ws ++ ws2) (qs ++ qs2):=by
 induction h with
 | nil=>exact h2
 | cons a _ ih=>exact .cons a ih
theorem PK.snoc {t:Addr} {i j:Int} (h:PK H ws qs) (ht:H t = none):PK (upd H t (.tup [.int i,.int j])) (ws ++ [.ref t]) (qs ++ [(i,j)]):=
 (h.same (Same.new ht)).app (.cons Zaa .nil)
theorem PK.at_ {k:Nat} (h:PK H ws qs) (hk:k < ws.length):∃ t q,ws[k]? = some (.ref t)/\qs[k]? = some q/\H t = some (.tup [.int q.1,.int q.2]):=by
 induction h generalizing k with
 | nil=>cases hk
 | cons a _ ih=>
  cases k with
  | zero=>exact ⟨_,_,rfl,rfl,a⟩
  | succ k=>
   obtain ⟨t,q,e1,e2,e3⟩:=ih (Nat.lt_of_succ_lt_succ hk)
   exact ⟨t,q,e1,e2,e3⟩
theorem PK.take (h:PK H ws qs) (k:Nat):PK H (ws.take k) (qs.take k):=by
 induction h generalizing k with
 | nil=>rw [List.take_nil,List.take_nil]; exact .nil
 | cons a _ ih=>
  cases k with
  | zero=>exact .nil
  | succ k=>exact .cons a (ih k)
theorem PK.drop (h:PK H ws qs) (k:Nat):PK H (ws.drop k) (qs.drop k):=by
 induction h generalizing k with
 | nil=>rw [List.drop_nil,List.drop_nil]; exact .nil
 | cons a h ih=>
  cases k with
  | zero=>exact .cons a h
  | succ k=>exact ih k
theorem PK.prs (h:PK H ws qs):Prs H ws qs:=by
 refine ⟨h.len,fun i x q h1 h2=>?_⟩
 obtain ⟨t,q',e1,e2,e3⟩:=h.at_ (k:=i) (Jap.mp h1).1
 rw [e1] at h1
 rw [e2] at h2
 cases h1
 cases h2
 exact ⟨t,rfl,e3⟩
end
structure OutD (l:Addr) (H:Hp) (p e:Addr) (n:Nat) (xs:List V) (ps:List (Int × Int)) (H':Hp):Prop where
 ext:Ext l H H'
 bag:Bag H' l
 tup:H' p = some (.tup [.int (n:Nat),.ref e])
 lst:H' e = some (.lst xs)
 new:H e = none
 lo:1<=n
 hi:n<=8
 pk:PK H' xs ps
 len:ps.length<=9
 ip:InP (n:Nat) ps
 dp:L3.DPos (Zav n) ps
def Zec (k0 k1:Int):Sp:=fun vs H Q _=>∃ (l:Addr) (k:Int),vs = [.ref l,.int k]/\k0<=k/\k<=k1/\Bag H l/\∀ p e n xs ps H',OutD l H p e n xs ps H'->Q (.ref p) H'
theorem OutD.fin {l p t:Addr} {m:Int} {n:Nat} {xs:List V} {ps:List (Int × Int)} {H H2:Hp} (em:m = n) (ex:Ext l H H2) (b:Bag H2 l) (hp:H2 p = some (.lst xs)) (new:H p = none) (lo:1<=n) (hi:n<=8) (pk:PK H2 xs ps) (len:ps.length<=9) (ip:InP (n:Nat) ps) (dp:L3.DPos (Zav n) ps) (ht:H2 t = none):
  OutD l H t p n xs ps (upd H2 t (.tup [.int m,.ref p])):=
 ⟨ex.trans (Ext.new ht),b.new (b.ne ht),by rw [Zaa,em],by rw [Zaf (Zad hp ht)]; exact hp,new,lo,hi,pk.same (Same.new ht),len,ip,dp⟩
theorem OutD.done {l p t:Addr} {m:Int} {n:Nat} {xs:List V} {ps:List (Int × Int)} {H H2 H5:Hp} (em:m = n) (ex:Ext l H H2) (b:Bag H2 l) (s:Same H2 H5) (hp:H5 p = none) (lo:1<=n) (hi:n<=8) (pk:PK H5 xs ps) (len:ps.length<=9) (ip:InP (n:Nat) ps) (dp:L3.DPos (Zav n) ps) (ht:(upd H5 p (.lst xs)) t = none):
  OutD l H t p n xs ps (upd (upd H5 p (.lst xs)) t (.tup [.int m,.ref p])):=
 have b5:=b.same s
 have e5:Ext l H H5:=ex.trans s.ext
 OutD.fin em (e5.trans (Ext.new hp)) (b5.new (b5.ne hp)) Zaa (e5.free (b5.ne hp) hp) lo hi (pk.same (Same.new hp)) len ip dp ht
theorem aE_at {i:Nat} (h:i < 7):L3.aE[i]? = some ((i:Int),(i:Int) + 1):=by
 have:i = 0\/i = 1\/i = 2\/i = 3\/i = 4\/i = 5\/i = 6:=by omega
 rcases this with rfl | rfl | rfl | rfl | rfl | rfl | rfl <;> rfl
theorem sub_a {n:Nat} {ps:List (Int × Int)} (h1:1<=n) (h8:n<=8) (s:ps.Sublist (L3.aE.take (n - 1))):InP (n:Nat) ps/\L3.DPos (Zav n) ps/\ps.length<=9:=
 ⟨fun q hq=>L3.Zna (L3.okA h1 h8) q (s.subset hq),L3.Zqd s (L3.base L3.pos_a h8 (L3.okA h1 h8)),by have:=s.length_le; rw [Ja1] at this; omega⟩
theorem Zeb {fr:List (Str × Nat)} {σ:L2.St} {t1 t2:TE} {lo:Int} {n:Nat} {D:Addr} {H1:Hp} {Q:VK} (a b:Nat->Int) (hD:H1 D = none) (hn:n<=9)
  (h1:∀ i H Q,i < n->Q (.int (a i)) H->t1 (some (.int (lo + (i:Nat))) :: Zcr fr σ) H Q) (h2:∀ i H Q,i < n->Q (.int (b i)) H->t2 (some (.int (lo + (i:Nat))) :: Zcr fr σ) H Q)
  (hQ:∀ xs H',Same H1 H'->H' D = some (.lst xs)->PK H' xs ((List.range n).map fun i=>(a i,b i))->Q (.ref D) H'):
  Zci (Zbe 0) Zhp (tTup (Zf4 t1 (Zf4 t2 Zov))) (Itr lo n) D (Ze3 1 fr σ) H1 Q:=by
 refine Zkn (fun i vs H=>Same H1 H/\H D = some (.lst vs)/\PK H vs ((List.range i).map fun i=>(a i,b i))) ⟨Same.new hD,Zaa,.nil⟩ ?_ (fun vs H ⟨s,e,d⟩=>hQ vs H s e d)
 rintro i x vs σ' H hi rfl sh ⟨s,e,d⟩
 obtain ⟨z,rfl⟩:=sh.one
 simp only [Zdv,Zbe,Zhp,Ja0,Jdu,tTup,Zf4,Zov]
 refine h1 i H _ hi (h2 i H _ hi ⟨by show 2<=sizeLine; decide,fun p hp=>?_⟩)
 have nD:D ≠ p:=Zad e hp
 have e':(upd H p (.tup [.int (a i),.int (b i)])) D = some (.lst vs):=by rw [Zaf nD]; exact e
 have hl:=d.len
 rw [Jab,Jcx] at hl
 refine leaf (ws:=vs ++ [.ref p]) hi Sh.mk1 e' (Zah (by omega)) ⟨(s.trans (Same.new hp)).upd hD,Zaa,?_⟩
 rw [Jeq,Jbf]
 exact (d.snoc hp).put e'
theorem Zpr {f:Addr} {fd:FuncData} (F:Fun K "_law_rest_edges" "_law_rest_edges" Za0 f fd) (T:Txt K mg C) (C_law_draw:Cal P w K mg base "_law_draw" 1 Zdx):FnOk P w K mg base CX0 2 f fd ["_law_bag_here","_law_way"] (Zec 4 4):=by
 have nd:=Zcv.nd
 refine F.ok Zcv (fun vs H Q E h=>?_) (fun cdv A outer s H vs Q E hr h=>?_)
 ·obtain ⟨l,k,rfl,_⟩:=h
  rfl
 ·obtain ⟨l,k,rfl,k0,k1,hb,q⟩:=h
  have ek:k = 4:=by omega
  subst ek
  refine ⟨_,((Zao (i:=2) nd rfl (Or.inl rfl) (@Zbo _ _ _ _ Zab))<*>((Zao (i:=3) nd rfl (Or.inl rfl) (Za5<|>Zac<&&>(Zct C_law_draw hr.m rfl ((pv 0)<&>(Zac<&>Zab)))))<*>((@Zbl _ _ _ _ _ _ _ _ (Zaj Zdw (pv 1) Zac (Zat _)) (@Zal _ _ _ (Zb7 Jbp rfl (Zmx rfl T.n_range (Zac<&>((pv 3)<&>Zab))) (@Zag _ _ 4 _ nd rfl (Or.inl rfl) (Or.inl rfl)) (@Zal _ _ _ (@Zbl _ _ _ _ _ _ _ _ (Zaj Zh0 (Zct C_law_draw hr.m rfl ((pv 0)<&>(Zac<&>Zab))) Zac (Zat _)) (@Zal _ _ _ (Zb5 (Zep Ja4 Jbq Jbr Zba (pv 2) ((@Zam _ _ _ _ _ ((Zdp<|>(pv 4)<&&>Zac)<&>((pv 4)<&>Zab)))<&>Zab)))) Zas)))) (@Zal _ _ _ (@Zbl _ _ _ _ _ _ _ _ (Zaj Zdw (pv 1) Zac (Zat _)) (@Zal _ _ _ (Zb7 Jbp rfl (Zf6 rfl T.n_range ((Zct C_law_draw hr.m rfl ((pv 0)<&>(Zac<&>Zab)))<&>Zab)) (@Zag _ _ 4 _ nd rfl (Or.inl rfl) (Or.inl rfl)) ((Zao (i:=5) nd rfl (Or.inl rfl) (Zct C_law_draw hr.m rfl ((pv 0)<&>((pv 3)<&>Zab))))<*>(@Zal _ _ _ (Zb5 (Zep Ja4 Jbq Jbr Zba (pv 2) ((@Zam _ _ _ _ _ ((pv 5)<&>((Zct C_law_draw hr.m rfl ((pv 0)<&>((pv 3)<&>Zab)))<&>Zab)))<&>Zab))))))) (@Zal _ _ _ (Zb7 Jbp rfl (Zmx rfl T.n_range (Zac<&>((pv 3)<&>Zab))) (@Zag _ _ 4 _ nd rfl (Or.inl rfl) (Or.inl rfl)) (@Zal _ _ _ (Zb5 (Zep Ja4 Jbq Jbr Zba (pv 2) ((@Zam _ _ _ _ _ ((Zct C_law_draw hr.m rfl ((pv 0)<&>((pv 4)<&>Zab)))<&>((pv 4)<&>Zab)))<&>Zab)))))))))<*>(~~~(@Zam _ _ _ _ _ ((pv 3)<&>((pv 2)<&>Zab))))))),?_⟩
  walk_at "wp"
  refine ⟨by decide,fun p hp=>?_⟩
  have hpl:=hb.ne hp
  refine (hb.new hpl).draw (by decide) (by decide) fun x H2 x0 x1 e2 b2=>⟨x,rfl,?_⟩
  have hp2:H2 p = some (.lst []):=e2 _ _ hpl Zaa
  have ex2:Ext l H H2:=(Ext.new hp).trans e2
  obtain ⟨n,en⟩:∃ n:Nat,1 + x = n:=⟨(1 + x).toNat,by omega⟩
  refine Zd1 (fun _=>?_) (fun z=>(z rfl).elim)
  refine ⟨_,rfl,1,1 + x,rfl,⟨by decide,by decide,by omega,by omega⟩,Zcn (fun i σ H3=>∃ (xs:List V) (ps:List (Int × Int)) (v v5:Option V),σ = [some (.ref l),some (.int 4),some (.ref p),some (.int (1 + x)),v,v5]/\Ext l H H3/\Bag H3 l/\H3 p = some (.lst xs)/\PK H3 xs ps/\ps.Sublist (L3.aE.take i))
   ⟨[],[],none,none,rfl,ex2,b2,hp2,.nil,List.Sublist.refl _⟩ ?_ ?_⟩
  ·rintro i σ H3 hi ⟨xs,ps,v,v5,rfl,ex,b,hx,d,sb⟩
   have ls:=sb.length_le
   rw [Ja1] at ls
   have lx:=d.len
   have et:L3.aE.take (i + 1) = L3.aE.take i ++ [((i:Int),(i:Int) + 1)]:=by rw [Jbn,aE_at (by omega)]; rfl
   walk_at "wp"
   refine b.draw (by decide) (by decide) fun r H4 r0 r1 e4 b4=>⟨r,rfl,Zd1 (fun _=>?_) (fun _=>?_)⟩
   ·have hx4:H4 p = some (.lst xs):=e4 _ _ hpl hx
    refine ⟨.inl ⟨rfl,_,SqL.of hx4⟩,by decide,fun t ht=>?_⟩
    have nt:p ≠ t:=Zad hx4 ht
    have hx5:(upd H4 t (.tup [.int (1 + (i:Int) - 1),.int (1 + (i:Int))])) p = some (.lst xs):=by rw [Zaf nt]; exact hx4
    refine ⟨_,hx5,Zah (by omega),xs ++ [.ref t],ps ++ [(1 + (i:Int) - 1,1 + (i:Int))],_,_,⟨rfl,rfl⟩,((ex.trans e4).trans (Ext.new ht)).upd hp,(b4.new (b4.ne ht)).new hpl,Zaa,((d.bag b e4).snoc ht).put hx5,?_⟩
    rw [et,show (1 + (i:Int) - 1,1 + (i:Int)) = ((i:Int),(i:Int) + 1) by rw [Int.add_comm 1,Int.add_sub_cancel]]
    exact sb.append (List.Sublist.refl _)
   ·refine ⟨xs,ps,_,_,⟨rfl,rfl⟩,ex.trans e4,b4,e4 _ _ hpl hx,d.bag b e4,?_⟩
    rw [et]
    exact sb.trans (List.sublist_append_left _ _)
  ·rintro σ H3 ⟨xs,ps,v,v5,rfl,ex,b,hx,d,sb⟩
   rw [show (1 + x - 1).toNat = n - 1 by omega] at sb
   obtain ⟨s1,s2,s3⟩:=sub_a (n:=n) (by omega) (by omega) sb
   exact ⟨_,rfl,_,rfl,by show 2<=sizeLine; decide,fun t ht=>q _ _ _ _ _ _ (OutD.fin en ex b hx hp (by omega) (by omega) d s3 s1 s2 ht)⟩
end
end Pf
namespace Pf
open PySem L2 PyProof.Rows
section
variable {P:Program} {w:World} {K:PySem.W.Frag} {mg:Str->Option Value} {base:Heap} {C:Addr}
theorem rngA {n:Nat} (h1:1<=n) (h8:n<=8):((List.range (n - 1)).map fun i:Nat=>(0 + (i:Int),0 + (i:Int) + 1)) = L3.aE.take (n - 1):=
 L3.to8 (P:=fun n=>((List.range (n - 1)).map fun i:Nat=>(0 + (i:Int),0 + (i:Int) + 1)) = L3.aE.take (n - 1)) h1 h8 rfl rfl rfl rfl rfl rfl rfl rfl
theorem rngD {n:Nat} (h1:4<=n) (h8:n<=8):([((0:Int),(1:Int)),(0,2),(0,3)] ++ (List.range (n - 4)).map fun i:Nat=>(3 + (i:Int),3 + (i:Int) + 1)) = L3.dE.take (n - 1):=by
 have:n = 4\/n = 5\/n = 6\/n = 7\/n = 8:=by omega
 rcases this with rfl | rfl | rfl | rfl | rfl <;> rfl
theorem rngE {n:Nat} (h1:6<=n) (h8:n<=8):([((0:Int),(1:Int)),(0,2),(2,3),(0,4)] ++ (List.range (n - 5)).map fun i:Nat=>(4 + (i:Int),4 + (i:Int) + 1)) = L3.eE.take (n - 1):=by
 have:n = 6\/n = 7\/n = 8:=by omega
 rcases this with rfl | rfl | rfl <;> rfl
theorem Zdr {E8:List (Int × Int)} {n:Nat} (d:L3.DPos (L3.pN 8) E8) (l8:E8.length = 7) (n8:n<=8) (h:L3.okB E8 n = true):(E8.take (n - 1)).length<=9/\InP (n:Nat) (E8.take (n - 1))/\L3.DPos (Zav n) (E8.take (n - 1)):=
 ⟨by rw [Ja1]; omega,L3.Zna h,L3.base d n8 h⟩
theorem Zm8 {f:Addr} {fd:FuncData} (F:Fun K "_law_edges" "_law_edges" Zbz f fd) (T:Txt K mg C) (C_law_draw:Cal P w K mg base "_law_draw" 1 Zdx) (C_law_bad_edges:Cal P w K mg base "_law_bad_edges" 2 (spOut way0)) (C_law_rest_edges:Cal P w K mg base "_law_rest_edges" 2 (Zec 4 4)):FnOk P w K mg base CX0 3 f fd ["_law_bag_here","_law_way"] (Zec 0 4):=by
 have nd:=Zez.nd
 refine F.ok Zez (fun vs H Q E h=>?_) (fun cdv A outer s H vs Q E hr h=>?_)
 ·obtain ⟨l,k,rfl,_⟩:=h
  rfl
 ·obtain ⟨l,k,rfl,k0,k1,hb,q⟩:=h
  refine ⟨_,((@Zbl _ _ _ _ _ _ _ _ (Zaj Zpn (pv 1) Zac (Zat _)) ((Zao (i:=2) nd rfl (Or.inl rfl) (Za5<|>Zac<&&>(Zct C_law_draw hr.m rfl ((pv 0)<&>(Zac<&>Zab)))))<*>(~~~(@Zam _ _ _ _ _ ((pv 2)<&>((Zbj (own:=["_law_k"]) (fr:=[]) rfl (Zcp (by kernel_rfl)) (Zf6 rfl T.n_range ((Zdp<|>(pv 2)<&&>Zac)<&>Zab)) (fun _ _ _ _=>⟨(@Zag _ _ 0 _ (show (["_law_k"]:List Str).Nodup by decide +kernel) rfl (Or.inl rfl) (Or.inr rfl)),Zbn,(@Zam _ _ _ _ _ ((pv 0)<&>((Za5<|>(pv 0)<&&>Zac)<&>Zab)))⟩))<&>Zab))))) Zas)<*>((@Zbl _ _ _ _ _ _ _ _ (Zaj Zdw (pv 1) Zac (Zat _)) ((Zao (i:=2) nd rfl (Or.inl rfl) (Za5<|>Zac<&&>(Zct C_law_draw hr.m rfl ((pv 0)<&>(Zac<&>Zab)))))<*>(~~~(@Zam _ _ _ _ _ ((pv 2)<&>((Zfr<|>(@Zbo _ _ _ _ ((@Zam _ _ _ _ _ (Zac<&>(Zac<&>Zab)))<&>((@Zam _ _ _ _ _ (Zac<&>(Zac<&>Zab)))<&>((@Zam _ _ _ _ _ (Zac<&>(Zac<&>Zab)))<&>Zab))))<&&>(Zbj (own:=["_law_k"]) (fr:=[]) rfl (Zcp (by kernel_rfl)) (Zmx rfl T.n_range (Zac<&>((Zdp<|>(pv 2)<&&>Zac)<&>Zab))) (fun _ _ _ _=>⟨(@Zag _ _ 0 _ (show (["_law_k"]:List Str).Nodup by decide +kernel) rfl (Or.inl rfl) (Or.inr rfl)),Zbn,(@Zam _ _ _ _ _ ((pv 0)<&>((Za5<|>(pv 0)<&&>Zac)<&>Zab)))⟩)))<&>Zab))))) Zas)<*>((@Zbl _ _ _ _ _ _ _ _ (Zaj Zdw (pv 1) Zac (Zat _)) ((Zao (i:=2) nd rfl (Or.inl rfl) (Za5<|>Zac<&&>(Zct C_law_draw hr.m rfl ((pv 0)<&>(Zac<&>Zab)))))<*>(~~~(@Zam _ _ _ _ _ ((pv 2)<&>((Zfr<|>(@Zbo _ _ _ _ ((@Zam _ _ _ _ _ (Zac<&>(Zac<&>Zab)))<&>((@Zam _ _ _ _ _ (Zac<&>(Zac<&>Zab)))<&>((@Zam _ _ _ _ _ (Zac<&>(Zac<&>Zab)))<&>((@Zam _ _ _ _ _ (Zac<&>(Zac<&>Zab)))<&>Zab)))))<&&>(Zbj (own:=["_law_k"]) (fr:=[]) rfl (Zcp (by kernel_rfl)) (Zmx rfl T.n_range (Zac<&>((Zdp<|>(pv 2)<&&>Zac)<&>Zab))) (fun _ _ _ _=>⟨(@Zag _ _ 0 _ (show (["_law_k"]:List Str).Nodup by decide +kernel) rfl (Or.inl rfl) (Or.inr rfl)),Zbn,(@Zam _ _ _ _ _ ((pv 0)<&>((Za5<|>(pv 0)<&&>Zac)<&>Zab)))⟩)))<&>Zab))))) Zas)<*>((@Zbl _ _ _ _ _ _ _ _ (Zaj Zdw (pv 1) Zac (Zat _)) (~~~(Zct C_law_bad_edges hr.m rfl ((pv 0)<&>Zab))) Zas)<*>(~~~(Zct C_law_rest_edges hr.m rfl ((pv 0)<&>((pv 1)<&>Zab)))))))),?_⟩
  walk_at "wp"
  refine Zd1 (fun _=>?_) (fun c1=>Zd1 (fun _=>?_) (fun c2=>Zd1 (fun _=>?_) (fun c3=>Zd1 (fun c4=>?_) (fun _=>⟨l,k,rfl,?_,k1,hb,q⟩))))
  ·refine hb.draw (by decide) (by decide) fun r H2 r0 r1 e2 b2=>⟨r,rfl,?_⟩
   obtain ⟨n,en⟩:∃ n:Nat,1 + r = n:=⟨(1 + r).toNat,by omega⟩
   refine ⟨_,rfl,_,_,rfl,rfl,_,rfl,by omega,by omega,fun D hD=>Zeb (fun i=>0 + (i:Int)) (fun i=>0 + (i:Int) + 1) hD (by omega) (fun i H Q _ h=>⟨_,rfl,h⟩) (fun i H Q _ h=>⟨_,rfl,_,_,rfl,rfl,h⟩) fun xs H' s e d=>⟨by decide,fun t ht=>?_⟩⟩
   rw [show (1 + r - 1).toNat = n - 1 by omega,rngA (by omega) (by omega)] at d
   obtain ⟨a1,a2,a3⟩:=Zdr (n:=n) L3.pos_a rfl (by omega) (L3.okA (by omega) (by omega))
   exact q _ _ _ _ _ _ (OutD.fin en (e2.trans s.ext) (b2.same s) e (e2.free (b2.ne hD) hD) (by omega) (by omega) d a1 a2 a3 ht)
  ·refine hb.draw (by decide) (by decide) fun r H2 r0 r1 e2 b2=>⟨r,rfl,?_⟩
   obtain ⟨n,en⟩:∃ n:Nat,4 + r = n:=⟨(4 + r).toNat,by omega⟩
   refine ⟨by decide,fun p1 h1=>⟨by decide,fun p2 h2=>⟨by decide,fun p3 h3=>⟨by decide,fun p4 h4=>?_⟩⟩⟩⟩
   have D1:=(PK.nil (H:=H2)).snoc (i:=0) (j:=1) h1
   have D2:=D1.snoc (i:=0) (j:=2) h2
   have D3:=D2.snoc (i:=0) (j:=3) h3
   have S4:=(((Same.new h1).trans (Same.new h2)).trans (Same.new h3)).trans (Same.new (o:=.lst [.ref p1,.ref p2,.ref p3]) h4)
   refine ⟨_,rfl,_,_,rfl,rfl,_,_,rfl,⟨by decide,by decide,by omega,by omega⟩,fun D hD=>Zeb (fun i=>3 + (i:Int)) (fun i=>3 + (i:Int) + 1) hD (by omega) (fun i H Q _ h=>⟨_,rfl,h⟩) (fun i H Q _ h=>⟨_,rfl,_,_,rfl,rfl,h⟩)
    fun xs H' s e d=>⟨D,rfl,_,s _ _ Zaa,_,e,Jbs (Zah ?_),fun p6 h6=>⟨by decide,fun p7 h7=>?_⟩⟩⟩
   ·have:=d.len
    rw [Jab,Jcx] at this
    show 3 + xs.length<=1000
    omega
   ·have dd:=((D3.same (Same.new h4)).same s).app d
    rw [show (4 + r - 1 - 3).toNat = n - 4 by omega] at dd
    have dd':PK H' ([V.ref p1,V.ref p2,V.ref p3] ++ xs) (L3.dE.take (n - 1)):=by rw [<- rngD (by omega) (by omega)]; exact dd
    obtain ⟨a1,a2,a3⟩:=Zdr (n:=n) L3.pos_d rfl (by omega) (L3.okD (by omega) (by omega))
    exact q _ _ _ _ _ _ (OutD.done en e2 b2 (S4.trans s) h6 (by omega) (by omega) dd' a1 a2 a3 h7)
  ·refine hb.draw (by decide) (by decide) fun r H2 r0 r1 e2 b2=>⟨r,rfl,?_⟩
   obtain ⟨n,en⟩:∃ n:Nat,6 + r = n:=⟨(6 + r).toNat,by omega⟩
   refine ⟨by decide,fun p1 h1=>⟨by decide,fun p2 h2=>⟨by decide,fun p3 h3=>⟨by decide,fun p4 h4=>⟨by decide,fun p5 h5=>?_⟩⟩⟩⟩⟩
   have D1:=(PK.nil (H:=H2)).snoc (i:=0) (j:=1) h1
   have D2:=D1.snoc (i:=0) (j:=2) h2
   have D3:=D2.snoc (i:=2) (j:=3) h3
   have D4:=D3.snoc (i:=0) (j:=4) h4
   have S5:=((((Same.new h1).trans (Same.new h2)).trans (Same.new h3)).trans (Same.new h4)).trans (Same.new (o:=.lst [.ref p1,.ref p2,.ref p3,.ref p4]) h5)
   refine ⟨_,rfl,_,_,rfl,rfl,_,_,rfl,⟨by decide,by decide,by omega,by omega⟩,fun D hD=>Zeb (fun i=>4 + (i:Int)) (fun i=>4 + (i:Int) + 1) hD (by omega) (fun i H Q _ h=>⟨_,rfl,h⟩) (fun i H Q _ h=>⟨_,rfl,_,_,rfl,rfl,h⟩)
    fun xs H' s e d=>⟨D,rfl,_,s _ _ Zaa,_,e,Jbs (Zah ?_),fun p6 h6=>⟨by decide,fun p7 h7=>?_⟩⟩⟩
   ·have:=d.len
    rw [Jab,Jcx] at this
    show 4 + xs.length<=1000
    omega
   ·have dd:=((D4.same (Same.new h5)).same s).app d
    rw [show (6 + r - 1 - 4).toNat = n - 5 by omega] at dd
    have dd':PK H' ([V.ref p1,V.ref p2,V.ref p3,V.ref p4] ++ xs) (L3.eE.take (n - 1)):=by rw [<- rngE (by omega) (by omega)]; exact dd
    obtain ⟨a1,a2,a3⟩:=Zdr (n:=n) L3.pos_e rfl (by omega) (L3.okE (by omega) (by omega))
    exact q _ _ _ _ _ _ (OutD.done en e2 b2 (S5.trans s) h6 (by omega) (by omega) dd' a1 a2 a3 h7)
  ·have:=Jav c4
   omega
  ·have h1:¬ k < 2:=fun z=>c1 (Ja2 z)
   have h2:¬ k = 2:=fun z=>c2 (by rw [z]; rfl)
   have h3:¬ k = 3:=fun z=>c3 (by rw [z]; rfl)
   omega
def sE (X:Int->Int) (ys:List Int) (es:List (Int × Int)):Int:=L3.sI (fun e=>X (L3.gt ys e.1) * X (L3.gt ys e.2)) es
def sR (X:Int->Int) (es:List (Int × Int)):Int:=L3.sI (fun e=>X e.1 * X e.2) es
theorem sE_out {X:Int->Int} {ys:List Int} {es:List (Int × Int)} {k:Nat} {q:Int × Int} (h:es[k]? = some q):sE X ys es = X (L3.gt ys q.1) * X (L3.gt ys q.2) + sE X ys (es.take k ++ es.drop (k + 1)):=by
 obtain ⟨hk,rfl⟩:=Jap.mp h
 have e:es = es.take k ++ es[k] :: es.drop (k + 1):=by rw [Jet,Jbt]
 unfold sE
 conv=>lhs; rw [e]
 rw [L3.Zee,L3.Zee]
 show _ + (X (L3.gt ys es[k].1) * X (L3.gt ys es[k].2) + _) = _
 omega
theorem sR_add {X:Int->Int} {es:List (Int × Int)} {a b:Int}:sR X (es ++ [(a,b)]) = sR X es + X a * X b:=by
 unfold sR
 rw [L3.Zee]
 show _ + (_ + 0) = _
 rw [Jef]
theorem gt_at {ys:List Int} {i:Int} (h:i.toNat < ys.length):L3.gt ys i = ys[i.toNat]:=by
 unfold L3.gt
 rw [Jbl,Jac h]; rfl
theorem Zm9 {f:Addr} {fd:FuncData} (F:Fun K "_law_drawn" "_law_drawn" Zb0 f fd) (T:Txt K mg C) (C_law_draw:Cal P w K mg base "_law_draw" 1 Zdx) (C_law_edges:Cal P w K mg base "_law_edges" 3 (Zec 0 4)) (C_law_order:Cal P w K mg base "_law_order" 2 Zl3):FnOk P w K mg base CX0 4 f fd ["_law_bag_here","_law_way"] (Zec 0 4):=by
 have nd:=Ze0.nd
 refine F.ok Ze0 (fun vs H Q E h=>?_) (fun cdv A outer s H vs Q E hr h=>?_)
 ·obtain ⟨l,k,rfl,_⟩:=h
  rfl
 ·obtain ⟨l,k,rfl,k0,k1,hb,q⟩:=h
  refine ⟨_,((Zeg (Zct C_law_edges hr.m rfl ((pv 0)<&>((pv 1)<&>Zab))) (@Zgd _ _ _ _ _ 2 rfl (@Zbf _ _ _ _ _ (@Zag _ _ 2 _ nd rfl (Or.inl rfl) (Or.inl rfl)) (@Zbf _ _ _ _ _ (@Zag _ _ 3 _ nd rfl (Or.inl rfl) (Or.inl rfl)) (@Zd6 _) (by rfl)) (by rfl)) (by rfl) (by rfl)))<*>((Zao (i:=4) nd rfl (Or.inl rfl) (Zct C_law_order hr.m rfl ((pv 0)<&>((pv 2)<&>Zab))))<*>((Zao (i:=5) nd rfl (Or.inl rfl) (@Zbo _ _ _ _ Zab))<*>((Zg2 Jbp (Zaj Zh0 (Zb2 Zaq rfl T.n_len Jcd ((pv 3)<&>Zab)) Zac (Zat _)) ((Zao (i:=6) nd rfl (Or.inl rfl) (Zct C_law_draw hr.m rfl ((pv 0)<&>((Zb2 Zaq rfl T.n_len Jcd ((pv 3)<&>Zab))<&>Zab))))<*>((Zeg (Zaw<|>(pv 3)<||>(pv 6)) (@Zgd _ _ _ _ _ 2 rfl (@Zbf _ _ _ _ _ (@Zag _ _ 7 _ nd rfl (Or.inl rfl) (Or.inl rfl)) (@Zbf _ _ _ _ _ (@Zag _ _ 8 _ nd rfl (Or.inl rfl) (Or.inl rfl)) (@Zd6 _) (by rfl)) (by rfl)) (by rfl) (by rfl)))<*>((Zao (i:=3) nd rfl (Or.inl rfl) (Zfr<|>(@Zb8 _ _ _ _ _ _ _ _ _ _ Zc5 (pv 3) Zc9 (@Zc8 _ _ _ (pv 6)))<&&>(@Zb8 _ _ _ _ _ _ _ _ _ _ Zc5 (pv 3) (@Zc8 _ _ _ (Za5<|>(pv 6)<&&>Zac)) Zc9)))<*>((@Zbl _ _ _ _ _ _ _ _ (Zaj Zdw (Zct C_law_draw hr.m rfl ((pv 0)<&>(Zac<&>Zab))) Zac (Zat _)) (@Zal _ _ _ (ps_par (i:=7) (j:=8) rfl nd rfl rfl (by decide) rfl rfl ((pv 8)<&>((pv 7)<&>Zab)) rfl)) Zas)<*>(@Zal _ _ _ (Zb5 (Zep Ja4 Jbq Jbr Zba (pv 5) ((@Zam _ _ _ _ _ ((Zaw<|>(pv 4)<||>(pv 7))<&>((Zaw<|>(pv 4)<||>(pv 8))<&>Zab)))<&>Zab)))))))))<*>(~~~(@Zam _ _ _ _ _ ((pv 2)<&>((pv 5)<&>Zab)))))))),?_⟩
  walk_at "wp"
  refine ⟨l,k,rfl,k0,k1,hb,fun p e n xs ps H1 O=>⟨p,rfl,_,SqT.of O.tup,rfl,_,_,rfl,_,_,rfl,rfl,?_⟩⟩
  have m0:=O.lo
  have m8:=O.hi
  refine ⟨l,(n:Nat),rfl,O.bag,by omega,by omega,fun po ys H2 ex2 b2 hpo hpo2 hlen inr ndy=>⟨by decide,fun pa hpa=>?_⟩⟩
  have nel:e ≠ l:=hb.ne O.new
  have e2e:H2 e = some (.lst xs):=ex2 _ _ nel O.lst
  have nal:pa ≠ l:=b2.ne hpa
  have nae:e ≠ pa:=Zad e2e hpa
  have nao:po ≠ pa:=Zad hpo2 hpa
  have exH:Ext l H H2:=O.ext.trans ex2
  have fpa:H pa = none:=exH.free nal hpa
  have noe:e ≠ po:=(Zad O.lst hpo)
  have nol:po ≠ l:=O.bag.ne hpo
  have perm:=L3.perm_pN (n:=n) ndy (by omega) inr
  refine ⟨fun c σ H3=>∃ (pl:Addr) (ls as:List V) (lq aq:List (Int × Int)) (v6 v7 v8:Option V),σ = [some (.ref l),some (.int k),some (.int (n:Nat)),some (.ref pl),some (.ref po),some (.ref pa),v6,v7,v8]/\c = ls.length/\Ext l H H3/\Bag H3 l /\
   H3 pl = some (.lst ls)/\H3 po = some (.lst (ys.map V.int))/\H3 pa = some (.lst as)/\pl ≠ l/\pl ≠ pa/\ls.length + as.length<=9/\PK H3 ls lq/\PK H3 as aq/\InP (n:Nat) lq/\InP (n:Nat) aq/\∀ X,sR X aq + sE X ys lq = sE X ys ps,?_,?_⟩
  ·exact ⟨_,e,xs,[],ps,[],none,none,none,rfl,rfl,exH.trans (Ext.new hpa),b2.new nal,by rw [Zaf nae]; exact e2e,by rw [Zaf nao]; exact hpo2,Zaa,nel,nae,by have h1:=O.len; have h2:=O.pk.len; show xs.length + 0<=9; omega,(O.pk.bag O.bag ex2).same (Same.new hpa),.nil,O.ip,(fun _ h=>nomatch h),fun X=>Int.zero_add _⟩
  ·rintro c σ H3 ⟨pl,ls,as,lq,aq,v6,v7,v8,rfl,rfl,ex,b,hpl,hpo3,hpa3,n1,n2,hl,dl,da,il,ia,sm⟩
   walk_at "wp"
   refine ⟨_,.inl (SqL.of hpl),Zd1 (fun hc=>?_) (fun hc=>?_)⟩
   ·have hc:=Jav hc
    refine ⟨_,fun _ _ h=>h,?_⟩
    walk_at "wp"
    refine ⟨_,.inl (SqL.of hpl),b.draw hc (by omega) fun r H4 r0 r1 e4 b4=>?_⟩
    have hr1:r.toNat < ls.length:=by omega
    have hpl4:=e4 _ _ n1 hpl
    have hpo4:=e4 _ _ nol hpo3
    have hpa4:=e4 _ _ nal hpa3
    have dl4:=dl.bag b e4
    have da4:=da.bag b e4
    obtain ⟨t,qq,hx,hq,ht4⟩:=dl4.at_ hr1
    obtain ⟨i0,i1,j0,j1⟩:=il qq (Jan hq)
    have gi:=gt_at (ys:=ys) (i:=qq.1) (by omega)
    have gj:=gt_at (ys:=ys) (i:=qq.2) (by omega)
    have so:=fun X=>sE_out (X:=X) (ys:=ys) hq
    refine ⟨ls,r,rfl,SqL.of hpl4,.ref t,Zbw r0 hx,t,rfl,_,SqT.of ht4,rfl,_,_,rfl,_,_,rfl,rfl,r,rfl,ls,SqL.of hpl4,fun p2 h2=>⟨r,rfl,ls,SqL.of (by rw [Zaf (Zad hpl4 h2)]; exact hpl4),fun p3 h3=>?_⟩⟩
    have l1:=Zoe ls r r0 (by omega)
    have l2:=Zof ls (r + 1) (by omega) (by omega)
    rw [show (r + 1).toNat = r.toNat + 1 by omega] at l2
    have hNL:(Zeu ls none (some r) ++ Zeu ls (some (r + 1)) none).length < ls.length:=by
     rw [l1,l2,Jaj,Ja1,Jcv]; omega
    refine ⟨Zeu ls none (some r),by rw [Zaf (Zad Zaa h3)]; exact Zaa,_,Zaa,Jbs (Zah (by rw [Jaj] at hNL; omega)),fun p4 h4=>?_⟩
    have S6:=(Same.new (o:=.lst (Zeu ls none (some r))) h2).trans (Same.new (o:=.lst (Zeu ls (some (r + 1)) none)) h3)
    have S:=S6.trans (Same.new (o:=.lst (Zeu ls none (some r) ++ Zeu ls (some (r + 1)) none)) h4)
    have b7:=b4.same S
    have p4nl:p4 ≠ l:=(b4.same S6).ne h4
    have npa4:pa ≠ p4:=Zad (S6 _ _ hpa4) h4
    refine b7.draw (by decide) (by decide) fun z H8 z0 z1 e8 b8=>⟨rfl,?_⟩
    have pa8:=e8 _ _ nal (S _ _ hpa4)
    have po8:=e8 _ _ nol (S _ _ hpo4)
    have p48:=e8 _ _ p4nl Zaa
    have exH8:Ext l H H8:=(ex.trans e4).trans (S.ext.trans e8)
    have dN8:PK H8 (Zeu ls none (some r) ++ Zeu ls (some (r + 1)) none) (lq.take r.toNat ++ lq.drop (r.toNat + 1)):=by
     rw [l1,l2]
     exact (((dl4.take r.toNat).app (dl4.drop (r.toNat + 1))).same S).bag b7 e8
    have da8:=(da4.same S).bag b7 e8
    have iN:InP (n:Nat) (lq.take r.toNat ++ lq.drop (r.toNat + 1)):=fun y hy=>by
     rcases Jbd.mp hy with h | h
     ·exact il y (Jd5 h)
     ·exact il y (Jd4 h)
    have ia1:=inr _ (Jcc (show qq.1.toNat < ys.length by omega))
    have ia2:=inr _ (Jcc (show qq.2.toNat < ys.length by omega))
    have a1:atI (ys.map V.int) qq.1 = some (V.int (ys[qq.1.toNat]'(by omega))):=Zbw i0 (by rw [Jbe,Jac (by omega)]; rfl)
    have a2:atI (ys.map V.int) qq.2 = some (V.int (ys[qq.2.toNat]'(by omega))):=Zbw j0 (by rw [Jbe,Jac (by omega)]; rfl)
    generalize ys[qq.1.toNat]'(by omega) = y1 at *
    generalize ys[qq.2.toNat]'(by omega) = y2 at *
    have fin:∀ (u v:Int) (w6 w7 w8:Option V),(∀ X:Int->Int,X u * X v = X (L3.gt ys qq.1) * X (L3.gt ys qq.2))->0<=u->u < (n:Nat)->0<=v->v < (n:Nat)->∀ p5,H8 p5 = none->∃ m',m' < ls.length/\∃ (pl':Addr) (ls' as':List V) (lq' aq':List (Int × Int)) (u6 u7 u8:Option V),
      (p4 = pl'/\w6 = u6/\w7 = u7/\w8 = u8)/\m' = ls'.length/\Ext l H (upd (upd H8 p5 (.tup [.int u,.int v])) pa (.lst (as ++ [.ref p5])))/\Bag (upd (upd H8 p5 (.tup [.int u,.int v])) pa (.lst (as ++ [.ref p5]))) l /\
      (upd (upd H8 p5 (.tup [.int u,.int v])) pa (.lst (as ++ [.ref p5]))) pl' = some (.lst ls')/\(upd (upd H8 p5 (.tup [.int u,.int v])) pa (.lst (as ++ [.ref p5]))) po = some (.lst (ys.map V.int))/\(upd (upd H8 p5 (.tup [.int u,.int v])) pa (.lst (as ++ [.ref p5]))) pa = some (.lst as')/\pl' ≠ l/\pl' ≠ pa/\ls'.length + as'.length<=9/\PK (upd (upd H8 p5 (.tup [.int u,.int v])) pa (.lst (as ++ [.ref p5]))) ls' lq'/\PK (upd (upd H8 p5 (.tup [.int u,.int v])) pa (.lst (as ++ [.ref p5]))) as' aq'/\InP (n:Nat) lq'/\InP (n:Nat) aq'/\∀ X,sR X aq' + sE X ys lq' = sE X ys ps:=by
     intro u v w6 w7 w8 hX u0 u1 v0 v1 p5 h5
     have pa9:(upd H8 p5 (.tup [.int u,.int v])) pa = some (.lst as):=by rw [Zaf (Zad pa8 h5)]; exact pa8
     have n5:p4 ≠ p5:=Zad p48 h5
     have n5o:po ≠ p5:=Zad po8 h5
     have hL:(as ++ [V.ref p5]).length = as.length + 1:=by rw [Jaj]; rfl
     refine ⟨_,hNL,p4,_,as ++ [.ref p5],_,aq ++ [(u,v)],w6,w7,w8,⟨rfl,rfl,rfl,rfl⟩,rfl,(exH8.trans (Ext.new h5)).upd fpa,(b8.new (b8.ne h5)).new nal,by rw [Zaf npa4.symm,Zaf n5]; exact p48,by rw [Zaf nao,Zaf n5o]; exact po8,Zaa,p4nl,npa4.symm,by rw [hL]; omega,(dN8.same (Same.new h5)).put pa9,(da8.snoc h5).put pa9,iN,fun y hy=>?_,fun X=>?_⟩
     ·rcases Jbd.mp hy with h | h
      ·exact ia y h
      ·rw [Jaz.mp h]; exact ⟨u0,u1,v0,v1⟩
     ·have h1:=sm X
      have h2:=so X
      rw [sR_add,hX X]
      omega
    refine Zd1 (fun _=>?_) (fun _=>?_)
    ·refine ⟨_,_,⟨rfl,rfl⟩,.inl ⟨rfl,_,SqL.of pa8⟩,_,qq.2,rfl,SqL.of po8,_,a2,_,qq.1,rfl,SqL.of po8,_,a1,by decide,fun p5 h5=>?_⟩
     have pa9:(upd H8 p5 (.tup [V.int y2,V.int y1])) pa = some (.lst as):=by rw [Zaf (Zad pa8 h5)]; exact pa8
     have f:=fin y2 y1 (some (.int r)) (some (.int qq.2)) (some (.int qq.1)) (fun X=>by rw [gi,gj,Int.mul_comm]) ia2.1 ia2.2 ia1.1 ia1.2 p5 h5
     exact ⟨as,pa9,Zah (by omega),f⟩
    ·refine ⟨.inl ⟨rfl,_,SqL.of pa8⟩,_,qq.1,rfl,SqL.of po8,_,a1,_,qq.2,rfl,SqL.of po8,_,a2,by decide,fun p5 h5=>?_⟩
     have pa9:(upd H8 p5 (.tup [V.int y1,V.int y2])) pa = some (.lst as):=by rw [Zaf (Zad pa8 h5)]; exact pa8
     have f:=fin y1 y2 (some (.int r)) (some (.int qq.1)) (some (.int qq.2)) (fun X=>by rw [gi,gj]) ia1.1 ia1.2 ia2.1 ia2.2 p5 h5
     exact ⟨as,pa9,Zah (by omega),f⟩
   ·have hc:¬ (0:Int) < (ls.length:Nat):=fun z=>hc (Ja2 z)
    have lz:lq = []:=Jc4.mp (by have:=dl.len; omega)
    subst lz
    refine ⟨by decide,fun t ht=>q _ _ _ _ _ _ (OutD.fin rfl ex b hpa3 fpa m0 m8 da (by have:=da.len; omega) ia ?_ ht)⟩
    exact L3.Zn8 perm (fun X=>by have:=sm X; unfold sR sE at this; rw [<- this]; show _ = _ + 0; rw [Jef]) O.dp
def LkR (n:Nat) (r:List Int):Prop:=r.length = n/\∀ v ∈ r,0<=v/\v<=300
theorem LkR.of {n:Nat} {r:List Int} {v:Int} {k:Nat} (hl:r.length = k) (h:∀ v ∈ r,0<=v/\v<=300) (v0:0<=v) (v1:v<=300):(r ++ [v]).length = k + 1/\∀ u ∈ r ++ [v],0<=u/\u<=300:=
 ⟨by rw [Jaj,hl]; rfl,fun u hu=>by
  rcases Jbd.mp hu with hu | hu
  ·exact h u hu
  ·rw [Jaz.mp hu]; exact ⟨v0,v1⟩⟩
def Zin:Sp:=fun vs H Q _=>∃ n:Nat,vs = [.int (n:Nat)]/\1<=n/\n<=5/\∀ (t:Addr) (ws:List V) (rows:List (List Int)) (H':Hp),Same H H'->H t = none->H' t = some (.lst ws)->RK t H' ws rows->(∀ r ∈ rows,LkR n r)->ws.length<=300->Q (.ref t) H'
theorem Zpp {f:Addr} {fd:FuncData} (F:Fun K "_law_small" "_law_small" Zbx f fd) (T:Txt K mg C):FnOk P w K mg base CX0 1 f fd ["_law_many"] Zin:=by
 have nd:=Zex.nd
 refine F.ok Zex (fun vs H Q E h=>?_) (fun cdv A outer s H vs Q E hr h=>?_)
 ·obtain ⟨n,rfl,_⟩:=h
  rfl
 ·obtain ⟨n,rfl,n1,n5,q⟩:=h
  refine ⟨_,((Zao (i:=1) nd rfl (Or.inl rfl) (@Zbo _ _ _ _ Zab))<*>((Zb7 Jbp rfl (Zf6 rfl T.n_range ((Zaw<|>(@Zbo _ _ _ _ (Zac<&>(Zac<&>(Zac<&>(Zac<&>(Zac<&>(Zac<&>Zab)))))))<||>(pv 0))<&>Zab)) (@Zag _ _ 2 _ nd rfl (Or.inl rfl) (Or.inl rfl)) ((Zao (i:=3) nd rfl (Or.inl rfl) (@Zbo _ _ _ _ Zab))<*>((Zao (i:=4) nd rfl (Or.inl rfl) (pv 2))<*>((Zb7 Jbp rfl (Zf6 rfl T.n_range ((pv 0)<&>Zab)) (@Zag _ _ 5 _ nd rfl (Or.inl rfl) (Or.inl rfl)) ((Zb5 (Zep Ja4 Jbq Jbr Zba (pv 3) ((Zd0<|>(pv 4)<&&>Zac)<&>Zab)))<*>(@Zal _ _ _ (Zao (i:=4) nd rfl (Or.inl rfl) (Zg6<|>(pv 4)<&&>Zac)))))<*>(@Zal _ _ _ (Zb5 (Zep Ja4 Jbq Jbr Zba (pv 1) ((pv 3)<&>Zab))))))))<*>(~~~(pv 1)))),?_⟩
  obtain ⟨c,hat,c1,c2⟩:∃ c:Int,atI [V.int 1,V.int 3,V.int 9,V.int 27,V.int 81,V.int 243] (n:Nat) = some (V.int c)/\0<=c/\c<=243:=by
   have hn:n = 1\/n = 2\/n = 3\/n = 4\/n = 5:=by omega
   rcases hn with rfl | rfl | rfl | rfl | rfl
   ·exact ⟨3,rfl,by decide,by decide⟩
   ·exact ⟨9,rfl,by decide,by decide⟩
   ·exact ⟨27,rfl,by decide,by decide⟩
   ·exact ⟨81,rfl,by decide,by decide⟩
   ·exact ⟨243,rfl,by decide,by decide⟩
  refine Zd2 fun X hX=>?_
  walk_at "wp"
  refine ⟨by decide,fun t ht=>?_⟩
  have s1:=Same.new (o:=.lst []) ht
  have ht1:(upd H t (.lst [])) t = some (.lst []):=Zaa
  generalize upd H t (.lst []) = H1 at *
  subst hX
  refine Zd2 fun X hX=>?_
  refine ⟨by decide,fun p hp=>⟨_,rfl,p,_,(n:Nat),V.int c,rfl,rfl,SqL.of Zaa,hat,c,rfl,by omega,by omega,Zcn (fun i σ Hi=>∃ (v2 v3 v4 v5:Option V) (ws:List V) (rows:List (List Int)),σ = [some (.int (n:Nat)),some (.ref t),v2,v3,v4,v5]/\Same H Hi/\Hi t = some (.lst ws)/\RK t Hi ws rows/\(∀ r ∈ rows,LkR n r)/\ws.length = i)
   ⟨none,none,none,none,[],[],rfl,s1.trans (Same.new hp),(Same.new hp) _ _ ht1,.nil,(fun r h=>by cases h),rfl⟩ ?_ ?_⟩⟩
  ·rintro i σ Hi hi ⟨v2,v3,v4,v5,ws,rows,rfl,si,hit,rk,lk,wl⟩
   simp only [Zbe,Ja0,Jct]
   refine Zd2 fun X1 hX1=>?_
   walk_at "wp"
   refine ⟨by decide,fun r hr0=>?_⟩
   have s2:=Same.new (o:=.lst []) hr0
   have hr1:(upd Hi r (.lst [])) r = some (.lst []):=Zaa
   generalize upd Hi r (.lst []) = H2 at *
   subst hX1
   refine Zd2 fun X1 hX1=>?_
   walk_at "wp"
   subst hX1
   refine Zd2 fun X1 hX1=>?_
   refine ⟨_,rfl,(n:Nat),rfl,by omega,by omega,Zcn (fun k σ Hk=>∃ (z:Int) (v5:Option V) (row:List Int),σ = [some (.int (n:Nat)),some (.ref t),some (.int (0 + (i:Nat))),some (.ref r),some (.int z),v5]/\0<=z/\z<=243/\Same Hi Hk/\Hk r = some (.lst (row.map V.int))/\row.length = k/\∀ v ∈ row,0<=v/\v<=300) ⟨_,v5,[],rfl,by omega,by omega,s2,hr1,rfl,(fun v h=>by cases h)⟩ ?_ ?_⟩
   ·rintro k σ Hk hk ⟨z,v5,row,rfl,z0,z1,sk,hkr,rl,rv⟩
    simp only [Zbe,Ja0,Jct]
    walk_at "wp"
    obtain ⟨w1,w2⟩:=LkR.of (n:=n) (v:=z % 3) rl rv (by omega) (by omega)
    refine ⟨.inl ⟨rfl,_,SqL.of hkr⟩,by decide,_,hkr,Zah (by rw [Jab]; omega),⟨by decide,by decide⟩,_,_,⟨rfl,rfl⟩,by omega,by omega,sk.upd hr0,row ++ [z % 3],?_,w1,w2⟩
    rw [Zaa,Jbf]; rfl
   ·rintro σ Hk ⟨z,v5,row,rfl,z0,z1,sk,hkr,rl,rv⟩
    rw [Jaw] at rl
    have hkt:=sk _ _ hit
    have ntr:r ≠ t:=(Zad hit hr0).symm
    subst hX1
    walk_at "wp"
    refine ⟨.inl ⟨rfl,_,SqL.of hkt⟩,ws,hkt,Zah (by omega),_,_,_,_,⟨rfl,rfl,rfl,rfl⟩,(si.trans sk).upd ht,_,Zaa,rows ++ [row],?_,fun r' hr'=>?_,by rw [Jaj,wl]; rfl⟩
    ·exact (rk.keep fun b vs nb e=>by rw [Zaf nb]; exact sk _ _ e).app (.cons ntr (by rw [Zaf ntr]; exact hkr) .nil)
    ·rcases Jbd.mp hr' with h | h
     ·exact lk r' h
     ·rw [Jaz.mp h]; exact ⟨rl,rv⟩
  ·rintro σ Hi ⟨v2,v3,v4,v5,ws,rows,rfl,si,hit,rk,lk,wl⟩
   subst hX
   exact ⟨_,rfl,q t ws rows Hi si ht hit rk lk (by omega)⟩
theorem RK.at_ {wl:Addr} {H:Hp} {ws:List V} {rows:List (List Int)} {x:V} {i:Nat} (h:RK wl H ws rows) (hx:ws[i]? = some x):∃ (t:Addr) (r:List Int),x = .ref t/\rows[i]? = some r/\t ≠ wl/\H t = some (.lst (r.map V.int)):=by
 induction h generalizing i with
 | nil=>simp at hx
 | cons n1 e _ ih=>
  cases i with
  | zero=>cases hx; exact ⟨_,_,rfl,rfl,n1,e⟩
  | succ i=>exact ih hx
theorem RK.both {a b:Addr} {H H':Hp} {ws:List V} {rows:List (List Int)} (h:RK a H ws rows) (h2:RK b H ws rows) (s:∀ x vs,x ≠ a->x ≠ b->H x = some (.lst vs)->H' x = some (.lst vs)):RK a H' ws rows/\RK b H' ws rows:=by
 induction h with
 | nil=>exact ⟨.nil,.nil⟩
 | cons n1 e _ ih=>
  cases h2 with
  | cons n2 e2 h2=>
   obtain ⟨i1,i2⟩:=ih h2
   exact ⟨.cons n1 (s _ _ n1 n2 e) i1,.cons n2 (s _ _ n1 n2 e) i2⟩
def Zl4:Sp:=fun vs H Q _=>∃ (n:Nat) (lr l:Addr) (qs:List V) (rs:List (List Int)),vs = [.int (n:Nat),.ref lr,.ref l]/\1<=n/\n<=8/\Bag H l/\lr ≠ l/\H lr = some (.lst qs)/\RK l H qs rs/\rs.length<=256/\(∀ r ∈ rs,r.length = n/\∀ v ∈ r,0<=v/\v<=256) /\
 ∀ (t:Addr) (ws:List V) (rows:List (List Int)) (H':Hp),Ext l H H'->Bag H' l->H t = none->H' t = some (.lst ws)->RK l H' ws rows->(∀ r ∈ rows,LkR n r)->ws.length<=300->Q (.ref t) H'
theorem ok_near {f:Addr} {fd:FuncData} (F:Fun K "_law_near" "_law_near" Zcc f fd) (T:Txt K mg C) (C_law_draw:Cal P w K mg base "_law_draw" 1 Zdx):FnOk P w K mg base CX0 2 f fd ["_law_many","_law_rows","_law_bag_here"] Zl4:=by
 have nd:=Zfd.nd
 refine F.ok Zfd (fun vs H Q E h=>?_) (fun cdv A outer s H vs Q E hr h=>?_)
 ·obtain ⟨n,lr,l,qs,rs,rfl,_⟩:=h
  rfl
 ·obtain ⟨n,lr,l,qs,rs,rfl,n1,n8,hb,nl,hlr,rkq,r256,rsb,q⟩:=h
  refine ⟨_,((Zao (i:=3) nd rfl (Or.inl rfl) (@Zbo _ _ _ _ Zab))<*>((Zb7 Jbp rfl (Zf6 rfl T.n_range (Zac<&>Zab)) (@Zag _ _ 4 _ nd rfl (Or.inl rfl) (Or.inl rfl)) ((Zao (i:=5) nd rfl (Or.inl rfl) (@Zbo _ _ _ _ Zab))<*>((Zb7 Jbp rfl (Zf6 rfl T.n_range ((pv 0)<&>Zab)) (@Zag _ _ 6 _ nd rfl (Or.inl rfl) (Or.inl rfl)) (@Zal _ _ _ (Zb5 (Zep Ja4 Jbq Jbr Zba (pv 5) ((Zct C_law_draw hr.m rfl ((pv 2)<&>(Zac<&>Zab)))<&>Zab)))))<*>(@Zal _ _ _ (Zb5 (Zep Ja4 Jbq Jbr Zba (pv 3) ((pv 5)<&>Zab)))))))<*>((Zb7 Jbp rfl (Zaz (pv 1)) (@Zag _ _ 5 _ nd rfl (Or.inl rfl) (Or.inl rfl)) ((Zao (i:=7) nd rfl (Or.inl rfl) (Zct C_law_draw hr.m rfl ((pv 2)<&>((pv 0)<&>Zab))))<*>((Zao (i:=8) nd rfl (Or.inl rfl) (Zd7 Zb3 rfl T.n_list Je3 ((pv 5)<&>Zab)))<*>((Zeg (Zdp<|>(Za5<|>(Zaw<|>(pv 8)<||>(pv 7))<&&>Zac)<&&>(Zj8<|>Zac<&&>(Zct C_law_draw hr.m rfl ((pv 2)<&>(Zac<&>Zab))))) (Zhv (pv 8) (pv 7) Zc6))<*>(@Zal _ _ _ (@Zbl _ _ _ _ _ _ _ _ (Zaj op_ge (Zaw<|>(pv 8)<||>(pv 7)) Zac (Zat _)) (@Zal _ _ _ (Zb5 (Zep Ja4 Jbq Jbr Zba (pv 3) ((pv 8)<&>Zab)))) Zas))))))<*>(~~~(pv 3))))),?_⟩
  refine Zd2 fun X hX=>?_
  walk_at "wp"
  refine ⟨by decide,fun t ht=>?_⟩
  have ntl:t ≠ l:=hb.ne ht
  have ex1:Ext l H (upd H t (.lst [])):=Ext.new ht
  have b1:Bag (upd H t (.lst [])) l:=hb.new ntl
  have ht1:(upd H t (.lst [])) t = some (.lst []):=Zaa
  generalize upd H t (.lst []) = H1 at *
  subst hX
  refine Zd2 fun X hX=>?_
  refine ⟨16,rfl,by decide,by decide,Zcn (fun i σ Hi=>∃ (v4 v5 v6 v7 v8:Option V) (ws:List V) (rows:List (List Int)),σ = [some (.int (n:Nat)),some (.ref lr),some (.ref l),some (.ref t),v4,v5,v6,v7,v8]/\Ext l H Hi/\Bag Hi l/\Hi t = some (.lst ws)/\RK l Hi ws rows/\RK t Hi ws rows/\(∀ r ∈ rows,LkR n r)/\ws.length = i)
   ⟨none,none,none,none,none,[],[],rfl,ex1,b1,ht1,.nil,.nil,(fun r h=>by cases h),rfl⟩ ?_ ?_⟩
  ·rintro i σ Hi hi ⟨v4,v5,v6,v7,v8,ws,rows,rfl,ei,bi,hit,rk,rkt,lk,wl⟩
   simp only [Zbe,Ja0,Jct]
   refine Zd2 fun X1 hX1=>?_
   walk_at "wp"
   refine ⟨by decide,fun r hr0=>?_⟩
   have nrl:r ≠ l:=bi.ne hr0
   have ntr:t ≠ r:=Zad hit hr0
   have fr:H r = none:=ei.free nrl hr0
   have s2:=Same.new (o:=.lst []) hr0
   have hr1:(upd Hi r (.lst [])) r = some (.lst []):=Zaa
   have b2:Bag (upd Hi r (.lst [])) l:=bi.new nrl
   generalize upd Hi r (.lst []) = H2 at *
   subst hX1
   refine Zd2 fun X1 hX1=>?_
   refine ⟨_,rfl,(n:Nat),rfl,by omega,by omega,Zcn (fun k σ Hk=>∃ (v6:Option V) (row:List Int),σ = [some (.int (n:Nat)),some (.ref lr),some (.ref l),some (.ref t),some (.int (0 + (i:Nat))),some (.ref r),v6,v7,v8]/\Ext l Hi Hk/\Bag Hk l/\Hk r = some (.lst (row.map V.int))/\row.length = k/\∀ v ∈ row,0<=v/\v<=300) ⟨v6,[],rfl,s2.ext,b2,hr1,rfl,(fun v h=>by cases h)⟩ ?_ ?_⟩
   ·rintro k σ Hk hk ⟨v6,row,rfl,ek,bk,hkr,rl,rv⟩
    simp only [Zbe,Ja0,Jct]
    walk_at "wp"
    refine ⟨.inl ⟨rfl,_,SqL.of hkr⟩,bk.draw (by decide) (by decide) fun z H3 z0 z1 e3 b3=>?_⟩
    have hr3:=e3 _ _ nrl hkr
    obtain ⟨w1,w2⟩:=LkR.of (n:=n) (v:=z) rl rv (by omega) (by omega)
    refine ⟨_,hr3,Zah (by rw [Jab]; omega),(ek.trans e3).upd hr0,b3.new nrl,row ++ [z],?_,w1,w2⟩
    rw [Zaa,Jbf]; rfl
   ·rintro σ Hk ⟨v6,row,rfl,ek,bk,hkr,rl,rv⟩
    rw [Jaw] at rl
    have hkt:=ek _ _ ntl hit
    subst hX1
    walk_at "wp"
    obtain ⟨k1,k2⟩:=rk.both rkt (H':=upd Hk t (.lst (ws ++ [.ref r]))) fun x vs na nb e=>by rw [Zaf nb]; exact ek _ _ na e
    have hkr':(upd Hk t (.lst (ws ++ [.ref r]))) r = some (.lst (row.map V.int)):=by rw [Zaf ntr.symm]; exact hkr
    refine ⟨.inl ⟨rfl,_,SqL.of hkt⟩,ws,hkt,Zah (by omega),_,_,_,_,_,⟨rfl,rfl,rfl,rfl,rfl⟩,(ei.trans ek).upd ht,bk.new ntl,_,Zaa,rows ++ [row],k1.app (.cons nrl hkr' .nil),k2.app (.cons ntr.symm hkr' .nil),fun r' hr'=>?_,by rw [Jaj,wl]; rfl⟩
    rcases Jbd.mp hr' with h | h
    ·exact lk r' h
    ·rw [Jaz.mp h]; exact ⟨rl,rv⟩
  ·rintro σ Hi ⟨v4,v5,v6,v7,v8,ws,rows,rfl,ei,bi,hit,rk,rkt,lk,wl⟩
   subst hX
   have nlt:lr ≠ t:=Zad hlr ht
   refine ⟨_,rfl,lr,rfl,⟨_,SqL.of (ei _ _ nl hlr)⟩,Zdb (xs:=qs) (fun i σ Hi=>∃ (v4 v5 v6 v7 v8:Option V) (ws:List V) (rows:List (List Int)),σ = [some (.int (n:Nat)),some (.ref lr),some (.ref l),some (.ref t),v4,v5,v6,v7,v8]/\Ext l H Hi/\Bag Hi l/\Hi t = some (.lst ws)/\RK l Hi ws rows/\RK t Hi ws rows/\(∀ r ∈ rows,LkR n r)/\ws.length<=16 + i)
    ⟨v4,v5,v6,v7,v8,ws,rows,rfl,ei,bi,hit,rk,rkt,lk,Jfr wl⟩ (fun i σ Hi _ ⟨_,_,_,_,_,_,_,_,e,_⟩=>SqL.of (e _ _ nl hlr)) ?_ ?_⟩
   ·clear rk rkt lk wl hit bi ei
    rintro i x σ Hi hx ⟨v4,v5,v6,v7,v8,ws,rows,rfl,ei,bi,hit,rk,rkt,lk,wl⟩
    have hi:i < qs.length:=(Jap.mp hx).1
    have lq:=rkq.len
    obtain ⟨tq,rq,rfl,er,ntq,htq⟩:=rkq.at_ hx
    obtain ⟨rl,rv⟩:=rsb rq (Jan er)
    simp only [Zbe,Ja0,Jct]
    walk_at "wp"
    refine bi.draw (n:=(n:Nat)) (by omega) (by omega) fun d H3 d0 d1 e3 b3=>⟨_,.inl (SqL.of (e3 _ _ ntq (ei _ _ ntq htq))),fun mm hmm=>?_⟩
    have nml:mm ≠ l:=b3.ne hmm
    have ht3:=e3 _ _ ntl hit
    have nmt:t ≠ mm:=Zad ht3 hmm
    have hd:d.toNat < rq.length:=by omega
    have vd:=rv _ (Zjj (i:=d) hd)
    refine ⟨_,d,rfl,SqL.of Zaa,_,Zbw d0 (Zcq hd),_,rfl,(b3.new nml).draw (n:=2) (by decide) (by decide) fun z H4 z0 z1 e4 b4=>?_⟩
    have hm4:=e4 _ _ nml Zaa
    have ht4:H4 t = some (.lst ws):=e4 _ _ ntl (by rw [Zaf nmt]; exact ht3)
    have x4:Ext l Hi H4:=(e3.trans (Ext.new hmm)).trans e4
    have hd':d.toNat < (rq.set d.toNat (atZ rq d + 1 - 2 * z)).length:=by rw [Jdi]; exact hd
    have e1:atZ (rq.set d.toNat (atZ rq d + 1 - 2 * z)) d = atZ rq d + 1 - 2 * z:=by rw [Zf0 hd d0 d0,if_pos rfl]
    refine ⟨z,rfl,.inl ⟨by decide,by decide⟩,_,d,rfl,hm4,d.toNat,Zkg d0 (by rw [Jab]; exact hd),_,d,rfl,SqL.of Zaa,_,Zbw d0 (by rw [Zd3]; exact Zcq hd'),_,rfl,Zd1 (fun hc=>?_) (fun hc=>?_)⟩
    ·have hc:=Jav hc
     rw [e1] at hc
     rw [Zd3]
     have lkn:LkR n (rq.set d.toNat (atZ rq d + 1 - 2 * z)):=⟨by rw [Jdi]; exact rl,fun v hv=>by
      rcases List.mem_or_eq_of_mem_set hv with h | h
      ·have:=rv v h; omega
      ·rw [h]; omega⟩
     generalize rq.set d.toNat (atZ rq d + 1 - 2 * z) = rn at *
     have ht5:(upd H4 mm (.lst (rn.map V.int))) t = some (.lst ws):=by rw [Zaf nmt]; exact ht4
     have hm6:(upd (upd H4 mm (.lst (rn.map V.int))) t (.lst (ws ++ [.ref mm]))) mm = some (.lst (rn.map V.int)):=by rw [Zaf nmt.symm]; exact Zaa
     have fm:Hi mm = none:=e3.free nml hmm
     have fmH:H mm = none:=ei.free nml fm
     obtain ⟨k1,k2⟩:=rk.both rkt (H':=upd (upd H4 mm (.lst (rn.map V.int))) t (.lst (ws ++ [.ref mm]))) fun x vs na nb e=>by
      rw [Zaf nb,Zaf (Zad e fm)]; exact x4 _ _ na e
     refine ⟨.inl ⟨rfl,_,SqL.of ht5⟩,ws,ht5,Zah (by omega),_,_,_,_,_,⟨rfl,rfl,rfl,rfl,rfl⟩,((ei.trans x4).upd fmH).upd ht,(b4.new nml).new ntl,_,Zaa,rows ++ [rn],k1.app (.cons nml hm6 .nil),k2.app (.cons nmt.symm hm6 .nil),fun r' hr'=>?_,by rw [Jaj]; show ws.length + 1<=_; omega⟩
     rcases Jbd.mp hr' with h | h
     ·exact lk r' h
     ·rw [Jaz.mp h]; exact lkn
    ·have fm:Hi mm = none:=e3.free nml hmm
     obtain ⟨k1,k2⟩:=rk.both rkt (H':=upd H4 mm (.lst ((rq.map V.int).set d.toNat (.int (atZ rq d + 1 - 2 * z))))) fun x vs na nb e=>by
      rw [Zaf (Zad e fm)]; exact x4 _ _ na e
     exact ⟨_,_,_,_,_,⟨rfl,rfl,rfl,rfl,rfl⟩,(ei.trans x4).upd (ei.free nml fm),b4.new nml,ws,by rw [Zaf nmt]; exact ht4,rows,k1,k2,lk,by omega⟩
   ·rintro σ Hi ⟨v4,v5,v6,v7,v8,ws,rows,rfl,ei,bi,hit,rk,rkt,lk,wl⟩
    have lq:=rkq.len
    exact ⟨_,rfl,q t ws rows Hi ei bi ht hit rk lk (by omega)⟩
end
end Pf
namespace Pf
open PySem L2 PyProof.Rows
section
variable {P:Program} {w:World} {K:PySem.W.Frag} {mg:Str->Option Value} {base:Heap} {C:Addr} {cc:Cs}
theorem cutJ {c:TT} {A B:TS} {D:Ends} {σ:L2.St} {H:Hp} (h:∀ A' B',A' = A->B' = B->tIfS c A' B' D σ H):tIfS c A B D σ H:=h A B rfl rfl
theorem RtR.ge {n:Nat} {ps:List (Int × Int)} {a:List Int} (d:L3.DPos (Zav n) ps) (ins:L3.Ins (Zav n) ps) (n8:n<=8) (R:RtR n ps a):∀ v ∈ a,0<=v/\v<=256:=by
 intro v hv
 obtain ⟨i,hi,rfl⟩:=Jcl hv
 have hp:((i:Nat):Int) ∈ Zav n:=Zau.mpr ⟨by omega,by have:=R.len; omega⟩
 have e:atZ a (i:Nat) = a[i]:=by
  unfold atZ
  rw [Jaw,Jbl,Jac hi]; rfl
 have h0:=R.rt.nn _ hp
 have h1:=L3.Zdz (g:=atZ a) hp R.rt.nn
 have h2:=R.rt.small d (Zdn n) ins
 have h3:(2:Nat) ^ (Zav n).length<=256:=by rw [Zdm]; exact Jfa (by decide) n8
 rw [e] at h0 h1
 omega
theorem Zo0 {n:Nat} {ps:List (Int × Int)} {rs:List (List Int)} {r:List Int} (al:AllR n ps rs) (lk:LkR n r):r ∈ rs ↔ Zn6 ps r r = 1:=by
 rw [form_qf lk.1]
 constructor
 ·intro h; exact (al.2.1 r h).rt.one
 ·intro h
  refine al.2.2 r ⟨lk.1,fun p hp=>?_,h⟩
  obtain ⟨p0,p1⟩:=Zau.mp hp
  exact (lk.2 _ (Zjj (i:=p) (by have:=lk.1; omega))).1
def kI (r:List Int):List Key:=r.map Sum.inl
theorem kI_V (r:List Int):(kI r).map kV = r.map V.int:=by unfold kI; rw [Jb6]; rfl
theorem kI_inj {a b:List Int} (h:kI a = kI b):a = b:=by
 have:=Jeh (List.map kV) h
 rw [kI_V,kI_V] at this
 exact Znz this
theorem LkR.big {n:Nat} {r:List Int} (h:LkR n r):∀ v ∈ r,Big v:=fun v hv=>by
 have:=h.2 v hv
 unfold Big
 omega
theorem putK_le {κ:Type} [DecidableEq κ] (kvs:List (κ × V)) (k:κ) (v:V):(Ze9 kvs k v).length<=kvs.length + 1:=by
 unfold Ze9
 split
 ·rw [Jab]; omega
 ·rw [Jaj]; exact Jaf _
def Zo3 (K:PySem.W.Frag):Sp:=fun vs H Q _=>∃ (a:Addr) (ns:List Int),vs = [.ref a]/\SqL K H a (ns.map V.int)/\ns.length<=63/\∀ H',Q (.bl true) H'
theorem ok_law {f:Addr} {fd:FuncData} (F:Fun K "law" "law" Zgx f fd) (T:Txt K mg C) (XT:Xt K mg base cc) (C_law_cell:Cal P w K mg base "_law_cell" 1 (Zl7 K)) (C_law_bag:Cal P w K mg base "_law_bag" 1 spBag) (C_law_draw:Cal P w K mg base "_law_draw" 1 Zdx)
  (C_law_drawn:Cal P w K mg base "_law_drawn" 4 (Zec 0 4)) (C_Drawing:CalI P w K mg base "Drawing" C 4 (Zjs C)) (C_roots:CalE P w K mg base "roots" 6 (Zio C cc.NoKind)) (C_law_small:Cal P w K mg base "_law_small" 1 Zin) (C_law_near:Cal P w K mg base "_law_near" 2 Zl4) (C_law_form:Cal P w K mg base "_law_form" 1 Zl6):
  FnOk P w K mg base CX0 7 f fd ["_law_script"] (Zo3 K):=by
 have nd:=Zqs.nd
 refine F.ok Zqs (fun vs H Q E h=>?_) (fun cdv A outer s H vs Q E hr h=>?_)
 ·obtain ⟨a,ns,rfl,_⟩:=h
  rfl
 ·obtain ⟨a,ns,rfl,hS,hl,q⟩:=h
  have hu1:=room1 hr
  refine ⟨_,((Zb7 Jbp rfl (Zf6 rfl T.n_range ((Za5<|>(Zb2 (Zor rfl) rfl T.n_min boot_min ((Zb2 Zaq rfl T.n_len Jcd ((pv 0)<&>Zab))<&>(Zac<&>Zab)))<&&>Zac)<&>Zab)) (@Zag _ _ 1 _ nd rfl (Or.inl rfl) (Or.inl rfl)) ((Zao (i:=2) nd rfl (Or.inl rfl) (Zct C_law_bag hr.m rfl ((Zct C_law_cell hr.m rfl ((pv 0)<&>((pv 1)<&>Zab)))<&>Zab)))<*>((Zeg (Zct C_law_drawn hr.m rfl ((pv 2)<&>((Zct C_law_draw hr.m rfl ((pv 2)<&>(Zac<&>Zab)))<&>Zab))) (@Zgd _ _ _ _ _ 2 rfl (@Zbf _ _ _ _ _ (@Zag _ _ 3 _ nd rfl (Or.inl rfl) (Or.inl rfl)) (@Zbf _ _ _ _ _ (@Zag _ _ 4 _ nd rfl (Or.inl rfl) (Or.inl rfl)) (@Zd6 _) (by rfl)) (by rfl)) (by rfl) (by rfl)))<*>((Zao (i:=5) nd rfl (Or.inl rfl) (pe_cE C_roots pass_no hr.m rfl ((pe_n C_Drawing hr.m rfl ((pv 3)<&>((Zd7 Zb3 rfl T.n_list Je3 ((pv 4)<&>Zab))<&>Zab)))<&>Zab)))<*>((@Zbl _ _ _ _ _ _ _ _ (Zaj Zpn (pv 3) Zac (Zat _)) (@Zal _ _ _ (Zao (i:=6) nd rfl (Or.inl rfl) (Zct C_law_small hr.m rfl ((pv 3)<&>Zab)))) (@Zal _ _ _ (Zao (i:=6) nd rfl (Or.inl rfl) (Zct C_law_near hr.m rfl ((pv 3)<&>((pv 5)<&>((pv 2)<&>Zab)))))))<*>((Zao (i:=7) nd rfl (Or.inl rfl) Zpg)<*>((Zb7 Jbp rfl (Zaz (pv 5)) (@Zag _ _ 8 _ nd rfl (Or.inl rfl) (Or.inl rfl)) (@Zal _ _ _ (Zmp hu1 (pv 7) (Zd7 Zca rfl T.n_tuple boot_tuple ((pv 8)<&>Zab)) Zk4 rfl)))<*>(@Zal _ _ _ (Zb7 Jbp rfl (Zaz (pv 6)) (@Zag _ _ 8 _ nd rfl (Or.inl rfl) (Or.inl rfl)) (@Zal _ _ _ (@Zbl _ _ _ _ _ _ _ _ (Zaj Zpm (Ziv (op_inD hu1) (Zd7 Zca rfl T.n_tuple boot_tuple ((pv 8)<&>Zab)) (pv 7) (by with_unfolding_all rfl)) (Ziv Zdw (Zct C_law_form hr.m rfl ((pv 4)<&>((pv 8)<&>((pv 8)<&>Zab)))) Zac (Zat _)) (Zat _)) (~~~Zk4) Zas)))))))))))<*>(~~~Zk4)),?_⟩
  refine ⟨_,rfl,a,_,rfl,.inl hS,_,_,rfl,_,_,rfl,rfl,_,rfl,?_,?_,Zcn (fun i σ H2=>∃ v1 v2 v3 v4 v5 v6 v7 v8:Option V,σ = [some (.ref a),v1,v2,v3,v4,v5,v6,v7,v8]/\Same H H2) ⟨none,none,none,none,none,none,none,none,rfl,Same.refl H⟩ ?_ ?_⟩
  ·split <;> omega
  ·split <;> omega
  ·rintro i σ H2 hi ⟨v1,v2,v3,v4,v5,v6,v7,v8,rfl,s2⟩
   refine Zd2 fun X hX=>?_
   walk_at "wp"
   refine ⟨a,ns,0 + i,rfl,s2.seq hS,hl,by omega,fun c=>⟨c,rfl,fun l xa xb hl0 xb0 xb1=>?_⟩⟩
   have b3:Bag (upd H2 l (Zkt xa xb)) l:=Bag.set xb0 xb1
   have s3:Same H (upd H2 l (Zkt xa xb)):=s2.trans (Same.new hl0)
   have fl:H l = none:=s2.free hl0
   subst hX
   refine Zd2 fun X hX=>?_
   walk_at "wp"
   refine b3.draw (n:=5) (by decide) (by decide) fun r H4 r0 r1 e4 b4=>⟨l,r,rfl,r0,by omega,b4,fun p e n xs ps H5 O=>⟨p,rfl,_,SqT.of O.tup,rfl,_,_,rfl,_,_,rfl,rfl,?_⟩⟩
   have s5:Same H H5:=Same.thru (Same.thru s3 fl e4) fl O.ext
   have m0:=O.lo
   have m8:=O.hi
   have nel:e ≠ l:=b4.ne O.new
   have hOl:=O.lst
   have pk:=O.pk
   have hin:=O.ip
   have dp:=O.dp
   have ins:=Zn0 hin
   have b5:=O.bag
   have xl:xs.length<=9:=by rw [pk.len]; exact O.len
   clear O
   subst hX
   refine Zd2 fun X hX=>?_
   walk_at "wp"
   refine ⟨xs,.inl (SqL.of hOl),fun lc hlc x dx hx hdx ndx=>mk_draw hx hdx ndx Zaa xl (pk.prs.same (Same.new hlc)) hin m0 m8 fun H6 s6' D6=>⟨rfl,?_⟩⟩
   have s6:Same H5 H6:=(Same.new hlc).trans s6'
   refine ⟨x,n,ps,rfl,D6,hin,m0,m8,fun g=>(Zpv hin m8 g (DPos.nn dp)).elim,fun g lr qs rs H9 s9 flr hlr rf al=>?_⟩
   have s59:=s6.trans s9
   have b9:=b5.same s59
   have hO9:=s59 _ _ hOl
   have pk9:=pk.same s59
   have ll:=(b5.same s6).lst
   have rk9:RK l H9 qs rs:=RK.of rf fun t ft _=>let ⟨ys,hy⟩:=ll; (Zad hy ft).symm
   have nlr:lr ≠ l:=let ⟨ys,hy⟩:=ll; (Zad hy flr).symm
   have few:=RtR.count dp ins m8 al.1 al.2.1
   have sH9:=s5.trans s59
   clear s6 s6' s9 D6 hx hdx rf pk hOl s59 ll
   subst hX
   show tSeq _ _ _ _ _
   refine cutE fun D' hD'=>?_
   refine Zd2 fun X hX=>?_
   have aft:∀ (lk a0:Addr) (ws:List V) (rows:List (List Int)) (H10:Hp),Same H H10->H10 lr = some (.lst qs)->RK l H10 qs rs->H10 e = some (.lst xs)->PK H10 xs ps->H10 lk = some (.lst ws)->RK a0 H10 ws rows->(∀ r ∈ rows,LkR n r)->
     X D' [some (.ref a),some (.int (0 + (i:Int))),some (.ref l),some (.int (n:Nat)),some (.ref e),some (.ref lr),some (.ref lk),v7,v8] H10:=by
    intro lk a0 ws rows H10 s10 hlr10 rk10 he10 pk10 hlk rkw lkr
    subst hX
    refine Zd2 fun X hX=>?_
    walk_at "wp"
    intro th hth
    have lq:=rk10.len
    subst hX
    refine Zd2 fun X hX=>?_
    refine ⟨_,rfl,lr,rfl,⟨_,SqL.of ((Same.new hth) _ _ hlr10)⟩,Zdb (xs:=qs) (fun k σ Hk=>∃ (v8:Option V) (kvs:List (List Key × V)),σ = [some (.ref a),some (.int (0 + (i:Int))),some (.ref l),some (.int (n:Nat)),some (.ref e),some (.ref lr),some (.ref lk),some (.ref th),v8]/\Same H10 Hk/\Hk th = some (.dT kvs)/\kvs.length<=k/\∀ r:List Int,Zel kvs (kI r) = if r ∈ rs.take k then some (.bl true) else none)
     ⟨v8,[],rfl,Same.new hth,Zaa,Jaf _,fun r=>by rw [Jf3,if_neg (by simp)]; rfl⟩ (fun k σ Hk _ ⟨_,_,_,sk,_⟩=>SqL.of (sk _ _ hlr10)) ?_ ?_⟩
    ·rintro k x' σ Hk hx ⟨v8',kvs,rfl,sk,hk,kl,kv⟩
     have hk':k < qs.length:=(Jap.mp hx).1
     obtain ⟨tq,rq,rfl,er,ntq,htq⟩:=rk10.at_ hx
     simp only [Zbe,Ja0,Jct]
     walk_at "wp"
     refine ⟨_,.inl ⟨SqL.of (sk _ _ htq),fun b hb=>⟨_,DPut.t (k:=kI rq) ((Same.new hb) _ _ hk) (by rw [Zaa,kI_V]) (by rw [Jde]; omega),(sk.trans (Same.new hb)).upd hth,_,Zaa,Jay (putK_le _ _ _) (by omega),fun r=>?_⟩⟩⟩
     rw [Zgp,kv r,Jbn,er]
     by_cases c:kI r = kI rq
     ·rw [if_pos c,if_pos (Jah _ (by rw [kI_inj c]; simp))]
     ·have c':r ≠ rq:=fun z=>c (by rw [z])
      rw [if_neg c]
      simp [c']
    ·rintro σ Hk ⟨v8',kvs,rfl,sk,hk,kl,kv⟩
     rw [lq,Jbu] at kv
     subst hX
     refine ⟨_,rfl,lk,rfl,⟨_,SqL.of (sk _ _ hlk)⟩,Zdb (xs:=ws) (fun k σ H3=>∃ v8:Option V,σ = [some (.ref a),some (.int (0 + (i:Int))),some (.ref l),some (.int (n:Nat)),some (.ref e),some (.ref lr),some (.ref lk),some (.ref th),v8]/\Same Hk H3)
      ⟨v8',rfl,Same.refl _⟩ (fun k σ H3 _ ⟨_,_,s3⟩=>SqL.of ((sk.trans s3) _ _ hlk)) ?_ ?_⟩
     ·rintro k x' σ H3 hx ⟨v9,rfl,s3⟩
      obtain ⟨tr,rr,rfl,er,_,htr⟩:=rkw.at_ hx
      have lr':=lkr rr (Jan er)
      have iff:=Zo0 al lr'
      simp only [Zbe,Ja0,Jct]
      walk_at "wp"
      refine ⟨_,.inl ⟨SqL.of ((sk.trans s3) _ _ htr),fun b hb=>?_⟩⟩
      have t3:=s3.trans (Same.new (o:=.tup (rr.map V.int)) hb)
      have t30:=sk.trans t3
      refine ⟨_,DGet.t (k:=kI rr) (t3 _ _ hk) (by rw [Zaa,kI_V]),?_⟩
      refine ⟨e,tr,tr,(n:Nat),xs,ps,rr,rr,rfl,t30 _ _ he10,xl,(pk10.same t30).prs,hin,t30 _ _ htr,t30 _ _ htr,by rw [Jaw]; exact lr'.1,by rw [Jaw]; exact lr'.1,by omega,lr'.big,lr'.big,rfl,iteN ?_ t3⟩
      rw [kv rr]
      by_cases c:rr ∈ rs
      ·rw [if_pos c,iff.mp c]; decide
      ·have c1:¬ V.int (Zn6 ps rr rr) = V.int 1:=fun z=>c (iff.mpr (V.int.inj z))
       rw [if_neg c,Jb7 c1]; decide
     ·rintro σ H3 ⟨v9,rfl,s3⟩
      subst hD'
      exact ⟨_,_,_,_,_,_,_,_,rfl,(s10.trans sk).trans s3⟩
   refine cutJ fun A2 B2 hA2 hB2=>?_
   walk_at "wp"
   refine Zd1 (fun c6=>?_) (fun c6=>?_)
   ·have c6:=Jav c6
    subst hA2
    walk_at "wp"
    exact ⟨n,rfl,m0,by omega,fun t ws rows H10 s10 ft ht rk lk _=>aft t t ws rows H10 (sH9.trans s10) (s10 _ _ hlr) (rk9.keep fun _ _ _ e=>s10 _ _ e) (s10 _ _ hO9) (pk9.same s10) ht rk lk⟩
   ·subst hB2
    walk_at "wp"
    exact ⟨n,lr,l,qs,rs,rfl,m0,m8,b9,nlr,hlr,rk9,few,fun r hr=>⟨(al.2.1 r hr).len,(al.2.1 r hr).ge dp ins m8⟩,fun t ws rows H10 e10 b10 ft ht rk lk _=>aft t l ws rows H10 (Same.thru sH9 fl e10) (e10 _ _ nlr hlr) (rk9.keep fun _ _ n e=>e10 _ _ n e) (e10 _ _ nel hO9) (pk9.bag b9 e10) ht rk lk⟩
  ·rintro σ H2 ⟨v1,v2,v3,v4,v5,v6,v7,v8,rfl,s2⟩
   walk_at "wp"
   exact q _
end
end Pf
set_option maxHeartbeats 4000000
namespace Pf
open PySem L2 PyProof.Rows
open PySem.W (nsIn codeIn keepIn fnOf findIn isFn mg_of mg_none_of plainGet hasDictIn plainOver makesIn)
theorem ex1 {us:List Value} (hl:us.length = 1):∃ a0,us = [a0]:=match us,hl with | [a0],_=>⟨a0,rfl⟩
theorem ex2 {us:List Value} (hl:us.length = 2):∃ a0 a1,us = [a0,a1]:=match us,hl with | [a0,a1],_=>⟨a0,a1,rfl⟩
theorem ex3 {us:List Value} (hl:us.length = 3):∃ a0 a1 a2,us = [a0,a1,a2]:=match us,hl with | [a0,a1,a2],_=>⟨a0,a1,a2,rfl⟩
theorem all_mk {l:PySem.W.OpenLaw} {w:World} {K:PySem.W.Frag} {h:Heap} {mg:Str->Option Value} {fa C:Addr} {t1 t2:Tok} (X:K.In h) (G:h.Ns mainGlobals mg) (hfa:mg "law" = some (.ref fa))
  {f1 f2 f3 f4 f5 f6 f7 f8 f9 f10 f11 f12 f13 f14 f15 f16 f17 f18 f19 f20 f21 f22 f23 f24 f25 f26:Addr} {od1 an1 od2 an2 od3 an3 od4 an4 od5 an5 od6 an6 od7 an7 od8 an8 od9 an9 od10 an10 od11 an11 od12 an12 od13 an13 od14 an14 od15 an15 od16 an16 od17 an17 od18 an18 od19 an19 od20 an20 od21 an21 od22 an22 od23 an23 od24 an24 od25 an25 od26 an26:Option Addr} {sl1 sl2 sl3 sl4 sl5 sl6 sl7 sl8 sl9 sl10 sl11 sl12 sl13 sl14 sl15 sl16 sl17 sl18 sl19 sl20 sl21 sl22 sl23 sl24 sl25 sl26:Array (Option Value)} {oc1 kV1 dc1 pm1 ct1 cd1 oc2 kV2 dc2 pm2 ct2 cd2 oc3 kV3 dc3 pm3 ct3 cd3 oc4 kV4 dc4 pm4 ct4 cd4 oc5 kV5 dc5 pm5 ct5 cd5 oc6 kV6 dc6 pm6 ct6 cd6 oc7 kV7 dc7 pm7 ct7 cd7 oc8 kV8 dc8 pm8 ct8 cd8 oc9 kV9 dc9 pm9 ct9 cd9 oc10 kV10 dc10 pm10 ct10 cd10 oc11 kV11 dc11 pm11 ct11 cd11 oc12 kV12 dc12 pm12 ct12 cd12 oc13 kV13 dc13 pm13 ct13 cd13 oc14 kV14 dc14 pm14 ct14 cd14 oc15 kV15 dc15 pm15 ct15 cd15 oc16 kV16 dc16 pm16 ct16 cd16 oc17 kV17 dc17 pm17 ct17 cd17 oc18 kV18 dc18 pm18 ct18 cd18 oc19 kV19 dc19 pm19 ct19 cd19 oc20 kV20 dc20 pm20 ct20 cd20 oc21 kV21 dc21 pm21 ct21 cd21 oc22 kV22 dc22 pm22 ct22 cd22 oc23 kV23 dc23 pm23 ct23 cd23 oc24 kV24 dc24 pm24 ct24 cd24 oc25 kV25 dc25 pm25 ct25 cd25 oc26 kV26 dc26 pm26 ct26 cd26:Value}
  {x_LimbError x_NoDrawing x_NoKind:Addr}
  (a1:nsIn K mainGlobals "is_whole" = some (some (.ref f1)))
  (l1:K.lookup f1 = some ⟨oc1,od1,.func (fnOf "is_whole" "is_whole" (Zap Zcg) (Zan Zcg) (Zae Zcg) .none kV1 dc1 pm1 an1 cd1 ct1),sl1⟩)
  (c1:codeIn K cd1 "is_whole" = true)
  (k1:keepIn K (.ref f1) = true)
  (a2:nsIn K mainGlobals "makes_drawing" = some (some (.ref f2)))
  (l2:K.lookup f2 = some ⟨oc2,od2,.func (fnOf "makes_drawing" "makes_drawing" (Zap Za2) (Zan Za2) (Zae Za2) .none kV2 dc2 pm2 an2 cd2 ct2),sl2⟩)
  (c2:codeIn K cd2 "makes_drawing" = true)
  (k2:keepIn K (.ref f2) = true)
  (a3:nsIn K mainGlobals "is_arrow" = some (some (.ref f3)))
  (l3:K.lookup f3 = some ⟨oc3,od3,.func (fnOf "is_arrow" "is_arrow" (Zap Zch) (Zan Zch) (Zae Zch) .none kV3 dc3 pm3 an3 cd3 ct3),sl3⟩)
  (c3:codeIn K cd3 "is_arrow" = true)
  (k3:keepIn K (.ref f3) = true)
  (a4:nsIn K mainGlobals "_law_cell" = some (some (.ref f4)))
  (l4:K.lookup f4 = some ⟨oc4,od4,.func (fnOf "_law_cell" "_law_cell" (Zap Zcf) (Zan Zcf) (Zae Zcf) .none kV4 dc4 pm4 an4 cd4 ct4),sl4⟩)
  (c4:codeIn K cd4 "_law_cell" = true)
  (k4:keepIn K (.ref f4) = true)
  (a5:nsIn K mainGlobals "_law_bag" = some (some (.ref f5)))
  (l5:K.lookup f5 = some ⟨oc5,od5,.func (fnOf "_law_bag" "_law_bag" (Zap Zcx) (Zan Zcx) (Zae Zcx) .none kV5 dc5 pm5 an5 cd5 ct5),sl5⟩)
  (c5:codeIn K cd5 "_law_bag" = true)
  (k5:keepIn K (.ref f5) = true)
  (a6:nsIn K mainGlobals "_law_draw" = some (some (.ref f6)))
  (l6:K.lookup f6 = some ⟨oc6,od6,.func (fnOf "_law_draw" "_law_draw" (Zap Zce) (Zan Zce) (Zae Zce) .none kV6 dc6 pm6 an6 cd6 ct6),sl6⟩)
  (c6:codeIn K cd6 "_law_draw" = true)
  (k6:keepIn K (.ref f6) = true)
  (a7:nsIn K mainGlobals "_law_order" = some (some (.ref f7)))
  (l7:K.lookup f7 = some ⟨oc7,od7,.func (fnOf "_law_order" "_law_order" (Zap Zby) (Zan Zby) (Zae Zby) .none kV7 dc7 pm7 an7 cd7 ct7),sl7⟩)
  (c7:codeIn K cd7 "_law_order" = true)
  (k7:keepIn K (.ref f7) = true)
  (a8:nsIn K mainGlobals "_law_rest_edges" = some (some (.ref f8)))
  (l8:K.lookup f8 = some ⟨oc8,od8,.func (fnOf "_law_rest_edges" "_law_rest_edges" (Zap Za0) (Zan Za0) (Zae Za0) .none kV8 dc8 pm8 an8 cd8 ct8),sl8⟩)
  (c8:codeIn K cd8 "_law_rest_edges" = true)
  (k8:keepIn K (.ref f8) = true)
  (a9:nsIn K mainGlobals "_law_bad_edges" = some (some (.ref f9)))
  (l9:K.lookup f9 = some ⟨oc9,od9,.func (fnOf "_law_bad_edges" "_law_bad_edges" (Zap Za3) (Zan Za3) (Zae Za3) .none kV9 dc9 pm9 an9 cd9 ct9),sl9⟩)
  (c9:codeIn K cd9 "_law_bad_edges" = true)
  (k9:keepIn K (.ref f9) = true)
  (a10:nsIn K mainGlobals "_law_edges" = some (some (.ref f10)))
  (l10:K.lookup f10 = some ⟨oc10,od10,.func (fnOf "_law_edges" "_law_edges" (Zap Zbz) (Zan Zbz) (Zae Zbz) .none kV10 dc10 pm10 an10 cd10 ct10),sl10⟩)
  (c10:codeIn K cd10 "_law_edges" = true)
  (k10:keepIn K (.ref f10) = true)
  (a11:nsIn K mainGlobals "_law_drawn" = some (some (.ref f11)))
  (l11:K.lookup f11 = some ⟨oc11,od11,.func (fnOf "_law_drawn" "_law_drawn" (Zap Zb0) (Zan Zb0) (Zae Zb0) .none kV11 dc11 pm11 an11 cd11 ct11),sl11⟩)
  (c11:codeIn K cd11 "_law_drawn" = true)
  (k11:keepIn K (.ref f11) = true)
  (a12:nsIn K mainGlobals "hanging" = some (some (.ref f12)))
  (l12:K.lookup f12 = some ⟨oc12,od12,.func (fnOf "hanging" "hanging" (Zap Zc0) (Zan Zc0) (Zae Zc0) .none kV12 dc12 pm12 an12 cd12 ct12),sl12⟩)
  (c12:codeIn K cd12 "hanging" = true)
  (k12:keepIn K (.ref f12) = true)
  (a13:nsIn K mainGlobals "kind_of" = some (some (.ref f13)))
  (l13:K.lookup f13 = some ⟨oc13,od13,.func (fnOf "kind_of" "kind_of" (Zap Zcy) (Zan Zcy) (Zae Zcy) .none kV13 dc13 pm13 an13 cd13 ct13),sl13⟩)
  (c13:codeIn K cd13 "kind_of" = true)
  (k13:keepIn K (.ref f13) = true)
  (a14:nsIn K mainGlobals "arms" = some (some (.ref f14)))
  (l14:K.lookup f14 = some ⟨oc14,od14,.func (fnOf "arms" "arms" (Zap Zgc) (Zan Zgc) (Zae Zgc) .none kV14 dc14 pm14 an14 cd14 ct14),sl14⟩)
  (c14:codeIn K cd14 "arms" = true)
  (k14:keepIn K (.ref f14) = true)
  (a15:nsIn K mainGlobals "forked_kind" = some (some (.ref f15)))
  (l15:K.lookup f15 = some ⟨oc15,od15,.func (fnOf "forked_kind" "forked_kind" (Zap Zbh) (Zan Zbh) (Zae Zbh) .none kV15 dc15 pm15 an15 cd15 ct15),sl15⟩)
  (c15:codeIn K cd15 "forked_kind" = true)
  (k15:keepIn K (.ref f15) = true)
  (a16:nsIn K mainGlobals "is_good" = some (some (.ref f16)))
  (l16:K.lookup f16 = some ⟨oc16,od16,.func (fnOf "is_good" "is_good" (Zap Zcz) (Zan Zcz) (Zae Zcz) .none kV16 dc16 pm16 an16 cd16 ct16),sl16⟩)
  (c16:codeIn K cd16 "is_good" = true)
  (k16:keepIn K (.ref f16) = true)
  (a17:nsIn K mainGlobals "raised" = some (some (.ref f17)))
  (l17:K.lookup f17 = some ⟨oc17,od17,.func (fnOf "raised" "raised" (Zap Zdt) (Zan Zdt) (Zae Zdt) .none kV17 dc17 pm17 an17 cd17 ct17),sl17⟩)
  (c17:codeIn K cd17 "raised" = true)
  (k17:keepIn K (.ref f17) = true)
  (a18:nsIn K mainGlobals "mirrored" = some (some (.ref f18)))
  (l18:K.lookup f18 = some ⟨oc18,od18,.func (fnOf "mirrored" "mirrored" (Zap Zcb) (Zan Zcb) (Zae Zcb) .none kV18 dc18 pm18 an18 cd18 ct18),sl18⟩)
  (c18:codeIn K cd18 "mirrored" = true)
  (k18:keepIn K (.ref f18) = true)
  (a19:nsIn K mainGlobals "roots" = some (some (.ref f19)))
  (l19:K.lookup f19 = some ⟨oc19,od19,.func (fnOf "roots" "roots" (Zap Zem) (Zan Zem) (Zae Zem) .none kV19 dc19 pm19 an19 cd19 ct19),sl19⟩)
  (c19:codeIn K cd19 "roots" = true)
  (k19:keepIn K (.ref f19) = true)
  (a20:nsIn K mainGlobals "_law_form" = some (some (.ref f20)))
  (l20:K.lookup f20 = some ⟨oc20,od20,.func (fnOf "_law_form" "_law_form" (Zap Zcd) (Zan Zcd) (Zae Zcd) .none kV20 dc20 pm20 an20 cd20 ct20),sl20⟩)
  (c20:codeIn K cd20 "_law_form" = true)
  (k20:keepIn K (.ref f20) = true)
  (a21:nsIn K mainGlobals "_law_small" = some (some (.ref f21)))
  (l21:K.lookup f21 = some ⟨oc21,od21,.func (fnOf "_law_small" "_law_small" (Zap Zbx) (Zan Zbx) (Zae Zbx) .none kV21 dc21 pm21 an21 cd21 ct21),sl21⟩)
  (c21:codeIn K cd21 "_law_small" = true)
  (k21:keepIn K (.ref f21) = true)
  (a22:nsIn K mainGlobals "_law_near" = some (some (.ref f22)))
  (l22:K.lookup f22 = some ⟨oc22,od22,.func (fnOf "_law_near" "_law_near" (Zap Zcc) (Zan Zcc) (Zae Zcc) .none kV22 dc22 pm22 an22 cd22 ct22),sl22⟩)
  (c22:codeIn K cd22 "_law_near" = true)
  (k22:keepIn K (.ref f22) = true)
  (a23:nsIn K mainGlobals "law" = some (some (.ref f23)))
  (l23:K.lookup f23 = some ⟨oc23,od23,.func (fnOf "law" "law" (Zap Zgx) (Zan Zgx) (Zae Zgx) .none kV23 dc23 pm23 an23 cd23 ct23),sl23⟩)
  (c23:codeIn K cd23 "law" = true)
  (k23:keepIn K (.ref f23) = true)
  (aC:nsIn K mainGlobals "Drawing" = some (some (.ref C)))
  (a24:findIn K (.ref C) "__init__" = some (some (.ref f24)))
  (i24:isFn K (.ref f24) = true)
  (l24:K.lookup f24 = some ⟨oc24,od24,.func (fnOf "__init__" "Drawing.__init__" (Zap Zbb) (Zan Zbb) (Zae Zbb) .none kV24 dc24 pm24 an24 cd24 ct24),sl24⟩)
  (c24:codeIn K cd24 "Drawing.__init__" = true)
  (k24:keepIn K (.ref f24) = true)
  (a25:findIn K (.ref C) "pieces" = some (some (.ref f25)))
  (i25:isFn K (.ref f25) = true)
  (l25:K.lookup f25 = some ⟨oc25,od25,.func (fnOf "pieces" "Drawing.pieces" (Zap Za1) (Zan Za1) (Zae Za1) .none kV25 dc25 pm25 an25 cd25 ct25),sl25⟩)
  (c25:codeIn K cd25 "Drawing.pieces" = true)
  (k25:keepIn K (.ref f25) = true)
  (a26:findIn K (.ref C) "kinds" = some (some (.ref f26)))
  (i26:isFn K (.ref f26) = true)
  (l26:K.lookup f26 = some ⟨oc26,od26,.func (fnOf "kinds" "Drawing.kinds" (Zap Za4) (Zan Za4) (Zae Za4) .none kV26 dc26 pm26 an26 cd26 ct26),sl26⟩)
  (c26:codeIn K cd26 "Drawing.kinds" = true)
  (k26:keepIn K (.ref f26) = true)
  (pg:plainGet K C Str.empty = true)
  (hd:hasDictIn K C = true)
  (po:plainOver K C = true)
  (sa:findIn K (.ref C) "__setattr__" = some (some (.builtin "object.__setattr__")))
  (mk:makesIn K C = true)
  (kc:keepIn K (.ref C) = true)
  (nM:findIn K (.ref C) "many" = some none)
  (nA:findIn K (.ref C) "arrows" = some none)
  (g1:nsIn K mainGlobals "MOST_POINTS" = some (some (.int 8 t1)))
  (g2:nsIn K mainGlobals "MOST_ARROWS" = some (some (.int 9 t2)))
  (z0:nsIn K mainGlobals "len" = some none)
  (z1:nsIn K mainGlobals "range" = some none)
  (z2:nsIn K mainGlobals "list" = some none)
  (z3:nsIn K mainGlobals "min" = some none)
  (z4:nsIn K mainGlobals "int" = some none)
  (z5:nsIn K mainGlobals "bool" = some none)
  (z6:nsIn K mainGlobals "tuple" = some none)
  (z7:nsIn K mainGlobals "all" = some none)
  (z8:nsIn K mainGlobals "isinstance" = some none)
  (z9:nsIn K mainGlobals "sorted" = some none)
  (z10:nsIn K mainGlobals "sum" = some none)
  (z11:nsIn K mainGlobals "set" = some none)
  (a_LimbError:nsIn K mainGlobals "LimbError" = some (some (.ref x_LimbError)))
  (a_NoDrawing:nsIn K mainGlobals "NoDrawing" = some (some (.ref x_NoDrawing)))
  (a_NoKind:nsIn K mainGlobals "NoKind" = some (some (.ref x_NoKind)))
  (e_LimbError:PySem.W.excIn K x_LimbError [.type "ValueError",.type "Exception",.type "BaseException",.type "object"] "ValueError.__new__" = true)
  (e_NoKind:PySem.W.excIn K x_NoKind [.type "ValueError",.type "Exception",.type "BaseException",.type "object"] "ValueError.__new__" = true)
  (m_R:PySem.W.mroIn K x_NoKind (.ref x_LimbError) = some true)
  (n_R:x_NoKind ≠ x_LimbError)
  (y_ga:findIn K (.ref x_NoKind) "__getattribute__" = some (some (.builtin "BaseException.__getattribute__")))
  (y_gt:findIn K (.ref x_NoKind) "__getattr__" = some none)
  (y_cl:findIn K (.ref x_NoKind) "__class__" = some (some (.builtin "object.__class__")))
  (y_so:PySem.W.mroIn K x_NoKind (.type "object") = some true)
  (y_sb:PySem.W.mroIn K x_NoKind (.type "BaseException") = some true)
  (y_v:PySem.W.kitOne K (.ref x_NoKind) (.type "ValueError") = some true):
  ∃ fd:FuncData,(∀ (s:Shared) (v:Value),BindsTo s fd ⟨[v],[]⟩ [("_law_script",v)])/\∀ base:Heap,K.In base->base.Ns mainGlobals mg->FnOk l.prog w K mg base CX0 7 fa fd ["_law_script"] (Zo3 K):=by
 have e:=hfa.symm.trans (mg_of X G a23)
 cases e
 have T:Txt K mg C:=⟨⟨pg,hd,po,sa⟩,nM,nA,mg_none_of X G z0,mg_none_of X G z1,mg_none_of X G z2,mg_none_of X G z3,mg_none_of X G z4,mg_none_of X G z5,mg_none_of X G z6,mg_none_of X G z7,mg_none_of X G z8,mg_none_of X G z9,mg_none_of X G z10,mg_none_of X G z11,⟨t1,mg_of X G g1⟩,⟨t2,mg_of X G g2⟩⟩
 have F1:=Za7 (st:=Zcg) l1 c1 k1
 have b1:=F1.binds (ps:=["thing"]) fun _ _ _ _ _ _ us hl=>by obtain ⟨_,rfl⟩:=ex1 hl; rfl
 have F2:=Za7 (st:=Za2) l2 c2 k2
 have b2:=F2.binds (ps:=["many","arrows"]) fun _ _ _ _ _ _ us hl=>by obtain ⟨_,_,rfl⟩:=ex2 hl; rfl
 have F3:=Za7 (st:=Zch) l3 c3 k3
 have b3:=F3.binds (ps:=["many","thing"]) fun _ _ _ _ _ _ us hl=>by obtain ⟨_,_,rfl⟩:=ex2 hl; rfl
 have F4:=Za7 (st:=Zcf) l4 c4 k4
 have b4:=F4.binds (ps:=["_law_script","_law_k"]) fun _ _ _ _ _ _ us hl=>by obtain ⟨_,_,rfl⟩:=ex2 hl; rfl
 have F5:=Za7 (st:=Zcx) l5 c5 k5
 have b5:=F5.binds (ps:=["_law_cell_here"]) fun _ _ _ _ _ _ us hl=>by obtain ⟨_,rfl⟩:=ex1 hl; rfl
 have F6:=Za7 (st:=Zce) l6 c6 k6
 have b6:=F6.binds (ps:=["_law_bag_here","_law_many"]) fun _ _ _ _ _ _ us hl=>by obtain ⟨_,_,rfl⟩:=ex2 hl; rfl
 have F7:=Za7 (st:=Zby) l7 c7 k7
 have b7:=F7.binds (ps:=["_law_bag_here","_law_many"]) fun _ _ _ _ _ _ us hl=>by obtain ⟨_,_,rfl⟩:=ex2 hl; rfl
 have F8:=Za7 (st:=Za0) l8 c8 k8
 have b8:=F8.binds (ps:=["_law_bag_here","_law_way"]) fun _ _ _ _ _ _ us hl=>by obtain ⟨_,_,rfl⟩:=ex2 hl; rfl
 have F9:=Za7 (st:=Za3) l9 c9 k9
 have b9:=F9.binds (ps:=["_law_bag_here"]) fun _ _ _ _ _ _ us hl=>by obtain ⟨_,rfl⟩:=ex1 hl; rfl
 have F10:=Za7 (st:=Zbz) l10 c10 k10
 have b10:=F10.binds (ps:=["_law_bag_here","_law_way"]) fun _ _ _ _ _ _ us hl=>by obtain ⟨_,_,rfl⟩:=ex2 hl; rfl
 have F11:=Za7 (st:=Zb0) l11 c11 k11
 have b11:=F11.binds (ps:=["_law_bag_here","_law_way"]) fun _ _ _ _ _ _ us hl=>by obtain ⟨_,_,rfl⟩:=ex2 hl; rfl
 have F12:=Za7 (st:=Zc0) l12 c12 k12
 have b12:=F12.binds (ps:=["points","arrows"]) fun _ _ _ _ _ _ us hl=>by obtain ⟨_,_,rfl⟩:=ex2 hl; rfl
 have F13:=Za7 (st:=Zcy) l13 c13 k13
 have b13:=F13.binds (ps:=["points","arrows"]) fun _ _ _ _ _ _ us hl=>by obtain ⟨_,_,rfl⟩:=ex2 hl; rfl
 have F14:=Za7 (st:=Zgc) l14 c14 k14
 have b14:=F14.binds (ps:=["points","arrows","fork"]) fun _ _ _ _ _ _ us hl=>by obtain ⟨_,_,_,rfl⟩:=ex3 hl; rfl
 have F15:=Za7 (st:=Zbh) l15 c15 k15
 have b15:=F15.binds (ps:=["many","lengths"]) fun _ _ _ _ _ _ us hl=>by obtain ⟨_,_,rfl⟩:=ex2 hl; rfl
 have F16:=Za7 (st:=Zcz) l16 c16 k16
 have b16:=F16.binds (ps:=["drawing"]) fun _ _ _ _ _ _ us hl=>by obtain ⟨_,rfl⟩:=ex1 hl; rfl
 have F17:=Za7 (st:=Zdt) l17 c17 k17
 have b17:=F17.binds (ps:=["row","point"]) fun _ _ _ _ _ _ us hl=>by obtain ⟨_,_,rfl⟩:=ex2 hl; rfl
 have F18:=Za7 (st:=Zcb) l18 c18 k18
 have b18:=F18.binds (ps:=["drawing","point","row"]) fun _ _ _ _ _ _ us hl=>by obtain ⟨_,_,_,rfl⟩:=ex3 hl; rfl
 have F19:=Za7 (st:=Zem) l19 c19 k19
 have b19:=F19.binds (ps:=["drawing"]) fun _ _ _ _ _ _ us hl=>by obtain ⟨_,rfl⟩:=ex1 hl; rfl
 have F20:=Za7 (st:=Zcd) l20 c20 k20
 have b20:=F20.binds (ps:=["_law_arrows","_law_one","_law_other"]) fun _ _ _ _ _ _ us hl=>by obtain ⟨_,_,_,rfl⟩:=ex3 hl; rfl
 have F21:=Za7 (st:=Zbx) l21 c21 k21
 have b21:=F21.binds (ps:=["_law_many"]) fun _ _ _ _ _ _ us hl=>by obtain ⟨_,rfl⟩:=ex1 hl; rfl
 have F22:=Za7 (st:=Zcc) l22 c22 k22
 have b22:=F22.binds (ps:=["_law_many","_law_rows","_law_bag_here"]) fun _ _ _ _ _ _ us hl=>by obtain ⟨_,_,_,rfl⟩:=ex3 hl; rfl
 have F23:=Za7 (st:=Zgx) l23 c23 k23
 have F24:=Za7 (st:=Zbb) l24 c24 k24
 have b24:=F24.binds (ps:=["self","many","arrows"]) fun _ _ _ _ _ _ us hl=>by obtain ⟨_,_,_,rfl⟩:=ex3 hl; rfl
 have F25:=Za7 (st:=Za1) l25 c25 k25
 have b25:=F25.binds (ps:=["self"]) fun _ _ _ _ _ _ us hl=>by obtain ⟨_,rfl⟩:=ex1 hl; rfl
 have F26:=Za7 (st:=Za4) l26 c26 k26
 have b26:=F26.binds (ps:=["self"]) fun _ _ _ _ _ _ us hl=>by obtain ⟨_,rfl⟩:=ex1 hl; rfl
 refine ⟨fnOf "law" "law" (Zap Zgx) (Zan Zgx) (Zae Zgx) .none kV23 dc23 pm23 an23 cd23 ct23,fun s v=>.of_eq rfl,fun base KB _=>?_⟩
 have XT:Xt K mg base ⟨x_LimbError,x_NoDrawing,x_NoKind⟩:=⟨mg_of X G a_LimbError,mg_of X G a_NoDrawing,mg_of X G a_NoKind,Zm4 KB (mg_of X G a_LimbError) e_LimbError,Zm4 KB (mg_of X G a_NoKind) e_NoKind,Zm3 KB e_NoKind m_R n_R,⟨y_ga,y_gt,y_cl,y_so,y_sb⟩,Zlo y_so,y_v⟩
 have C1:Cal l.prog w K mg base "is_whole" 1 Zgq:=⟨_,_,_,Zpo F1 T ,mg_of X G a1,k1,b1⟩
 have C3:Cal l.prog w K mg base "is_arrow" 2 Zir:=⟨_,_,_,Zpu F3 T C1,mg_of X G a3,k3,b3⟩
 have C2:Cal l.prog w K mg base "makes_drawing" 3 Zip:=⟨_,_,_,Zps F2 T C1 C3,mg_of X G a2,k2,b2⟩
 have C4:Cal l.prog w K mg base "_law_cell" 1 (Zl7 K):=⟨_,_,_,ok_cell F4 T ,mg_of X G a4,k4,b4⟩
 have C5:Cal l.prog w K mg base "_law_bag" 1 spBag:=⟨_,_,_,ok_bag F5 T ,mg_of X G a5,k5,b5⟩
 have C6:Cal l.prog w K mg base "_law_draw" 1 Zdx:=⟨_,_,_,ok_draw F6 T ,mg_of X G a6,k6,b6⟩
 have C7:Cal l.prog w K mg base "_law_order" 2 Zl3:=⟨_,_,_,ok_ordN F7 T C6,mg_of X G a7,k7,b7⟩
 have C8:Cal l.prog w K mg base "_law_rest_edges" 2 (Zec 4 4):=⟨_,_,_,Zpr F8 T C6,mg_of X G a8,k8,b8⟩
 have C9:Cal l.prog w K mg base "_law_bad_edges" 2 (spOut way0):=⟨_,_,_,ok_bad F9 T C6,mg_of X G a9,k9,b9⟩
 have C10:Cal l.prog w K mg base "_law_edges" 3 (Zec 0 4):=⟨_,_,_,Zm8 F10 T C6 C9 C8,mg_of X G a10,k10,b10⟩
 have C11:Cal l.prog w K mg base "_law_drawn" 4 (Zec 0 4):=⟨_,_,_,Zm9 F11 T C6 C10 C7,mg_of X G a11,k11,b11⟩
 have C24:CalI l.prog w K mg base "Drawing" C 4 (Zjs C):=⟨_,_,_,ok_init F24 T C2,⟨mk,a24,i24,kc⟩,mg_of X G aC,b24⟩
 have C12:Cal l.prog w K mg base "hanging" 1 spHg:=⟨_,_,_,ok_hg F12 T ,mg_of X G a12,k12,b12⟩
 have C15:Cal l.prog w K mg base "forked_kind" 1 spFk:=⟨_,_,_,ok_fk F15 T ,mg_of X G a15,k15,b15⟩
 have C14:Cal l.prog w K mg base "arms" 2 Zl8:=⟨_,_,_,ok_arms F14 T C12,mg_of X G a14,k14,b14⟩
 have C13:Cal l.prog w K mg base "kind_of" 3 spKo:=⟨_,_,_,ok_ko F13 T C14 C15,mg_of X G a13,k13,b13⟩
 have C25:CalM l.prog w K mg base C "pieces" 2 (Zgs C):=⟨_,_,_,ok_pcs F25 T C12,⟨a25,i25,k25⟩,b25⟩
 have C26:CalM l.prog w K mg base C "kinds" 4 (Ziq C):=⟨_,_,_,Zpt F26 T C25 C13,⟨a26,i26,k26⟩,b26⟩
 have C16:Cal l.prog w K mg base "is_good" 5 (Zl5 C):=⟨_,_,_,ok_good F16 T C26,mg_of X G a16,k16,b16⟩
 have C17:Cal l.prog w K mg base "raised" 1 Zgr:=⟨_,_,_,Zm7 F17 T ,mg_of X G a17,k17,b17⟩
 have C18:Cal l.prog w K mg base "mirrored" 1 (spMir C):=⟨_,_,_,ok_mir F18 T ,mg_of X G a18,k18,b18⟩
 have C19:CalE l.prog w K mg base "roots" 6 (Zio C (⟨x_LimbError,x_NoDrawing,x_NoKind⟩:Pf.Cs).NoKind):=⟨_,_,_,Zpq F19 T XT C16 C17 C18,mg_of X G a19,k19,b19⟩
 have C20:Cal l.prog w K mg base "_law_form" 1 Zl6:=⟨_,_,_,ok_form F20 T ,mg_of X G a20,k20,b20⟩
 have C21:Cal l.prog w K mg base "_law_small" 1 Zin:=⟨_,_,_,Zpp F21 T ,mg_of X G a21,k21,b21⟩
 have C22:Cal l.prog w K mg base "_law_near" 2 Zl4:=⟨_,_,_,ok_near F22 T C6,mg_of X G a22,k22,b22⟩
 exact ok_law F23 T XT C4 C5 C6 C11 C24 C19 C21 C22 C20
theorem walk {l:PySem.W.OpenLaw} {q:Program} {loose:List Str} {XP:(Str->Option Value)->Heap->Prop} {YP:World->Heap->Prop} {d:DefRec} {K:Params->PySem.W.Frag} (hq:importsNone q = true) (hn:l.most = some 63) (hdf:d.params.defaults = [])
  (hY:∀ (w:World) (h:Heap),YP w h->(K w.params).In h)
  (F:∀ (w:World) (mg:Str->Option Value) (fa:Addr) (h:Heap),(K w.params).In h->h.Ns mainGlobals mg->mg d.name = some (.ref fa)->
   ∃ fd:FuncData,(∀ (s:Shared) (u:Value),BindsTo s fd ⟨[u],[]⟩ [("_law_script",u)])/\∀ base:Heap,(K w.params).In base->base.Ns mainGlobals mg->FnOk l.prog w (K w.params) mg base CX0 7 fa fd ["_law_script"] (Zo3 (K w.params))):
  PySem.W.WalkO q loose XP YP l.row.toRowW d [] (fun f vs=>PySem.call f vs):=
 L2.walk_of (n:=63) (k:=7) (x:="_law_script") (CX:=fun _=>CX0) (sp:=fun w=>Zo3 (K w.params)) hq hn (by decide) hdf ⟨rfl,by decide,by decide⟩ hY F (fun _ _ a ns hl _ hS=>⟨a,ns,rfl,hS,hl,fun _=>rfl⟩) (fun _ _ _ _ _ h=>h)
end Pf
namespace PySem.W.Fast
def tw3411744435243328007:=0
def tw7803073002788482290:=0
def tw8156540898133317006:=0
def tw3323069177564225787:=0
def tw16931173842784251959:=0
def tw3190959253028211325:=0
def tw14993270879008460998:=0
def tw14707632278152874799:=0
def tw8613648934316781470:=0
def tw9109474230801232310:=0
def tw188254152329736674:=0
def tw9452734194223239005:=0
def tw749875805277243640:=0
def tw16246602741758890581:=0
def tw7230658024845230360:=0
def tw457676366926770476:=0
def tw8107660117868069465:=0
def tw600232628404912667:=0
def tw6150764056647265714:=0
def tw18395179403389456415:=0
def tw11700363174455891294:=0
def tw9342236846233311656:=0
def tw11015081577076658814:=0
def tw7054647927108620666:=0
def tw7043409175710943424:=0
def tw10813020687232592975:=0
def tw11773365017182492820:=0
def tw4685629656158408382:=0
def tw4473035216855066759:=0
def tw528269605390300424:=0
def tw13943850741228408091:=0
def tw13055589502016511818:=0
def tw10839615312735232359:=0
def tw15646643387885873662:=0
def tw17315359116251967033:=0
def tw1463518891664937624:=0
def tw332814512589820193:=0
def tw4345310682317690292:=0
def tw2894855528852931679:=0
def tw4135317338955977734:=0
def tw1944593390616870601:=0
def tw15628391474592783682:=0
def tw16373101922856134702:=0
def tw13200542560871059150:=0
def tw6841022956624993587:=0
def tw2057155050493252310:=0
def tw13811644402584062776:=0
def tw4290333720361613559:=0
def tw1417044162492994203:=0
def tw13011084149041758482:=0
def tw17788061684816231714:=0
def tw6684448898970884744:=0
def tw16457017972162586691:=0
def tw17310076341306162013:=0
def tw12911785901874291110:=0
def tw2113322324345919998:=0
def tw6067035733806649587:=0
def tw9594844049873891548:=0
def tw6808887504556650165:=0
def tw8370529514921787271:=0
def tw10139335676910731932:=0
def tw8824976375090543822:=0
def tw11902429763190831894:=0
def tw16793492867705975313:=0
end PySem.W.Fast
open PySem PySem.W PyProof.Rows
set_option maxRecDepth 100000 in
set_option maxHeartbeats 0 in
theorem PySem.Challenge.cw_limbtables_k24_whole_roots_found_holds : PySem.Challenge.rw_limbtables_k24_whole_roots_found.Holds := by
 w_on; o_law; k_head; (case hw=>w_witness2)
 k_fill
 refine Pf.walk (l:=PySem.Challenge.rw_limbtables_k24_whole_roots_found) (by decide +kernel) rfl rfl (fun w h Y=>by first | exact PySem.W.kIn_of Y | exact PySem.W.km_in_of Y) ?F
 case F=>
  intro w mg fa h KX G hmg
  refine' Pf.all_mk KX G hmg ?a1 ?l1 ?c1 ?k1 ?a2 ?l2 ?c2 ?k2 ?a3 ?l3 ?c3 ?k3 ?a4 ?l4 ?c4 ?k4 ?a5 ?l5 ?c5 ?k5 ?a6 ?l6 ?c6 ?k6 ?a7 ?l7 ?c7 ?k7 ?a8 ?l8 ?c8 ?k8 ?a9 ?l9 ?c9 ?k9 ?a10 ?l10 ?c10 ?k10 ?a11 ?l11 ?c11 ?k11 ?a12 ?l12 ?c12 ?k12 ?a13 ?l13 ?c13 ?k13 ?a14 ?l14 ?c14 ?k14 ?a15 ?l15 ?c15 ?k15 ?a16 ?l16 ?c16 ?k16 ?a17 ?l17 ?c17 ?k17 ?a18 ?l18 ?c18 ?k18 ?a19 ?l19 ?c19 ?k19 ?a20 ?l20 ?c20 ?k20 ?a21 ?l21 ?c21 ?k21 ?a22 ?l22 ?c22 ?k22 ?a23 ?l23 ?c23 ?k23 ?aC ?a24 ?i24 ?l24 ?c24 ?k24 ?a25 ?i25 ?l25 ?c25 ?k25 ?a26 ?i26 ?l26 ?c26 ?k26 ?pg ?hd ?po ?sa ?mk ?kc ?nM ?nA ?g1 ?g2 ?z0 ?z1 ?z2 ?z3 ?z4 ?z5 ?z6 ?z7 ?z8 ?z9 ?z10 ?z11 ?a_LimbError ?a_NoDrawing ?a_NoKind ?e_LimbError ?e_NoKind ?m_R ?n_R ?y_ga ?y_gt ?y_cl ?y_so ?y_sb ?y_v
  (case a1=>k_is)
  (case l1=>k_is)
  (case c1=>k_is)
  (case k1=>k_is)
  (case a2=>k_is)
  (case l2=>k_is)
  (case c2=>k_is)
  (case k2=>k_is)
  (case a3=>k_is)
  (case l3=>k_is)
  (case c3=>k_is)
  (case k3=>k_is)
  (case a4=>k_is)
  (case l4=>k_is)
  (case c4=>k_is)
  (case k4=>k_is)
  (case a5=>k_is)
  (case l5=>k_is)
  (case c5=>k_is)
  (case k5=>k_is)
  (case a6=>k_is)
  (case l6=>k_is)
  (case c6=>k_is)
  (case k6=>k_is)
  (case a7=>k_is)
  (case l7=>k_is)
  (case c7=>k_is)
  (case k7=>k_is)
  (case a8=>k_is)
  (case l8=>k_is)
  (case c8=>k_is)
  (case k8=>k_is)
  (case a9=>k_is)
  (case l9=>k_is)
  (case c9=>k_is)
  (case k9=>k_is)
  (case a10=>k_is)
  (case l10=>k_is)
  (case c10=>k_is)
  (case k10=>k_is)
  (case a11=>k_is)
  (case l11=>k_is)
  (case c11=>k_is)
  (case k11=>k_is)
  (case a12=>k_is)
  (case l12=>k_is)
  (case c12=>k_is)
  (case k12=>k_is)
  (case a13=>k_is)
  (case l13=>k_is)
  (case c13=>k_is)
  (case k13=>k_is)
  (case a14=>k_is)
  (case l14=>k_is)
  (case c14=>k_is)
  (case k14=>k_is)
  (case a15=>k_is)
  (case l15=>k_is)
  (case c15=>k_is)
  (case k15=>k_is)
  (case a16=>k_is)
  (case l16=>k_is)
  (case c16=>k_is)
  (case k16=>k_is)
  (case a17=>k_is)
  (case l17=>k_is)
  (case c17=>k_is)
  (case k17=>k_is)
  (case a18=>k_is)
  (case l18=>k_is)
  (case c18=>k_is)
  (case k18=>k_is)
  (case a19=>k_is)
  (case l19=>k_is)
  (case c19=>k_is)
  (case k19=>k_is)
  (case a20=>k_is)
  (case l20=>k_is)
  (case c20=>k_is)
  (case k20=>k_is)
  (case a21=>k_is)
  (case l21=>k_is)
  (case c21=>k_is)
  (case k21=>k_is)
  (case a22=>k_is)
  (case l22=>k_is)
  (case c22=>k_is)
  (case k22=>k_is)
  (case a23=>k_is)
  (case l23=>k_is)
  (case c23=>k_is)
  (case k23=>k_is)
  (case aC=>k_is)
  (case a24=>k_is)
  (case i24=>k_is)
  (case l24=>k_is)
  (case c24=>k_is)
  (case k24=>k_is)
  (case a25=>k_is)
  (case i25=>k_is)
  (case l25=>k_is)
  (case c25=>k_is)
  (case k25=>k_is)
  (case a26=>k_is)
  (case i26=>k_is)
  (case l26=>k_is)
  (case c26=>k_is)
  (case k26=>k_is)
  (case pg=>k_is)
  (case hd=>k_is)
  (case po=>k_is)
  (case sa=>k_is)
  (case mk=>k_is)
  (case kc=>k_is)
  (case nM=>k_is)
  (case nA=>k_is)
  (case g1=>k_is)
  (case g2=>k_is)
  (case z0=>k_is)
  (case z1=>k_is)
  (case z2=>k_is)
  (case z3=>k_is)
  (case z4=>k_is)
  (case z5=>k_is)
  (case z6=>k_is)
  (case z7=>k_is)
  (case z8=>k_is)
  (case z9=>k_is)
  (case z10=>k_is)
  (case z11=>k_is)
  (case a_LimbError=>k_is)
  (case a_NoDrawing=>k_is)
  (case a_NoKind=>k_is)
  (case e_LimbError=>k_exc)
  (case e_NoKind=>k_exc)
  (case m_R=>k_is)
  (case n_R=>decide)
  (case y_ga=>k_is)
  (case y_gt=>k_is)
  (case y_cl=>k_is)
  (case y_so=>k_is)
  (case y_sb=>k_is)
  (case y_v=>kit_is)
#print axioms PySem.Challenge.cw_limbtables_k24_whole_roots_found_holds