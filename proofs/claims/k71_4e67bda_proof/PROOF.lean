import PyProof.Rows.All
import Wide.All
import OpenK.AllK
import Wide.FinOn
import Lean
import PyProof.EqAt
import PyProof.EqKinds
import PyProof.TupleCall
import PyProof.ZipIter
import PyProof.Rows.ZipGen
import PyProof.SumWalkG
import PyProof.EnumMake
import PyProof.EnumFor
import KE.KRevIter
import PyProof.ListNew
import PyProof.FactsAll.int_6
import PyProof.AutoIntG2
import PyProof.RulesAs
import PyProof.Rows.TopTwo
import PyProof.ExcArgsOwn
import PyProof.ExcBaseAll.ValueError
import OpenK.KDescr
import KE.RegKIsAll
import PyProof.EqKinds
import PyProof.Rows.FStr
import PyProof.NeKinds
import PySem.Challenge.RW_limbtables_k71_tables_and_drawings_writt
abbrev Jaa:=@List.getElem?_eq_getElem
abbrev Jab:=@List.length_append
abbrev Jac:=@List.length_map
abbrev Jad:=@PySem.Heap.get?_push_of_some
abbrev Jae:=@Nat.le_refl
abbrev Jaf:=@PySem.Heap.lt_size
abbrev Jag:=@decide_eq_true
abbrev Jah:=@of_decide_eq_true
abbrev Jai:=@List.mem_cons_of_mem
abbrev Jaj:=@PySem.wpAny_bind
abbrev Jak:=@decide_eq_false
abbrev Jal:=@List.mem_of_getElem?
abbrev Jam:=@List.size_toArray
abbrev Jan:=@Nat.lt_of_lt_of_le
abbrev Jao:=@Bool.false_ne_true
abbrev Jap:=@List.length_cons
abbrev Jaq:=@PySem.Heap.get?_push_size
abbrev Jar:=@List.mem_singleton
abbrev Jas:=@List.getElem?_map
abbrev Jat:=@List.getElem?_eq_some_iff
abbrev Jau:=@List.getD_eq_getElem?_getD
abbrev Jav:=@List.mem_cons
abbrev Jaw:=@List.lookup_cons
abbrev Jax:=@List.mem_append_right
abbrev Jay:=@Bool.and_eq_true
abbrev Jaz:=@PySem.F.plainAttrs_str
abbrev Ja0:=@List.all_eq_true
abbrev Ja1:=@List.mem_iff_getElem
abbrev Ja2:=@PyProof.Rows.boot_isinstance
abbrev Ja3:=@Option.some.inj
abbrev Ja4:=@List.mem_append
abbrev Ja5:=@PySem.wpAny_pure
abbrev Ja6:=@List.filterMap_cons
abbrev Ja7:=@beq_iff_eq
abbrev Ja8:=@Nat.ne_of_lt
abbrev Ja9:=@Nat.lt_irrefl
abbrev Jba:=@List.getElem_mem
abbrev Jbb:=@PySem.wpAny_mono
abbrev Jbc:=@List.map_append
abbrev Jbd:=@List.mem_cons_self
abbrev Jbe:=@Nat.lt_of_le_of_lt
abbrev Jbf:=@List.getElem?_eq_none
abbrev Jbg:=@List.length_drop
abbrev Jbh:=@List.getElem?_append_left
abbrev Jbi:=@beq_eq_false_iff_ne
abbrev Jbj:=@PySem.W.kia_one
abbrev Jbk:=@PySem.mem_of_lookup
abbrev Jbl:=@List.length_replicate
abbrev Jbm:=@PySem.PassesOwn.never
abbrev Jbn:=@List.mem_range
abbrev Jbo:=@PySem.wpAny_truthy_bool
abbrev Jbp:=@List.getElem?_append_right
abbrev Jbq:=@List.mem_map
abbrev Jbr:=@List.set_cons_zero
abbrev Jbs:=@PySem.Heap.get?_update_other
abbrev Jbt:=@List.take_of_length_le
abbrev Jbu:=@List.mem_or_eq_of_mem_set
abbrev Jbv:=@List.length_take
abbrev Jbw:=@Nat.le_trans
abbrev Jbx:=@PySem.F.slot_str_join
abbrev Jby:=@PySem.F.type_str_join
abbrev Jbz:=@Bool.eq_iff_iff
abbrev Jb0:=@List.getElem?_replicate
abbrev Jb1:=@PySem.F.plainAttrs_list
abbrev Jb2:=@PySem.boot_len
abbrev Jb3:=@Option.isSome_iff_exists
abbrev Jb4:=@PySem.F.slot_list_append
abbrev Jb5:=@PySem.F.type_list_append
abbrev Jb6:=@Nat.le_of_succ_le
abbrev Jb7:=@PyProof.Rows.callWith_type1
abbrev Jb8:=@Nat.zero_le
abbrev Jb9:=@PySem.W.cellsFrom_some
abbrev Jca:=@Array.getElem?_eq_some_iff
abbrev Jcb:=@Nat.le_of_lt
abbrev Jcc:=@Bool.true_and
abbrev Jcd:=@Bool.and_false
abbrev Jce:=@PySem.wpAny_passesOwn
abbrev Jcf:=@List.map_cons
abbrev Jcg:=@if_true
abbrev Jch:=@PySem.wpAny_Call_Name_kw
abbrev Jci:=@List.append_nil
abbrev Jcj:=@PySem.wpAny_loadPart_at
abbrev Jck:=@List.length_range
abbrev Jcl:=@List.mem_append_left
abbrev Jcm:=@Bool.false_and
abbrev Jcn:=@PySem.Heap.size_push
abbrev Jco:=@List.take_length
abbrev Jcp:=@PySem.typeIs_str
abbrev Jcq:=@PySem.wpAny_comprehension_free
abbrev Jcr:=@List.map_map
abbrev Jcs:=@PySem.wpAny_execs_nil
abbrev Jct:=@List.length_set
abbrev Jcu:=@List.forIn_cons
abbrev Jcv:=@PySem.Obj.data_mapFields
abbrev Jcw:=@List.drop_of_length_le
abbrev Jcx:=@PySem.F.slot_str_split
abbrev Jcy:=@PySem.F.type_str_split
abbrev Jcz:=@List.ext_getElem?
abbrev Jc0:=@PySem.wpAny_field
abbrev Jc1:=@Bool.not_eq_true'
abbrev Jc2:=@List.take_add_one
abbrev Jc3:=@PyProof.Rows.joinParts_cons
abbrev Jc4:=@Nat.mul_le_mul
abbrev Jc5:=@PySem.Heap.get?_update_self
abbrev Jc6:=@PyProof.Rows.formatField_int_small
abbrev Jc7:=@List.any_eq_true
abbrev Jc8:=@Nat.le_add_right
abbrev Jc9:=@List.range'_append_1
abbrev Jda:=@List.mem_of_mem_drop
abbrev Jdb:=@List.mem_of_mem_take
abbrev Jdc:=@PySem.wpAny_standAt
abbrev Jdd:=@PySem.call_meets
abbrev Jde:=@List.nodup_cons
abbrev Jdf:=@List.of_mem_zip
abbrev Jdg:=@Int.mul_pos
abbrev Jdh:=@List.getElem?_range
abbrev Jdi:=@List.range_succ
abbrev Jdj:=@Array.append_assoc
abbrev Jdk:=@PySem.Calls.Constant_str
abbrev Jdl:=@congrArg
abbrev Jdm:=@Nat.ne_of_gt
abbrev Jdn:=@List.mem_filterMap
abbrev Jdo:=@PySem.codeAny_mono
abbrev Jdp:=@PySem.W.callWith_K
abbrev Jdq:=@PySem.SeqAt.EqAt.of_refs
abbrev Jdr:=@Int.emod_lt_of_pos
abbrev Jds:=@List.contains_cons
abbrev Jdt:=@Bool.false_eq_true
abbrev Jdu:=@PySem.F.args_str_split_2
abbrev Jdv:=@List.set_cons_succ
abbrev Jdw:=@PyProof.Rows.boot_str
abbrev Jdx:=@Ne.symm
abbrev Jdy:=@PySem.sliceRange_one
abbrev Jdz:=@PySem.wpAny_setField
abbrev Jd0:=@PySem.wpAny_nameGoes
abbrev Jd1:=@List.drop_zero
abbrev Jd2:=@PySem.wpAny_pyIter_list
abbrev Jd3:=@PySem.slot_list_getitem
abbrev Jd4:=@PySem.wpAny_newObj_type
abbrev Jd5:=@Int.gcd_dvd_right
abbrev Jd6:=@PySem.F.entry_str_split
abbrev Jd7:=@List.append_assoc
abbrev Jd8:=@List.all_eq_false
abbrev Jd9:=@PySem.sizeLine_eq
abbrev Jea:=@if_false
abbrev Jeb:=@PyProof.Rows.boot_int
set_option compiler.postponeCompile true
set_option bootstrap.genMatcherCode false
set_option genSizeOf false
-- CHANGE: your row's module here,as the last of these rows
set_option Elab.async false
set_option linter.all false
set_option maxRecDepth 100000
namespace L2
open PySem PySem.Spec PyProof.Rows
abbrev Key:=Sum Int Str
def keyIs:Key->Value->Bool
 | .inl k,v=>Value.isInt k v
 | .inr x,v=>Value.isStrOf x v
def keyH (w:World):Key->Int
 | .inl k=>hashInt k
 | .inr x=>hashStr w x
theorem Zba:∀ {k:Key} {v:Value},keyIs k v = true->(∃ i t,k = Sum.inl i/\v = Value.int i t)\/(∃ x t,k = Sum.inr x/\v = Value.str x t)
 | .inl i,v,h=>by
  obtain ⟨t,e⟩:=Value.isInt_shape (k:=i) (v:=v) h
  exact .inl ⟨i,t,rfl,e⟩
 | .inr x,v,h=>by
  obtain ⟨t,e⟩:=Value.isStrOf_shape (x:=x) (v:=v) h
  exact .inr ⟨x,t,rfl,e⟩
theorem key_ll (a b:Int):decide ((Sum.inl a:Key) = Sum.inl b) = (a == b):=by
 by_cases e:a = b
 ·subst e; simp
 ·have h:¬ (Sum.inl a:Key) = Sum.inl b:=fun q=>e (Sum.inl.inj q)
  rw [Jak h]
  exact (Jbi.mpr e).symm
theorem key_rr (a b:Str):decide ((Sum.inr a:Key) = Sum.inr b) = decide (a = b):=by
 by_cases e:a = b
 ·subst e; simp
 ·have h:¬ (Sum.inr a:Key) = Sum.inr b:=fun q=>e (Sum.inr.inj q)
  rw [Jak h,Jak e]
theorem key_lr (a:Int) (b:Str):decide ((Sum.inl a:Key) = Sum.inr b) = false:=Jak (fun q=>nomatch q)
theorem key_rl (a:Str) (b:Int):decide ((Sum.inr a:Key) = Sum.inl b) = false:=Jak (fun q=>nomatch q)
def Zmj (prog:Program) (w:World):PySem.KeyKind prog w Key where
 is:=keyIs
 hash:=keyH w
 inj:=fun v a b ha hb=>by
  rcases Zba ha with ⟨i,t,rfl,rfl⟩ | ⟨x,t,rfl,rfl⟩
  ·rcases Zba hb with ⟨j,u,rfl,e⟩ | ⟨y,u,rfl,e⟩
   ·injection e with e1 _; rw [e1]
   ·exact nomatch e
  ·rcases Zba hb with ⟨j,u,rfl,e⟩ | ⟨y,u,rfl,e⟩
   ·exact nomatch e
   ·injection e with e1 _; rw [e1]
 byValue:=fun k v h=>by
  rcases Zba h with ⟨i,t,rfl,rfl⟩ | ⟨x,t,rfl,rfl⟩ <;> rfl
 pyHash:=fun hv h=>by
  rcases Zba hv with ⟨i,t,rfl,rfl⟩ | ⟨x,t,rfl,rfl⟩
  ·exact wpAny_pyHash_int h
  ·exact wpAny_pyHash_str h
 eqBool:=fun hu hv h=>by
  rcases Zba hu with ⟨i,t,rfl,rfl⟩ | ⟨x,t,rfl,rfl⟩
  ·rcases Zba hv with ⟨j,u,rfl,rfl⟩ | ⟨y,u,rfl,rfl⟩
   ·rw [key_ll] at h; exact wpAny_eqBool_int h
   ·rw [key_lr] at h; exact SeqAt.EqAt.int_str i t y u _ _ _ _ h
  ·rcases Zba hv with ⟨j,u,rfl,rfl⟩ | ⟨y,u,rfl,rfl⟩
   ·rw [key_rl] at h; exact SeqAt.EqAt.str_int x t j u _ _ _ _ h
   ·rw [key_rr] at h; exact wpAny_eqBool_str h
 «strs»:=fun k x t v h=>by
  rcases Zba h with ⟨i,u,rfl,e⟩ | ⟨y,u,rfl,e⟩
  ·exact nomatch e
  ·injection e with e1 _
   subst e1
   cases v <;> rfl
inductive V where
 | non | bl (b:Bool) | int (i:Int) | str (x:Str) | byt (b:Array UInt8) | flt (b:UInt64) | ref (a:Addr) | ty (n:String)
 deriving DecidableEq
def RelV:V->Value->Prop
 | .non,u=>u = Value.none
 | .bl b,u=>u = Value.bool b
 | .int i,u=>∃ t,u = Value.int i t
 | .str x,u=>∃ t,u = Value.str x t
 | .byt b,u=>∃ t,u = Value.bytes b t
 | .flt b,u=>∃ t,u = Value.float b t
 | .ref a,u=>u = Value.ref a
 | .ty n,u=>u = Value.type n
abbrev Vals:List V->List Value->Prop:=Paired RelV
theorem Vals.length {xs:List V} {us:List Value} (r:Vals xs us):xs.length = us.length:=Paired.length r
theorem Vals.get:∀ {xs:List V} {us:List Value} {i:Nat} {x:V},Vals xs us->xs[i]? = some x->∃ u,us[i]? = some u/\RelV x u
 | _,_,_,_,.nil,e=>by simp at e
 | _,_,0,_,.cons r _,e=>by simp at e; subst e; exact ⟨_,rfl,r⟩
 | _,_,i + 1,x,.cons _ t,e=>by
  obtain ⟨u,h1,h2⟩:=Vals.get (i:=i) (x:=x) t (by simpa using e)
  exact ⟨u,by simpa using h1,h2⟩
theorem Vals.set {x:V} {u:Value} (r:RelV x u):∀ {xs:List V} {us:List Value} (i:Nat),Vals xs us->Vals (xs.set i x) (us.set i u)
 | _,_,_,.nil=>.nil
 | _,_,0,.cons _ t=>.cons r t
 | _,_,i + 1,.cons q t=>.cons q (Vals.set r i t)
theorem Vals.append:∀ {xs ys:List V} {us ws:List Value},Vals xs us->Vals ys ws->Vals (xs ++ ys) (us ++ ws)
 | _,_,_,_,.nil,s=>s
 | _,_,_,_,.cons r t,s=>.cons r (Vals.append t s)
theorem Vals.take:∀ {xs:List V} {us:List Value} (n:Nat),Vals xs us->Vals (xs.take n) (us.take n)
 | _,_,0,_=>.nil
 | _,_,_ + 1,.nil=>.nil
 | _,_,n + 1,.cons r t=>.cons r (Vals.take n t)
theorem Vals.drop:∀ {xs:List V} {us:List Value} (n:Nat),Vals xs us->Vals (xs.drop n) (us.drop n)
 | _,_,0,r=>r
 | _,_,_ + 1,.nil=>.nil
 | _,_,n + 1,.cons _ t=>Vals.drop n t
def RelO:Option V->Option Value->Prop
 | some v,some u=>RelV v u
 | none,none=>True
 | _,_=>False
def KV {κ:Type}:List (κ × V)->List (κ × Value)->Prop:=Paired fun (p:κ × V) (q:κ × Value)=>p.1 = q.1/\RelV p.2 q.2
def kV:Key->V
 | .inl i=>.int i
 | .inr x=>.str x
inductive HO where
  | lst (xs:List V)
  | tup (xs:List V)
  | dK (kvs:List (Key × V)) | dT (kvs:List (List Key × V))
  | set (S:Int->Bool) (n:Nat)
  | ins (C dx:Addr) (fs:List (Str × V))
  | own (x:Addr)
  | xd (fs:List (Str × V))
  | met (f x:Addr)
  | rng (lo hi:Int)
  | frz (o:Obj) (u:HO)
  | tbl (ps:Array Value)
  | ext (φ:Heap->Prop)
  | tab (l c:Int) (q:Str)
abbrev Hp:=Addr->Option HO
def upd (H:Hp) (a:Addr) (o:HO):Hp:=fun b=>if b = a then some o else H b
theorem Zac {H:Hp} {a:Addr} {o:HO}:upd H a o a = some o:=by unfold upd; rw [if_pos rfl]
theorem Zah {H:Hp} {a b:Addr} {o:HO} (h:b ≠ a):upd H a o b = H b:=by unfold upd; rw [if_neg h]
theorem ne_of {H:Hp} {a b:Addr} {o u:HO} (h:H a = some o) (h':H b = some u) (d:o ≠ u):a ≠ b:=by
 intro e; subst e; rw [h] at h'; exact d (Ja3 h')
theorem Zai {H:Hp} {a b:Addr} {o:HO} (h:H a = some o) (h':H b = none):a ≠ b:=by
 intro e; subst e; rw [h] at h'; cases h'
section
variable (P:Program) (w:World)
def ObjOk (H:Hp) (h:Heap) (a:Addr):HO->Prop
 | .lst xs=>xs.length<=sizeLine/\∃ (its:List Value) (n:Nat),Vals xs its/\h.get? a = some { cls:=.type "list",data:=.seq its.toArray n }
 | .tup xs=>xs.length<=sizeLine/\∃ its:List Value,Vals xs its/\IsTup h a its.toArray
 | .dK kvs=>kvs.length<=sizeLine/\(a == sysModules) = false/\∃ vs,KV kvs vs/\h.DictOf (Zmj P w) a vs
 | .dT kvs=>kvs.length<=sizeLine/\(a == sysModules) = false/\∃ xs:List (List Key × Addr × Value),
   Paired (fun (p:List Key × V) (q:List Key × Addr × Value)=>p.1 = q.1/\H q.2.1 = some (.tup (p.1.map kV))/\RelV p.2 q.2.2) kvs xs /\
   ∃ o es ep,h.get? a = some o/\o.ExactDict/\o.data = .dict es ep/\es.toList = xs.map (entryOfKey (tupleKind (Zmj P w)))/\(xs.map (·.1)).Nodup
 | .set S n=>h.SetOf (intKind P w) a S n
 | .ins C dx fs=>H dx = some (.own a)/\fs.length<=1000/\dx ≠ a/\h.get? a = some (PySem.W.instObj C dx) /\
   ∃ mA,h.Ns1 dx mA/\(∀ f,RelO (fs.lookup f) (mA f))/\PySem.Within mA (fs.map (·.1))
 | .own _=>∃ o,h.get? a = some o
 | .xd fs=>∃ mA,h.Ns1 a mA/\∀ f,RelO (fs.lookup f) (mA f)
 | .rng lo hi=>∃ t u v,h.get? a = some { cls:=.type "range",data:=.fields #[.int lo t,.int hi u,.int 1 v] }
 | .frz o u=>h.get? a = some o/\ObjOk H h a u
 | .tbl ps=>h.get? a = some { cls:=.none,data:=.fields ps }
 | .met f x=>h.get? a = some (PySem.W.methodObj (.ref f) (.ref x))
 | .ext φ=>φ h/\(∃ o,h.get? a = some o)/\∀ h1 h2:Heap,φ h1->(∀ o,h1.get? a = some o->h2.get? a = some o)->φ h2
 | .tab l c q=>h.get? a = some { cls:=.none,data:=.fields #[] }\/∃ c' oc vs t,h.get? a = some { cls:=.none,data:=.fields #[rawInt l,rawInt c,.ref c'] }/\c' ≠ a/\H c' = some (.frz oc (.own a))/\oc.data = .fields vs/\vs[1]? = some (.str q t)
def HOk (H:Hp) (h:Heap):Prop:=∀ a o,H a = some o->ObjOk P w H h a o
end
section
variable {P:Program} {w:World} {H H':Hp} {h h':Heap} {a:Addr} {o:HO}
theorem ObjOk.lt (x:ObjOk P w H h a o):a < h.objs.size:=by
 cases o with
 | lst xs=>obtain ⟨_,_,_,_,e⟩:=x; exact Jaf e
 | tup xs=>obtain ⟨_,_,_,p⟩:=x; exact p.lt
 | dK kvs=>obtain ⟨_,_,_,_,o,_,_,e,_⟩:=x; exact Jaf e
 | dT kvs=>obtain ⟨_,_,_,_,o,_,_,e,_⟩:=x; exact Jaf e
 | set S n=>obtain ⟨o,_,_,_,e,_⟩:=x; exact Jaf e
 | ins C dx fs=>obtain ⟨_,_,_,e,_⟩:=x; exact Jaf e
 | own y=>obtain ⟨_,e⟩:=x; exact Jaf e
 | xd fs=>obtain ⟨_,⟨_,_,_,e,_⟩,_⟩:=x; exact Jaf e
 | rng lo hi=>obtain ⟨_,_,_,e⟩:=x; exact Jaf e
 | frz ob u=>obtain ⟨e,_⟩:=x; exact Jaf e
 | tbl ps=>exact Jaf (show h.get? a = some _ from x)
 | met f y=>exact Jaf (show h.get? a = some _ from x)
 | ext φ=>obtain ⟨_,⟨_,e⟩,_⟩:=x; exact Jaf e
 | tab l c q=>
  rcases x with e | ⟨_,_,_,_,e,_⟩
  ·exact Jaf e
  ·exact Jaf e
theorem Paired.mapP {α β:Type} {F G:α->β->Prop}:∀ {l₁:List α} {l₂:List β},Paired F l₁ l₂->(∀ a b,F a b->G a b)->Paired G l₁ l₂
 | _,_,.nil,_=>.nil
 | _,_,.cons r t,f=>.cons (f _ _ r) (Paired.mapP t f)
theorem ObjOk.stay (x:ObjOk P w H h a o) (k:∀ b u,(b = a\/H b = some (.own a))->h.get? b = some u->h'.get? b = some u)
  (ho:∀ b,H b = some (.own a)->H' b = some (.own a)) (ht:∀ b xs,H b = some (.tup xs)->H' b = some (.tup xs)) (hz:∀ b o' u,H b = some (.frz o' u)->H' b = some (.frz o' u)):ObjOk P w H' h' a o:=by
 induction o with
 | lst xs=>obtain ⟨z,its,n,r,e⟩:=x; exact ⟨z,its,n,r,k _ _ (.inl rfl) e⟩
 | tup xs=>obtain ⟨z,its,r,ob,e,c⟩:=x; exact ⟨z,its,r,ob,k _ _ (.inl rfl) e,c⟩
 | dK kvs=>obtain ⟨z,y,vs,r,ob,es,ep,e,c⟩:=x; exact ⟨z,y,vs,r,ob,es,ep,k _ _ (.inl rfl) e,c⟩
 | dT kvs=>
  obtain ⟨z,y,xs,r,ob,es,ep,e,c⟩:=x
  exact ⟨z,y,xs,Paired.mapP r fun p q z=>⟨z.1,ht _ _ z.2.1,z.2.2⟩,ob,es,ep,k _ _ (.inl rfl) e,c⟩
 | set S n=>obtain ⟨ob,es,ep,t,e,c⟩:=x; exact ⟨ob,es,ep,t,k _ _ (.inl rfl) e,c⟩
 | ins C dx fs=>
  obtain ⟨d,z,ne,e,mA,⟨od,es,ep,e2,c⟩,r⟩:=x
  exact ⟨ho _ d,z,ne,k _ _ (.inl rfl) e,mA,⟨od,es,ep,k _ _ (.inr d) e2,c⟩,r⟩
 | own y=>obtain ⟨ob,e⟩:=x; exact ⟨ob,k _ _ (.inl rfl) e⟩
 | xd fs=>obtain ⟨mA,⟨od,es,ep,e,c⟩,r⟩:=x; exact ⟨mA,⟨od,es,ep,k _ _ (.inl rfl) e,c⟩,r⟩
 | rng lo hi=>obtain ⟨t,u,v,e⟩:=x; exact ⟨t,u,v,k _ _ (.inl rfl) e⟩
 | frz ob u ih=>obtain ⟨e,q⟩:=x; exact ⟨k _ _ (.inl rfl) e,ih q⟩
 | tbl ps=>
  have e:h.get? a = some { cls:=.none,data:=.fields ps }:=x
  show h'.get? a = some { cls:=.none,data:=.fields ps }
  exact k a _ (.inl rfl) e
 | met f y=>
  have e:h.get? a = some (PySem.W.methodObj (.ref f) (.ref y)):=x
  show h'.get? a = some (PySem.W.methodObj (.ref f) (.ref y))
  exact k a _ (.inl rfl) e
 | ext φ=>obtain ⟨p,⟨o,e⟩,st⟩:=x; exact ⟨st _ _ p fun o q=>k _ _ (.inl rfl) q,⟨o,k _ _ (.inl rfl) e⟩,st⟩
 | tab l c q=>
  rcases x with e | ⟨c',oc,vs,t,e,ne,e2,r⟩
  ·exact .inl (k _ _ (.inl rfl) e)
  ·exact .inr ⟨c',oc,vs,t,k _ _ (.inl rfl) e,ne,hz _ _ _ e2,r⟩
theorem HOk.lt (x:HOk P w H h) (e:H a = some o):a < h.objs.size:=(x a o e).lt
theorem HOk.fresh (x:HOk P w H h) (e:h.objs.size<=a):H a = none:=by
 cases q:H a with
 | none=>rfl
 | some u=>exact absurd (Jan (x.lt q) e) (Ja9 _)
theorem HOk.kept (x:HOk P w H h) (k:∀ b u,h.get? b = some u->h'.get? b = some u):HOk P w H h':=fun a o e=>
 (x a o e).stay (fun b u _ q=>k b u q) (fun _ q=>q) (fun _ _ q=>q) fun _ _ _ q=>q
theorem HOk.laid (x:HOk P w H h) (k:∀ b u,h.get? b = some u->h'.get? b = some u) (hp:h.objs.size<=a) (new:ObjOk P w (upd H a o) h' a o):HOk P w (upd H a o) h':=fun b u e=>by
 have hn:=x.fresh hp
 by_cases hb:b = a
 ·subst hb; rw [Zac] at e; cases e; exact new
 ·rw [Zah hb] at e
  exact (x b u e).stay (fun c v _ q=>k c v q) (fun c q=>by rw [Zah (Zai q hn)]; exact q) (fun c xs q=>by rw [Zah (Zai q hn)]; exact q) fun c _ _ q=>by rw [Zah (Zai q hn)]; exact q
end
def Rd (H:Hp) (a:Addr) (u:HO):Prop:=H a = some u\/∃ o,H a = some (.frz o u)
theorem Rd.ok {P:Program} {w:World} {H:Hp} {h:Heap} {a:Addr} {u:HO} (r:Rd H a u) (x:HOk P w H h):ObjOk P w H h a u:=by
 rcases r with r | ⟨o,r⟩
 ·exact x a u r
 ·obtain ⟨_,q⟩:=x a _ r
  exact q
def Mut:Option HO->Prop
 | some (.lst _)=>True
 | some (.dK _)=>True
 | some (.dT _)=>True
 | some (.set _ _)=>True
 | some (.ins _ _ _)=>True
 | some (.ext _)=>True
 | some (.tab _ _ _)=>True
 | _=>False
section
variable {P:Program} {w:World} {H:Hp} {h h':Heap} {x e:Addr} {o':HO}
theorem HOk.write (ok:HOk P w H h) (mu:Mut (H x)) (he:e = x\/H e = some (.own x)) (k:∀ b u,b ≠ e->h.get? b = some u->h'.get? b = some u) (heo:∃ u,h'.get? e = some u)
  (new:ObjOk P w (upd H x o') h' x o'):HOk P w (upd H x o') h':=fun b u q=>by
 have nown:∀ c y,H c = some (.own y)->c ≠ x:=fun c y r z=>by subst z; rw [r] at mu; exact mu
 have ntup:∀ c xs,H c = some (.tup xs)->c ≠ x:=fun c xs r z=>by subst z; rw [r] at mu; exact mu
 have nfrz:∀ c o' u',H c = some (.frz o' u')->c ≠ x:=fun c o' u' r z=>by subst z; rw [r] at mu; exact mu
 by_cases hb:b = x
 ·subst hb; rw [Zac] at q; cases q; exact new
 ·rw [Zah hb] at q
  by_cases hbe:b = e
  ·have q':H b = some (.own x):=by
    rcases he with z | z
    ·exact absurd (hbe.trans z) hb
    ·rw [hbe]; exact z
   rw [q] at q'; cases q'
   obtain ⟨v,hv⟩:=heo
   exact ⟨v,by rw [hbe]; exact hv⟩
  ·refine (ok b u q).stay (fun c v hc r=>k c v ?_ r) (fun c r=>by rw [Zah (nown c b r)]; exact r) (fun c xs r=>by rw [Zah (ntup c xs r)]; exact r) fun c o' u' r=>by rw [Zah (nfrz c o' u' r)]; exact r
   rcases hc with rfl | hc
   ·exact hbe
   ·rintro rfl
    rcases he with z | z
    ·exact nown c b hc z
    ·rw [hc] at z; cases z; exact hb rfl
end
structure Un (fs ex:List Addr) (H H':Hp) (h h':Heap):Prop where
 keep:∀ b o,h.get? b = some o->H b = none->b ∉ fs->b ∉ ex->h'.get? b = some o
 slot:∀ b o,h.get? b = some o->H b = none->b ∈ fs->b ∉ ex->∃ sl,h'.get? b = some { o with slots:=sl }
 free:∀ b o,h.get? b = some o->H b = none->b ∉ ex->H' b = none
 there:∀ b o,h.get? b = some o->b ∉ ex->∃ o',h'.get? b = some o'
 tups:∀ b xs,H b = some (.tup xs)->H' b = some (.tup xs)
 frzs:∀ b o u,H b = some (.frz o u)->H' b = some (.frz o u)
 tbls:∀ b ps,H b = some (.tbl ps)->∃ more,H' b = some (.tbl (ps ++ more))
section
variable {fs fs' ex ex':List Addr} {H H1 H2:Hp} {h h1 h2 h':Heap} {a x e:Addr} {o:HO}
theorem Un.any (u:Un fs ex H H1 h h1) {b:Addr} {ob:Obj} (q:h.get? b = some ob) (n:H b = none) (hx:b ∉ ex):∃ sl,h1.get? b = some { ob with slots:=sl }:=by
 by_cases hb:b ∈ fs
 ·exact u.slot b ob q n hb hx
 ·exact ⟨ob.slots,u.keep b ob q n hb hx⟩
theorem Un.kept (k:∀ b u,h.get? b = some u->h'.get? b = some u):Un fs ex H H h h':=
 ⟨fun b ob q _ _ _=>k b ob q,fun b ob q _ _ _=>⟨ob.slots,k b ob q⟩,fun _ _ _ n _=>n,fun b ob q _=>⟨ob,k b ob q⟩,fun _ _ q=>q,fun _ _ _ q=>q,fun _ ps q=>⟨#[],by rw [q]; simp⟩⟩
theorem Un.refl:Un fs ex H H h h:=Un.kept fun _ _ q=>q
theorem Un.laid (k:∀ b u,h.get? b = some u->h'.get? b = some u) (hp:h.objs.size<=a) (hn:H a = none):Un fs ex H (upd H a o) h h' where
 keep:=fun b u q _ _ _=>k b u q
 slot:=fun b u q _ _ _=>⟨u.slots,k b u q⟩
 free:=fun b u q n _=>by rw [Zah (Ja8 (Jan (Jaf q) hp))]; exact n
 there:=fun b u q _=>⟨u,k b u q⟩
 tups:=fun b xs q=>by rw [Zah (Zai q hn)]; exact q
 frzs:=fun b u xs q=>by rw [Zah (Zai q hn)]; exact q
 tbls:=fun b ps q=>⟨#[],by rw [Zah (Zai q hn),q]; simp⟩
theorem Un.write (mu:Mut (H x)) (he:e = x\/H e = some (.own x)) (k:∀ b u,b ≠ e->h.get? b = some u->h'.get? b = some u) (heo:∃ u,h'.get? e = some u):Un fs ex H (upd H x o) h h':=by
 have hx:∀ b,H b = none->b ≠ x:=fun b n z=>by subst z; rw [n] at mu; exact mu
 have hb:∀ b,H b = none->b ≠ e:=fun b n z=>by
  subst z
  rcases he with r | r
  ·exact hx b n r
  ·rw [n] at r; cases r
 have hm:∀ b u,H b = some u->¬ Mut (some u)->b ≠ x:=fun b u q nm z=>by subst z; rw [q] at mu; exact nm mu
 refine ⟨fun b u q n _ _=>k b u (hb b n) q,fun b u q n _ _=>⟨u.slots,k b u (hb b n) q⟩,fun b u q n _=>by rw [Zah (hx b n)]; exact n,fun b u q _=>?_,
  fun b xs q=>by rw [Zah (hm b _ q fun z=>z)]; exact q,fun b u xs q=>by rw [Zah (hm b _ q fun z=>z)]; exact q,fun b ps q=>⟨#[],by rw [Zah (hm b _ q fun z=>z),q]; simp⟩⟩
 by_cases hbe:b = e
 ·subst hbe; exact heo
 ·exact ⟨u,k b u hbe q⟩
end
def trk (h:Heap) (H:Hp):List Addr:=(List.range h.objs.size).filter fun a=>(H a).isSome
def Zng (h:Heap) (H:Hp):Heap:=PySem.W.hideAll h (trk h H)
theorem Zmp (h:Heap) (H:Hp):(Zng h H).objs.size = h.objs.size:=PySem.W.hideAll_size _ _
theorem Zoo {h:Heap} {H:Hp} {b:Addr} {o:Obj} (e:h.get? b = some o) (n:H b = none):(Zng h H).get? b = some o:=
 PySem.W.hideAll_get _ e fun hm=>by
  have q:(H b).isSome = true:=(List.mem_filter.mp hm).2
  rw [n] at q; simp at q
theorem of_hidT {h:Heap} {H:Hp} {b:Addr} {o:Obj} (e:(Zng h H).get? b = some o):h.get? b = some o/\H b = none:=by
 have e':h.get? b = some o:=PySem.W.of_hideAll (trk h H) e
 refine ⟨e',?_⟩
 cases q:H b with
 | none=>rfl
 | some x=>
  have hm:b ∈ trk h H:=List.mem_filter.mpr ⟨Jbn.mpr (Jaf e'),by simp [q]⟩
  have z:(Zng h H).get? b = none:=PySem.W.hideAll_none (trk h H) hm
  rw [z] at e; cases e
def allNews (g h:Heap) (L:Addr):List (Addr × Obj):=(List.range h.objs.size).filterMap fun a=>if a = L\/(g.get? a).isSome = true then none else (h.get? a).map fun o=>(a,o)
def rest (g h:Heap) (L d:Addr):List (Addr × Obj):=(allNews g h L).filter fun p=>decide (p.1 ≠ d)
structure Mod (K:PySem.W.Frag) (mg:Str->Option Value) (base:Heap):Prop where
 kin:K.In base
 glob:base.Ns mainGlobals mg
 blt:∃ mb,base.Ns builtinsNs mb/\∀ x:Str,x ≠ "__name__" -> mb x = bootBuiltins x
 nolimit:base.NoLimit
 seer:base.NoSeer
 bmain:∃ bm ob,mg "__builtins__" = some (.ref bm)/\bm ≠ builtinsNs/\base.get? bm = some ob/\ob.cls = .type "module" /\ ob.dict = some builtinsNs/\ob.data = .plain
def Seen (l:List Env):Prop:=∃ e r,l = e :: r/\e.scope.isGenerator = false/\e.scope.isCoroutine = false/\e.builtins = builtinsNs/\e.globals = mainGlobals
structure Cx where
 prog:Program
 w:World
 K:PySem.W.Frag
 mg:Str->Option Value
 base:Heap
 A:Around
 N:List Str
 s₀:Shared
 H₀:Hp
 env:Env
 outer:List Env
 stack:List Env
 ex:List Addr
 fn:Str->Bool
 calm:Bool
 pn:List (Addr × Obj)
 xe:Value->Shared->Prop
def frs (l:List Env):List Addr:=l.filterMap (·.frame)
abbrev Cx.fs (X:Cx):List Addr:=frs X.outer
def Vis (sc:Scope) (x:Str):Prop:=sc.names.lookup x = some .local\/sc.names.lookup x = some .cell\/sc.names.lookup x = some .free
def Loc (sc:Scope) (x:Str):Prop:=sc.names.lookup x = some .local\/sc.names.lookup x = some .cell
def Look (env:Env) (h:Heap) (m:Str->Option Value) (x:Str) (u:Value):Prop:=
 (env.kindOf x = some .local/\m x = some u)\/((env.kindOf x = some .cell\/env.kindOf x = some .free)/\∃ c,env.cells.lookup x = some c/\h.IsCell c (some u))
structure Cx.Ok (X:Cx):Prop where
 mod:Mod X.K X.mg X.base
 kind:X.env.scope.kind = .function
 glob:X.env.globals = mainGlobals
 blt:X.env.builtins = builtinsNs
 above:X.s₀.heap.objs.size<=X.env.locals
 inj:∀ x y c,X.env.cells.lookup x = some c->X.env.cells.lookup y = some c->x = y
 has:∀ x,(X.env.kindOf x = some .cell\/X.env.kindOf x = some .free)->∃ c,X.env.cells.lookup x = some c
 cab:∀ x c,X.fn x = true->X.env.cells.lookup x = some c->X.s₀.heap.objs.size<=c
 hd:X.calm = true->X.A.handled = none
 frames:X.A.frames = some X.stack
 stk:X.stack = X.outer\/(X.stack = X.env :: X.outer/\X.env.frame = some X.env.locals)
 exf:∀ b ∈ X.ex,b ≠ X.env.locals/\∀ x c,X.env.cells.lookup x = some c->c ≠ b
 bs:∀ b o,X.base.get? b = some o->X.s₀.heap.get? b = some o/\X.H₀ b = none
 bsz:X.base.objs.size<=X.s₀.heap.objs.size
 noex:∀ b o,X.base.get? b = some o->b ∉ X.ex
 exfs:∀ b ∈ X.ex,b ∉ X.fs
 funs:X.s₀.heap.FunFrames X.base X.outer
 frf:∀ b ∈ X.fs,X.H₀ b = none
 top:Seen X.stack
structure Inv (X:Cx) (pins:List (Addr × Obj)) (σ:List (Option V)) (H:Hp) (s:Shared):Prop where
 ok:X.Ok
 os:s.os = X.s₀.os
 bare:AllBare s.gens
 base:Un X.fs X.ex X.H₀ H X.s₀.heap s.heap
 loc:∃ m,s.heap.Ns X.env.locals m/\∀ (i:Nat) (x:Str) (v:V),X.N[i]? = some x->σ[i]? = some (some v)->Vis X.env.scope x->∃ u,RelV v u/\Look X.env s.heap m x u
 cell:∀ x c,X.env.cells.lookup x = some c->∃ v,s.heap.IsCell c v
 free:H X.env.locals = none
 freeC:∀ x c,X.env.cells.lookup x = some c->H c = none
 pin:∀ p ∈ X.pn ++ pins,s.heap.get? p.1 = some p.2/\H p.1 = none/\p.1 ≠ X.env.locals/\p.1 ∉ X.fs/\∀ v,p.2.data ≠ .cell v
 hok:HOk X.prog X.w H s.heap
 len:σ.length = X.N.length
section
variable {X:Cx} {pins:List (Addr × Obj)} {σ:List (Option V)} {H H':Hp} {s:Shared} {h':Heap}
theorem Cx.Ok.nofr (ok:X.Ok) {b:Addr} {o:Obj} (e:X.base.get? b = some o):b ∉ X.fs:=fun hb=>by
 have:=(ok.funs.mem hb).1
 rw [e] at this; cases this
theorem Inv.bs (I:Inv X pins σ H s):∀ b o,X.base.get? b = some o->s.heap.get? b = some o/\H b = none:=fun b o e=>
 ⟨I.base.keep b o (I.ok.bs b o e).1 (I.ok.bs b o e).2 (I.ok.nofr e) (I.ok.noex b o e),I.base.free b o (I.ok.bs b o e).1 (I.ok.bs b o e).2 (I.ok.noex b o e)⟩
theorem Inv.bk (I:Inv X pins σ H s):∀ b o,X.base.get? b = some o->s.heap.get? b = some o:=fun b o e=>(I.bs b o e).1
theorem Inv.mod (I:Inv X pins σ H s):Mod X.K X.mg X.base:=I.ok.mod
theorem Inv.kIn (I:Inv X pins σ H s):X.K.In s.heap:=I.ok.mod.kin.keeps I.bk
theorem Inv.lt (I:Inv X pins σ H s):X.env.locals < s.heap.objs.size:=let ⟨_,hn,_⟩:=I.loc; hn.lt
theorem Inv.sz (I:Inv X pins σ H s):X.s₀.heap.objs.size<=s.heap.objs.size:=Jbw I.ok.above (Jcb I.lt)
theorem Inv.nofs (I:Inv X pins σ H s) {a:Addr} (h:s.heap.objs.size<=a):a ∉ X.fs:=fun hb=>by
 obtain ⟨_,o,ho,_⟩:=I.ok.funs.mem hb
 exact absurd (Jan (Jaf ho) (Jbw I.sz h)) (Ja9 _)
theorem Inv.cne (I:Inv X pins σ H s):∀ x c,X.env.cells.lookup x = some c->c ≠ X.env.locals:=fun x c e z=>by
 obtain ⟨v,o,ho,hd⟩:=I.cell x c e
 obtain ⟨m,⟨o',es,ep,ho',hd',_⟩,_⟩:=I.loc
 rw [z,ho'] at ho; cases ho; rw [hd'] at hd; cases hd
theorem Inv.funs (I:Inv X pins σ H s):s.heap.FunFrames X.base X.outer:=by
 have all:∀ (l:List Env),(∀ b ∈ frs l,b ∈ X.fs)->X.s₀.heap.FunFrames X.base l->s.heap.FunFrames X.base l:=by
  intro l
  induction l with
  | nil=>intro _ _; trivial
  | cons env r ih=>
   intro hs hl
   obtain ⟨hk,⟨L,o,hf,hn,ho,hd⟩,hr⟩:=hl
   have hL:L ∈ X.fs:=hs L (by unfold frs; rw [Ja6,hf]; exact Jbd)
   obtain ⟨sl,e⟩:=I.base.slot L o ho (I.ok.frf L hL) hL fun z=>I.ok.exfs L z hL
   exact ⟨hk,⟨L,_,hf,hn,e,hd⟩,ih (fun b hb=>hs b (by unfold frs; rw [Ja6,hf]; exact Jai _ hb)) hr⟩
 exact all X.outer (fun _ hb=>hb) I.ok.funs
theorem Inv.stack (I:Inv X pins σ H s):s.heap.FunFrames X.base X.stack:=by
 rcases I.ok.stk with e | ⟨e,hf⟩
 ·rw [e]; exact I.funs
 ·rw [e]
  obtain ⟨m,hn,_⟩:=I.loc
  refine .cons (by rw [I.ok.kind]; decide) hf hn ?_ I.funs
  exact Heap.get?_none_of_le (Jbw I.ok.bsz I.ok.above)
theorem Inv.stkSub (I:Inv X pins σ H s):∀ b ∈ frs X.stack,b ∈ X.env.locals :: X.fs:=fun b hb=>by
 rcases I.ok.stk with e | ⟨e,hf⟩
 ·rw [e] at hb; exact Jai _ hb
 ·rw [e] at hb
  unfold frs at hb
  rw [Ja6,hf] at hb
  exact hb
theorem Inv.stkFree (I:Inv X pins σ H s):∀ b ∈ frs X.stack,H b = none:=fun b hb=>by
 rcases Jav.mp (I.stkSub b hb) with e | hb
 ·rw [e]; exact I.free
 ·obtain ⟨_,o,ho,_⟩:=I.ok.funs.mem hb
  exact I.base.free b o ho (I.ok.frf b hb) fun z=>I.ok.exfs b z hb
theorem Inv.step {g':Array GenState} {t':Nat} {d':Drawn} {ch:List Addr} (I:Inv X pins σ H s)
  (hch:∀ b ∈ ch,(b ∈ X.ex\/X.s₀.heap.objs.size<=b)/\b ≠ X.env.locals/\(∀ x c,X.env.cells.lookup x = some c->c ≠ b)/\∀ p ∈ X.pn ++ pins,p.1 ≠ b)
  (keep:∀ b o,b ≠ X.env.locals->b ∉ X.fs->b ∉ ch->s.heap.get? b = some o->H b = none->h'.get? b = some o)
  (slot:∀ b o,b ≠ X.env.locals->b ∈ X.fs->b ∉ ch->s.heap.get? b = some o->H b = none->∃ sl,h'.get? b = some { o with slots:=sl }) (free:∀ b o,b ∉ ch->s.heap.get? b = some o->H b = none->H' b = none)
  (there:∀ b o,b ∉ ch->s.heap.get? b = some o->∃ o',h'.get? b = some o')
  (tups:∀ b xs,H b = some (.tup xs)->H' b = some (.tup xs)) (frzs:∀ b o u,H b = some (.frz o u)->H' b = some (.frz o u)) (tbls:∀ b ps,H b = some (.tbl ps)->∃ more,H' b = some (.tbl (ps ++ more)))
  (ns:∀ m,s.heap.Ns X.env.locals m->h'.Ns X.env.locals m) (hok:HOk X.prog X.w H' h') (hg:AllBare g'):
  Inv X pins σ H' { s with heap:=h',gens:=g',drawn:=d',toks:=t' }:=by
 have neL:∀ b o,X.s₀.heap.get? b = some o->b ≠ X.env.locals:=fun b o e=>Ja8 (Jan (Jaf e) I.ok.above)
 have neC:∀ b o,X.s₀.heap.get? b = some o->b ∉ X.ex->b ∉ ch:=fun b o e hx hb=>by
  rcases (hch b hb).1 with z | z
  ·exact hx z
  ·exact absurd (Jan (Jaf e) z) (Ja9 _)
 have cellK:∀ x c,X.env.cells.lookup x = some c->∀ v,s.heap.IsCell c v->h'.IsCell c v:=fun x c e v ⟨o,ho,hd⟩=>by
  have nch:c ∉ ch:=fun z=>(hch c z).2.2.1 x c e rfl
  by_cases hc:c ∈ X.fs
  ·obtain ⟨sl,q⟩:=slot c o (I.cne x c e) hc nch ho (I.freeC x c e)
   exact ⟨_,q,hd⟩
  ·exact ⟨o,keep c o (I.cne x c e) hc nch ho (I.freeC x c e),hd⟩
 refine ⟨I.ok,I.os,hg,⟨fun b o e n hb hx=>?_,fun b o e n hb hx=>?_,fun b o e n hx=>?_,fun b o e hx=>?_,fun b xs e=>tups b xs (I.base.tups b xs e),fun b o xs e=>frzs b o xs (I.base.frzs b o xs e),fun b ps e=>?_⟩,?_,fun x c e=>?_,?_,fun x c e=>?_,fun p hp=>?_,hok,I.len⟩
 ·exact keep b o (neL b o e) hb (neC b o e hx) (I.base.keep b o e n hb hx) (I.base.free b o e n hx)
 ·obtain ⟨sl,e1⟩:=I.base.slot b o e n hb hx
  obtain ⟨sl',e2⟩:=slot b _ (neL b o e) hb (neC b o e hx) e1 (I.base.free b o e n hx)
  exact ⟨sl',e2⟩
 ·obtain ⟨o',e1⟩:=I.base.there b o e hx
  exact free b o' (neC b o e hx) e1 (I.base.free b o e n hx)
 ·obtain ⟨o',e1⟩:=I.base.there b o e hx
  exact there b o' (neC b o e hx) e1
 ·obtain ⟨m1,e1⟩:=I.base.tbls b ps e
  obtain ⟨m2,e2⟩:=tbls b _ e1
  exact ⟨m1 ++ m2,by rw [e2,Jdj]⟩
 ·obtain ⟨m,hn,hl⟩:=I.loc
  refine ⟨m,ns m hn,fun i x v e1 e2 e3=>?_⟩
  obtain ⟨u,r,l⟩:=hl i x v e1 e2 e3
  refine ⟨u,r,?_⟩
  rcases l with l | ⟨k,c,e,z⟩
  ·exact .inl l
  ·exact .inr ⟨k,c,e,cellK x c e _ z⟩
 ·obtain ⟨v,z⟩:=I.cell x c e
  exact ⟨v,cellK x c e v z⟩
 ·obtain ⟨m,⟨o,_,_,ho,_⟩,_⟩:=I.loc
  exact free _ o (fun z=>(hch _ z).2.1 rfl) ho I.free
 ·obtain ⟨v,o,ho,hd⟩:=I.cell x c e
  exact free c o (fun z=>(hch c z).2.2.1 x c e rfl) ho (I.freeC x c e)
 ·obtain ⟨e,n,ne,nf,d⟩:=I.pin p hp
  have nch:p.1 ∉ ch:=fun z=>(hch p.1 z).2.2.2 p hp rfl
  exact ⟨keep p.1 p.2 ne nf nch e n,free p.1 p.2 nch e n,ne,nf,d⟩
theorem Inv.un {t':Nat} (I:Inv X pins σ H s) (u:Un X.fs [] H H' s.heap h') (hok:HOk X.prog X.w H' h'):Inv X pins σ H' { s with heap:=h',toks:=t' }:=by
 obtain ⟨m,⟨o,es,ep,ho,r⟩,_⟩:=id I.loc
 obtain ⟨sl,hL⟩:=u.any ho I.free (by simp)
 exact I.step (g':=s.gens) (d':=s.drawn) (ch:=[]) (fun _ z=>nomatch z) (fun b o _ hb _ e n=>u.keep b o e n hb (by simp)) (fun b o _ hb _ e n=>u.slot b o e n hb (by simp)) (fun b o _ e n=>u.free b o e n (by simp)) (fun b o _ e=>u.there b o e (by simp)) u.tups u.frzs u.tbls (fun m' hm=>by
  obtain ⟨o',es',ep',ho',r'⟩:=hm
  rw [ho] at ho'; cases ho'
  exact ⟨_,es',ep',hL,r'⟩) hok I.bare
theorem Inv.call {g':Array GenState} {t':Nat} {d':Drawn} {ch:List Addr} (I:Inv X pins σ H s) (u:Un (frs X.stack) ch H H' s.heap h') (hok:HOk X.prog X.w H' h') (hg:AllBare g')
  (hch:∀ b ∈ ch,(b ∈ X.ex\/X.s₀.heap.objs.size<=b)/\b ≠ X.env.locals/\(∀ x c,X.env.cells.lookup x = some c->c ≠ b)/\∀ p ∈ X.pn ++ pins,p.1 ≠ b):
  Inv X pins σ H' { s with heap:=h',gens:=g',drawn:=d',toks:=t' }:=by
 obtain ⟨m,⟨o,es,ep,ho,r⟩,_⟩:=id I.loc
 obtain ⟨sl,hL⟩:=u.any ho I.free fun z=>(hch _ z).2.1 rfl
 exact I.step (ch:=ch) hch (fun b o hL hb hc e n=>u.keep b o e n (fun z=>(Jav.mp (I.stkSub b z)).elim hL hb) hc) (fun b o _ _ hc e n=>u.any e n hc) (fun b o hc e n=>u.free b o e n hc) (fun b o hc e=>u.there b o e hc) u.tups u.frzs u.tbls (fun m' hm=>by
  obtain ⟨o',es',ep',ho',r'⟩:=hm
  rw [ho] at ho'; cases ho'
  exact ⟨_,es',ep',hL,r'⟩) hok hg
theorem Inv.turned {t':Nat} {it:Addr} (I:Inv X pins σ H s) (k:∀ b o,b ≠ it->s.heap.get? b = some o->h'.get? b = some o) (hn:H it = none) (hL:it ≠ X.env.locals)
  (h1:it ∈ X.ex\/X.s₀.heap.objs.size<=it) (h2:∀ x c,X.env.cells.lookup x = some c->c ≠ it) (h3:∀ p ∈ X.pn ++ pins,p.1 ≠ it):Inv X pins σ H { s with heap:=h',toks:=t' }:=by
 have nit:∀ b u,H b = some u->b ≠ it:=fun b u e z=>by rw [z,hn] at e; cases e
 refine I.step (g':=s.gens) (d':=s.drawn) (ch:=[it]) (fun b hb=>?_) (fun b o _ _ hc e _=>k b o (fun z=>hc (by simp [z])) e) (fun b o _ _ hc e _=>⟨o.slots,k b o (fun z=>hc (by simp [z])) e⟩) (fun _ _ _ _ n=>n)
  (fun b o hc e=>⟨o,k b o (fun z=>hc (by simp [z])) e⟩) (fun _ _ e=>e) (fun _ _ _ e=>e) (fun b ps e=>⟨#[],by rw [e]; simp⟩) (fun m hm=>?_) (fun b u e=>?_) I.bare
 ·have e:b = it:=by simpa using hb
  subst e
  exact ⟨h1,hL,h2,h3⟩
 ·obtain ⟨o,es,ep,ho,r⟩:=hm
  exact ⟨o,es,ep,k _ o (Jdx hL) ho,r⟩
 ·refine (I.hok b u e).stay (fun c v hc q=>k c v ?_ q) (fun _ q=>q) (fun _ _ q=>q) fun _ _ _ q=>q
  rcases hc with z | z
  ·rw [z]; exact nit b u e
  ·exact nit c _ z
theorem Inv.tok (I:Inv X pins σ H s) (t:Nat):Inv X pins σ H { s with toks:=t }:=I.un (h':=s.heap) (t':=t) Un.refl I.hok
theorem Inv.kept {t':Nat} (I:Inv X pins σ H s) (k:∀ b u,s.heap.get? b = some u->h'.get? b = some u):Inv X pins σ H { s with heap:=h',toks:=t' }:=I.un (Un.kept k) (I.hok.kept k)
theorem Inv.laid {a:Addr} {o:HO} {t':Nat} (I:Inv X pins σ H s) (k:∀ b u,s.heap.get? b = some u->h'.get? b = some u) (hp:s.heap.objs.size<=a) (new:ObjOk X.prog X.w (upd H a o) h' a o):
  Inv X pins σ (upd H a o) { s with heap:=h',toks:=t' }:=I.un (Un.laid k hp (I.hok.fresh hp)) (I.hok.laid k hp new)
theorem Inv.write {x e:Addr} {o:HO} {t':Nat} (I:Inv X pins σ H s) (mu:Mut (H x)) (he:e = x\/H e = some (.own x)) (k:∀ b u,b ≠ e->s.heap.get? b = some u->h'.get? b = some u) (heo:∃ u,h'.get? e = some u)
  (new:ObjOk X.prog X.w (upd H x o) h' x o):Inv X pins σ (upd H x o) { s with heap:=h',toks:=t' }:=I.un (Un.write mu he k heo) (I.hok.write mu he k heo new)
theorem Inv.pins_of {pins':List (Addr × Obj)} (I:Inv X pins σ H s) (h:∀ p ∈ pins',s.heap.get? p.1 = some p.2/\H p.1 = none/\p.1 ≠ X.env.locals/\p.1 ∉ X.fs/\∀ v,p.2.data ≠ .cell v):Inv X pins' σ H s:=
 ⟨I.ok,I.os,I.bare,I.base,I.loc,I.cell,I.free,I.freeC,fun p hp=>(Ja4.mp hp).elim (fun z=>I.pin p (Jcl _ z)) (h p),I.hok,I.len⟩
theorem Zj0 {N:List Str} (hN:N.Nodup) {i j:Nat} {x:Str} (a:N[i]? = some x) (b:N[j]? = some x):i = j:=by
 obtain ⟨h1,e1⟩:=Jat.mp a
 obtain ⟨h2,e2⟩:=Jat.mp b
 exact (List.getElem_inj hN).mp (e1.trans e2.symm)
theorem Zh2 {M:Model} {A:Around} {E:Value->Shared->Prop} {i:Nat} {x:Str} {v:V} {u:Value} {Q:Unit->Shared->Prop} (I:Inv X pins σ H s) (hN:X.N.Nodup) (hi:X.N[i]? = some x) (hx:Loc X.env.scope x) (r:RelV v u)
  (h:∀ s',Inv X pins (σ.set i (some v)) H s'->(∃ a,Heap.SameBut a s.heap s'.heap/\(a = X.env.locals\/X.env.cells.lookup x = some a))->Q () s') (hf:X.fn x = true\/X.env.scope.names.lookup x = some .local:=by first | exact .inl rfl | exact .inr rfl | assumption):wpAny M A (storeName X.env x u) Q E s:=by
 obtain ⟨m,hn,hl⟩:=id I.loc
 have hcls:(X.env.scope.kind == .class || (X.env.scope.kind == .module && X.env.locals != X.env.globals)) = false:=by rw [I.ok.kind]; rfl
 have hiσ:i < σ.length:=by rw [I.len]; exact (Jat.mp hi).1
 have cne:=I.cne
 have tracked:∀ {a:Addr} {h':Heap},(∃ o,s.heap.get? a = some o/\H a = none)->Heap.SameBut a s.heap h'->HOk X.prog X.w H h':=fun {a h'} ha hs b ob e=>by
  obtain ⟨_,_,hfree⟩:=ha
  refine (I.hok b ob e).stay (fun c w' hc q=>(hs.2 c ?_).trans q) (fun _ q=>q) (fun _ _ q=>q) fun _ _ _ q=>q
  rintro rfl
  rcases hc with rfl | hc
  ·rw [hfree] at e; cases e
  ·rw [hfree] at hc; cases hc
 rcases hx with hk | hk
 ·refine wpAny_storeName_local hk hn (fun h' hn' hs=>?_) hcls
  obtain ⟨oL,_,_,hoL,_⟩:=id hn
  refine h _ ⟨I.ok,I.os,I.bare,⟨fun b o e n hb hx=>?_,fun b o e n hb hx=>?_,I.base.free,fun b o e hx=>?_,I.base.tups,I.base.frzs,I.base.tbls⟩,⟨_,hn',fun j y v' e1 e2 e3=>?_⟩,fun y c e=>?_,I.free,I.freeC,fun p hp=>?_,tracked ⟨oL,hoL,I.free⟩ hs,by simpa using I.len⟩ ⟨_,hs,.inl rfl⟩
  ·exact (hs.2 b (Ja8 (Jan (Jaf e) I.ok.above))).trans (I.base.keep b o e n hb hx)
  ·obtain ⟨sl,e1⟩:=I.base.slot b o e n hb hx
   exact ⟨sl,(hs.2 b (Ja8 (Jan (Jaf e) I.ok.above))).trans e1⟩
  ·obtain ⟨o',e1⟩:=I.base.there b o e hx
   exact ⟨o',(hs.2 b (Ja8 (Jan (Jaf e) I.ok.above))).trans e1⟩
  ·by_cases hj:j = i
   ·subst hj
    rw [hi] at e1; cases e1
    rw [List.getElem?_set_self hiσ] at e2
    cases e2
    exact ⟨u,r,.inl ⟨hk,by simp⟩⟩
   ·rw [List.getElem?_set_ne (Jdx hj)] at e2
    obtain ⟨u',r',q⟩:=hl j y v' e1 e2 e3
    refine ⟨u',r',?_⟩
    rcases q with ⟨k,e⟩ | ⟨k,c,e,z⟩
    ·refine .inl ⟨k,?_⟩
     have:y ≠ x:=fun e=>hj (Zj0 hN e1 (e ▸ hi))
     simp [this,e]
    ·exact .inr ⟨k,c,e,z.sameBut hs (cne y c e)⟩
  ·obtain ⟨w',z⟩:=I.cell y c e
   exact ⟨w',z.sameBut hs (cne y c e)⟩
  ·obtain ⟨e,n,ne,nf,d⟩:=I.pin p hp
   exact ⟨(hs.2 p.1 ne).trans e,n,ne,nf,d⟩
 ·have hfn:X.fn x = true:=by
   rcases hf with z | z
   ·exact z
   ·rw [z] at hk; cases hk
  obtain ⟨c,hc⟩:=I.ok.has x (.inl hk)
  obtain ⟨w',z⟩:=I.cell x c hc
  refine wpAny_storeName_cell I.ok.kind hk hc z (fun h' hc' hs=>?_)
  obtain ⟨oc,hoc,hocd⟩:=id z
  refine h { s with heap:=h' } ⟨I.ok,I.os,I.bare,⟨fun b o e n hb hx=>?_,fun b o e n hb hx=>?_,I.base.free,fun b o e hx=>?_,I.base.tups,I.base.frzs,I.base.tbls⟩,⟨m,hn.sameBut hs (Jdx (cne x c hc)),fun j y v' e1 e2 e3=>?_⟩,fun y c' e=>?_,I.free,I.freeC,fun p hp=>?_,tracked ⟨oc,hoc,I.freeC x c hc⟩ hs,by simpa using I.len⟩ ⟨c,hs,.inr hc⟩
  ·exact (hs.2 b (Ja8 (Jan (Jaf e) (I.ok.cab x c hfn hc)))).trans (I.base.keep b o e n hb hx)
  ·obtain ⟨sl,e1⟩:=I.base.slot b o e n hb hx
   exact ⟨sl,(hs.2 b (Ja8 (Jan (Jaf e) (I.ok.cab x c hfn hc)))).trans e1⟩
  ·obtain ⟨o',e1⟩:=I.base.there b o e hx
   exact ⟨o',(hs.2 b (Ja8 (Jan (Jaf e) (I.ok.cab x c hfn hc)))).trans e1⟩
  ·by_cases hj:j = i
   ·subst hj
    rw [hi] at e1; cases e1
    rw [List.getElem?_set_self hiσ] at e2
    cases e2
    exact ⟨u,r,.inr ⟨.inl hk,c,hc,hc'⟩⟩
   ·rw [List.getElem?_set_ne (Jdx hj)] at e2
    obtain ⟨u',r',q⟩:=hl j y v' e1 e2 e3
    refine ⟨u',r',?_⟩
    rcases q with q | ⟨k,c',e,z'⟩
    ·exact .inl q
    ·refine .inr ⟨k,c',e,z'.sameBut hs ?_⟩
     rintro rfl
     exact hj (Zj0 hN e1 (I.ok.inj _ _ _ e hc ▸ hi))
  ·by_cases hcc:c' = c
   ·subst hcc; exact ⟨_,hc'⟩
   ·obtain ⟨w2,z2⟩:=I.cell y c' e
    exact ⟨w2,z2.sameBut hs hcc⟩
  ·obtain ⟨e,n,ne,nf,d⟩:=I.pin p hp
   refine ⟨(hs.2 p.1 ?_).trans e,n,ne,nf,d⟩
   intro q
   rw [q,hoc] at e
   have q':oc = p.2:=Ja3 e
   exact d w' (by rw [<- q']; exact hocd)
theorem Zg7 {M:Model} {A:Around} {E:Value->Shared->Prop} {i:Nat} {x:Str} {v:V} {u:Value} {Q:Unit->Shared->Prop} (I:Inv X pins σ H s) (hN:X.N.Nodup) (hi:X.N[i]? = some x) (hx:Loc X.env.scope x) (r:RelV v u)
  (h:∀ s',Inv X pins (σ.set i (some v)) H s'->Q () s') (hf:X.fn x = true\/X.env.scope.names.lookup x = some .local:=by first | exact .inl rfl | exact .inr rfl | assumption):wpAny M A (storeName X.env x u) Q E s:=
 Zh2 I hN hi hx r (fun s' I' _=>h s' I') hf
theorem Inv.call' {s':Shared} {ch:List Addr} (I:Inv X pins σ H s) (ho:s'.os = s.os) (u:Un (frs X.stack) ch H H' s.heap s'.heap) (hok:HOk X.prog X.w H' s'.heap) (hg:AllBare s'.gens)
  (hch:∀ b ∈ ch,(b ∈ X.ex\/X.s₀.heap.objs.size<=b)/\b ≠ X.env.locals/\(∀ x c,X.env.cells.lookup x = some c->c ≠ b)/\∀ p ∈ X.pn ++ pins,p.1 ≠ b):Inv X pins σ H' s':=by
 obtain ⟨h',g',d',t',o'⟩:=s'
 have e:o' = s.os:=ho
 subst e
 exact I.call (g':=g') (t':=t') (d':=d') u hok hg hch
end
abbrev XK:=Value->Option Addr->Hp->Prop
abbrev St:=List (Option V)
abbrev VK:=V->Hp->Prop
abbrev TE:=St->Hp->VK->Prop
abbrev TT:=St->Hp->(Bool->Hp->Prop)->Prop
abbrev TA:=St->Hp->(List V->Hp->Prop)->Prop
structure Ends where
 nx:St->Hp->Prop
 rt:VK
 bk:St->Hp->Prop:=fun _ _=>False
 ct:St->Hp->Prop:=fun _ _=>False
abbrev TS:=Ends->St->Hp->Prop
def EP (X:Cx) (pins:List (Addr × Obj)) (σ:St) (Q:VK) (u:Value) (s':Shared):Prop:=∃ v H',Inv X pins σ H' s'/\RelV v u/\Q v H'
def TP (X:Cx) (pins:List (Addr × Obj)) (σ:St) (Q:Bool->Hp->Prop) (b:Bool) (s':Shared):Prop:=∃ H',Inv X pins σ H' s'/\Q b H'
def AP (X:Cx) (pins:List (Addr × Obj)) (σ:St) (Q:List V->Hp->Prop) (us:List Value) (s':Shared):Prop:=∃ vs H',Inv X pins σ H' s'/\Vals vs us/\Q vs H'
def SP (X:Cx) (pins:List (Addr × Obj)) (D:Ends) (f:Flow) (s':Shared):Prop:=
 match f with
 | .next=>∃ σ' H',Inv X pins σ' H' s'/\D.nx σ' H'
 | .brk=>∃ σ' H',Inv X pins σ' H' s'/\D.bk σ' H'
 | .cont=>∃ σ' H',Inv X pins σ' H' s'/\D.ct σ' H'
 | .ret u=>∃ v σ' H',Inv X pins σ' H' s'/\RelV v u/\D.rt v H'
def PE (X:Cx) (e:Expr) (t:TE):Prop:=
 ∀ (pins:List (Addr × Obj)) (s:Shared) (σ:St) (H:Hp) (Q:VK),Inv X pins σ H s->t σ H Q->wpAny (model X.prog X.w) X.A (eval e X.env) (EP X pins σ Q) X.xe s
def PT (X:Cx) (e:Expr) (t:TT):Prop:=
 ∀ (pins:List (Addr × Obj)) (s:Shared) (σ:St) (H:Hp) (Q:Bool->Hp->Prop),Inv X pins σ H s->t σ H Q->wpAny (model X.prog X.w) X.A (isTrue e X.env (eval e X.env)) (TP X pins σ Q) X.xe s
def PW (X:Cx) (e:Expr) (t:TT):Prop:=
 ∀ (whole:Sem Value) (pins:List (Addr × Obj)) (s:Shared) (σ:St) (H:Hp) (Q:Bool->Hp->Prop),Inv X pins σ H s->t σ H Q->wpAny (model X.prog X.w) X.A (isTrue e X.env whole) (TP X pins σ Q) X.xe s
theorem PW.pt {X:Cx} {e:Expr} {t:TT} (h:PW X e t):PT X e t:=h _
def PA (X:Cx) (es:List Expr) (t:TA):Prop:=
 ∀ (pos:Pos) (pins:List (Addr × Obj)) (s:Shared) (σ:St) (H:Hp) (Q:List V->Hp->Prop),Inv X pins σ H s->t σ H Q->wpAny (model X.prog X.w) X.A (spliced (backTo pos (starEach es X.env))) (AP X pins σ Q) X.xe s
def PS (X:Cx) (st:Stmt) (t:TS):Prop:=
 ∀ (pins:List (Addr × Obj)) (s:Shared) (σ:St) (H:Hp) (D:Ends),Inv X pins σ H s->t D σ H->wpAny (model X.prog X.w) X.A (exec st X.env) (SP X pins D) X.xe s
def PSs (X:Cx) (st:List Stmt) (t:TS):Prop:=
 ∀ (pins:List (Addr × Obj)) (s:Shared) (σ:St) (H:Hp) (D:Ends),Inv X pins σ H s->t D σ H->wpAny (model X.prog X.w) X.A (execs st X.env) (SP X pins D) X.xe s
theorem thn {α:Type} {t:Sem α} {Q Q':α->Shared->Prop} {M:Model} {A:Around} {E:Value->Shared->Prop} {s:Shared} (h:wpAny M A t Q E s) (hQ:∀ a s,Q a s->Q' a s):wpAny M A t Q' E s:=Jbb h hQ fun _ _ x=>x
section
variable {X:Cx}
theorem bin {a b:Expr} {ta tb:TE} (ha:PE X a ta) (hb:PE X b tb) {pins:List (Addr × Obj)} {s:Shared} {σ:St} {H:Hp} {R:V->V->Hp->Prop} (I:Inv X pins σ H s) (h:ta σ H fun x H1=>tb σ H1 fun y H2=>R x y H2)
  {α:Type} {Q:α->Shared->Prop} {f:Value->Value->Sem α}
  (hf:∀ v u s2 x y H2,Inv X pins σ H2 s2->RelV x v->RelV y u->R x y H2->wpAny (model X.prog X.w) X.A (f v u) Q X.xe s2):
  wpAny (model X.prog X.w) X.A (eval a X.env) (fun v s₁=>wpAny (model X.prog X.w) X.A (eval b X.env) (fun u s₂=>wpAny (model X.prog X.w) X.A (f v u) Q X.xe s₂) X.xe s₁) X.xe s:=by
 refine thn (ha pins s σ H _ I h) fun v s1 ⟨x,H1,I1,r1,q1⟩=>?_
 refine thn (hb pins s1 σ H1 _ I1 q1) fun u s2 ⟨y,H2,I2,r2,q2⟩=>?_
 exact hf v u s2 x y H2 I2 r1 r2 q2
def tVar (i:Nat):TE:=fun σ H Q=>∃ v,σ[i]? = some (some v)/\Q v H
def tC (v:V):TE:=fun _ H Q=>Q v H
theorem pe_var {i:Nat} {x:Str} {pos:Pos} (hN:X.N[i]? = some x) (hv:Vis X.env.scope x) (hd:(x == ("__debug__" : Str)) = false:=by decide) (hcd:(x == ("__classdict__" : Str)) = false:=by decide):PE X (.Name x pos) (tVar i):=by
 intro pins s σ H Q I h
 obtain ⟨v,e,h⟩:=h
 obtain ⟨m,hn,hl⟩:=I.loc
 obtain ⟨u,r,l⟩:=hl i x v hN e hv
 have fin:EP X pins σ Q u s:=⟨v,H,I,r,h⟩
 rcases l with ⟨hk,hm⟩ | ⟨hk,c,hc,hcell⟩
 ·exact wpAny_Name (wpAny_loadName_local I.ok.kind hk hn hm fin) hd
 ·rcases hk with hk | hk
  ·exact wpAny_Name (wpAny_loadName_cell I.ok.kind hk hc hcell fin) hd
  ·exact wpAny_Name (wpAny_loadName_free I.ok.kind hk hc hcell fin hcd) hd
theorem Zab {i j pos}:PE X (.Constant (.int i) j pos) (tC (.int i)):=fun _ _ _ H _ I h=>wpAny_Constant_int ⟨.int i,H,I.tok _,⟨_,rfl⟩,h⟩
theorem Zgn {b j pos}:PE X (.Constant (.bool b) j pos) (tC (.bl b)):=fun _ _ _ H _ I h=>Constant_bool ⟨.bl b,H,I,rfl,h⟩
theorem Zgb {j pos}:PE X (.Constant .none j pos) (tC .non):=fun _ _ _ H _ I h=>Constant_none ⟨.non,H,I,rfl,h⟩
theorem Zaf {x j pos}:PE X (.Constant (.str x) j pos) (tC (.str x)):=fun _ _ _ H _ I h=>Jdk ⟨.str x,H,I.tok _,⟨_,rfl⟩,h⟩
def Gl (X:Cx) (x:Str):Prop:=X.env.kindOf x = some .globalImplicit
theorem Zey {E:Value->Shared->Prop} {pins:List (Addr × Obj)} {s:Shared} {σ:St} {H:Hp} {x:Str} {u:Value} {pos:Pos} {Q:Value->Shared->Prop} (I:Inv X pins σ H s) (hg:Gl X x) (hm:X.mg x = some u) (h:Q u s)
  (hd:(x == ("__debug__" : Str)) = false:=by decide):wpAny (model X.prog X.w) X.A (eval (.Name x pos) X.env) Q E s:=
 Calls.Name_function_global I.ok.kind hg (Calls.loadGlobal_global (by rw [I.ok.glob]; exact I.mod.glob.keeps I.bk) hm h) hd
theorem Zg0 {E:Value->Shared->Prop} {pins:List (Addr × Obj)} {s:Shared} {σ:St} {H:Hp} {x:Str} {u:Value} {pos:Pos} {Q:Value->Shared->Prop} (I:Inv X pins σ H s) (hg:Gl X x) (hm:X.mg x = none) (hv:bootBuiltins x = some u) (h:Q u s)
  (hn:x ≠ "__name__" := by decide) (hd:(x == ("__debug__" : Str)) = false:=by decide):wpAny (model X.prog X.w) X.A (eval (.Name x pos) X.env) Q E s:=by
 obtain ⟨mb,h1,h2⟩:=I.mod.blt
 exact Calls.Name_function_global I.ok.kind hg (Calls.loadGlobal_builtin (by rw [I.ok.glob]; exact I.mod.glob.keeps I.bk) hm (by rw [I.ok.blt]; exact h1.keeps I.bk) ((h2 x hn).trans hv) h) hd
theorem Zbn {x:Str} {v:V} {u:Value} {pos:Pos} (hg:Gl X x) (hm:X.mg x = some u) (r:RelV v u) (hd:(x == ("__debug__" : Str)) = false:=by decide):PE X (.Name x pos) (tC v):=
 fun _ _ _ H _ I h=>Zey I hg hm ⟨v,H,I,r,h⟩ hd
theorem pe_bltn {x:Str} {v:V} {u:Value} {pos:Pos} (hg:Gl X x) (hm:X.mg x = none) (hv:bootBuiltins x = some u) (r:RelV v u) (hn:x ≠ "__name__" := by decide) (hd:(x == ("__debug__" : Str)) = false:=by decide):PE X (.Name x pos) (tC v):=
 fun _ _ _ H _ I h=>Zg0 I hg hm hv ⟨v,H,I,r,h⟩ hn hd
variable {a b:Expr} {ta tb:TE} {pos:Pos}
def PC (X:Cx) (op:CmpOp) (a b:Expr) (t:TE):Prop:=
 ∀ (pins:List (Addr × Obj)) (s:Shared) (σ:St) (H:Hp) (Q:VK),Inv X pins σ H s->t σ H Q->
  wpAny (model X.prog X.w) X.A (eval a X.env) (fun v s₁=>wpAny (model X.prog X.w) X.A (eval b X.env) (fun u s₂=>wpAny (model X.prog X.w) X.A (compareOp op v u) (EP X pins σ Q) X.xe s₂) X.xe s₁) X.xe s
theorem Zof (b:Expr) {op:CmpOp} (h:op ≠ .In) (h2:op ≠ .NotIn):behindInMarks op b = false:=by
 have e1:(op == CmpOp.In) = false:=by cases op <;> first | rfl | exact absurd rfl h
 have e2:(op == CmpOp.NotIn) = false:=by cases op <;> first | rfl | exact absurd rfl h2
 cases b <;> simp [behindInMarks,e1,e2]
def tB (t:TE):TT:=fun σ H Q=>t σ H fun x H1=>∃ c,x = .bl c/\Q c H1
theorem pt_cmp {op:CmpOp} {t:TE} (h:PC X op a b t) (h1:behindInMarks op b = false:=by first | exact Zof _ (by decide) (by decide) | rfl):PT X (.Compare a [op] [b] pos) (tB t):=by
 intro pins s σ H Q I hw
 refine wpAny_isTrue_Compare1 (thn (h pins s σ H _ I hw) fun v s1 h1=>thn h1 fun u s2 h2=>thn h2 fun c s3 ⟨x,H1,I1,r1,q1⟩=>?_) h1
 obtain ⟨d,rfl,q⟩:=q1
 cases r1
 exact Jbo ⟨H1,I1,q⟩
theorem Zdd {e:Expr} {t:TE} (h:PE X e t) (he:∀ whole,isTrue e X.env whole = (do let v <- whole; standAt e.pos; holding [v] (truthy v)):=by intro _; rfl):PT X e (tB t):=by
 intro pins s σ H Q I hw
 refine isTrue_plain (thn (h pins s σ H _ I hw) fun v s1 ⟨x,H1,I1,r1,q1⟩=>?_) (he _)
 obtain ⟨d,rfl,q⟩:=q1
 cases r1
 exact Jbo ⟨H1,I1,q⟩
variable {tA tB':TT} {rest:List Expr}
def tAnd (t u:TT):TT:=fun σ H Q=>t σ H fun c H1=>if c = true then u σ H1 Q else Q false H1
def tOr (t u:TT):TT:=fun σ H Q=>t σ H fun c H1=>if c = true then Q true H1 else u σ H1 Q
def tNot (t:TT):TT:=fun σ H Q=>t σ H fun c H1=>Q (!c) H1
theorem Zi8 (ha:PT X a tA):PW X (.BoolOp .And [a] pos) tA:=by
 intro wh pins s σ H Q I h
 refine isTrue_and (thn (ha pins s σ H Q I h) fun c s1 e=>?_)
 cases c with
 | true=>exact isTrue_and_nil e
 | false=>exact e
theorem Zdc (ha:PT X a tA):PW X (.BoolOp .Or [a] pos) tA:=by
 intro wh pins s σ H Q I h
 refine isTrue_or (thn (ha pins s σ H Q I h) fun c s1 e=>?_)
 cases c with
 | false=>exact isTrue_or_nil e
 | true=>exact e
theorem Zlt (ha:PT X a tA) (hb:PW X (.BoolOp .And (b :: rest) pos) tB'):PW X (.BoolOp .And (a :: b :: rest) pos) (tAnd tA tB'):=by
 intro wh pins s σ H Q I h
 refine isTrue_and (thn (ha pins s σ H _ I h) fun c s1 ⟨H1,I1,q1⟩=>?_)
 cases c with
 | true=>exact hb wh pins s1 σ H1 Q I1 q1
 | false=>exact ⟨H1,I1,q1⟩
theorem Zd3 (ha:PT X a tA) (hb:PW X (.BoolOp .Or (b :: rest) pos) tB'):PW X (.BoolOp .Or (a :: b :: rest) pos) (tOr tA tB'):=by
 intro wh pins s σ H Q I h
 refine isTrue_or (thn (ha pins s σ H _ I h) fun c s1 ⟨H1,I1,q1⟩=>?_)
 cases c with
 | true=>exact ⟨H1,I1,q1⟩
 | false=>exact hb wh pins s1 σ H1 Q I1 q1
theorem Zcr (ha:PT X a tA):PT X (.UnaryOp .Not a pos) (tNot tA):=by
 intro pins s σ H Q I h
 exact isTrue_not (ha pins s σ H (fun c H1=>Q (!c) H1) I h)
def tAndV (ta tb:TE):TE:=fun σ H Q=>ta σ H fun x H1=>∃ c,x = .bl c/\if c = true then tb σ H1 Q else Q (.bl false) H1
def tOrV (ta tb:TE):TE:=fun σ H Q=>ta σ H fun x H1=>∃ c,x = .bl c/\if c = true then Q (.bl true) H1 else tb σ H1 Q
def tNotV (ta:TE):TE:=fun σ H Q=>ta σ H fun x H1=>∃ c,x = .bl c/\Q (.bl (!c)) H1
theorem Zdw {op} {t:TE} (h:PE X a t):PE X (.BoolOp op [a] pos) t:=fun pins s σ H Q I hw=>BoolOp_one (h pins s σ H Q I hw)
theorem Zdx (ha:PE X a ta) (hb:PE X (.BoolOp .And (b :: rest) pos) tb):PE X (.BoolOp .And (a :: b :: rest) pos) (tAndV ta tb):=by
 intro pins s σ H Q I h
 refine BoolOp_and (thn (ha pins s σ H _ I h) fun v s1 ⟨x,H1,I1,r1,q1⟩=>?_)
 obtain ⟨c,rfl,q1⟩:=q1
 cases r1
 refine Jbo ?_
 cases c with
 | true=>exact hb pins s1 σ H1 Q I1 q1
 | false=>exact ⟨.bl false,H1,I1,rfl,q1⟩
theorem pe_or (ha:PE X a ta) (hb:PE X (.BoolOp .Or (b :: rest) pos) tb):PE X (.BoolOp .Or (a :: b :: rest) pos) (tOrV ta tb):=by
 intro pins s σ H Q I h
 refine BoolOp_or (thn (ha pins s σ H _ I h) fun v s1 ⟨x,H1,I1,r1,q1⟩=>?_)
 obtain ⟨c,rfl,q1⟩:=q1
 cases r1
 refine Jbo ?_
 cases c with
 | false=>exact hb pins s1 σ H1 Q I1 q1
 | true=>exact ⟨.bl true,H1,I1,rfl,q1⟩
theorem Zjw (ha:PE X a ta):PE X (.UnaryOp .Not a pos) (tNotV ta):=by
 intro pins s σ H Q I h
 refine UnaryOp_ (thn (ha pins s σ H _ I h) fun v s1 ⟨x,H1,I1,r1,q1⟩=>?_)
 obtain ⟨c,rfl,q1⟩:=q1
 cases r1
 exact not_of (Jbo ⟨.bl (!c),H1,I1,rfl,q1⟩)
def tIf (t:TT) (ta tb:TE):TE:=fun σ H Q=>t σ H fun c H1=>if c = true then ta σ H1 Q else tb σ H1 Q
theorem Zn0 {c:Expr} (hc:PT X c tA) (ha:PE X a ta) (hb:PE X b tb):PE X (.IfExp c a b pos) (tIf tA ta tb):=by
 intro pins s σ H Q I h
 refine wpAny_IfExp (thn (hc pins s σ H _ I h) fun d s1 ⟨H1,I1,q1⟩=>?_)
 cases d with
 | true=>exact ha pins s1 σ H1 Q I1 q1
 | false=>exact hb pins s1 σ H1 Q I1 q1
end
def SqL (K:PySem.W.Frag) (H:Hp) (a:Addr) (xs:List V):Prop:=
 Rd H a (.lst xs) \/
  ∃ (o:Obj) (its:Array Value) (n:Nat),K.lookup a = some o/\o.cls = .type "list" /\ o.dict = none/\o.data = .seq its n/\its.size<=sizeLine/\Vals xs its.toList
def SqT (K:PySem.W.Frag) (H:Hp) (a:Addr) (xs:List V):Prop:=
 Rd H a (.tup xs) \/
  ∃ (o:Obj) (its:Array Value) (n:Nat),K.lookup a = some o/\o.cls = .type "tuple" /\ o.data = .seq its n/\its.size<=sizeLine/\Vals xs its.toList
def absV:Value->Option V
 | .none=>some .non
 | .bool b=>some (.bl b)
 | .int i _=>some (.int i)
 | .str x _=>some (.str x)
 | .bytes b _=>some (.byt b)
 | .float b _=>some (.flt b)
 | .ref a=>some (.ref a)
 | .type n=>some (.ty n)
 | _=>none
theorem RelV.abs {x:V} {u:Value} (r:RelV x u):absV u = some x:=by
 cases x with
 | non=>cases r; rfl
 | bl _=>cases r; rfl
 | int _=>obtain ⟨t,rfl⟩:=r; rfl
 | str _=>obtain ⟨t,rfl⟩:=r; rfl
 | byt _=>obtain ⟨t,rfl⟩:=r; rfl
 | flt _=>obtain ⟨t,rfl⟩:=r; rfl
 | ref _=>cases r; rfl
 | ty _=>cases r; rfl
theorem RelV.inj {x y:V} {u:Value} (r:RelV x u) (q:RelV y u):x = y:=Ja3 (r.abs.symm.trans q.abs)
theorem Vals.inj:∀ {xs ys:List V} {us:List Value},Vals xs us->Vals ys us->xs = ys
 | _,_,_,.nil,.nil=>rfl
 | _,_,_,.cons r t,.cons r' t'=>by rw [r.inj r',Vals.inj t t']
section
variable {X:Cx} {pins:List (Addr × Obj)} {σ:St} {H:Hp} {s:Shared} {a:Addr} {xs ys:List V}
theorem SqL.of {K:PySem.W.Frag} (h:H a = some (.lst xs)):SqL K H a xs:=.inl (.inl h)
theorem SqT.of {K:PySem.W.Frag} (h:H a = some (.tup xs)):SqT K H a xs:=.inl (.inl h)
theorem Inv.list (I:Inv X pins σ H s) (h:SqL X.K H a xs):∃ its:List Value,Vals xs its/\PlainL s.heap a its.toArray/\xs.length<=sizeLine:=by
 rcases h with h | ⟨o,its,n,hk,hc,hd,hs,hz,r⟩
 ·obtain ⟨z,its,n,r,e⟩:=h.ok I.hok
  exact ⟨its,r,⟨_,n,e,rfl,rfl,rfl⟩,z⟩
 ·refine ⟨its.toList,r,⟨o,n,I.kIn a o hk,hc,hd,by simpa using hs⟩,?_⟩
  have e:=r.length
  simp only [Array.length_toList] at e
  omega
theorem Inv.tuple (I:Inv X pins σ H s) (h:SqT X.K H a xs):∃ its:List Value,Vals xs its/\IsTup s.heap a its.toArray/\xs.length<=sizeLine:=by
 rcases h with h | ⟨o,its,n,hk,hc,hs,hz,r⟩
 ·obtain ⟨z,its,r,p⟩:=h.ok I.hok
  exact ⟨its,r,p,z⟩
 ·refine ⟨its.toList,r,⟨o,I.kIn a o hk,hc,n,by simpa using hs⟩,?_⟩
  have e:=r.length
  simp only [Array.length_toList] at e
  omega
theorem Inv.list_inj (I:Inv X pins σ H s) (h:SqL X.K H a xs) (h':SqL X.K H a ys):xs = ys:=by
 obtain ⟨its,r,⟨o,n,e,_,_,d⟩,_⟩:=I.list h
 obtain ⟨its',r',⟨o',n',e',_,_,d'⟩,_⟩:=I.list h'
 rw [e] at e'; cases e'
 rw [d] at d'
 injection d' with d1 _
 have:its = its':=by simpa using Jdl Array.toList d1
 subst this
 exact r.inj r'
theorem Inv.tuple_inj (I:Inv X pins σ H s) (h:SqT X.K H a xs) (h':SqT X.K H a ys):xs = ys:=by
 obtain ⟨its,r,⟨o,e,_,n,d⟩,_⟩:=I.tuple h
 obtain ⟨its',r',⟨o',e',_,n',d'⟩,_⟩:=I.tuple h'
 rw [e] at e'; cases e'
 rw [d] at d'
 injection d' with d1 _
 have:its = its':=by simpa using Jdl Array.toList d1
 subst this
 exact r.inj r'
end
abbrev Cx.wish (X:Cx) (E:Value->Shared->Prop):Cx:={ X with xe:=E }
abbrev Cx.nox (X:Cx):Cx:=X.wish fun _ _=>False
theorem Cx.Ok.wish {X:Cx} (ok:X.Ok) (E:Value->Shared->Prop):(X.wish E).Ok:=
 ⟨ok.mod,ok.kind,ok.glob,ok.blt,ok.above,ok.inj,ok.has,ok.cab,ok.hd,ok.frames,ok.stk,ok.exf,ok.bs,ok.bsz,ok.noex,ok.exfs,ok.funs,ok.frf,ok.top⟩
theorem Cx.Ok.unwish {X:Cx} {E:Value->Shared->Prop} (ok:(X.wish E).Ok):X.Ok:=
 ⟨ok.mod,ok.kind,ok.glob,ok.blt,ok.above,ok.inj,ok.has,ok.cab,ok.hd,ok.frames,ok.stk,ok.exf,ok.bs,ok.bsz,ok.noex,ok.exfs,ok.funs,ok.frf,ok.top⟩
section
variable {X:Cx} {pins:List (Addr × Obj)} {σ:St} {H:Hp} {s:Shared} {E:Value->Shared->Prop}
theorem Inv.wish (I:Inv X pins σ H s) (E:Value->Shared->Prop):Inv (X.wish E) pins σ H s:=⟨I.ok.wish E,I.os,I.bare,I.base,I.loc,I.cell,I.free,I.freeC,I.pin,I.hok,I.len⟩
theorem Inv.unwish (I:Inv (X.wish E) pins σ H s):Inv X pins σ H s:=⟨I.ok.unwish,I.os,I.bare,I.base,I.loc,I.cell,I.free,I.freeC,I.pin,I.hok,I.len⟩
theorem SP.unwish {D:Ends} {f:Flow} {s':Shared} (h:SP (X.wish E) pins D f s'):SP X pins D f s':=by
 cases f with
 | next=>obtain ⟨σ',H',I,q⟩:=h; exact ⟨σ',H',I.unwish,q⟩
 | brk=>obtain ⟨σ',H',I,q⟩:=h; exact ⟨σ',H',I.unwish,q⟩
 | cont=>obtain ⟨σ',H',I,q⟩:=h; exact ⟨σ',H',I.unwish,q⟩
 | ret u=>obtain ⟨v,σ',H',I,r,q⟩:=h; exact ⟨v,σ',H',I.unwish,r,q⟩
theorem PSs.nox {st:List Stmt} {t:TS} (h:PSs X.nox st t):PSs X st t:=fun pins s σ H D I hw=>
 Jbb (h pins s σ H D (I.wish _) hw) (fun _ _ q=>q.unwish) fun _ _ z=>False.elim z
end
section
variable {X:Cx} {st:Stmt} {rest:List Stmt} {t u:TS} {e:Expr} {te:TE} {pos:Pos}
def tNext:TS:=fun D σ H=>D.nx σ H
def tSeq (t u:TS):TS:=fun D σ H=>t { D with nx:=u D } σ H
theorem Zal:PSs X [] tNext:=fun _ _ σ H _ I h=>Jcs ⟨σ,H,I,h⟩
theorem Znw (h1:PS X st t) (h2:PSs X rest u):PSs X (st :: rest) (tSeq t u):=by
 intro pins s σ H D I h
 refine wpAny_execs_cons (thn (h1 pins s σ H { D with nx:=u D } I h) fun f s1 q=>?_)
 cases f with
 | next=>
  obtain ⟨σ',H',I',q⟩:=q
  exact h2 pins s1 σ' H' D I' q
 | ret v=>exact q
 | brk=>exact q
 | cont=>exact q
theorem Zav (h1:PS X st t):PSs X [st] t:=by
 intro pins s σ H D I h
 refine wpAny_execs_cons (thn (h1 pins s σ H D I h) fun f s1 q=>?_)
 cases f with
 | next=>exact Jcs q
 | ret v=>exact q
 | brk=>exact q
 | cont=>exact q
theorem Inv.quiet {pins:List (Addr × Obj)} {σ:St} {H:Hp} {s:Shared} (I:Inv X pins σ H s):interactive X.env = false:=by simp [interactive,I.ok.kind]
def tDrop (te:TE):TS:=fun D σ H=>te σ H fun _ H1=>D.nx σ H1
theorem Zf8 (he:PE X e te) (hs:swapsWith e none pos.line X.env = pure false:=by rfl):PS X (.Expr e pos) (tDrop te):=by
 intro pins s σ H D I h
 exact wpAny_Expr_any (thn (he pins s σ H _ I h) fun v s1 ⟨x,H1,I1,r1,q1⟩=>⟨σ,H1,I1,q1⟩) I.quiet hs
def tRet (te:TE):TS:=fun D σ H=>te σ H D.rt
theorem ps_ret (he:PE X e te):PS X (.Return (some e) pos) (tRet te):=by
 intro pins s σ H D I h
 exact wpAny_Return_some (thn (he pins s σ H _ I h) fun v s1 ⟨x,H1,I1,r1,q1⟩=>⟨x,σ,H1,I1,r1,q1⟩)
def tRetN:TS:=fun D _ H=>D.rt .non H
def tIfS (c:TT) (t u:TS):TS:=fun D σ H=>c σ H fun b H1=>if b = true then t D σ H1 else u D σ H1
theorem Za1 {c:Expr} {a b:List Stmt} {tc:TT} (hc:PT X c tc) (ha:PSs X a t) (hb:PSs X b u):PS X (.If c a b pos) (tIfS tc t u):=by
 intro pins s σ H D I h
 refine wpAny_If (thn (hc pins s σ H _ I h) fun d s1 ⟨H1,I1,q1⟩=>?_)
 cases d with
 | true=>exact ha pins s1 σ H1 D I1 q1
 | false=>exact hb pins s1 σ H1 D I1 q1
def tNever:TS:=fun _ _ _=>False
theorem Zdi:PS X st tNever:=fun _ _ _ _ _ _ h=>h.elim
end
abbrev TG:=V->St->Hp->(St->Hp->Prop)->Prop
abbrev TGs:=List V->St->Hp->(St->Hp->Prop)->Prop
def PG (X:Cx) (target:Expr) (t:TG):Prop:=
 ∀ (pins:List (Addr × Obj)) (s:Shared) (σ:St) (H:Hp) (v:V) (u:Value) (Q:St->Hp->Prop),Inv X pins σ H s->RelV v u->t v σ H Q->
  wpAny (model X.prog X.w) X.A (assign target X.env u) (fun _ s'=>∃ σ' H',Inv X pins σ' H' s'/\Q σ' H') X.xe s
def PGs (X:Cx) (ts:List Expr) (t:TGs):Prop:=
 ∀ (pins:List (Addr × Obj)) (s:Shared) (σ:St) (H:Hp) (vs:List V) (us:List Value) (Q:St->Hp->Prop),Inv X pins σ H s->Vals vs us->t vs σ H Q->
  wpAny (model X.prog X.w) X.A (assignInOrder ((assignEach ts X.env).map (·.2)) us) (fun _ s'=>∃ σ' H',Inv X pins σ' H' s'/\Q σ' H') X.xe s
abbrev TSet:=V->V->V->Hp->(Hp->Prop)->Prop
def PSet (X:Cx) (t:TSet):Prop:=
 ∀ (pins:List (Addr × Obj)) (s:Shared) (σ:St) (H:Hp) (o i v:V) (ov iv u:Value) (Q:Hp->Prop),Inv X pins σ H s->RelV o ov->RelV i iv->RelV v u->t o i v H Q->
  wpAny (model X.prog X.w) X.A (setItem ov iv u) (fun _ s'=>∃ H',Inv X pins σ H' s'/\Q H') X.xe s
abbrev TIp:=V->V->Hp->VK->Prop
section
variable {X:Cx} {pos:Pos}
def Zce (i:Nat):TG:=fun v σ H Q=>Q (σ.set i (some v)) H
theorem Zap {i:Nat} {x:Str} (hN:X.N.Nodup) (hi:X.N[i]? = some x) (hx:Loc X.env.scope x) (hf:X.fn x = true\/X.env.scope.names.lookup x = some .local:=by first | exact .inl rfl | exact .inr rfl | assumption):PG X (.Name x pos) (Zce i):=by
 intro pins s σ H v u Q I r h
 exact wpAny_assign_Name (Zg7 I hN hi hx r (fun s' I'=>⟨_,H,I',h⟩) hf)
def gNil:TGs:=fun vs σ H Q=>vs = []/\Q σ H
def Zkx (t:TG) (u:TGs):TGs:=fun vs σ H Q=>∃ v r,vs = v :: r/\t v σ H fun σ' H'=>u r σ' H' Q
theorem Zev:PGs X [] gNil:=by
 intro pins s σ H vs us Q I r h
 obtain ⟨e,h⟩:=h
 subst e
 cases r
 exact assignInOrder_nil ⟨σ,H,I,h⟩
theorem Zbg {e:Expr} {es:List Expr} {t:TG} {u:TGs} (h1:PG X e t) (h2:PGs X es u)
  (hs:(assignEach (e :: es) X.env).map (·.2) = assign e X.env :: (assignEach es X.env).map (·.2):=by rfl):PGs X (e :: es) (Zkx t u):=by
 intro pins s σ H vs us Q I r h
 obtain ⟨v,vr,e1,h⟩:=h
 subst e1
 cases r with
 | cons r rr=>
  rw [hs]
  refine assignInOrder_cons (thn (h1 pins s σ H _ _ _ I r h) fun _ s1 ⟨σ1,H1,I1,q1⟩=>?_)
  exact h2 pins s1 σ1 H1 _ _ Q I1 rr q1
def gTup (K:PySem.W.Frag) (n:Nat) (t:TGs):TG:=fun v σ H Q=>∃ a xs,v = .ref a/\SqT K H a xs/\xs.length = n/\t xs σ H Q
theorem Zh8 {es:List Expr} {k:Nat} {t:TGs} {n:Nat} (hc:X.calm = true) (h:PGs X es t)
  (hn:(assignEach es X.env).length = n:=by rfl) (hst:(assignEach es X.env).findIdx? (·.1) = none:=by rfl):PG X (.Tuple es k pos) (gTup X.K n t):=by
 intro pins s σ H v u Q I r hw
 obtain ⟨a,xs,e1,hq,hl,hw⟩:=hw
 subst e1
 cases r
 obtain ⟨its,rv,ht,hz⟩:=I.tuple hq
 refine assign_Tuple_tuple (I.ok.hd hc) ht (by simp [hn,<- hl,rv.length]) hst fun h' hx=>?_
 have I1:Inv X pins σ H { s with heap:=h' }:=I.kept (t':=s.toks) fun b o e=>hx b o (Ja8 (Jaf e)) e
 exact h pins _ σ H xs _ Q I1 (by simpa using rv) hw
def gSub (to ti:TE) (t:TSet):TG:=fun v σ H Q=>to σ H fun o H1=>ti σ H1 fun i H2=>t o i v H2 fun H3=>Q σ H3
theorem Zjv {o i:Expr} {to ti:TE} {t:TSet} (ho:PE X o to) (hi:PE X i ti) (hs:PSet X t)
  (ha:∀ v,assign (.Subscript o i pos) X.env v = (do
   let ov <- holding [v] (eval o X.env)
   let iv <- holding [v,ov] (eval i X.env)
   standAt pos
   holding [v,ov,iv] (setItem ov iv v)
   release [v,ov,iv] []):=by intro _; rfl):PG X (.Subscript o i pos) (gSub to ti t):=by
 intro pins s σ H v u Q I r h
 rw [ha]
 refine Jaj (wpAny_holding (thn (ho pins s σ H _ I h) fun ov s1 ⟨x,H1,I1,r1,q1⟩=>?_))
 refine Jaj (wpAny_holding (thn (hi pins s1 σ H1 _ I1 q1) fun iv s2 ⟨y,H2,I2,r2,q2⟩=>?_))
 refine Jaj (Jdc (Jaj (wpAny_holding (thn (hs pins s2 σ H2 x y v ov iv u _ I2 r1 r2 r q2) fun _ s3 ⟨H3,I3,q3⟩=>?_))))
 exact wpAny_release ⟨σ,H3,I3,q3⟩
def tAsg (te:TE) (g:TG):TS:=fun D σ H=>te σ H fun x H1=>g x σ H1 D.nx
theorem Zf9 {tg e:Expr} {te:TE} {g:TG} (he:PE X e te) (hg:PG X tg g) (hs:swapsWithSole [tg] e pos.line X.env = pure false:=by rfl) (hw:swappedStores [tg] e X.env = pure none:=by rfl)
  (h1:(assignEach [tg] X.env).map (·.2) = [assign tg X.env]:=by rfl):PS X (.Assign [tg] e pos) (tAsg te g):=by
 intro pins s σ H D I h
 refine wpAny_Assign_stores (thn (he pins s σ H _ I h) fun v s1 ⟨x,H1,I1,r1,q1⟩=>?_) hs hw
 rw [h1]
 exact thn (hg pins s1 σ H1 x v _ I1 r1 q1) fun _ s2 q=>q
theorem Zam {i:Nat} {x:Str} {e:Expr} {te:TE} {pos':Pos} (hN:X.N.Nodup) (hi:X.N[i]? = some x) (hx:Loc X.env.scope x) (he:PE X e te) (hs:swapsWith e (some (.Name x pos')) pos.line X.env = pure false:=by rfl) (hf:X.fn x = true\/X.env.scope.names.lookup x = some .local:=by first | exact .inl rfl | exact .inr rfl | assumption):
  PS X (.Assign [.Name x pos'] e pos) (tAsg te (Zce i)):=by
 intro pins s σ H D I h
 refine wpAny_Assign_Name (thn (he pins s σ H _ I h) fun v s1 ⟨y,H1,I1,r1,q1⟩=>?_) hs
 exact Zg7 I1 hN hi hx r1 (fun s2 I2=>⟨_,H1,I2,q1⟩) hf
def tPar (i j:Nat) (ta:TA):TS:=fun D σ H=>ta σ H fun vs H1=>∃ v w,vs = [v,w]/\D.nx ((σ.set i (some v)).set j (some w)) H1
def tAug (i:Nat) (te:TE) (ti:TIp):TS:=fun D σ H=>∃ x,σ[i]? = some (some x)/\te σ H fun y H1=>ti x y H1 fun z H2=>D.nx (σ.set i (some z)) H2
def tAugS (to ti te:TE) (tget:V->V->Hp->VK->Prop) (tip:TIp) (tset:TSet):TS:=fun D σ H=>to σ H fun o H1=>ti σ H1 fun i H2=>tget o i H2 fun x H3=>te σ H3 fun y H4=>tip x y H4 fun z H5=>tset o i z H5 fun H6=>D.nx σ H6
def ipI (f:Int->Int->Int):TIp:=fun x y H Q=>∃ i j,x = .int i/\y = .int j/\Q (.int (f i j)) H
end
section
variable {X:Cx} {pos:Pos}
def tWhile (c:TT) (tb:TS):TS:=fun D σ H=>∃ W:Nat->St->Hp->Prop,(∃ m,W m σ H)/\∀ m σ H,W m σ H->
 c σ H fun b H1=>if b = true then ∃ N:St->Hp->Prop,(∀ σ' H',N σ' H'->∃ m',m' < m/\W m' σ' H')/\tb { D with nx:=N,ct:=N,bk:=D.nx } σ H1 else D.nx σ H1
theorem Zhe {c:Expr} {body:List Stmt} {tc:TT} {tb:TS} (hp:PassesOwn (model X.prog X.w) X.A X.env X.xe) (hc:PT X c tc) (hb:PSs X body tb):PS X (.While c body [] pos) (tWhile tc tb):=by
 intro pins s σ H D I h
 obtain ⟨W,⟨m0,w0⟩,turn⟩:=h
 refine wpAny_While (codeAny_whileLoop (fun n s'=>∃ σ' H',Inv X pins σ' H' s'/\W n σ' H') ?_ m0 ⟨σ,H,I,w0⟩)
 rintro n s1 ⟨σ1,H1,I1,w1⟩
 refine Jce hp (thn (hc pins s1 σ1 H1 _ I1 (turn n σ1 H1 w1)) fun b s2 ⟨H2,I2,q2⟩=>?_)
 cases b with
 | true=>
  obtain ⟨N,hN,q2⟩:=q2
  rw [if_pos rfl]
  refine Jce hp (thn (hb pins s2 σ1 H2 _ I2 q2) fun f s3 q3=>?_)
  cases f with
  | next=>
   obtain ⟨σ3,H3,I3,n3⟩:=q3
   obtain ⟨m',hm,w3⟩:=hN σ3 H3 n3
   exact ⟨m',hm,σ3,H3,I3,w3⟩
  | cont=>
   obtain ⟨σ3,H3,I3,n3⟩:=q3
   obtain ⟨m',hm,w3⟩:=hN σ3 H3 n3
   exact ⟨m',hm,σ3,H3,I3,w3⟩
  | brk=>exact q3
  | ret v=>exact q3
 | false=>
  rw [if_neg Jao]
  exact Jcs ⟨σ1,H2,I2,q2⟩
end
structure It where
 go:Nat->Hp->Prop
 yld:Nat->Hp->V->Hp->Prop
 stop:Nat->Hp->Prop
def Ziw (X:Cx) (pins:List (Addr × Obj)) (H:Hp) (b:Addr):Prop:=
 H b = none/\b ≠ X.env.locals/\b ∉ X.fs/\(b ∈ X.ex\/X.s₀.heap.objs.size<=b)/\(∀ x c,X.env.cells.lookup x = some c->c ≠ b)/\∀ p ∈ X.pn ++ pins,p.1 ≠ b
theorem Inv.fpOk {X:Cx} {pins:List (Addr × Obj)} {σ:St} {H H':Hp} {s:Shared} {b:Addr} (I:Inv X pins σ H s) (hb:s.heap.objs.size<=b) (hn:H' b = none):Ziw X pins H' b:=by
 refine ⟨hn,Jdm (Jan I.lt hb),I.nofs hb,.inr (Jbw I.sz hb),fun x c e z=>?_,fun p hp z=>?_⟩
 ·obtain ⟨v,q⟩:=I.cell x c e
  exact absurd (Jan q.lt (by rw [z]; exact hb)) (Ja9 _)
 ·exact absurd (Jan (Jaf (I.pin p hp).1) (by rw [z]; exact hb)) (Ja9 _)
structure Turn (P:Program) (w:World) (K:PySem.W.Frag) (tg:Expr) (J:It) (fp:List Addr) (it:Addr) (tn:Nat->Heap->Prop):Prop where
 mem:it ∈ fp
 obj:∀ i h,tn i h->∀ b ∈ fp,∃ o,h.get? b = some o/\∀ v,o.data ≠ .cell v
 keep:∀ i h h',tn i h->(∀ b ∈ fp,∀ o,h.get? b = some o->h'.get? b = some o)->tn i h'
 item:∀ (X:Cx),X.prog = P->X.w = w->X.K = K->X.calm = true->∀ (i:Nat) (pins:List (Addr × Obj)) (s:Shared) (σ:St) (H:Hp) (E:Value->Shared->Prop),Inv X pins σ H s->(∀ b ∈ fp,Ziw X pins H b)->tn i s.heap->J.go i H->
  wpAny (model P w) X.A (pyNext (.ref it)) (fun r s1=>∃ u,r = some u /\
   wpAny (model P w) X.A (letOwnedTupleGo tg (.ref it) u) (fun _ s2=>∃ x H',Inv X pins σ H' s2/\RelV x u/\J.yld i H x H'/\tn (i + 1) s2.heap/\∀ b ∈ fp,H' b = none) E s1) E s
 done:∀ (X:Cx),X.prog = P->X.w = w->X.K = K->X.calm = true->∀ (i:Nat) (pins:List (Addr × Obj)) (s:Shared) (σ:St) (H:Hp) (E:Value->Shared->Prop),Inv X pins σ H s->(∀ b ∈ fp,Ziw X pins H b)->tn i s.heap->J.stop i H->
  wpAny (model P w) X.A (pyNext (.ref it)) (fun r s1=>r = none/\Inv X pins σ H s1) E s
 self:∀ (A:Around) (i:Nat) (s:Shared) (Q:Value->Shared->Prop) (E:Value->Shared->Prop),tn i s.heap->Q (.ref it) s->wpAny (model P w) A (pyIter (.ref it)) Q E s
abbrev TI:=St->Hp->(It->Hp->Prop)->Prop
def PIE (X:Cx) (pins:List (Addr × Obj)) (σ:St) (tg:Expr) (R:It->Hp->Prop) (itv:Value) (s2:Shared):Prop:=
 ∃ (it:Addr) (fp:List Addr) (tn:Nat->Heap->Prop) (J:It) (H':Hp),itv = .ref it/\Inv X pins σ H' s2/\Turn X.prog X.w X.K tg J fp it tn/\tn 0 s2.heap/\(∀ b ∈ fp,Ziw X pins H' b)/\R J H'
def PI (X:Cx) (tg iter:Expr) (wi:TI):Prop:=
 ∀ (pins:List (Addr × Obj)) (s:Shared) (σ:St) (H:Hp) (R:It->Hp->Prop),Inv X pins σ H s->wi σ H R->
  wpAny (model X.prog X.w) X.A (eval iter X.env) (fun v s1=>wpAny (model X.prog X.w) X.A (pyIter v) (PIE X pins σ tg R) X.xe s1) X.xe s
theorem Zoq {M:Model} {A:Around} {E:Value->Shared->Prop} {s:Shared} {tg:Expr} {it:Addr} {u:Value} {o:Obj} {n:String} {vs:Array Value} {Q:Unit->Shared->Prop} (ho:s.heap.get? it = some o) (hc:o.cls = .type n) (hd:o.data = .fields vs)
  (hn:["enumerate","zip","dict_itemiterator","dict_reverseitemiterator","odict_iterator","itertools.zip_longest","itertools.pairwise"].contains n = false) (hQ:Q () s):wpAny M A (letOwnedTupleGo tg (.ref it) u) Q E s:=by
 unfold letOwnedTupleGo
 cases tg <;> first
  | exact Ja5 hQ
  | (cases u <;> first
    | exact Ja5 hQ
    | (refine Jaj (wpAny_load ho ?_); rw [hc,hd]; show wpAny M A (if (["enumerate","zip","dict_itemiterator","dict_reverseitemiterator","odict_iterator","itertools.zip_longest","itertools.pairwise"].contains n && vs[0]? == some (rawInt _)) = true then _ else _) Q E s; rw [if_neg (by intro h; rw [hn,Jcm] at h; cases h)]; exact Ja5 hQ))
def Itl (K:PySem.W.Frag) (a:Addr):It:=
 ⟨fun i H=>∃ xs x,SqL K H a xs/\xs[i]? = some x,fun i H x H'=>H' = H/\∀ xs,SqL K H a xs->xs[i]? = some x,fun i H=>∃ xs,SqL K H a xs/\xs.length<=i⟩
def Itt (K:PySem.W.Frag) (a:Addr):It:=
 ⟨fun i H=>∃ xs x,SqT K H a xs/\xs[i]? = some x,fun i H x H'=>H' = H/\∀ xs,SqT K H a xs->xs[i]? = some x,fun i H=>∃ xs,SqT K H a xs/\xs.length<=i⟩
def Itr (lo:Int) (n:Nat):It:=⟨fun i _=>i < n,fun i H x H'=>H' = H/\x = .int (lo + i),fun i _=>n<=i⟩
theorem Zla {P:Program} {w:World} {K:PySem.W.Frag} {tg:Expr} (a it:Addr):Turn P w K tg (Itl K a) [it] it (fun i h=>h.IsListIter it a i) where
 mem:=by simp
 obj:=fun i h st b hb=>by
  have e:b = it:=by simpa using hb
  subst e
  obtain ⟨o,e,c,d⟩:=st
  exact ⟨o,e,fun v z=>by rw [d] at z; cases z⟩
 keep:=fun i h h' st k=>st.at fun o e=>k it (by simp) o e
 item:=by
  intro X hP hw hK hc i pins s σ H E I hf st hg
  subst hP hw hK
  obtain ⟨xs,x,hq,hx⟩:=hg
  obtain ⟨its,rv,p,hz⟩:=I.list hq
  obtain ⟨u,hu,ru⟩:=rv.get hx
  obtain ⟨f0,f1,f2,f3,f4,f5⟩:=hf it (by simp)
  refine wpAny_pyNext_list_item st p.isList (x:=u) (by simpa using hu) fun h' st' sb=>?_
  have I1:Inv X pins σ H { s with heap:=h' }:=I.turned (t':=s.toks) (fun b o hb e=>(sb.2 b hb).trans e) f0 f1 f3 f4 f5
  obtain ⟨o,e,c,d⟩:=id st'
  exact ⟨u,rfl,Zoq (s:={ s with heap:=h' }) e c d (by decide) ⟨x,H,I1,ru,⟨rfl,fun ys hy=>by rw [I.list_inj hy hq]; exact hx⟩,st',fun b hb=>(hf b hb).1⟩⟩
 done:=by
  intro X hP hw hK hc i pins s σ H E I hf st hg
  subst hP hw hK
  obtain ⟨xs,hq,hx⟩:=hg
  obtain ⟨its,rv,p,hz⟩:=I.list hq
  obtain ⟨f0,f1,f2,f3,f4,f5⟩:=hf it (by simp)
  have hl:=rv.length
  exact wpAny_pyNext_list_end (I.ok.hd hc) st p.isList (by simp; omega) fun h' eb=>⟨rfl,I.turned (t':=s.toks) (fun b o hb e=>eb b o hb e) f0 f1 f3 f4 f5⟩
 self:=fun _ _ _ _ _ st h=>wpAny_pyIter_listiter st h
theorem Zkm {P:Program} {w:World} {K:PySem.W.Frag} {tg:Expr} (a it:Addr):Turn P w K tg (Itt K a) [it] it (fun i h=>h.IsTupleIter it a i) where
 mem:=by simp
 obj:=fun i h st b hb=>by
  have e:b = it:=by simpa using hb
  subst e
  obtain ⟨o,e,c,d⟩:=st
  exact ⟨o,e,fun v z=>by rw [d] at z; cases z⟩
 keep:=fun i h h' st k=>st.at fun o e=>k it (by simp) o e
 item:=by
  intro X hP hw hK hc i pins s σ H E I hf st hg
  subst hP hw hK
  obtain ⟨xs,x,hq,hx⟩:=hg
  obtain ⟨its,rv,p,hz⟩:=I.tuple hq
  obtain ⟨u,hu,ru⟩:=rv.get hx
  obtain ⟨f0,f1,f2,f3,f4,f5⟩:=hf it (by simp)
  refine wpAny_pyNext_tuple_item st (show s.heap.IsTuple a its.toArray from p) (x:=u) (by simpa using hu) fun h' st' sb=>?_
  have I1:Inv X pins σ H { s with heap:=h' }:=I.turned (t':=s.toks) (fun b o hb e=>(sb.2 b hb).trans e) f0 f1 f3 f4 f5
  obtain ⟨o,e,c,d⟩:=id st'
  exact ⟨u,rfl,Zoq (s:={ s with heap:=h' }) e c d (by decide) ⟨x,H,I1,ru,⟨rfl,fun ys hy=>by rw [I.tuple_inj hy hq]; exact hx⟩,st',fun b hb=>(hf b hb).1⟩⟩
 done:=by
  intro X hP hw hK hc i pins s σ H E I hf st hg
  subst hP hw hK
  obtain ⟨xs,hq,hx⟩:=hg
  obtain ⟨its,rv,p,hz⟩:=I.tuple hq
  obtain ⟨f0,f1,f2,f3,f4,f5⟩:=hf it (by simp)
  have hl:=rv.length
  exact wpAny_pyNext_tuple_end (I.ok.hd hc) st (show s.heap.IsTuple a its.toArray from p) (by simp; omega) fun h' eb=>⟨rfl,I.turned (t':=s.toks) (fun b o hb e=>eb b o hb e) f0 f1 f3 f4 f5⟩
 self:=fun _ _ _ _ _ st h=>wpAny_pyIter_tupleiter st h
theorem Zkn {P:Program} {w:World} {K:PySem.W.Frag} {tg:Expr} (it:Addr) (lo:Int) (n:Nat):Turn P w K tg (Itr lo n) [it] it (fun i h=>IsRangeIter h it (lo + (i:Nat) * 1) ((n:Int) - (i:Nat)) 1) where
 mem:=by simp
 obj:=fun i h st b hb=>by
  have e:b = it:=by simpa using hb
  subst e
  exact ⟨_,st,fun v z=>by
   have z':Data.fields _ = Data.cell v:=z
   cases z'⟩
 keep:=fun i h h' st k=>k it (by simp) _ st
 item:=by
  intro X hP hw hK hc i pins s σ H E I hf st hg
  subst hP hw hK
  obtain ⟨f0,f1,f2,f3,f4,f5⟩:=hf it (by simp)
  have W:=Walks.range (prog:=X.prog) (w:=X.w) (I.ok.hd hc) it lo 1 n
  refine W.item i s _ _ hg st fun v h' tk hv st' kk=>?_
  obtain ⟨t,rfl⟩:=hv
  have I1:Inv X pins σ H { s with heap:=h',toks:=tk }:=I.turned (fun b o hb e=>kk b o (by simpa using hb) e) f0 f1 f3 f4 f5
  refine ⟨_,rfl,Zoq (s:={ s with heap:=h',toks:=tk }) (n:="range_iterator") st' rfl rfl (by decide) ⟨.int (lo + i),H,I1,⟨t,?_⟩,⟨rfl,rfl⟩,st',fun b hb=>(hf b hb).1⟩⟩
  rw [Int.mul_one]
 done:=by
  intro X hP hw hK hc i pins s σ H E I hf st hg
  subst hP hw hK
  obtain ⟨f0,f1,f2,f3,f4,f5⟩:=hf it (by simp)
  exact wpAny_pyNext_range_end (I.ok.hd hc) st (by have:n<=i:=hg; omega) fun h' eb=>⟨rfl,I.turned (t':=s.toks) (fun b o hb e=>eb b o hb e) f0 f1 f3 f4 f5⟩
 self:=fun _ _ _ _ _ st h=>wpAny_pyIter_rangeiter st h
section
variable {X:Cx} {tg:Expr}
def Zon (K:PySem.W.Frag) (tl:TE):TI:=fun σ H R=>tl σ H fun x H1=>∃ a,x = .ref a/\(∃ xs,SqL K H1 a xs)/\R (Itl K a) H1
def iTup (K:PySem.W.Frag) (tl:TE):TI:=fun σ H R=>tl σ H fun x H1=>∃ a,x = .ref a/\(∃ xs,SqT K H1 a xs)/\R (Itt K a) H1
theorem Zcc {l:Expr} {tl:TE} (hl:PE X l tl):PI X tg l (Zon X.K tl):=by
 intro pins s σ H R I h
 refine thn (hl pins s σ H _ I h) fun v s1 ⟨x,H1,I1,r1,q1⟩=>?_
 obtain ⟨a,e,⟨xs,hq⟩,q⟩:=q1
 subst e
 cases r1
 obtain ⟨its,rv,p,hz⟩:=I1.list hq
 refine Jd2 p.isList ?_
 refine ⟨s1.heap.objs.size,[s1.heap.objs.size],_,_,H1,rfl,I1.kept (t':=s1.toks) fun b o e=>Jad _ e,Zla a _,⟨_,Jaq _ rfl,rfl,rfl⟩,fun b hb=>?_,q⟩
 have e:b = s1.heap.objs.size:=by simpa using hb
 subst e
 exact I1.fpOk (Jae _) (I1.hok.fresh (Jae _))
theorem Zpb {l:Expr} {tl:TE} (hl:PE X l tl):PI X tg l (iTup X.K tl):=by
 intro pins s σ H R I h
 refine thn (hl pins s σ H _ I h) fun v s1 ⟨x,H1,I1,r1,q1⟩=>?_
 obtain ⟨a,e,⟨xs,hq⟩,q⟩:=q1
 subst e
 cases r1
 obtain ⟨its,rv,p,hz⟩:=I1.tuple hq
 refine wpAny_pyIter_tuple (show s1.heap.IsTuple a its.toArray from p) ?_
 refine ⟨s1.heap.objs.size,[s1.heap.objs.size],_,_,H1,rfl,I1.kept (t':=s1.toks) fun b o e=>Jad _ e,Zkm a _,⟨_,Jaq _ rfl,rfl,rfl⟩,fun b hb=>?_,q⟩
 have e:b = s1.heap.objs.size:=by simpa using hb
 subst e
 exact I1.fpOk (Jae _) (I1.hok.fresh (Jae _))
theorem Zjt {pins:List (Addr × Obj)} {σ:St} {H:Hp} {s:Shared} {R:It->Hp->Prop} {E:Value->Shared->Prop} {lo hi:Int} {t u v:Tok} {tk:Nat} (I:Inv X pins σ H s) (h1:-(2 ^ 62)<=lo) (h2:lo < 2 ^ 62) (h3:-(2 ^ 62)<=hi) (h4:hi < 2 ^ 62)
  (q:R (Itr lo (hi - lo).toNat) H):wpAny (model X.prog X.w) X.A (pyIter (.ref s.heap.objs.size)) (PIE X pins σ tg R) E { s with heap:=s.heap.push { cls:=.type "range",data:=.fields #[.int lo t,.int hi u,.int 1 v] },toks:=tk }:=by
 refine wpAny_pyIter_range (IsRange.new ..) (small_one h1 h2 h3 h4) ?_
 have I1:Inv X pins σ H { s with heap:=s.heap.push { cls:=.type "range",data:=.fields #[.int lo t,.int hi u,.int 1 v] },toks:=tk }:=I.kept fun b o e=>Jad _ e
 refine ⟨(s.heap.push { cls:=.type "range",data:=.fields #[.int lo t,.int hi u,.int 1 v] }).objs.size,[(s.heap.push { cls:=.type "range",data:=.fields #[.int lo t,.int hi u,.int 1 v] }).objs.size],_,_,H,rfl,
  I1.kept (t':=tk) fun b o e=>Jad _ e,Zkn _ lo (hi - lo).toNat,?_,fun b hb=>?_,q⟩
 ·have e1:lo + ((0:Nat):Int) * 1 = lo:=by simp
  have e2:(((hi - lo).toNat:Nat):Int) - ((0:Nat):Int) = Builtin.Range.rangeSize lo hi 1:=by rw [rangeSize_one]; split <;> omega
  show IsRangeIter _ _ (lo + ((0:Nat):Int) * 1) ((((hi - lo).toNat:Nat):Int) - ((0:Nat):Int)) 1
  rw [e1,e2]
  exact Jaq _ rfl
 ·have e:b = (s.heap.push { cls:=.type "range",data:=.fields #[.int lo t,.int hi u,.int 1 v] }).objs.size:=by simpa using hb
  subst e
  exact I1.fpOk (Jae _) (I1.hok.fresh (Jae _))
def Zom (ta:TA):TI:=fun σ H R=>ta σ H fun vs H1=>∃ j:Int,vs = [.int j]/\-(2 ^ 62)<=j/\j < 2 ^ 62/\R (Itr 0 j.toNat) H1
def iRng2 (ta:TA):TI:=fun σ H R=>ta σ H fun vs H1=>∃ i j:Int,vs = [.int i,.int j]/\(-(2 ^ 62)<=i/\i < 2 ^ 62/\-(2 ^ 62)<=j/\j < 2 ^ 62)/\R (Itr i (j - i).toNat) H1
theorem Zly {a:Expr} {ta:TA} {p pos:Pos} (hg:Gl X "range") (hm:X.mg "range" = none) (ha:PA X [a] ta) (hs:starEach [a] X.env = [(false,eval a X.env)]:=by rfl):PI X tg (.Call (.Name "range" p) [a] [] pos) (Zom ta):=by
 intro pins s σ H R I h
 refine Call_ (Zg0 I hg hm boot_range (Jb7 (thn (ha pos pins s σ H _ I h) fun us s1 ⟨vs,H1,I1,r1,q1⟩=>?_) hs rfl))
 obtain ⟨j,e,q1,q2,q⟩:=q1
 subst e
 cases r1 with
 | cons r rr=>
  cases rr
  obtain ⟨t,rfl⟩:=r
  exact call_range_1 (Zjt I1 (by omega) (by omega) q1 q2 (by simpa using q))
theorem Zlx {a b:Expr} {ta:TA} {p pos:Pos} (hg:Gl X "range") (hm:X.mg "range" = none) (ha:PA X [a,b] ta) (hs:starEach [a,b] X.env = [(false,eval a X.env),(false,eval b X.env)]:=by rfl) (hs2:starEach [b] X.env = [(false,eval b X.env)]:=by rfl):
  PI X tg (.Call (.Name "range" p) [a,b] [] pos) (iRng2 ta):=by
 intro pins s σ H R I h
 refine Call_ (Zg0 I hg hm boot_range (Jb7 (thn (ha pos pins s σ H _ I h) fun us s1 ⟨vs,H1,I1,r1,q1⟩=>?_) (by rw [hs,hs2]) (by rw [hs2]; rfl)))
 obtain ⟨i,j,e,⟨q1,q2,q3,q4⟩,q⟩:=q1
 subst e
 cases r1 with
 | cons r rr=>
  cases rr with
  | cons r' rr=>
   cases rr
   obtain ⟨t,rfl⟩:=r
   obtain ⟨t',rfl⟩:=r'
   exact call_range_2 (Zjt I1 q1 q2 q3 q4 q)
def tFor (wi:TI) (g:TG) (tb:TS):TS:=fun D σ H=>wi σ H fun J H1=>∃ W:Nat->Nat->St->Hp->Prop,(∃ m,W 0 m σ H1)/\∀ i m σ H,W i m σ H->
 (J.stop i H/\D.nx σ H)\/(J.go i H/\∃ N:St->Hp->Prop,(∀ σ' H',N σ' H'->∃ m',m' < m/\W (i + 1) m' σ' H')/\∀ x H',J.yld i H x H'->g x σ H' fun σ2 H2=>tb { D with nx:=N,ct:=N,bk:=D.nx } σ2 H2)
def Zgy (fp:List Addr) (h:Heap):List (Addr × Obj):=fp.filterMap fun b=>(h.get? b).map fun o=>(b,o)
theorem Zcq {fp:List Addr} {h:Heap} {b:Addr} {o:Obj} (hb:b ∈ fp) (e:h.get? b = some o):(b,o) ∈ Zgy fp h:=Jdn.mpr ⟨b,hb,by rw [e]; rfl⟩
theorem Zme {fp:List Addr} {h:Heap} {p:Addr × Obj} (hp:p ∈ Zgy fp h):p.1 ∈ fp/\h.get? p.1 = some p.2:=by
 obtain ⟨b,hb,e⟩:=Jdn.mp hp
 cases q:h.get? b with
 | none=>rw [q] at e; cases e
 | some o=>
  rw [q] at e
  have e':(b,o) = p:=Ja3 e
  subst e'
  exact ⟨hb,q⟩
theorem Inv.pinned {pins:List (Addr × Obj)} {σ:St} {H:Hp} {s:Shared} {fp:List Addr} (I:Inv X pins σ H s) (hf:∀ b ∈ fp,Ziw X pins H b) (ho:∀ b ∈ fp,∃ o,s.heap.get? b = some o/\∀ v,o.data ≠ .cell v):Inv X (pins ++ Zgy fp s.heap) σ H s:=
 I.pins_of fun p hp=>(Ja4.mp hp).elim (fun z=>I.pin p (Jax _ z)) fun z=>by
  obtain ⟨hb,e⟩:=Zme z
  obtain ⟨f0,f1,f2,_⟩:=hf p.1 hb
  obtain ⟨o,e',d⟩:=ho p.1 hb
  rw [e] at e'; cases e'
  exact ⟨e,f0,f1,f2,d⟩
theorem Inv.unpinned {pins pl:List (Addr × Obj)} {σ:St} {H:Hp} {s:Shared} (I:Inv X (pins ++ pl) σ H s):Inv X pins σ H s:=I.pins_of fun p hp=>I.pin p (Jax _ (Jcl _ hp))
theorem Zel {iter:Expr} {body:List Stmt} {wi:TI} {g:TG} {tb:TS} {pos:Pos} (hp:PassesOwn (model X.prog X.w) X.A X.env X.xe) (hc:X.calm = true) (hi:PI X tg iter wi) (hg:PG X tg g) (hb:PSs X body tb)
  (hs:∀ x,foldedSetIterable iter X.env x = pure x:=by intro _; rfl):PS X (.For tg iter body [] pos) (tFor wi g tb):=by
 intro pins s σ H D I h
 refine wpAny_For (thn (hi pins s σ H _ I h) fun v s1 h1=>thn h1 fun itv s2 h2=>?_) hs
 obtain ⟨it,fp,tn,J,H2,e,I2,T,st2,f2,W,⟨m0,w0⟩,turn⟩:=h2
 subst e
 -- what stays true of the iterator's objects through the loop
 have stat:∀ {H':Hp},(∀ b ∈ fp,H' b = none)->∀ b ∈ fp,Ziw X pins H' b:=fun hn b hb=>⟨hn b hb,(f2 b hb).2⟩
 refine codeAny_forLoop_any (fun n s'=>∃ i σ' H',Inv X pins σ' H' s'/\tn i s'.heap/\(∀ b ∈ fp,H' b = none)/\W i n σ' H') ?_ m0 ⟨0,σ,H2,I2,st2,fun b hb=>(f2 b hb).1,w0⟩
 rintro n s3 ⟨i,σ3,H3,I3,st3,fr3,w3⟩
 rcases turn i n σ3 H3 w3 with ⟨stop,qn⟩ | ⟨go,N,hN,step⟩
 ·refine Jce hp (thn (T.done X rfl rfl rfl hc i pins s3 σ3 H3 X.xe I3 (stat fr3) st3 stop) fun r s4 ⟨hr,I4⟩=>?_)
  subst hr
  exact Jcs ⟨σ3,H3,I4,qn⟩
 ·refine Jce hp (thn (T.item X rfl rfl rfl hc i pins s3 σ3 H3 X.xe I3 (stat fr3) st3 go) fun r s4 ⟨u,hr,h4⟩=>?_)
  subst hr
  refine Jce hp (thn h4 fun _ s5 ⟨x,H5,I5,r5,y5,st5,fr5⟩=>?_)
  have I5':=I5.pinned (stat fr5) (T.obj _ _ st5)
  refine Jce hp (thn (hg _ s5 σ3 H5 x u _ I5' r5 (step x H5 y5)) fun _ s6 ⟨σ6,H6,I6,q6⟩=>?_)
  refine Jce hp (thn (hb _ s6 σ6 H6 _ I6 q6) fun f s7 q7=>?_)
  have again:∀ {σ7:St} {H7:Hp},Inv X (pins ++ Zgy fp s5.heap) σ7 H7 s7->N σ7 H7->∃ m,m < n/\∃ i σ' H',Inv X pins σ' H' s7/\tn i s7.heap/\(∀ b ∈ fp,H' b = none)/\W i m σ' H':=fun {σ7 H7} I7 n7=>by
   obtain ⟨m',hm,w7⟩:=hN σ7 H7 n7
   refine ⟨m',hm,i + 1,σ7,H7,I7.unpinned,T.keep _ _ _ st5 fun b hb o e=>(I7.pin (b,o) (Jax _ (Jax _ (Zcq hb e)))).1,fun b hb=>?_,w7⟩
   obtain ⟨o,e,d⟩:=T.obj _ _ st5 b hb
   exact (I7.pin (b,o) (Jax _ (Jax _ (Zcq hb e)))).2.1
  cases f with
  | next=>obtain ⟨σ7,H7,I7,n7⟩:=q7; exact again I7 n7
  | cont=>obtain ⟨σ7,H7,I7,n7⟩:=q7; exact again I7 n7
  | brk=>obtain ⟨σ7,H7,I7,q7⟩:=q7; exact ⟨σ7,H7,I7.unpinned,q7⟩
  | ret v=>obtain ⟨x7,σ7,H7,I7,r7,q7⟩:=q7; exact ⟨x7,σ7,H7,I7.unpinned,r7,q7⟩
end
theorem Zfq {K:PySem.W.Frag} {a:Addr} {xs:List V} {g:TG} {tb:TS} {D:Ends} {σ:St} {H:Hp} (Pv:Nat->St->Hp->Prop) (h0:Pv 0 σ H) (hl:∀ i σ H,i<=xs.length->Pv i σ H->SqL K H a xs)
  (hs:∀ i x σ H,xs[i]? = some x->Pv i σ H->g x σ H fun σ2 H2=>tb { D with nx:=Pv (i + 1),ct:=Pv (i + 1),bk:=D.nx } σ2 H2) (hd:∀ σ H,Pv xs.length σ H->D.nx σ H):
  ∃ W:Nat->Nat->St->Hp->Prop,(∃ m,W 0 m σ H)/\∀ i m σ H,W i m σ H->
   ((Itl K a).stop i H/\D.nx σ H)\/((Itl K a).go i H/\∃ N:St->Hp->Prop,(∀ σ' H',N σ' H'->∃ m',m' < m/\W (i + 1) m' σ' H')/\∀ x H',(Itl K a).yld i H x H'->g x σ H' fun σ2 H2=>tb { D with nx:=N,ct:=N,bk:=D.nx } σ2 H2):=by
 refine ⟨fun i m σ H=>m = xs.length - i/\i<=xs.length/\Pv i σ H,⟨xs.length,by simp,Jb8 _,h0⟩,?_⟩
 rintro i m σ H ⟨rfl,hi,p⟩
 have q:=hl i σ H hi p
 by_cases hlt:i < xs.length
 ·refine .inr ⟨⟨xs,xs[i],q,by simp [hlt]⟩,Pv (i + 1),fun σ' H' p'=>⟨xs.length - (i + 1),by omega,rfl,hlt,p'⟩,fun x H' y=>?_⟩
  obtain ⟨e,y⟩:=y
  subst e
  exact hs i x σ _ (y xs q) p
 ·have e:i = xs.length:=by omega
  subst e
  exact .inl ⟨⟨xs,q,Jae _⟩,hd σ H p⟩
theorem Zer {lo:Int} {n:Nat} {g:TG} {tb:TS} {D:Ends} {σ:St} {H:Hp} (Pv:Nat->St->Hp->Prop) (h0:Pv 0 σ H)
  (hs:∀ i σ H,i < n->Pv i σ H->g (.int (lo + i)) σ H fun σ2 H2=>tb { D with nx:=Pv (i + 1),ct:=Pv (i + 1),bk:=D.nx } σ2 H2) (hd:∀ σ H,Pv n σ H->D.nx σ H):
  ∃ W:Nat->Nat->St->Hp->Prop,(∃ m,W 0 m σ H)/\∀ i m σ H,W i m σ H->
   ((Itr lo n).stop i H/\D.nx σ H)\/((Itr lo n).go i H/\∃ N:St->Hp->Prop,(∀ σ' H',N σ' H'->∃ m',m' < m/\W (i + 1) m' σ' H')/\∀ x H',(Itr lo n).yld i H x H'->g x σ H' fun σ2 H2=>tb { D with nx:=N,ct:=N,bk:=D.nx } σ2 H2):=by
 refine ⟨fun i m σ H=>m = n - i/\i<=n/\Pv i σ H,⟨n,by simp,Jb8 _,h0⟩,?_⟩
 rintro i m σ H ⟨rfl,hi,p⟩
 by_cases hlt:i < n
 ·refine .inr ⟨hlt,Pv (i + 1),fun σ' H' p'=>⟨n - (i + 1),by omega,rfl,hlt,p'⟩,fun x H' y=>?_⟩
  obtain ⟨e,y⟩:=y
  subst e y
  exact hs i σ _ hlt p
 ·have e:i = n:=by omega
  subst e
  exact .inl ⟨Jae _,hd σ H p⟩
abbrev R2:=V->V->Hp->VK->Prop
def OpR (X:Cx) (f:Value->Value->Sem Value) (r:R2):Prop:=
 ∀ (pins:List (Addr × Obj)) (s:Shared) (σ:St) (H:Hp) (x y:V) (v u:Value) (Q:VK),Inv X pins σ H s->RelV x v->RelV y u->r x y H Q->
  wpAny (model X.prog X.w) X.A (f v u) (EP X pins σ Q) X.xe s
def UnR (X:Cx) (f:Value->Sem Value) (r:V->Hp->VK->Prop):Prop:=
 ∀ (pins:List (Addr × Obj)) (s:Shared) (σ:St) (H:Hp) (x:V) (v:Value) (Q:VK),Inv X pins σ H s->RelV x v->r x H Q->
  wpAny (model X.prog X.w) X.A (f v) (EP X pins σ Q) X.xe s
def Zdq (X:Cx) (f:Value) (r:List V->Hp->VK->Prop):Prop:=
 ∀ (pins:List (Addr × Obj)) (s:Shared) (σ:St) (H:Hp) (xs:List V) (us:List Value) (Q:VK),Inv X pins σ H s->Vals xs us->r xs H Q->
  wpAny (model X.prog X.w) X.A (call f us) (EP X pins σ Q) X.xe s
def tOp (r:R2) (ta tb:TE):TE:=fun σ H Q=>ta σ H fun x H1=>tb σ H1 fun y H2=>r x y H2 Q
def tUn (r:V->Hp->VK->Prop) (ta:TE):TE:=fun σ H Q=>ta σ H fun x H1=>r x H1 Q
def rI (C:Int->Int->Prop) (g:Int->Int->V):R2:=fun x y H Q=>∃ i j,x = .int i/\y = .int j/\C i j/\Q (g i j) H
def rI0 (g:Int->Int->V):R2:=fun x y H Q=>∃ i j,x = .int i/\y = .int j/\Q (g i j) H
def rU (g:Int->V):V->Hp->VK->Prop:=fun x H Q=>∃ i,x = .int i/\Q (g i) H
section
variable {X:Cx} {a b c:Expr} {ta tb tc:TE} {pos:Pos}
theorem binT (ha:PE X a ta) (hb:PE X b tb) {pins:List (Addr × Obj)} {s:Shared} {σ:St} {H:Hp} {R:V->V->Hp->Prop} (I:Inv X pins σ H s)
  (h:ta σ H fun x H1=>tb σ H1 fun y H2=>R x y H2) {Q:Value->Shared->Prop} {f:Value->Value->Sem Value}
  (hf:∀ v u s2 x y H2,Inv X pins σ H2 s2->RelV x v->RelV y u->R x y H2->wpAny (model X.prog X.w) X.A (f v u) Q X.xe s2):
  wpAny (model X.prog X.w) X.A (eval a X.env) (fun v s₁=>wpAny (model X.prog X.w) X.A (eval b X.env) (fun u s₂=>wpAny (model X.prog X.w) X.A (f v u) Q X.xe s₂) X.xe s₁) X.xe s:=by
 refine thn (ha pins s σ H _ I h) fun v s1 ⟨x,H1,I1,r1,q1⟩=>?_
 refine thn (hb pins s1 σ H1 _ I1 q1) fun u s2 ⟨y,H2,I2,r2,q2⟩=>?_
 exact hf v u s2 x y H2 I2 r1 r2 q2
theorem pe_op {op:Operator} {r:R2} (ho:OpR X (binaryOp op) r) (ha:PE X a ta) (hb:PE X b tb):PE X (.BinOp a op b pos) (tOp r ta tb):=by
 intro pins s σ H Q I h
 exact wpAny_BinOp (binT ha hb I h fun v u s2 x y H2 I2 rx ry q=>ho pins s2 σ H2 x y v u Q I2 rx ry q)
theorem Zgm {op:UnaryOp} {r:V->Hp->VK->Prop} (ho:UnR X (unaryOp op) r) (ha:PE X a ta):PE X (.UnaryOp op a pos) (tUn r ta):=by
 intro pins s σ H Q I h
 exact UnaryOp_ (thn (ha pins s σ H _ I h) fun v s1 ⟨x,H1,I1,r1,q1⟩=>ho pins s1 σ H1 x v Q I1 r1 q1)
theorem opI {f:Value->Value->Sem Value} {C:Int->Int->Prop} {g:Int->Int->Int}
  (rule:∀ (i j:Int) (t u:Tok) (s:Shared) (Q:Value->Shared->Prop) (E:Value->Shared->Prop),C i j->Q (.int (g i j) s.toks) { s with toks:=s.toks + 1 }->wpAny (model X.prog X.w) X.A (f (.int i t) (.int j u)) Q E s):
  OpR X f (rI C fun i j=>.int (g i j)):=by
 intro pins s σ H x y v u Q I rx ry h
 obtain ⟨i,j,rfl,rfl,hc,q⟩:=h
 obtain ⟨t,rfl⟩:=rx
 obtain ⟨t',rfl⟩:=ry
 exact rule i j t t' s _ _ hc ⟨.int (g i j),H,I.tok _,⟨_,rfl⟩,q⟩
theorem opI0 {f:Value->Value->Sem Value} {g:Int->Int->Int}
  (rule:∀ (i j:Int) (t u:Tok) (s:Shared) (Q:Value->Shared->Prop) (E:Value->Shared->Prop),Q (.int (g i j) s.toks) { s with toks:=s.toks + 1 }->wpAny (model X.prog X.w) X.A (f (.int i t) (.int j u)) Q E s):
  OpR X f (rI0 fun i j=>.int (g i j)):=by
 intro pins s σ H x y v u Q I rx ry h
 obtain ⟨i,j,rfl,rfl,q⟩:=h
 obtain ⟨t,rfl⟩:=rx
 obtain ⟨t',rfl⟩:=ry
 exact rule i j t t' s _ _ ⟨.int (g i j),H,I.tok _,⟨_,rfl⟩,q⟩
theorem opB0 {f:Value->Value->Sem Value} {g:Int->Int->Bool}
  (rule:∀ (i j:Int) (t u:Tok) (s:Shared) (Q:Value->Shared->Prop) (E:Value->Shared->Prop),Q (.bool (g i j)) s->wpAny (model X.prog X.w) X.A (f (.int i t) (.int j u)) Q E s):
  OpR X f (rI0 fun i j=>.bl (g i j)):=by
 intro pins s σ H x y v u Q I rx ry h
 obtain ⟨i,j,rfl,rfl,q⟩:=h
 obtain ⟨t,rfl⟩:=rx
 obtain ⟨t',rfl⟩:=ry
 exact rule i j t t' s _ _ ⟨.bl (g i j),H,I,rfl,q⟩
def CDiv (i j:Int):Prop:=0 < j/\j < 1073741824
def CPow (i j:Int):Prop:=0<=j/\j<=1000000/\i.natAbs < 2 ^ 64
def CMul (i j:Int):Prop:=(-(2 ^ 64) < i/\i < 2 ^ 64)\/(-(2 ^ 64) < j/\j < 2 ^ 64)
theorem CMul.ok {i j:Int} (h:CMul i j):IntMulOk i j:=by
 rcases h with ⟨h1,h2⟩ | ⟨h1,h2⟩
 ·exact .of_left (intBits_le_64 h1 h2)
 ·exact .of_right (intBits_le_64 h1 h2)
theorem Zch:OpR X (binaryOp .Add) (rI0 fun i j=>.int (i + j)):=opI0 fun _ _ _ _ _ _ _ q=>add_int q
theorem Zl5:OpR X (binaryOp .Sub) (rI0 fun i j=>.int (i - j)):=opI0 fun _ _ _ _ _ _ _ q=>sub_int q
theorem Zjz:OpR X (binaryOp .Mult) (rI CMul fun i j=>.int (i * j)):=opI fun _ _ _ _ _ _ _ hc q=>mul_int q hc.ok
theorem Zl9:OpR X (binaryOp .FloorDiv) (rI CDiv fun i j=>.int (i / j)):=opI fun i j _ _ _ _ _ hc q=>by
 have h1:(0:Int) < j:=hc.1
 have h2:j < 1073741824:=hc.2
 exact floordiv_int (by omega) (by rw [Int.fdiv_eq_ediv_of_nonneg i (by omega)]; exact q) (.inl (PyProof.noPylong_small (by omega)))
theorem Zdo:OpR X (binaryOp .Mod) (rI (fun _ j=>0 < j) fun i j=>.int (i % j)):=opI fun i j _ _ _ _ _ hc q=>by
 have h1:(0:Int) < j:=hc
 exact mod_int' (by omega) (by rw [Int.fmod_eq_emod_of_nonneg i (by omega)]; exact q)
theorem Zl6:OpR X (binaryOp .Pow) (rI CPow fun i j=>.int (i ^ j.toNat)):=opI fun _ _ _ _ _ _ _ hc q=>pow_int_small hc.1 hc.2.1 hc.2.2 q
theorem unI {f:Value->Sem Value} {g:Int->Int}
  (rule:∀ (i:Int) (t:Tok) (s:Shared) (Q:Value->Shared->Prop) (E:Value->Shared->Prop),Q (.int (g i) s.toks) { s with toks:=s.toks + 1 }->wpAny (model X.prog X.w) X.A (f (.int i t)) Q E s):
  UnR X f (rU fun i=>.int (g i)):=by
 intro pins s σ H x v Q I rx h
 obtain ⟨i,rfl,q⟩:=h
 obtain ⟨t,rfl⟩:=rx
 exact rule i t s _ _ ⟨.int (g i),H,I.tok _,⟨_,rfl⟩,q⟩
theorem Zd5:UnR X (unaryOp .USub) (rU fun i=>.int (-i)):=unI fun _ _ _ _ _ q=>neg_int q
end
def scal:V->V->Bool
 | .non,.non=>true | .non,.int _=>true | .int _,.non=>true | .non,.bl _=>true | .bl _,.non=>true | .non,.str _=>true | .str _,.non=>true
 | .int _,.int _=>true | .bl _,.bl _=>true | .str _,.str _=>true | .byt _,.byt _=>true
 | .int _,.str _=>true | .str _,.int _=>true | .bl _,.str _=>true | .str _,.bl _=>true
 | _,_=>false
def rEq:R2:=fun x y H Q=>scal x y = true/\Q (.bl (decide (x = y))) H
def rNe:R2:=fun x y H Q=>scal x y = true/\Q (.bl (!decide (x = y))) H
theorem Zmx {i j:Int}:decide (V.int i = V.int j) = (i == j):=by
 rw [Jbz]
 simp
theorem Zpi {i j:Bool}:decide (V.bl i = V.bl j) = (i == j):=by
 rw [Jbz]
 simp
theorem Zmw {i j:Str}:decide (V.str i = V.str j) = (i == j):=by
 rw [Jbz]
 simp
theorem Zmy {i j:Array UInt8}:decide (V.byt i = V.byt j) = (i.toList == j.toList):=by
 rw [Jbz]
 cases i
 cases j
 simp
section
variable {X:Cx} {a b c:Expr} {ta tb tc:TE} {pos:Pos}
theorem Zay {pins:List (Addr × Obj)} {σ:St} {H:Hp} {s:Shared} {Q:VK} {k k':Bool} (I:Inv X pins σ H s) (q:Q (.bl k) H) (e:k = k'):EP X pins σ Q (.bool k') s:=by
 subst e
 exact ⟨.bl k,H,I,rfl,q⟩
theorem Zdj:OpR X (compareOp .Eq) rEq:=by
 intro pins s σ H x y v u Q I rx ry h
 obtain ⟨hs,q⟩:=h
 cases x with
 | non=>
  cases rx
  cases y with
  | non=>cases ry; exact PySem.EqNone.eq_none_none (Zay I q (by simp))
  | bl j=>cases ry; exact PySem.EqNone.eq_none_bool (Zay I q (by simp))
  | int j=>obtain ⟨t',rfl⟩:=ry; exact PySem.EqNone.eq_none_int (Zay I q (by simp))
  | str j=>obtain ⟨t',rfl⟩:=ry; exact PySem.EqNone.eq_none_str (Zay I q (by simp))
  | _=>exact absurd (show false = true from hs) Jao
 | bl i=>
  cases rx
  cases y with
  | non=>cases ry; exact PySem.EqNone.eq_bool_none (Zay I q (by simp))
  | bl j=>cases ry; exact eq_bool (Zay I q Zpi)
  | str j=>obtain ⟨t',rfl⟩:=ry; exact PySem.EqMixed.eq_bool_str (Zay I q (by simp))
  | _=>exact absurd (show false = true from hs) Jao
 | int i=>
  obtain ⟨t,rfl⟩:=rx
  cases y with
  | non=>cases ry; exact PySem.EqNone.eq_int_none (Zay I q (by simp))
  | int j=>obtain ⟨t',rfl⟩:=ry; exact eq_int (Zay I q Zmx)
  | str j=>obtain ⟨t',rfl⟩:=ry; exact PySem.EqMixed.eq_int_str (Zay I q (by simp))
  | _=>exact absurd (show false = true from hs) Jao
 | str i=>
  obtain ⟨t,rfl⟩:=rx
  cases y with
  | non=>cases ry; exact PySem.EqNone.eq_str_none (Zay I q (by simp))
  | bl j=>cases ry; exact PySem.EqMixed.eq_str_bool (Zay I q (by simp))
  | int j=>obtain ⟨t',rfl⟩:=ry; exact PySem.EqMixed.eq_str_int (Zay I q (by simp))
  | str j=>obtain ⟨t',rfl⟩:=ry; exact eq_str (Zay I q Zmw)
  | _=>exact absurd (show false = true from hs) Jao
 | byt i=>
  obtain ⟨t,rfl⟩:=rx
  cases y with
  | byt j=>obtain ⟨t',rfl⟩:=ry; exact PySem.W.eq_bytes (Zay I q Zmy)
  | _=>exact absurd (show false = true from hs) Jao
 | _=>cases y <;> exact absurd (show false = true from hs) Jao
theorem Zhg:OpR X (compareOp .NotEq) rNe:=by
 intro pins s σ H x y v u Q I rx ry h
 obtain ⟨hs,q⟩:=h
 cases x with
 | non=>
  cases rx
  cases y with
  | non=>cases ry; exact PySem.EqNone.ne_none_none (Zay I q (by simp))
  | bl j=>cases ry; exact PySem.EqNone.ne_none_bool (Zay I q (by simp))
  | int j=>obtain ⟨t',rfl⟩:=ry; exact PySem.EqNone.ne_none_int (Zay I q (by simp))
  | str j=>obtain ⟨t',rfl⟩:=ry; exact PySem.EqNone.ne_none_str (Zay I q (by simp))
  | _=>exact absurd (show false = true from hs) Jao
 | bl i=>
  cases rx
  cases y with
  | non=>cases ry; exact PySem.EqNone.ne_bool_none (Zay I q (by simp))
  | bl j=>cases ry; exact ne_bool (Zay I q (Jdl not Zpi))
  | str j=>obtain ⟨t',rfl⟩:=ry; exact PySem.EqMixed.ne_bool_str (Zay I q (by simp))
  | _=>exact absurd (show false = true from hs) Jao
 | int i=>
  obtain ⟨t,rfl⟩:=rx
  cases y with
  | non=>cases ry; exact PySem.EqNone.ne_int_none (Zay I q (by simp))
  | int j=>obtain ⟨t',rfl⟩:=ry; exact ne_int (Zay I q (Jdl not Zmx))
  | str j=>obtain ⟨t',rfl⟩:=ry; exact PySem.EqMixed.ne_int_str (Zay I q (by simp))
  | _=>exact absurd (show false = true from hs) Jao
 | str i=>
  obtain ⟨t,rfl⟩:=rx
  cases y with
  | non=>cases ry; exact PySem.EqNone.ne_str_none (Zay I q (by simp))
  | bl j=>cases ry; exact PySem.EqMixed.ne_str_bool (Zay I q (by simp))
  | int j=>obtain ⟨t',rfl⟩:=ry; exact PySem.EqMixed.ne_str_int (Zay I q (by simp))
  | str j=>obtain ⟨t',rfl⟩:=ry; exact ne_str (Zay I q (Jdl not Zmw))
  | _=>exact absurd (show false = true from hs) Jao
 | byt i=>
  obtain ⟨t,rfl⟩:=rx
  cases y with
  | byt j=>obtain ⟨t',rfl⟩:=ry; exact PySem.W.ne_bytes (Zay I q (Jdl not Zmy))
  | _=>exact absurd (show false = true from hs) Jao
 | _=>cases y <;> exact absurd (show false = true from hs) Jao
theorem Zfg:OpR X (compareOp .Lt) (rI0 fun i j=>.bl (decide (i < j))):=opB0 fun _ _ _ _ _ _ _ q=>lt_int q
theorem Zhh:OpR X (compareOp .LtE) (rI0 fun i j=>.bl (decide (i<=j))):=opB0 fun _ _ _ _ _ _ _ q=>le_int q
theorem Zem:OpR X (compareOp .Gt) (rI0 fun i j=>.bl (decide (j < i))):=opB0 fun _ _ _ _ _ _ _ q=>gt_int q
theorem op_ge:OpR X (compareOp .GtE) (rI0 fun i j=>.bl (decide (j<=i))):=opB0 fun _ _ _ _ _ _ _ q=>ge_int q
theorem Zl8:OpR X (compareOp .Is) (fun x y H Q=>y = .non/\Q (.bl (decide (x = .non))) H):=by
 intro pins s σ H x y v u Q I rx ry h
 obtain ⟨rfl,q⟩:=h
 cases ry
 refine is_none_gen (Zay I q ?_)
 cases x <;> first
  | (cases rx; rfl)
  | (obtain ⟨t,rfl⟩:=rx; rfl)
theorem Zfc:OpR X (compareOp .NotIn) (fun x y H Q=>∃ i j,x = .str i/\y = .str j/\Q (.bl (!(!(Builtin.Str.occurrences j i 0 j.length 1).isEmpty))) H):=by
 intro pins s σ H x y v u Q I rx ry h
 obtain ⟨i,j,rfl,rfl,q⟩:=h
 obtain ⟨t,rfl⟩:=rx
 obtain ⟨t',rfl⟩:=ry
 exact notIn_str (Zay I q rfl)
theorem OpR.or {f:Value->Value->Sem Value} {r r':R2} (h:OpR X f r) (h':OpR X f r'):OpR X f (fun x y H Q=>r x y H Q\/r' x y H Q):=by
 intro pins s σ H x y v u Q I rx ry q
 rcases q with q | q
 ·exact h pins s σ H x y v u Q I rx ry q
 ·exact h' pins s σ H x y v u Q I rx ry q
theorem Zak (b:Expr) {op:CmpOp} (h:op ≠ .In:=by decide) (h2:op ≠ .NotIn:=by decide):behindInMarks op b = false:=by
 have e1:(op == CmpOp.In) = false:=by cases op <;> first | rfl | exact absurd rfl h
 have e2:(op == CmpOp.NotIn) = false:=by cases op <;> first | rfl | exact absurd rfl h2
 cases b <;> simp [behindInMarks,e1,e2]
theorem Zcs {op:CmpOp} {r:R2} (ho:OpR X (compareOp op) r) (ha:PE X a ta) (hb:PE X b tb) (hm:behindInMarks op b = false):PE X (.Compare a [op] [b] pos) (tOp r ta tb):=by
 intro pins s σ H Q I h
 exact wpAny_Compare1 (binT ha hb I h fun v u s2 x y H2 I2 rx ry q=>ho pins s2 σ H2 x y v u Q I2 rx ry q) hm
def tTest (t:TE):TT:=fun σ H Q=>t σ H fun x H'=>∃ k,x = .bl k/\Q k H'
theorem Zae {op:CmpOp} {r:R2} (ho:OpR X (compareOp op) r) (ha:PE X a ta) (hb:PE X b tb) (hm:behindInMarks op b = false):PT X (.Compare a [op] [b] pos) (tTest (tOp r ta tb)):=by
 intro pins s σ H Q I h
 refine wpAny_isTrue_Compare1 (thn (ha pins s σ H _ I h) fun v s1 ⟨x,H1,I1,r1,q1⟩=>thn (hb pins s1 σ H1 _ I1 q1) fun u s2 ⟨y,H2,I2,r2,q2⟩=>
  thn (ho pins s2 σ H2 x y v u _ I2 r1 r2 q2) fun c s3 ⟨z,H3,I3,r3,k,e,q3⟩=>?_) hm
 subst e
 cases r3
 exact Jbo ⟨H3,I3,q3⟩
def Zli (r r':R2) (ta tb tc:TE):TE:=fun σ H Q=>ta σ H fun x H1=>tb σ H1 fun y H2=>r x y H2 fun z H3=>∃ k,z = .bl k /\
 (if k = true then tc σ H3 fun w' H4=>r' y w' H4 Q else Q (.bl false) H3)
theorem Zjx {op op':CmpOp} {r r':R2} (ho:OpR X (compareOp op) r) (ho':OpR X (compareOp op') r') (ha:PE X a ta) (hb:PE X b tb) (hc:PE X c tc)
  (hm:lastMarks [op,op'] [b,c] = false:=by with_unfolding_all rfl):PE X (.Compare a [op,op'] [b,c] pos) (Zli r r' ta tb tc):=by
 intro pins s σ H Q I h
 refine Compare_chain (thn (ha pins s σ H _ I h) fun v s1 ⟨x,H1,I1,r1,q1⟩=>chain_link (thn (hb pins s1 σ H1 _ I1 q1) fun u s2 ⟨y,H2,I2,r2,q2⟩=>
  thn (ho pins s2 σ H2 x y v u _ I2 r1 r2 q2) fun d s3 ⟨z,H3,I3,r3,k,e,q3⟩=>?_)) hm
 subst e
 cases r3
 refine Jbo ?_
 cases k with
 | false=>exact ite_ff ⟨.bl false,H3,I3,rfl,q3⟩
 | true=>exact ite_tt (chain_last (thn (hc pins s3 σ H3 _ I3 q3) fun w' s4 ⟨z',H4,I4,r4,q4⟩=>ho' pins s4 σ H4 y z' u w' Q I4 r2 r4 q4))
theorem Zhd {op op':CmpOp} {r r':R2} (ho:OpR X (compareOp op) r) (ho':OpR X (compareOp op') r') (ha:PE X a ta) (hb:PE X b tb) (hc:PE X c tc)
  (hm:lastMarks [op,op'] [b,c] = false:=by with_unfolding_all rfl):PT X (.Compare a [op,op'] [b,c] pos) (tTest (Zli r r' ta tb tc)):=by
 intro pins s σ H Q I h
 refine isTrue_chain (thn (ha pins s σ H _ I h) fun v s1 ⟨x,H1,I1,r1,q1⟩=>test_link (thn (hb pins s1 σ H1 _ I1 q1) fun u s2 ⟨y,H2,I2,r2,q2⟩=>
  thn (ho pins s2 σ H2 x y v u _ I2 r1 r2 q2) fun d s3 ⟨z,H3,I3,r3,k,e,q3⟩=>?_)) hm
 subst e
 cases r3
 refine Jbo ?_
 cases k with
 | false=>
  obtain ⟨k',e',q'⟩:=q3
  cases e'
  exact ite_ff ⟨H3,I3,q'⟩
 | true=>
  refine ite_tt (test_last (thn (hc pins s3 σ H3 _ I3 q3) fun w' s4 ⟨z',H4,I4,r4,q4⟩=>thn (ho' pins s4 σ H4 y z' u w' _ I4 r2 r4 q4) fun d' s5 ⟨z2,H5,I5,r5,k2,e2,q5⟩=>?_))
  subst e2
  cases r5
  exact Jbo ⟨H5,I5,q5⟩
theorem Zgz:(sizeLine:Nat) < 2 ^ 63:=by rw [Jd9]; decide
theorem Zan:OpR X (binaryOp .Add) (fun x y H Q=>∃ i j,x = .str i/\y = .str j/\i.length + j.length<=sizeLine/\Q (.str (i ++ j)) H):=by
 intro pins s σ H x y v u Q I rx ry h
 obtain ⟨i,j,rfl,rfl,hz,q⟩:=h
 obtain ⟨t,rfl⟩:=rx
 obtain ⟨t',rfl⟩:=ry
 exact add_str (fun t' tk=>⟨.str (i ++ j),H,I.tok _,⟨_,rfl⟩,q⟩) hz
theorem Zg3 {x:V} {us:List Value} (r:Vals [x] us):∃ u,us = [u]/\RelV x u:=by
 cases r with
 | cons r1 r2=>cases r2; exact ⟨_,rfl,r1⟩
theorem vals2 {x y:V} {us:List Value} (r:Vals [x,y] us):∃ u w',us = [u,w']/\RelV x u/\RelV y w':=by
 cases r with
 | cons r1 r2=>
  cases r2 with
  | cons r3 r4=>cases r4; exact ⟨_,_,rfl,r1,r3⟩
theorem Zke:Zdq X (.builtin "abs") (fun xs H Q=>∃ i,xs = [.int i]/\Q (.int (if i < 0 then -i else i)) H):=by
 intro pins s σ H xs us Q I r h
 obtain ⟨i,rfl,q⟩:=h
 obtain ⟨u,rfl,t,rfl⟩:=Zg3 r
 exact call_abs_int fun u tk=>⟨.int (if i < 0 then -i else i),H,I.tok _,⟨_,rfl⟩,q⟩
theorem Zes:Zdq X (.type "int") (fun xs H Q=>(∃ i,xs = [.int i]/\Q (.int i) H)\/∃ k,xs = [.bl k]/\Q (.int (if k then 1 else 0)) H):=by
 intro pins s σ H xs us Q I r h
 rcases h with ⟨i,rfl,q⟩ | ⟨k,rfl,q⟩
 ·obtain ⟨u,rfl,t,rfl⟩:=Zg3 r
  exact call_int_int ⟨.int i,H,I,⟨_,rfl⟩,q⟩
 ·obtain ⟨u,rfl,r1⟩:=Zg3 r
  cases r1
  exact call_int_bool ⟨.int (if k then 1 else 0),H,I.tok _,⟨_,rfl⟩,q⟩
theorem Za5:Zdq X (.type "str") (fun xs H Q=>∃ i,xs = [.int i]/\i.natAbs.log2 < 1920/\Q (.str (toString i)) H):=by
 intro pins s σ H xs us Q I r h
 obtain ⟨i,rfl,hz,q⟩:=h
 obtain ⟨u,rfl,t,rfl⟩:=Zg3 r
 exact PySem.P.str_of_int hz ⟨.str _,H,I.tok _,⟨_,rfl⟩,q⟩
end
structure ObjM (h:Heap) (x dx C:Addr) (mA:Str->Option Value):Prop where
 obj:h.get? x = some (PySem.W.instObj C dx)
 ns:h.Ns1 dx mA
 ne:dx ≠ x
theorem Zmk {h:Heap} {dx:Addr} {mA:Str->Option Value} (n:h.Ns1 dx mA):∃ od,h.get? dx = some od/\∀ name,PySem.W.lookIn name od = some (mA name):=by
 obtain ⟨o,es,ep,ho,hd,hk,_,hm⟩:=n
 refine ⟨o,ho,fun name=>?_⟩
 have e:=hm name
 unfold nsFind findBy at e
 rw [<- Array.find?_toList] at e
 unfold PySem.W.lookIn
 rw [hd]
 dsimp only
 split
 ·rename_i y q
  rw [q] at e
  exact Jdl some e
 ·rename_i q
  rw [q] at e
  have a:es.toList.any (·.refKey) = false:=by
   rw [List.any_eq_false]
   intro y hy
   obtain ⟨z,t,hkey⟩:=hk y (Array.mem_toList_iff.mp hy)
   simp [DictEntry.refKey,hkey]
  have a':¬ es.toList.any (·.refKey) = true:=by rw [a]; exact Jao
  rw [if_neg a']
  exact Jdl some e
theorem ObjM.look {h:Heap} {x dx C:Addr} {mA:Str->Option Value} (I:ObjM h x dx C mA):∃ od,PySem.W.InstAt h x (PySem.W.instObj C dx) C (some od)/\∀ name,PySem.W.lookIn name od = some (mA name):=
 let ⟨od,ho,hl⟩:=Zmk I.ns
 ⟨od,⟨I.obj,rfl,rfl,ho⟩,hl⟩
section
variable {prog:Program} {w:World} {A:Around} {E:Value->Shared->Prop} {s:Shared} {K:PySem.W.Frag} {x dx C f:Addr} {mA:Str->Option Value} {name:Str} {v:Value}
theorem get_map {expr:Bool} {Q:Value->Shared->Prop} (X:K.In s.heap) (I:ObjM s.heap x dx C mA) (hg:PySem.W.plainGet K C name = true) (hh:PySem.W.hasDictIn K C = true)
  (ha:PySem.W.findIn K (.ref C) name = some none) (hv:mA name = some v) (hv':PySem.W.handedIn v = true) (h:Q v { s with toks:=s.toks + 1 }):
  wpAny (model prog w) A (getAttr (.ref x) name expr) Q E s:=by
 obtain ⟨od,J,hl⟩:=I.look
 exact PySem.W.get_value X J (PySem.W.plainGet_of hg).1 (PySem.W.findObj_own hh ha rfl (by rw [hl,hv])) hv' h
theorem set_map {ns:List Str} {Q:Unit->Shared->Prop} (X:K.In s.heap) (I:ObjM s.heap x dx C mA)
  (hs:PySem.W.findIn K (.ref C) "__setattr__" = some (some (.builtin "object.__setattr__"))) (hp:PySem.W.plainOver K C = true) (ht:PySem.W.takerIn K C name = some none) (hh:PySem.W.hasDictIn K C = true)
  (hw:PySem.Within mA ns) (hsz:ns.length<=sizeLine)
  (h:∀ h',ObjM h' x dx C (fun y=>if y = name then some v else mA y)->Heap.SameBut dx s.heap h'->Q () { s with heap:=h',toks:=s.toks + 2 }):
  wpAny (model prog w) A (setAttr (.ref x) name v) Q E s:=by
 obtain ⟨od,J,hl⟩:=I.look
 refine PySem.W.set_plain X J hs (PySem.W.osa_open (s:={ s with toks:=s.toks + 1 }) (r:=none) X J hp ht fun b=>?_)
 obtain ⟨cd,hc,hd'⟩:=PySem.W.any_some hh
 have hx:s.heap.get? x = some ⟨.ref C,some dx,.plain,#[]⟩:=I.obj
 refine Jaj (Ja5 (Jaj (Jaj (wpAny_loadPart hx (Jaj (PySem.W.Looks.here (s:={ s with toks:=s.toks + 1 }) (PySem.W.looks_clsIn X hc) ?_))))))
 rw [hd']
 refine Ja5 (a:=some dx) (Jaj (Ja5 (Jaj ?_)))
 refine wpAny_nsSet1 (s:={ s with toks:=s.toks + 1 }) I.ns fun h' hn2 hs2=>?_
 obtain ⟨oD,esD,epD,hoD,hdD,hcD⟩:=hn2.count (PySem.Within.cons name v hw)
 refine Jaj (wpAny_lookBehind hoD (by rw [hdD]; exact pastItsLine_dict (Jbw hcD (by rw [Jap]; omega))) ?_)
 exact Ja5 (h _ ⟨(hs2.2 _ (Jdx I.ne)).trans I.obj,hn2,I.ne⟩ hs2)
theorem Zoh {R:Result->Shared->Prop} {vs:List Value} {kw:List (Str × Value)} (X:K.In s.heap) (hm:PySem.W.makesIn K C = true)
  (hi:PySem.W.findIn K (.ref C) "__init__" = some (some (.ref f))) (hf:PySem.W.typeIn K (.ref f) = some (.type "function"))
  (h:codeAny (model prog w) (A.under (.builtin "type.__call__" ⟨.ref C :: vs,kw⟩)) (.call (.ref f) ⟨.ref (s.heap.objs.size + 1) :: vs,kw⟩) (PySem.W.InitBack (s.heap.objs.size + 1) R)
   { s with heap:=(s.heap.push PySem.W.emptyDict).push (PySem.W.instObj C s.heap.objs.size) }):
  codeAny (model prog w) A (.call (.ref C) ⟨vs,kw⟩) R s:=by
 obtain ⟨hh,g,d,t,os⟩:=s
 exact PySem.W.make_core (PySem.W.makes_of X hm) (PySem.W.looks_findIn X hi) (fun self=>PySem.W.bind_fn X self hf) (.inl rfl) h
end
def Zgx (f:Str) (v:V):List (Str × V)->List (Str × V)
 | []=>[(f,v)]
 | (g,x) :: r=>if g = f then (g,v) :: r else (g,x) :: Zgx f v r
theorem Zb8 (f g:Str) (v:V):∀ fs:List (Str × V),(Zgx f v fs).lookup g = if g = f then some v else fs.lookup g
 | []=>by
  show List.lookup g [(f,v)] = _
  by_cases h:g = f
  ·have hb:(g == f) = true:=Ja7.mpr h
   simp only [List.lookup,hb,if_pos h]
  ·have hb:(g == f) = false:=Jbi.mpr h
   simp only [List.lookup,hb,if_neg h]
 | (k,x) :: r=>by
  have ih:=Zb8 f g v r
  rw [show Zgx f v ((k,x) :: r) = (if k = f then (k,v) :: r else (k,x) :: Zgx f v r) from rfl]
  by_cases hk:k = f
  ·rw [if_pos hk]
   by_cases h:g = k
   ·have hb:(g == k) = true:=Ja7.mpr h
    simp only [List.lookup,hb,if_pos (h.trans hk)]
   ·have hb:(g == k) = false:=Jbi.mpr h
    simp only [List.lookup,hb,if_neg (fun e:g = f=>h (e.trans hk.symm))]
  ·rw [if_neg hk]
   by_cases h:g = k
   ·have hb:(g == k) = true:=Ja7.mpr h
    simp only [List.lookup,hb,if_neg (fun e:g = f=>hk (h.symm.trans e))]
   ·have hb:(g == k) = false:=Jbi.mpr h
    simp only [List.lookup,hb]
    exact ih
theorem Zgc (f:Str) (v:V):∀ fs:List (Str × V),f ∈ (Zgx f v fs).map (·.1)/\∀ g,g ∈ fs.map (·.1)->g ∈ (Zgx f v fs).map (·.1)
 | []=>⟨by simp [Zgx],fun g h=>by simp at h⟩
 | (k,x) :: r=>by
  obtain ⟨i1,i2⟩:=Zgc f v r
  rw [show Zgx f v ((k,x) :: r) = (if k = f then (k,v) :: r else (k,x) :: Zgx f v r) from rfl]
  by_cases hk:k = f
  ·rw [if_pos hk]
   subst hk
   exact ⟨by simp,fun g h=>by simpa using h⟩
  ·rw [if_neg hk]
   refine ⟨?_,fun g h=>?_⟩
   ·rw [Jcf]
    exact Jai _ i1
   ·rw [Jcf] at h ⊢
    rcases Jav.mp h with e | e
    ·exact Jav.mpr (.inl e)
    ·exact Jai _ (i2 g e)
theorem Zed (f:Str) (v:V):∀ fs:List (Str × V),(Zgx f v fs).length<=fs.length + 1
 | []=>by simp [Zgx]
 | (k,x) :: r=>by
  have ih:=Zed f v r
  rw [show Zgx f v ((k,x) :: r) = (if k = f then (k,v) :: r else (k,x) :: Zgx f v r) from rfl]
  by_cases hk:k = f
  ·rw [if_pos hk,Jap,Jap]; omega
  ·rw [if_neg hk,Jap,Jap]; omega
theorem RelO.some_of {v:V} {o:Option Value} (r:RelO (some v) o):∃ u,o = some u/\RelV v u:=by
 cases o with
 | none=>exact (show False from r).elim
 | some u=>exact ⟨u,rfl,r⟩
theorem Zmq {v:V} {u:Value} (r:RelV v u):PySem.W.handedIn u = true:=by
 cases v with
 | non=>cases (show u = Value.none from r); rfl
 | bl b=>cases (show u = Value.bool b from r); rfl
 | int i=>obtain ⟨t,e⟩:=(show ∃ t,u = Value.int i t from r); cases e; rfl
 | str x=>obtain ⟨t,e⟩:=(show ∃ t,u = Value.str x t from r); cases e; rfl
 | byt b=>obtain ⟨t,e⟩:=(show ∃ t,u = Value.bytes b t from r); cases e; rfl
 | flt b=>obtain ⟨t,e⟩:=(show ∃ t,u = Value.float b t from r); cases e; rfl
 | ref a=>cases (show u = Value.ref a from r); rfl
 | ty n=>cases (show u = Value.type n from r); rfl
section
variable {P:Program} {w:World} {H H':Hp} {h h':Heap} {a C dx:Addr} {fs fs':List (Str × V)}
theorem Zje (hok:HOk P w H h) (e:H a = some (.ins C dx fs)):∃ mA,ObjM h a dx C mA/\(∀ f,RelO (fs.lookup f) (mA f))/\PySem.Within mA (fs.map (·.1))/\fs.length<=1000/\H dx = some (.own a):=by
 obtain ⟨d,z,ne,ob,mA,n,r,q⟩:=(show ObjOk P w H h a (.ins C dx fs) from hok a _ e)
 exact ⟨mA,⟨ob,n,ne⟩,r,q,z,d⟩
end
structure Cls (K:PySem.W.Frag) (C:Addr):Prop where
 pg:PySem.W.plainGet K C Str.empty = true
 hd:PySem.W.hasDictIn K C = true
 po:PySem.W.plainOver K C = true
 sa:PySem.W.findIn K (.ref C) "__setattr__" = some (some (.builtin "object.__setattr__"))
theorem Cls.get {K:PySem.W.Frag} {C:Addr} (c:Cls K C) (f:Str):PySem.W.plainGet K C f = true:=c.pg
def NoAttr (K:PySem.W.Frag) (C:Addr) (f:Str):Prop:=PySem.W.findIn K (.ref C) f = some none
theorem NoAttr.taker {K:PySem.W.Frag} {C:Addr} {f:Str} (n:NoAttr K C f):PySem.W.takerIn K C f = some none:=by
 unfold PySem.W.takerIn
 rw [show PySem.W.findIn K (.ref C) f = some none from n]
 rfl
structure Con (K:PySem.W.Frag) (C:Addr) (f:Str) (v:V) (u:Value):Prop where
 at_:PySem.W.findIn K (.ref C) f = some (some u)
 rel:RelV v u
 get:PySem.W.specialIn K u "__get__" = some none
 cp:PySem.W.copiedNames.contains f = false
structure Meth (K:PySem.W.Frag) (C:Addr) (m:Str) (f:Addr):Prop where
 at_:PySem.W.findIn K (.ref C) m = some (some (.ref f))
 fn:PySem.W.isFn K (.ref f) = true
 kp:PySem.W.keepIn K (.ref f) = true
section
variable {X:Cx} {pins:List (Addr × Obj)} {σ:St} {H:Hp} {s:Shared} {a C dx:Addr} {fs:List (Str × V)} {f:Str} {v:V} {A:Around} {E:Value->Shared->Prop}
theorem Zkw {b:Bool} {Q:Value->Shared->Prop} (I:Inv X pins σ H s) (e:H a = some (.ins C dx fs)) (c:Cls X.K C) (n:NoAttr X.K C f) (l:fs.lookup f = some v)
  (h:∀ u s',Inv X pins σ H s'->RelV v u->Q u s'):wpAny (model X.prog X.w) A (getAttr (.ref a) f b) Q E s:=by
 obtain ⟨mA,O,r,_,_,_⟩:=Zje I.hok e
 obtain ⟨u,hu,ru⟩:=RelO.some_of (v:=v) (o:=mA f) (by rw [<- l]; exact r f)
 exact get_map I.kIn O (c.get f) c.hd n hu (Zmq ru) (h u _ (I.tok _) ru)
theorem Zkq {y:V} {u:Value} {Q:Unit->Shared->Prop} (I:Inv X pins σ H s) (e:H a = some (.ins C dx fs)) (c:Cls X.K C) (n:NoAttr X.K C f) (hl:fs.length < 1000) (ry:RelV y u)
  (h:∀ s',Inv X pins σ (upd H a (.ins C dx (Zgx f y fs))) s'->Q () s'):wpAny (model X.prog X.w) A (setAttr (.ref a) f u) Q E s:=by
 obtain ⟨mA,O,r,wi,_,ho⟩:=Zje I.hok e
 have hz:(fs.map (·.1)).length<=sizeLine:=by rw [Jac,Jd9]; omega
 refine set_map I.kIn O c.sa c.po n.taker c.hd wi hz fun h' O' sb=>h _ ?_
 have hd:∃ o,h'.get? dx = some o:=let ⟨o,_,_,e',_⟩:=O'.ns; ⟨o,e'⟩
 refine I.write (x:=a) (e:=dx) (by rw [e]; exact True.intro) (.inr ho) (fun b q hb z=>(sb.2 b hb).trans z) hd ?_
 refine ⟨by rw [Zah O.ne]; exact ho,?_,O.ne,O'.obj,_,O'.ns,fun g=>?_,fun g hg=>?_⟩
 ·have:=Zed f y fs; omega
 ·show RelO ((Zgx f y fs).lookup g) (if g = f then some u else mA g)
  rw [Zb8]
  by_cases q:g = f
  ·rw [if_pos q,if_pos q]; exact ry
  ·rw [if_neg q,if_neg q]; exact r g
 ·by_cases q:g = f
  ·rw [q]; exact (Zgc f y fs).1
  ·refine (Zgc f y fs).2 g (wi g fun z=>hg ?_)
   show (if g = f then some u else mA g) = none
   rw [if_neg q]; exact z
theorem Inv.made (I:Inv X pins σ H s):Inv X pins σ (upd (upd H s.heap.objs.size (.own (s.heap.objs.size + 1))) (s.heap.objs.size + 1) (.ins C s.heap.objs.size []))
  { s with heap:=(s.heap.push PySem.W.emptyDict).push (PySem.W.instObj C s.heap.objs.size) }:=by
 have e1:(s.heap.push PySem.W.emptyDict).get? s.heap.objs.size = some PySem.W.emptyDict:=Jaq s.heap rfl
 have e2:((s.heap.push PySem.W.emptyDict).push (PySem.W.instObj C s.heap.objs.size)).get? (s.heap.objs.size + 1) = some (PySem.W.instObj C s.heap.objs.size):=by
  have:=Jaq (s.heap.push PySem.W.emptyDict) (o:=PySem.W.instObj C s.heap.objs.size) rfl
  rwa [Jcn] at this
 have e3:(s.heap.push PySem.W.emptyDict).Ns s.heap.objs.size (fun _=>none):=⟨PySem.W.emptyDict,#[],_,e1,rfl,(fun e he=>absurd he (by simp)),fun _=>rfl⟩
 have I1:=I.laid (a:=s.heap.objs.size) (o:=.own (s.heap.objs.size + 1)) (h':=s.heap.push PySem.W.emptyDict) (t':=s.toks) (fun b u q=>Jad _ q) (Jae _) ⟨_,e1⟩
 refine I1.laid (a:=s.heap.objs.size + 1) (o:=.ins C s.heap.objs.size []) (t':=s.toks) (fun b u q=>Jad _ q) (Nat.le_of_eq (Jcn _ _)) ?_
 have ne:s.heap.objs.size ≠ s.heap.objs.size + 1:=Ja8 (Nat.lt_succ_self _)
 refine ⟨by rw [Zah ne,Zac],Jb8 _,ne,e2,fun _=>none,(Heap.Ns1.of_empty e3).at fun o q=>Jad _ q,fun _=>True.intro,fun y hy=>absurd rfl hy⟩
theorem attr_of {prog:Program} {w:World} {env:Env} {e:Expr} {f:Str} {pos:Pos} {s:Shared} {Q:Value->Shared->Prop} (hb:attributeBase e f env (eval e env) = eval e env)
  (h:wpAny (model prog w) A (eval e env) (fun o s₁=>wpAny (model prog w) A (getAttr o f true) Q E s₁) E s):wpAny (model prog w) A (eval (.Attribute e f pos) env) Q E s:=
 Attribute_any_ h (by rw [arm_eval_Attribute,hb])
end
def tFld (K:PySem.W.Frag) (ta:TE) (f:Str):TE:=fun σ H Q=>ta σ H fun x H1=>∃ a C dx fs v,x = .ref a/\H1 a = some (.ins C dx fs)/\Cls K C/\NoAttr K C f/\fs.lookup f = some v/\Q v H1
def sFld (K:PySem.W.Frag) (ta tv:TE) (f:Str):TS:=fun D σ H=>tv σ H fun y H1=>ta σ H1 fun x H2=>∃ a C dx fs,x = .ref a/\H2 a = some (.ins C dx fs)/\Cls K C/\NoAttr K C f/\fs.length < 1000 /\
 D.nx σ (upd H2 a (.ins C dx (Zgx f y fs)))
section
variable {X:Cx} {o e value:Expr} {f:Str} {pos pos' tpos:Pos} {ta tv:TE}
theorem Zfb (he:PE X e ta) (hb:attributeBase e f X.env (eval e X.env) = eval e X.env):PE X (.Attribute e f pos) (tFld X.K ta f):=by
 intro pins s σ H Q I h
 refine attr_of hb (thn (he pins s σ H _ I h) fun u s1 ⟨x,H1,I1,rx,a,C,dx,fs,v,ex,ea,c,n,l,q⟩=>?_)
 subst ex
 obtain rfl:u = Value.ref a:=rx
 exact Zkw I1 ea c n l fun u' s2 I2 ru=>⟨v,H1,I2,ru,q⟩
theorem Zlv (ha:PE X o ta) (hv:PE X value tv) (hs:swapsWith value (some (.Attribute o f pos')) pos.line X.env = pure false):PS X (.Assign [.Attribute o f pos'] value pos) (sFld X.K ta tv f):=by
 intro pins s σ H D I h
 refine plainObj_wpAny_Assign_Attribute (thn (hv pins s σ H _ I h) fun u s1 ⟨y,H1,I1,ry,q⟩=>thn (ha pins s1 σ H1 _ I1 q) fun ov s2 ⟨x,H2,I2,rx,a,C,dx,fs,ex,ea,c,n,l,q2⟩=>?_) hs
 subst ex
 obtain rfl:ov = Value.ref a:=rx
 exact Zkq I2 ea c n l ry fun s3 I3=>⟨σ,_,I3,q2⟩
end
section
variable {X:Cx} {pins:List (Addr × Obj)} {σ:St} {H:Hp} {s:Shared} {A:Around} {E:Value->Shared->Prop} {Q:Value->Shared->Prop} {c:Value} {b:Bool}
inductive TyOf (K:PySem.W.Frag) (H:Hp):V->Value->Prop where
 | non:TyOf K H .non (.type "NoneType")
 | bl (x:Bool):TyOf K H (.bl x) (.type "bool")
 | int (i:Int):TyOf K H (.int i) (.type "int")
 | str (x:Str):TyOf K H (.str x) (.type "str")
 | flt (x:UInt64):TyOf K H (.flt x) (.type "float")
 | lst {a:Addr} {xs:List V} (e:H a = some (.lst xs)):TyOf K H (.ref a) (.type "list")
 | frz {a:Addr} {o:Obj} {xs:List V} (e:H a = some (.frz o (.lst xs))):TyOf K H (.ref a) (.type "list")
 | tup {a:Addr} {xs:List V} (e:H a = some (.tup xs)):TyOf K H (.ref a) (.type "tuple")
 | dK {a:Addr} {kvs:List (Key × V)} (e:H a = some (.dK kvs)):TyOf K H (.ref a) (.type "dict")
 | dT {a:Addr} {kvs:List (List Key × V)} (e:H a = some (.dT kvs)):TyOf K H (.ref a) (.type "dict")
 | ins {a C dx:Addr} {fs:List (Str × V)} (e:H a = some (.ins C dx fs)) (cl:Cls K C) (ha:PySem.W.findIn K (.ref C) "__class__" = some (some (.builtin "object.__class__")))
   (hn:PySem.W.specialIn K (.builtin "object.__class__") "__get__" = some (some (.builtin "getset_descriptor.__get__"))) (htk:PySem.W.takesIn K (.builtin "object.__class__") = some true)
   (hm:PySem.W.mroIn K C (.type "object") = some true):TyOf K H (.ref a) (.ref C)
theorem Zmn {x:V} {u t:Value} (I:Inv X pins σ H s) (rx:RelV x u) (ty:TyOf X.K H x t) (e:PySem.W.kitOne X.K t c = some b) (h:∀ tk,Q (.bool b) { s with toks:=tk }):
  wpAny (model X.prog X.w) A (call (.builtin "isinstance") [u,c]) Q E s:=by
 cases ty with
 | non=>cases (show u = Value.none from rx); exact Jbj PySem.W.kitx_none I.kIn True.intro e (fun z=>nomatch z) h
 | bl y=>cases (show u = Value.bool y from rx); exact Jbj PySem.W.kitx_bool I.kIn True.intro e (fun z=>nomatch z) h
 | int i=>obtain ⟨t,q⟩:=(show ∃ t,u = Value.int i t from rx); cases q; exact Jbj PySem.W.kitx_int I.kIn True.intro e (fun z=>nomatch z) h
 | str y=>obtain ⟨t,q⟩:=(show ∃ t,u = Value.str y t from rx); cases q; exact Jbj PySem.W.kitx_str I.kIn True.intro e (fun z=>nomatch z) h
 | flt y=>obtain ⟨t,q⟩:=(show ∃ t,u = Value.float y t from rx); cases q; exact Jbj PySem.W.kitx_float I.kIn True.intro e (fun z=>nomatch z) h
 | @lst a xs ea=>
  cases (show u = Value.ref a from rx)
  obtain ⟨_,_,n,_,h1⟩:=(show ObjOk X.prog X.w H s.heap a (.lst xs) from I.hok a _ ea)
  exact Jbj PySem.W.kitx_list I.kIn ⟨_,h1,rfl⟩ e (fun z=>nomatch z) h
 | @frz a ob xs ea=>
  cases (show u = Value.ref a from rx)
  obtain ⟨_,_,_,n,_,h1⟩:=(show ObjOk X.prog X.w H s.heap a (.frz ob (.lst xs)) from I.hok a _ ea)
  exact Jbj PySem.W.kitx_list I.kIn ⟨_,h1,rfl⟩ e (fun z=>nomatch z) h
 | @tup a xs ea=>
  cases (show u = Value.ref a from rx)
  obtain ⟨_,_,_,p⟩:=(show ObjOk X.prog X.w H s.heap a (.tup xs) from I.hok a _ ea)
  obtain ⟨o,h1,h2,_⟩:=p
  exact Jbj PySem.W.kitx_tuple I.kIn ⟨o,h1,h2⟩ e (fun z=>nomatch z) h
 | @dK a kvs ea=>
  cases (show u = Value.ref a from rx)
  obtain ⟨_,_,vs,_,p⟩:=(show ObjOk X.prog X.w H s.heap a (.dK kvs) from I.hok a _ ea)
  obtain ⟨o,es,ep,h1,h2,_⟩:=p
  exact Jbj PySem.W.kitx_dict I.kIn ⟨o,h1,h2.1⟩ e (fun z=>nomatch z) h
 | @dT a kvs ea=>
  cases (show u = Value.ref a from rx)
  obtain ⟨_,_,xs,_,o,es,ep,h1,h2,_⟩:=(show ObjOk X.prog X.w H s.heap a (.dT kvs) from I.hok a _ ea)
  exact Jbj PySem.W.kitx_dict I.kIn ⟨o,h1,h2.1⟩ e (fun z=>nomatch z) h
 | @ins a C dx fs ea cl ha hn htk hm=>
  cases (show u = Value.ref a from rx)
  obtain ⟨mA,O,_⟩:=Zje I.hok ea
  obtain ⟨od,J,_⟩:=O.look
  exact Jbj (PySem.W.kitx_own (cl.get _) cl.hd ha hn htk hm) I.kIn J e (fun z=>nomatch z) h
end
structure Room (k:Nat) (A:Around):Prop where
 hd:A.handled = none
 dp:A.depth + 3 * k + 205 < recursionLimit
 un:A.units + 16 * k + 200 < cLine
theorem Room.mono {j k:Nat} {A:Around} (r:Room k A) (h:j<=k):Room j A:=⟨r.hd,by have:=r.dp; omega,by have:=r.un; omega⟩
theorem Room.m {j k:Nat} {A:Around} (r:Room k A) (h:j<=k:=by decide):Room j A:=r.mono h
theorem Room.deeper {k:Nat} {A:Around} (r:Room (k + 1) A) (env:Env):Room k (A.deeper env):=
 ⟨r.hd,by have:=r.dp; show A.depth + 1 + 3 * k + 205 < _; omega,by have:=r.un; show A.units + 3 + 16 * k + 200 < _; omega⟩
theorem Zkt {A:Around} {C:Addr} {us:List Value} {kw:List (Str × Value)}:(A.under (.builtin "type.__call__" ⟨.ref C :: us,kw⟩)).depth = A.depth + 1:=by
 first | rfl | simp [Around.under,Code.weight,Code.isCreation,Code.isGuard,Code.isCaller,Code.frames,Code.isFrame,guardIds]
theorem Zks {A:Around} {C:Addr} {us:List Value} {kw:List (Str × Value)}:(A.under (.builtin "type.__call__" ⟨.ref C :: us,kw⟩)).units = A.units + 1:=by
 first | rfl | simp [Around.under,Code.cUnits,Code.frames,Code.isFrame]
theorem Room.make {k:Nat} {A:Around} (r:Room (k + 1) A) (C:Addr) (us:List Value) (kw:List (Str × Value)):Room k (A.under (.builtin "type.__call__" ⟨.ref C :: us,kw⟩)):=
 ⟨r.hd,by have:=r.dp; rw [Zkt]; omega,by have:=r.un; rw [Zks]; omega⟩
theorem Room.depth {k:Nat} {A:Around} (r:Room k A):A.depth < recursionLimit:=by have:=r.dp; omega
theorem Room.units {k:Nat} {A:Around} (r:Room k A):A.units + 64 < cLine:=by have:=r.un; omega
def tNil:TA:=fun _ H Q=>Q [] H
def Zh0 (ta:TE) (tr:TA):TA:=fun σ H Q=>ta σ H fun x H1=>tr σ H1 fun xs H2=>Q (x :: xs) H2
section
variable {X:Cx} {e:Expr} {es:List Expr} {te:TE} {t:TA} {pos:Pos}
theorem Zaa:PA X [] tNil:=fun _ _ _ _ H Q I h=>Calls.spliced_nil ⟨[],H,I,.nil,h⟩
theorem pa_cons (ha:PE X e te) (hr:PA X es t) (hs:starEach (e :: es) X.env = (false,eval e X.env) :: starEach es X.env:=by rfl):PA X (e :: es) (Zh0 te t):=by
 intro pos pins s σ H Q I h
 rw [hs]
 show wpAny _ _ (spliced ((false,eval e X.env) :: backTo pos (starEach es X.env))) _ _ s
 refine Calls.spliced_cons (thn (ha pins s σ H _ I h) fun u s1 ⟨x,H1,I1,r1,q1⟩=>?_)
 exact thn (hr pos pins s1 σ H1 _ I1 q1) fun us s2 ⟨xs,H2,I2,r2,q2⟩=>⟨x :: xs,H2,I2,.cons r1 r2,q2⟩
def tTup (t:TA):TE:=fun σ H Q=>t σ H fun xs H1=>xs.length<=sizeLine/\∀ p,H1 p = none->Q (.ref p) (upd H1 p (.tup xs))
def tLst (t:TA):TE:=fun σ H Q=>t σ H fun xs H1=>xs.length<=sizeLine/\∀ p,H1 p = none->Q (.ref p) (upd H1 p (.lst xs))
theorem Zcg {x1} (h:PA X es t):PE X (.Tuple es x1 pos) (tTup t):=by
 intro pins s σ H Q I hq
 refine wpAny_Tuple_spliced (thn (h pos pins s σ H _ I hq) fun us s1 ⟨xs,H1,I1,r,z,q⟩=>⟨by rw [<- r.length]; exact z,?_⟩)
 have hf:H1 s1.heap.objs.size = none:=I1.hok.fresh (Jae _)
 refine ⟨.ref s1.heap.objs.size,upd H1 s1.heap.objs.size (.tup xs),I1.laid (t':=s1.toks) (fun b u e=>Jad _ e) (Jae _) ?_,rfl,q _ hf⟩
 exact ⟨z,us,r,⟨_,Jaq _ rfl,rfl,_,rfl⟩⟩
theorem Zbm (h:PA X es t):PE X (.List es pos) (tLst t):=by
 intro pins s σ H Q I hq
 refine wpAny_List_spliced (thn (h pos pins s σ H _ I hq) fun us s1 ⟨xs,H1,I1,r,z,q⟩=>⟨by rw [<- r.length]; exact z,?_⟩)
 have hf:H1 s1.heap.objs.size = none:=I1.hok.fresh (Jae _)
 refine ⟨.ref s1.heap.objs.size,upd H1 s1.heap.objs.size (.lst xs),I1.laid (t':=s1.toks) (fun b u e=>Jad _ e) (Jae _) ?_,rfl,q _ hf⟩
 exact ⟨z,us,0,r,Jaq _ rfl⟩
end
abbrev Sp:=List V->Hp->VK->XK->Prop
abbrev CXT:=List Env->Hp->Shared->XK->Value->Shared->Prop
structure Env0 (P:Program) (w:World) (K:PySem.W.Frag) (mg:Str->Option Value) (base:Heap) (A:Around) (outer:List Env) (s:Shared) (H:Hp):Prop where
 frames:A.frames = some outer
 mod:Mod K mg base
 bs:∀ b o,base.get? b = some o->s.heap.get? b = some o/\H b = none
 bsz:base.objs.size<=s.heap.objs.size
 funs:s.heap.FunFrames base outer
 frf:∀ b ∈ frs outer,H b = none
 hok:HOk P w H s.heap
 bare:AllBare s.gens
def CE (outer:List Env) (P:Program) (w:World) (H:Hp) (s:Shared) (Q:VK) (u:Value) (s':Shared):Prop:=
 ∃ v H',s'.os = s.os/\AllBare s'.gens/\Un (frs outer) [] H H' s.heap s'.heap/\HOk P w H' s'.heap/\RelV v u/\Q v H'
def CR (CX:CXT) (outer:List Env) (P:Program) (w:World) (H:Hp) (s:Shared) (Q:VK) (E:XK) (r:Result) (s':Shared):Prop:=
 match r with
 | .ok (.ret u)=>CE outer P w H s Q u s'
 | .ok _=>False
 | .error e=>CX outer H s E e s'
structure FnOk (P:Program) (w:World) (K:PySem.W.Frag) (mg:Str->Option Value) (base:Heap) (CX:CXT) (k:Nat) (f:Addr) (fd:FuncData) (ps:List Str) (sp:Sp):Prop where
 len:∀ vs H Q E,sp vs H Q E->vs.length = ps.length
 run:∀ (A:Around) (outer:List Env) (s:Shared) (H:Hp) (args:Args) (us:List Value) (vs:List V) (Q:VK) (E:XK),Room k A->Env0 P w K mg base A outer s H->BindsTo s fd args (ps.zip us)->Vals vs us->sp vs H Q E->
  codeAny (model P w) A (.call (.ref f) args) (CR CX outer P w H s Q E) s
theorem Env0.make {P:Program} {w:World} {K:PySem.W.Frag} {mg:Str->Option Value} {base:Heap} {A:Around} {outer:List Env} {s:Shared} {H:Hp} (e:Env0 P w K mg base A outer s H) (C:Addr) (us:List Value) (kw:List (Str × Value)):
  Env0 P w K mg base (A.under (.builtin "type.__call__" ⟨.ref C :: us,kw⟩)) outer s H:=⟨by first | exact e.frames | (simpa [Around.under,Code.envs,Code.isFrame,pushEnvs] using e.frames),e.mod,e.bs,e.bsz,e.funs,e.frf,e.hok,e.bare⟩
section
variable {X:Cx} {pins:List (Addr × Obj)} {σ:St} {H:Hp} {s s':Shared}
theorem Inv.env0 (I:Inv X pins σ H s):Env0 X.prog X.w X.K X.mg X.base X.A X.stack s H:=
 ⟨I.ok.frames,I.ok.mod,I.bs,Jbw I.ok.bsz I.sz,I.stack,I.stkFree,I.hok,I.bare⟩
theorem Inv.after {Q:VK} {u:Value} (I:Inv X pins σ H s) (h:CE X.stack X.prog X.w H s Q u s'):EP X pins σ Q u s':=by
 obtain ⟨v,H',os,bare,un,hok,r,q⟩:=h
 obtain ⟨hh,g,d,t,os'⟩:=s'
 obtain rfl:os' = s.os:=os
 exact ⟨v,H',I.call (h':=hh) (g':=g) (d':=d) (t':=t) (ch:=[]) un hok bare (fun b z=>absurd z (by simp)),r,q⟩
end
def Zh1 (sp:Sp) (dvs:List V) (E:XK) (t:TA):TE:=fun σ H Q=>t σ H fun vs H1=>sp (vs ++ dvs) H1 Q E
def tMeth (C:Addr) (m:Str) (sp:Sp) (dvs:List V) (E:XK) (ta:TE) (t:TA):TE:=fun σ H Q=>ta σ H fun x H1=>∃ a dx fs,x = .ref a/\H1 a = some (.ins C dx fs)/\fs.lookup m = none /\
 t σ H1 fun vs H2=>sp (x :: (vs ++ dvs)) H2 Q E
def Zlg (C:Addr) (sp:Sp) (dvs:List V) (E:XK) (t:TA):TE:=fun σ H Q=>t σ H fun vs H1=>∀ x dx,H1 x = none->H1 dx = none->dx ≠ x->
 sp (.ref x :: (vs ++ dvs)) (upd (upd H1 dx (.own x)) x (.ins C dx [])) (fun v H2=>v = .non/\Q (.ref x) H2) E
def Binds (K:PySem.W.Frag) (fd:FuncData) (ps:List Str) (ds:List Value):Prop:=
 ∀ (s:Shared) (us:List Value),K.In s.heap->(us ++ ds).length = ps.length->BindsTo s fd ⟨us,[]⟩ (ps.zip (us ++ ds))
theorem Binds.all {K:PySem.W.Frag} {fd:FuncData} {ps:List Str} (h:∀ us:List Value,us.length = ps.length->bindArgs fd ⟨us,[]⟩ = pure (ps.zip us)):Binds K fd ps []:=fun s us _ hl=>by
 rw [Jci] at hl ⊢
 exact .of_eq (h us hl)
def Zcv (CX:CXT) (X:Cx) (E:XK):Prop:=∀ (pins:List (Addr × Obj)) (σ:St) (H:Hp) (s:Shared) (e:Value) (s':Shared),Inv X pins σ H s->CX X.stack H s E e s'->X.xe e s'
section
variable {X:Cx} {CX:CXT} {k:Nat} {f C:Addr} {fd:FuncData} {ps:List Str} {sp:Sp} {dvs:List V} {ds:List Value} {E:XK} {x m:Str} {p pos apos:Pos} {e o:Expr} {es:List Expr} {ta:TE} {t:TA}
theorem run_fn {pins:List (Addr × Obj)} {σ:St} {H:Hp} {s:Shared} {Q:VK} {us:List Value} {vs:List V} (F:FnOk X.prog X.w X.K X.mg X.base CX k f fd ps sp) (hr:Room k X.A) (hb:Binds X.K fd ps ds) (hd:Vals dvs ds) (hx:Zcv CX X E)
  (I:Inv X pins σ H s) (r:Vals vs us) (h:sp (vs ++ dvs) H Q E):wpAny (model X.prog X.w) X.A (call (.ref f) us) (EP X pins σ Q) X.xe s:=by
 have r2:Vals (vs ++ dvs) (us ++ ds):=r.append hd
 have hl:(us ++ ds).length = ps.length:=by rw [<- r2.length]; exact F.len _ _ _ _ h
 refine wpAny_call (Jdo (F.run X.A X.stack s H ⟨us,[]⟩ (us ++ ds) (vs ++ dvs) Q E hr I.env0 (hb s us I.kIn hl) r2 h) fun r s' hq=>?_)
 cases r with
 | error e=>exact hx pins σ H s e s' I hq
 | ok fl=>
  cases fl with
  | ret u=>exact I.after hq
  | next=>exact False.elim hq
  | brk=>exact False.elim hq
  | cont=>exact False.elim hq
theorem Zl3 (F:FnOk X.prog X.w X.K X.mg X.base CX k f fd ps sp) (hr:Room k X.A) (hg:Gl X x) (hm:X.mg x = some (.ref f)) (hk:PySem.W.keepIn X.K (.ref f) = true) (hb:Binds X.K fd ps ds) (hd:Vals dvs ds) (hx:Zcv CX X E)
  (ha:PA X (e :: es) t) (hdb:(x == ("__debug__" : Str)) = false:=by decide) (he:starEach (e :: es) X.env = (false,eval e X.env) :: starEach es X.env:=by rfl) (hpl:(backTo pos (starEach es X.env)).any (·.1) = false:=by rfl):
  PE X (.Call (.Name x p) (e :: es) [] pos) (Zh1 sp dvs E t):=by
 intro pins s σ H Q I h
 refine Jch (Zey I hg hm ?_ hdb)
 refine Jdp (h₀:=X.base) I.ok.mod.kin hk (thn (ha pos pins s σ H _ I h) fun us s1 ⟨vs,H1,I1,r,q⟩=>⟨I1.kIn,?_⟩) he hpl
 exact run_fn F hr hb hd hx I1 r q
structure Mk (K:PySem.W.Frag) (C f:Addr):Prop where
 makes:PySem.W.makesIn K C = true
 init:PySem.W.findIn K (.ref C) "__init__" = some (some (.ref f))
 fn:PySem.W.isFn K (.ref f) = true
 kp:PySem.W.keepIn K (.ref C) = true
theorem Zns {pins:List (Addr × Obj)} {σ:St} {H:Hp} {s:Shared} {Q:VK} {us:List Value} {vs:List V} (M:Mk X.K C f) (F:FnOk X.prog X.w X.K X.mg X.base CX k f fd ps sp) (hr:Room (k + 1) X.A) (hb:Binds X.K fd ps ds) (hd:Vals dvs ds)
  (hx:Zcv CX X E) (I:Inv X pins σ H s) (r:Vals vs us)
  (h:∀ x dx,H x = none->H dx = none->dx ≠ x->sp (.ref x :: (vs ++ dvs)) (upd (upd H dx (.own x)) x (.ins C dx [])) (fun v H2=>v = .non/\Q (.ref x) H2) E):
  wpAny (model X.prog X.w) X.A (call (.ref C) us) (EP X pins σ Q) X.xe s:=by
 have hq:=h (s.heap.objs.size + 1) s.heap.objs.size (I.hok.fresh (Nat.le_succ _)) (I.hok.fresh (Jae _)) (Ja8 (Nat.lt_succ_self _))
 have I2:=Inv.made (C:=C) I
 have r2:Vals (V.ref (s.heap.objs.size + 1) :: (vs ++ dvs)) (Value.ref (s.heap.objs.size + 1) :: (us ++ ds)):=.cons rfl (r.append hd)
 have hl:(Value.ref (s.heap.objs.size + 1) :: us ++ ds).length = ps.length:=by
  have e:=r2.length
  rw [F.len _ _ _ _ hq] at e
  exact e.symm
 refine wpAny_call (Zoh (f:=f) I.kIn M.makes M.init (Ja7.mp M.fn) (Jdo (F.run _ X.stack _ _ ⟨Value.ref (s.heap.objs.size + 1) :: us,[]⟩ (Value.ref (s.heap.objs.size + 1) :: (us ++ ds)) _ _ E (hr.make C us [])
  (I2.env0.make C us []) (hb _ (Value.ref (s.heap.objs.size + 1) :: us) I2.kIn hl) r2 hq) fun r s' hq'=>?_))
 cases r with
 | error e=>exact hx pins σ _ _ e s' I2 hq'
 | ok fl=>
  cases fl with
  | ret u=>
   obtain ⟨v,H',I3,rv,ev,q3⟩:=I2.after hq'
   subst ev
   exact ⟨rv,⟨V.ref (s.heap.objs.size + 1),H',I3,rfl,q3⟩⟩
  | next=>exact False.elim hq'
  | brk=>exact False.elim hq'
  | cont=>exact False.elim hq'
theorem Zl1 (M:Mk X.K C f) (F:FnOk X.prog X.w X.K X.mg X.base CX k f fd ps sp) (hr:Room (k + 1) X.A) (hg:Gl X x) (hm:X.mg x = some (.ref C)) (hb:Binds X.K fd ps ds) (hd:Vals dvs ds) (hx:Zcv CX X E)
  (ha:PA X (e :: es) t) (hdb:(x == ("__debug__" : Str)) = false:=by decide) (he:starEach (e :: es) X.env = (false,eval e X.env) :: starEach es X.env:=by rfl) (hpl:(backTo pos (starEach es X.env)).any (·.1) = false:=by rfl):
  PE X (.Call (.Name x p) (e :: es) [] pos) (Zlg C sp dvs E t):=by
 intro pins s σ H Q I h
 refine Jch (Zey I hg hm ?_ hdb)
 refine Jdp (h₀:=X.base) I.ok.mod.kin M.kp (thn (ha pos pins s σ H _ I h) fun us s1 ⟨vs,H1,I1,r,q⟩=>⟨I1.kIn,?_⟩) he hpl
 exact Zns M F hr hb hd hx I1 r q
end
section
variable {X:Cx} {CX:CXT} {k:Nat} {f C:Addr} {fd:FuncData} {ps ks:List Str} {sp:Sp} {E:XK} {x m:Str} {p pos apos kpos:Pos} {e o:Expr} {es:List Expr} {kws:List Keyword} {te ta:TE} {t tk:TA} {nm:Option Str}
structure KBinds (K:PySem.W.Frag) (fd:FuncData) (ps ks:List Str) (g:List Value->List Value->List Value) (gV:List V->List V->List V):Prop where
 to:∀ (s:Shared) (us ws:List Value),K.In s.heap->(g us ws).length = ps.length->BindsTo s fd ⟨us,ks.zip ws⟩ (ps.zip (g us ws))
 rel:∀ {vs:List V} {us:List Value} {zs:List V} {ws:List Value},Vals vs us->Vals zs ws->Vals (gV vs zs) (g us ws)
variable {g:List Value->List Value->List Value} {gV:List V->List V->List V}
end
structure FnScope (N P:List Str) (sc:Scope):Prop where
 kind:sc.kind = .function
 co:sc.isCoroutine = false
 gen:sc.isGenerator = false
 nd:N.Nodup
 pre:N.take P.length = P
 par:∀ x ∈ P,sc.names.lookup x = some .local\/sc.names.lookup x = some .cell
 nofree:∀ y ∈ sc.names,y.2 ≠ .free
theorem Zis {kindOf:Str->Option NameKind} {x:Str}:∀ {binds:List (Str × Value)} {m:Str->Option Value},(∀ v,(x,v) ∉ binds)->bindL kindOf binds m x = m x
 | [],_,_=>rfl
 | (n,v) :: r,m,h=>by
  unfold bindL
  rw [Zis fun w hw=>h w (Jai _ hw)]
  split
  ·have:x ≠ n:=by rintro rfl; exact h v Jbd
   simp [this]
  ·rfl
theorem Ziu {kindOf:Str->Option NameKind} {x:Str}:∀ {binds:List (Str × Value)} {m:Str->Option Value},(∀ v,(x,v) ∉ binds)->bindC kindOf binds m x = m x
 | [],_,_=>rfl
 | (n,v) :: r,m,h=>by
  unfold bindC
  rw [Ziu fun w hw=>h w (Jai _ hw)]
  split
  ·rfl
  ·have:x ≠ n:=by rintro rfl; exact h v Jbd
   simp [this]
theorem Zit {kindOf:Str->Option NameKind} {x:Str} {v:Value}:∀ {P:List Str} {vs:List Value} {i:Nat} {m:Str->Option Value},P.Nodup->P[i]? = some x->vs[i]? = some v->kindOf x = some .local->
  bindL kindOf (P.zip vs) m x = some v
 | [],_,_,_,_,h,_,_=>by simp at h
 | _ :: _,[],_,_,_,_,h,_=>by simp at h
 | p :: P,w :: vs,0,m,nd,h1,h2,hk=>by
  simp at h1 h2; subst h1; subst h2
  show bindL kindOf ((p,w) :: P.zip vs) m p = _
  unfold bindL
  rw [Zis fun v hv=>(Jde.mp nd).1 (Jdf hv).1,if_pos hk]
  simp
 | p :: P,w :: vs,i + 1,m,nd,h1,h2,hk=>by
  show bindL kindOf ((p,w) :: P.zip vs) m x = _
  unfold bindL
  exact Zit (i:=i) (Jde.mp nd).2 (by simpa using h1) (by simpa using h2) hk
theorem Ziv {kindOf:Str->Option NameKind} {x:Str} {v:Value}:∀ {P:List Str} {vs:List Value} {i:Nat} {m:Str->Option Value},P.Nodup->P[i]? = some x->vs[i]? = some v->kindOf x ≠ some .local->
  bindC kindOf (P.zip vs) m x = some v
 | [],_,_,_,_,h,_,_=>by simp at h
 | _ :: _,[],_,_,_,_,h,_=>by simp at h
 | p :: P,w :: vs,0,m,nd,h1,h2,hk=>by
  simp at h1 h2; subst h1; subst h2
  show bindC kindOf ((p,w) :: P.zip vs) m p = _
  unfold bindC
  rw [Ziu fun v hv=>(Jde.mp nd).1 (Jdf hv).1,if_neg hk]
  simp
 | p :: P,w :: vs,i + 1,m,nd,h1,h2,hk=>by
  show bindC kindOf ((p,w) :: P.zip vs) m x = _
  unfold bindC
  exact Ziv (i:=i) (Jde.mp nd).2 (by simpa using h1) (by simpa using h2) hk
def Zec (N:List Str) (vs:List V):St:=vs.map some ++ List.replicate (N.length - vs.length) none
def Zea (CX:CXT) (P:Program) (w:World) (K:PySem.W.Frag) (mg:Str->Option Value) (base:Heap) (N:List Str) (qual:Str) (scope:Scope) (f:Addr) (cd:Value) (A:Around) (outer:List Env) (s:Shared) (H:Hp) (E:XK):Cx where
 prog:=P
 w:=w
 K:=K
 mg:=mg
 base:=base
 A:=A.deeper (envOfC qual scope s.heap.objs.size f cd)
 N:=N
 s₀:=s
 H₀:=H
 env:=envOfC qual scope s.heap.objs.size f cd
 outer:=outer
 stack:=envOfC qual scope s.heap.objs.size f cd :: outer
 ex:=[]
 calm:=true
 fn:=fun _=>true
 pn:=[]
 xe:=fun e s'=>wpAny (model P w) (A.deeper (envOfC qual scope s.heap.objs.size f cd)) (leaving (envOfC qual scope s.heap.objs.size f cd) e) (fun _ s''=>CX outer H s E e s'') (fun e' s''=>CX outer H s E e' s'') s'
theorem Zkc {sc:Scope} {n:Nat} {x:Str} (h:sc.names.lookup x = some .cell):∃ c,(cellsFrom n sc.names []).lookup x = some c:=by
 have q:=Jb9 sc.names n [] (.inl h)
 exact Jb3.mp q
theorem Zij {CX:CXT} {P:Program} {w:World} {K:PySem.W.Frag} {mg:Str->Option Value} {base:Heap} {N ps:List Str} {qual:Str} {scope:Scope} {f:Addr} {cd:Value} {A:Around} {outer:List Env} {s s1:Shared} {H:Hp} {E:XK} {us:List Value} {vs:List V}
  (S:FnScope N ps scope) (hd:A.handled = none) (e0:Env0 P w K mg base A outer s H) (hl:vs.length = ps.length) (r:Vals vs us)
  (x:InCallC s s.heap.objs.size (bindL (envOfC qual scope s.heap.objs.size f cd).kindOf (ps.zip us) fun _=>none) (cellsFrom (s.heap.objs.size + 1) scope.names []) (bindC (envOfC qual scope s.heap.objs.size f cd).kindOf (ps.zip us) fun _=>none) s1):
  Inv (Zea CX P w K mg base N qual scope f cd A outer s H E) [] (Zec N vs) H s1:=by
 have hpl:ps.length<=N.length:=by have:=Jdl List.length S.pre; rw [Jbv] at this; omega
 obtain ⟨h1,tk,rfl,hk⟩:=x.done
 have noA:∀ b:Addr,b ∉ (Zea CX P w K mg base N qual scope f cd A outer s H E).ex:=fun b z=>absurd (show b ∈ ([]:List Addr) from z) (by simp)
 refine ⟨⟨e0.mod,S.kind,rfl,rfl,Jae _,fun y z c h1 h2=>?_,fun y hy=>?_,fun y c _ h=>?_,fun _=>hd,Around.frames_deeper e0.frames,.inr ⟨rfl,rfl⟩,fun b z=>absurd z (noA b),e0.bs,e0.bsz,fun b _ _=>noA b,fun b z=>absurd z (noA b),e0.funs,e0.frf,⟨_,_,rfl,S.gen,S.co,rfl,rfl⟩⟩,
  rfl,e0.bare,Un.kept hk,⟨_,x.toInCall.ns,fun i y v h1 h2 h3=>?_⟩,fun y c h=>⟨_,x.cell y c h⟩,e0.hok.fresh (Jae _),fun y c h=>?_,fun p hp=>absurd (show p ∈ ([]:List (Addr × Obj)) from hp) (by simp),e0.hok.kept hk,?_⟩
 ·exact name_of_addr x.apart (Jbk h1) (Jbk h2)
 ·have hy:scope.names.lookup y = some .cell\/scope.names.lookup y = some .free:=hy
  rcases hy with hy | hy
  ·exact Zkc hy
  ·exact absurd rfl (S.nofree _ (Jbk hy))
 ·exact Jcb (x.above y c (Jbk h))
 ·have hi:i < vs.length:=by
   unfold Zec at h2
   by_cases hi:i < vs.length
   ·exact hi
   ·rw [Jbp (by simpa using hi)] at h2
    rw [Jb0] at h2
    split at h2 <;> cases h2
  have ha:vs[i]? = some v:=by
   unfold Zec at h2
   rw [Jbh (by simpa using hi),Jas] at h2
   cases e:vs[i]? with
   | none=>rw [e] at h2; cases h2
   | some a=>rw [e] at h2; cases h2; rfl
  obtain ⟨u,hu,rv⟩:=r.get ha
  have hp:ps[i]? = some y:=by
   rw [<- S.pre,List.getElem?_take_of_lt (by omega)]; exact h1
  have ndP:ps.Nodup:=by rw [<- S.pre]; exact S.nd.sublist (List.take_sublist _ _)
  refine ⟨u,rv,?_⟩
  rcases S.par y (Jal hp) with k | k
  ·exact .inl ⟨k,Zit ndP hp hu k⟩
  ·obtain ⟨c,e⟩:=Zkc (n:=s.heap.objs.size + 1) k
   refine .inr ⟨.inl k,c,e,?_⟩
   have q:=x.cell y c e
   rw [Ziv ndP hp hu (by show scope.names.lookup y ≠ _; rw [k]; decide)] at q
   exact q
 ·exact e0.hok.fresh (Jcb (x.above y c (Jbk h)))
 ·unfold Zec
  show _ = N.length
  rw [Jab,Jac,Jbl]
  omega
theorem fn_of {CX:CXT} {P:Program} {w:World} {K:PySem.W.Frag} {mg:Str->Option Value} {base:Heap} {k:Nat} {f:Addr} {name qual:Str} {params:Arguments} {body:List Stmt} {scope:Scope} {dV kV doc pm cdv ct oc:Value} {an od:Option Addr}
  {osl:Array (Option Value)} {N ps:List Str} {sp:Sp} (lk:K.lookup f = some ⟨oc,od,.func (PySem.W.fnOf name qual params body scope dV kV doc pm an cdv ct),osl⟩) (hcd:PySem.W.codeIn K cdv qual = true) (S:FnScope N ps scope)
  (len:∀ vs H Q E,sp vs H Q E->vs.length = ps.length)
  (hbody:∀ (A:Around) (outer:List Env) (s:Shared) (H:Hp) (vs:List V) (Q:VK) (E:XK),Room k (A.deeper (envOfC qual scope s.heap.objs.size f cdv))->sp vs H Q E->
   ∃ t,PSs (Zea CX P w K mg base N qual scope f cdv A outer s H E) body t/\t { nx:=fun _ H'=>Q .non H',rt:=Q } (Zec N vs) H):
  FnOk P w K mg base CX (k + 1) f (PySem.W.fnOf name qual params body scope dV kV doc pm an cdv ct) ps sp:=by
 refine ⟨len,fun A outer s H args us vs Q E hr e0 hb r hsp=>?_⟩
 have hl:=len _ _ _ _ hsp
 have KX:K.In s.heap:=e0.mod.kin.keeps fun b o e=>(e0.bs b o e).1
 have lim:s.heap.NoLimit:=e0.mod.nolimit.keeps fun b o e=>(e0.bs b o e).1
 have hkind:∀ y ∈ ps.zip us,scope.names.lookup y.1 = some .local\/(scope.names.lookup y.1 = some .cell/\((cellsFrom (s.heap.objs.size + 1) scope.names []).lookup y.1).isSome = true):=fun ⟨n,v⟩ hy=>by
  rcases S.par n (Jdf hy).1 with q | q
  ·exact .inl q
  ·exact .inr ⟨q,Jb9 _ _ _ (.inl q)⟩
 refine codeAny_call_function hr.depth (KX _ _ lk) rfl S.co S.gen rfl (PySem.W.codeRec_of KX hcd) (hb _ _ _ _ ?_)
 refine wpAny_newFunctionEnv_cells S.kind hkind fun env he s1 x=>?_
 subst he
 refine ⟨lim.keeps x.toInCall.keep,codeAny_func ?_⟩
 obtain ⟨t,ht,hq⟩:=hbody A outer s H vs Q E (hr.deeper _) hsp
 have I:Inv (Zea CX P w K mg base N qual scope f cdv A outer s H E) [] (Zec N vs) H s1:=Zij S hr.hd e0 hl r x
 refine Jbb (ht [] s1 (Zec N vs) H _ I hq) (fun fl s' hs=>?_) fun e s' hs=>hs
 have fin:∀ {σ':St} {H':Hp} {v:V} {u:Value},Inv (Zea CX P w K mg base N qual scope f cdv A outer s H E) [] σ' H' s'->RelV v u->Q v H'->CE outer P w H s Q u s':=
  fun {σ' H' v u} J rv q=>⟨v,H',J.os,J.bare,J.base,J.hok,rv,q⟩
 cases fl with
 | ret u=>
  obtain ⟨v,σ',H',J,rv,q⟩:=hs
  exact fin J rv q
 | next=>
  obtain ⟨σ',H',J,q⟩:=hs
  exact fin (v:=V.non) (u:=Value.none) J rfl q
 | brk=>
  obtain ⟨_,_,_,q⟩:=hs
  exact False.elim q
 | cont=>
  obtain ⟨_,_,_,q⟩:=hs
  exact False.elim q
section
variable {X:Cx} {x:Str} {p pos:Pos} {e:Expr} {es:List Expr} {t:TA} {id T:String} {r:List V->Hp->VK->Prop}
def tCB (r:List V->Hp->VK->Prop) (t:TA):TE:=fun σ H Q=>t σ H fun vs H1=>r vs H1 Q
theorem Zn4 (hc:Zdq X (.builtin id) r) (hg:Gl X x) (hm:X.mg x = none) (hv:bootBuiltins x = some (.builtin id)) (ha:PA X (e :: es) t) (hn:x ≠ "__name__" := by decide) (hdb:(x == ("__debug__" : Str)) = false:=by decide)
  (he:starEach (e :: es) X.env = (false,eval e X.env) :: starEach es X.env:=by rfl) (hpl:(backTo pos (starEach es X.env)).any (·.1) = false:=by rfl):PE X (.Call (.Name x p) (e :: es) [] pos) (tCB r t):=by
 intro pins s σ H Q I h
 refine Jch (Zg0 I hg hm hv ?_ hn hdb)
 exact PyProof.Rows.callWith_builtin1 (thn (ha pos pins s σ H _ I h) fun us s1 ⟨vs,H1,I1,r1,q1⟩=>hc pins s1 σ H1 vs us Q I1 r1 q1) he hpl
theorem Zl2 (hc:Zdq X (.type T) r) (hg:Gl X x) (hm:X.mg x = none) (hv:bootBuiltins x = some (.type T)) (ha:PA X (e :: es) t) (hn:x ≠ "__name__" := by decide) (hdb:(x == ("__debug__" : Str)) = false:=by decide)
  (he:starEach (e :: es) X.env = (false,eval e X.env) :: starEach es X.env:=by rfl) (hpl:(backTo pos (starEach es X.env)).any (·.1) = false:=by rfl):PE X (.Call (.Name x p) (e :: es) [] pos) (tCB r t):=by
 intro pins s σ H Q I h
 refine Jch (Zg0 I hg hm hv ?_ hn hdb)
 exact Jb7 (thn (ha pos pins s σ H _ I h) fun us s1 ⟨vs,H1,I1,r1,q1⟩=>hc pins s1 σ H1 vs us Q I1 r1 q1) he hpl
end
end L2
namespace HT
open PySem PyProof.Rows
section
open PySem.SeqAt
open PySem.AutoSeq1 (wpAny_loadPart')
open PySem.MeetsSeq PySem.MeetsSeq2 PySem.MeetsSeq3
end
section
variable {prog:Program} {w:World} {A:Around} {E:Value->Shared->Prop} {s:Shared}
def sIx (n d:Nat):Option Int->Nat
 | none=>d
 | some v=>if v < 0 then (v + (n:Int)).toNat else min v.toNat n
theorem sIx_le (n d:Nat) (hd:d<=n) (o:Option Int):sIx n d o<=n:=by
 cases o with
 | none=>exact hd
 | some v=>
  show (if v < 0 then (v + (n:Int)).toNat else min v.toNat n)<=n
  by_cases hv:v < 0
  ·rw [if_pos hv]; omega
  ·rw [if_neg hv]; exact Nat.min_le_right _ _
end
end HT
namespace L2
open PySem PySem.Spec PyProof.Rows
abbrev TO:=St->Hp->(Option Int->Hp->Prop)->Prop
def PO (X:Cx) (e:Option Expr) (t:TO):Prop:=
 ∀ (pins:List (Addr × Obj)) (s:Shared) (σ:St) (H:Hp) (Q:Option Int->Hp->Prop),Inv X pins σ H s->t σ H Q->
  wpAny (model X.prog X.w) X.A (evalPart e X.env) (fun u s'=>∃ o H',Inv X pins σ H' s'/\IsPart u o/\Q o H') X.xe s
def Zle:TO:=fun _ H Q=>Q none H
def tPart (t:TE):TO:=fun σ H Q=>t σ H fun x H1=>∃ i,x = .int i/\Q (some i) H1
section
variable {X:Cx} {e:Expr} {te:TE} {lo hi:Option Expr} {tl th:TO} {pos p2:Pos}
theorem Zb7:PO X none Zle:=by
 intro pins s σ H Q I h
 rw [evalPart_none]
 exact Ja5 ⟨none,H,I,.none,h⟩
theorem Zbi (h:PE X e te):PO X (some e) (tPart te):=by
 intro pins s σ H Q I hw
 rw [evalPart_some]
 refine thn (h pins s σ H _ I hw) fun u s1 ⟨x,H1,I1,r1,q1⟩=>?_
 obtain ⟨i,rfl,q⟩:=q1
 obtain ⟨t,rfl⟩:=r1
 exact ⟨some i,H1,I1,.int i t,q⟩
def SlR (X:Cx) (r:V->Option Int->Option Int->Hp->VK->Prop):Prop:=
 ∀ (pins:List (Addr × Obj)) (s:Shared) (σ:St) (H:Hp) (x:V) (v vl vu:Value) (lo hi:Option Int) (sl:Addr) (Q:VK),Inv X pins σ H s->RelV x v->s.heap.IsSliceOf sl vl vu .none->IsPart vl lo->IsPart vu hi->r x lo hi H Q->
  ∃ T id,typeLookup (.type T) "__getitem__" = pure (some (.builtin id))/\s.TypeIs v T/\wpAny (model X.prog X.w) X.A (getItem v (.ref sl)) (EP X pins σ Q) X.xe s
def tSl (r:V->Option Int->Option Int->Hp->VK->Prop) (te:TE) (tl th:TO):TE:=fun σ H Q=>te σ H fun x H1=>tl σ H1 fun l H2=>th σ H2 fun u H3=>r x l u H3 Q
theorem Za9 {r:V->Option Int->Option Int->Hp->VK->Prop} (hr:SlR X r) (he:PE X e te) (hl:PO X lo tl) (hu:PO X hi th):PE X (.Subscript e (.Slice lo hi none p2) pos) (tSl r te tl th):=by
 intro pins s σ H Q I h
 refine Subscript_ (thn (he pins s σ H _ I h) fun v s1 ⟨x,H1,I1,r1,q1⟩=>?_)
 refine wpAny_Slice (thn (hl pins s1 σ H1 _ I1 q1) fun vl s2 ⟨l,H2,I2,pl,q2⟩=>thn (hu pins s2 σ H2 _ I2 q2) fun vu s3 ⟨u,H3,I3,pu,q3⟩=>?_)
 rw [evalPart_none]
 refine Ja5 ?_
 have I4:Inv X pins σ H3 { s3 with heap:=s3.heap.push { cls:=.type "slice",data:=.fields #[vl,vu,.none] } }:=I3.kept (t':=s3.toks) fun b ob q=>Jad _ q
 obtain ⟨T,id,hT,ht,hg⟩:=hr pins { s3 with heap:=s3.heap.push { cls:=.type "slice",data:=.fields #[vl,vu,.none] } } σ H3 x v vl vu l u s3.heap.objs.size Q I4 r1 (Heap.IsSliceOf.new ..) pl pu q3
 show wpAny (model X.prog X.w) X.A (subscriptTail e (.Slice lo hi none p2) v (.ref s3.heap.objs.size)) (EP X pins σ Q) X.xe { s3 with heap:=s3.heap.push { cls:=.type "slice",data:=.fields #[vl,vu,.none] } }
 exact tail_any (ops:=[.ref s3.heap.objs.size,v]) ht hT hg (by with_unfolding_all rfl)
def Znh (xs:List V) (lo hi:Option Int):List V:=(xs.drop (HT.sIx xs.length 0 lo)).take (HT.sIx xs.length xs.length hi - HT.sIx xs.length 0 lo)
theorem Zjg (xs:List V) (lo hi:Option Int):(Znh xs lo hi).length<=xs.length:=by
 unfold Znh
 rw [Jbv,Jbg]
 omega
end
def ixN (n:Nat) (i:Int):Option Nat:=if 0<=i then (if i < n then some i.toNat else none) else if -(n:Int)<=i then some (i + n).toNat else none
def atI {α:Type} (xs:List α) (i:Int):Option α:=(ixN xs.length i).bind fun j=>xs[j]?
theorem Zmm {n:Nat} {i:Int} {j:Nat} (h:ixN n i = some j):seqIndex? i n = some j/\j < n/\-(n:Int)<=i/\i < n:=by
 unfold ixN at h
 by_cases h0:0<=i
 ·rw [if_pos h0] at h
  by_cases h1:i < n
  ·rw [if_pos h1] at h
   have e:i.toNat = j:=Ja3 h
   exact ⟨by rw [seqIndex_of h0 h1,e],by omega,by omega,h1⟩
  ·rw [if_neg h1] at h; cases h
 ·rw [if_neg h0] at h
  by_cases h1:-(n:Int)<=i
  ·rw [if_pos h1] at h
   have e:(i + n).toNat = j:=Ja3 h
   exact ⟨by rw [seqIndex_neg (by omega) h1,e],by omega,h1,by omega⟩
  ·rw [if_neg h1] at h; cases h
theorem Zjl {α:Type} {xs:List α} {i:Int} {v:α} (h:atI xs i = some v):∃ j,seqIndex? i xs.length = some j/\xs[j]? = some v/\j < xs.length/\-(xs.length:Int)<=i/\i < xs.length:=by
 unfold atI at h
 cases e:ixN xs.length i with
 | none=>rw [e] at h; cases h
 | some j=>
  rw [e] at h
  obtain ⟨h1,h2,h3,h4⟩:=Zmm e
  exact ⟨j,h1,h,h2,h3,h4⟩
theorem atI_nat {α:Type} {xs:List α} {j:Nat} {v:α} (h:xs[j]? = some v):atI xs (j:Int) = some v:=by
 have hj:j < xs.length:=(Jat.mp h).1
 have e:ixN xs.length (j:Int) = some j:=by
  unfold ixN
  rw [if_pos (by omega),if_pos (by omega)]; simp
 unfold atI; rw [e]; exact h
def PlainIx (b:Expr):Prop:=∀ o i,subscripted b false o i = operate [o,i] (getItem o i)
def IxR (X:Cx) (r:R2):Prop:=
 ∀ (value slice:Expr) (pins:List (Addr × Obj)) (s:Shared) (σ:St) (H:Hp) (x y:V) (v u:Value) (Q:VK),Inv X pins σ H s->RelV x v->RelV y u->r x y H Q->
  subscripted slice false v u = operate [v,u] (getItem v u)->wpAny (model X.prog X.w) X.A (subscriptTail value slice v u) (EP X pins σ Q) X.xe s
def MtR (X:Cx) (id:String) (r:V->List V->Hp->VK->Prop):Prop:=
 ∀ (pins:List (Addr × Obj)) (s:Shared) (σ:St) (H:Hp) (x:V) (xs:List V) (v:Value) (us:List Value) (Q:VK),Inv X pins σ H s->RelV x v->Vals xs us->r x xs H Q->
  wpAny (model X.prog X.w) X.A (call (.builtin id) (v :: us)) (EP X pins σ Q) X.xe s
section
variable {X:Cx} {a b:Expr} {ta tb:TE} {pos:Pos}
theorem pe_ix {r:R2} (hr:IxR X r) (ha:PE X a ta) (hb:PE X b tb) (hs:PlainIx b):PE X (.Subscript a b pos) (tOp r ta tb):=by
 intro pins s σ H Q I h
 exact Subscript_ (binT ha hb I h fun v u s2 x y H2 I2 rx ry q=>hr a b pins s2 σ H2 x y v u Q I2 rx ry q (hs _ _))
def rIxL (K:PySem.W.Frag):R2:=fun x y H Q=>∃ p xs i v,x = .ref p/\y = .int i/\SqL K H p xs/\atI xs i = some v/\Q v H
def rIxT (K:PySem.W.Frag):R2:=fun x y H Q=>∃ p xs i v,x = .ref p/\y = .int i/\SqT K H p xs/\atI xs i = some v/\Q v H
def rIxS:R2:=fun x y H Q=>∃ z i c,x = .str z/\y = .int i/\z.length<=sizeLine/\atI z.cps.toList i = some c/\Q (.str ⟨#[c]⟩) H
theorem Zaw:IxR X (rIxL X.K):=by
 intro value slice pins s σ H x y v u Q I rx ry h hs
 obtain ⟨p,xs,i,z,rfl,rfl,hq,he,q⟩:=h
 cases rx
 obtain ⟨t,rfl⟩:=ry
 obtain ⟨its,r,pl,hz⟩:=I.list hq
 obtain ⟨j,h1,h2,h3,h4,h5⟩:=Zjl he
 obtain ⟨w,ew,rw'⟩:=r.get h2
 have hl:=r.length
 have hn:=Zgz
 have fin:EP X pins σ Q w s:=⟨z,H,I,rw',q⟩
 by_cases h0:0<=i
 ·have hj:i.toNat = j:=by
   rw [seqIndex_of h0 h5] at h1
   exact Ja3 h1
  exact item_listR pl.isList h0 (by omega) (by rw [hj]; simpa using ew) fin hs
 ·have hj:(i + (its.toArray.size:Int)).toNat = j:=by
   rw [seqIndex_neg (by omega) h4] at h1
   rw [Jam,<- hl]
   exact Ja3 h1
  exact subscriptTail_builtinR (x:=w) pl.isList.typeIs Jd3.lookup
   (wpAny_getItem_list_neg (Q:=fun r s'=>r = w/\EP X pins σ Q r s') pl.isList (by omega) (by rw [Jam] <;> omega) (by omega) (by rw [hj]; simpa using ew) ⟨rfl,fin⟩) hs
theorem Zbx:IxR X (rIxT X.K):=by
 intro value slice pins s σ H x y v u Q I rx ry h hs
 obtain ⟨p,xs,i,z,rfl,rfl,hq,he,q⟩:=h
 cases rx
 obtain ⟨t,rfl⟩:=ry
 obtain ⟨its,r,pl,hz⟩:=I.tuple hq
 obtain ⟨j,h1,h2,h3,h4,h5⟩:=Zjl he
 obtain ⟨w,ew,rw'⟩:=r.get h2
 have hl:=r.length
 have hn:=Zgz
 have fin:EP X pins σ Q w s:=⟨z,H,I,rw',q⟩
 exact subscriptTail_builtinR (x:=w) pl.typeIs slot_tuple_getitem.lookup
  (getItem_tuple (j:=j) (Q:=fun r s'=>r = w/\EP X pins σ Q r s') pl (by omega) (by omega) (by rw [Jam,<- hl]; exact h1) (by simpa using ew) ⟨rfl,fin⟩) hs
theorem Zml:IxR X rIxS:=by
 intro value slice pins s σ H x y v u Q I rx ry h hs
 obtain ⟨z,i,c,rfl,rfl,hz,he,q⟩:=h
 obtain ⟨t,rfl⟩:=rx
 obtain ⟨t',rfl⟩:=ry
 obtain ⟨j,h1,h2,h3,h4,h5⟩:=Zjl he
 have hl:z.cps.toList.length = z.length:=by simp [Str.length]
 rw [hl] at h1 h4 h5
 have hn:=Zgz
 exact tail_any (Jcp s z t) slot_str_getitem.lookup (getItem_str (c:=c) (by
  have e1:decide (i < -(2 ^ 63:Int)) = false:=Jak (by omega)
  have e2:decide (i >= 2 ^ 63) = false:=Jak (by omega)
  rw [e1,e2,Bool.or_false]) (by rw [h1]; simpa using h2) ⟨.str ⟨#[c]⟩,H,I.tok _,⟨_,rfl⟩,q⟩) hs
theorem Zkr (its:List Value) (n j:Nat) (u:Value):Obj.mapSeq (·.setIfInBounds j u) { cls:=.type "list",data:=.seq its.toArray n } = { cls:=.type "list",data:=.seq (its.set j u).toArray n }:=by
 simp [Obj.mapSeq]
theorem Inv.lst {pins:List (Addr × Obj)} {σ:St} {H:Hp} {s:Shared} {p:Addr} {xs:List V} (I:Inv X pins σ H s) (h:H p = some (.lst xs)):
  ∃ (its:List Value) (n:Nat),Vals xs its/\s.heap.get? p = some { cls:=.type "list",data:=.seq its.toArray n }/\xs.length<=sizeLine:=by
 obtain ⟨z,its,n,r,e⟩:=I.hok p _ h
 exact ⟨its,n,r,e,z⟩
theorem Inv.lstUpd {pins:List (Addr × Obj)} {σ:St} {H:Hp} {s:Shared} {p:Addr} {xs ys:List V} {its its':List Value} {n n':Nat} {f:Obj->Obj} (I:Inv X pins σ H s) (h:H p = some (.lst xs))
  (ho:s.heap.get? p = some { cls:=.type "list",data:=.seq its.toArray n }) (hf:f { cls:=.type "list",data:=.seq its.toArray n } = { cls:=.type "list",data:=.seq its'.toArray n' }) (r:Vals ys its') (hz:ys.length<=sizeLine) (t:Nat):
  Inv X pins σ (upd H p (.lst ys)) { s with heap:=s.heap.update p f,toks:=t }:=by
 have e:(s.heap.update p f).get? p = some { cls:=.type "list",data:=.seq its'.toArray n' }:=by
  rw [Jc5 f ho (by rw [hf] <;> rfl),hf]
 refine I.write (x:=p) (e:=p) (by rw [h]; trivial) (.inl rfl) (fun b u hb q=>(Jbs _ _ (Jdx hb)).trans q) ⟨_,e⟩ ?_
 exact ⟨hz,its',n',r,e⟩
def rSetL:V->V->V->Hp->(Hp->Prop)->Prop:=fun o i v H Q=>∃ p xs k j,o = .ref p/\i = .int k/\H p = some (.lst xs)/\ixN xs.length k = some j/\Q (upd H p (.lst (xs.set j v)))
theorem Zfm:PSet X rSetL:=by
 intro pins s σ H o i v ov iv u Q I ro ri rv h
 obtain ⟨p,xs,k,j,rfl,rfl,hp,hj,q⟩:=h
 cases ro
 obtain ⟨t,rfl⟩:=ri
 obtain ⟨its,n,r,ho,hz⟩:=I.lst hp
 obtain ⟨h1,h2,h3,h4⟩:=Zmm hj
 have hl:=r.length
 have hn:=Zgz
 have I':Inv X pins σ (upd H p (.lst (xs.set j v))) { s with heap:=s.heap.update p (Obj.mapSeq (·.setIfInBounds j u)) }:=
  I.lstUpd hp ho (Zkr its n j u) (r.set rv j) (by rw [Jct]; exact hz) s.toks
 by_cases h0:0<=k
 ·have hk:k.toNat = j:=by
   rw [seqIndex_of h0 h4] at h1
   exact Ja3 h1
  exact PySem.W.ki_setAt ho h0 (by omega) (by rw [Jam,<- hl]; exact h4) (by rw [hk]; exact ⟨_,I',q⟩)
 ·have hk:(k + (its.toArray.size:Int)).toNat = j:=by
   rw [seqIndex_neg (by omega) h3] at h1
   rw [Jam,<- hl]
   exact Ja3 h1
  exact PySem.W.ki_setBack ho (by omega) (by rw [Jam,<- hl]; exact h3) (by omega) (by rw [hk]; exact ⟨_,I',q⟩)
theorem Zh4 (lo hi:Option Int) (n:Nat):(sliceBounds lo hi none n).1 = ((HT.sIx n 0 lo:Nat):Int)/\(sliceBounds lo hi none n).2.1 = ((HT.sIx n n hi:Nat):Int)/\(sliceBounds lo hi none n).2.2 = 1:=by
 refine ⟨?_,?_,rfl⟩
 ·cases lo with
  | none=>simp [sliceBounds,HT.sIx]
  | some i=>
   simp only [sliceBounds,HT.sIx,Option.getD_none,show (1:Int) > 0 by decide,if_true]
   by_cases h:i < 0
   ·simp only [h,if_true] <;> omega
   ·simp only [h,if_false] <;> omega
 ·cases hi with
  | none=>simp [sliceBounds,HT.sIx]
  | some i=>
   simp only [sliceBounds,HT.sIx,Option.getD_none,show (1:Int) > 0 by decide,if_true]
   by_cases h:i < 0
   ·simp only [h,if_true] <;> omega
   ·simp only [h,if_false] <;> omega
theorem Zg9 (its:List Value) (lo hi:Option Int):slicePick its.toArray lo hi none = ((its.drop (HT.sIx its.length 0 lo)).take (HT.sIx its.length its.length hi - HT.sIx its.length 0 lo)).toArray:=by
 obtain ⟨h1,h2,h3⟩:=Zh4 lo hi its.toArray.size
 unfold slicePick
 rw [h1,h2,h3]
 simp only [sliceRange_one,pick_run,List.size_toArray] <;> rfl
def rSlL (K:PySem.W.Frag):V->Option Int->Option Int->Hp->VK->Prop:=fun x lo hi H Q=>∃ a xs,x = .ref a/\SqL K H a xs/\∀ p,H p = none->Q (.ref p) (upd H p (.lst (Znh xs lo hi)))
theorem Zi4:SlR X (rSlL X.K):=by
 intro pins s σ H x v vl vu lo hi sl Q I rx hs pl pu h
 obtain ⟨a,xs,rfl,hx,q⟩:=h
 cases rx
 obtain ⟨its,r,ht,hz⟩:=I.list hx
 have hlen:=r.length
 refine ⟨"list",_,Jd3.lookup,ht.isList.typeIs,?_⟩
 refine wpAny_getItem_list_slice ht.isList hs pl pu .none (by simp) ?_ (by rw [Jam] <;> omega)
 rw [Zg9,<- hlen]
 refine ⟨.ref s.heap.objs.size,_,I.laid (t':=s.toks) (o:=.lst (Znh xs lo hi)) (fun b ob q=>Jad _ q) (Jae _) ?_,rfl,q _ (I.hok.fresh (Jae _))⟩
 exact ⟨Jbw (Zjg xs lo hi) hz,_,0,(r.drop (HT.sIx xs.length 0 lo)).take (HT.sIx xs.length xs.length hi - HT.sIx xs.length 0 lo),Jaq _ rfl⟩
def Zkz:V->Bool
 | .non=>true
 | .bl _=>true
 | .int _=>true
 | .str _=>true
 | _=>false
def eqV:V->V->Bool
 | .non,.non=>true
 | .bl a,.bl b=>a == b
 | .bl a,.int b=>(if a then 1 else 0) == b
 | .int a,.bl b=>a == (if b then 1 else 0)
 | .int a,.int b=>a == b
 | .str a,.str b=>a == b
 | _,_=>false
theorem Zph {A:Around} {s:Shared} {y x:V} {u v:Value} (ry:RelV y u) (rx:RelV x v) (fy:Zkz y = true) (fx:Zkz x = true):SeqAt.EqAt A s u v (eqV y x):=by
 cases y with
 | non=>
  cases ry
  cases x with
  | non=>cases rx; exact SeqAt.EqAt.same _
  | bl b=>cases rx; exact SeqAt.EqAt.none_bool b
  | int b=>obtain ⟨t,rfl⟩:=rx; exact SeqAt.EqAt.none_int b t
  | str b=>obtain ⟨t,rfl⟩:=rx; exact SeqAt.EqAt.none_str b t
  | _=>exact absurd (show false = true from fx) Jao
 | bl a=>
  cases ry
  cases x with
  | non=>cases rx; exact SeqAt.EqAt.bool_none a
  | bl b=>cases rx; exact SeqAt.EqAt.bool_bool a b
  | int b=>obtain ⟨t,rfl⟩:=rx; exact SeqAt.EqAt.bool_int a b t
  | str b=>obtain ⟨t,rfl⟩:=rx; exact SeqAt.EqAt.bool_str a b t
  | _=>exact absurd (show false = true from fx) Jao
 | int a=>
  obtain ⟨t',rfl⟩:=ry
  cases x with
  | non=>cases rx; exact SeqAt.EqAt.int_none a t'
  | bl b=>cases rx; exact SeqAt.EqAt.int_bool a t' b
  | int b=>obtain ⟨t,rfl⟩:=rx; exact SeqAt.EqAt.int_int a t' b t
  | str b=>obtain ⟨t,rfl⟩:=rx; exact SeqAt.EqAt.int_str a t' b t
  | _=>exact absurd (show false = true from fx) Jao
 | str a=>
  obtain ⟨t',rfl⟩:=ry
  cases x with
  | non=>cases rx; exact SeqAt.EqAt.str_none a t'
  | bl b=>cases rx; exact SeqAt.EqAt.str_bool a t' b
  | int b=>obtain ⟨t,rfl⟩:=rx; exact SeqAt.EqAt.str_int a t' b t
  | str b=>obtain ⟨t,rfl⟩:=rx; exact SeqAt.EqAt.str_str a t' b t
  | _=>exact absurd (show false = true from fx) Jao
 | _=>exact absurd (show false = true from fy) Jao
def inV (x:V) (xs:List V):Bool:=xs.any fun y=>eqV y x
def rIn (K:PySem.W.Frag) (neg:Bool):R2:=fun x y H Q=>∃ p xs,y = .ref p/\(SqL K H p xs\/SqT K H p xs)/\Zkz x = true/\xs.all Zkz = true/\Q (.bl (if neg then !inV x xs else inV x xs)) H
theorem Zcb:Zdq X (.builtin "len") (fun xs H Q=>∃ p ys,xs = [.ref p]/\(SqL X.K H p ys\/SqT X.K H p ys)/\Q (.int ys.length) H):=by
 intro pins s σ H xs us Q I r h
 obtain ⟨p,ys,rfl,hq,q⟩:=h
 obtain ⟨u,rfl,rx⟩:=Zg3 r
 cases rx
 have hn:=Zgz
 rcases hq with hq | hq
 ·obtain ⟨its,r',pl,hz⟩:=I.list hq
  have hlen:=r'.length
  exact Calls.call_len_list pl.isList (by simp only [List.size_toArray] <;> omega) ⟨.int ys.length,H,I.tok _,⟨s.toks + 1,by rw [Jam,hlen]⟩,q⟩
 ·obtain ⟨its,r',pl,hz⟩:=I.tuple hq
  have hlen:=r'.length
  exact len_tuple pl (by simp only [List.size_toArray] <;> omega) ⟨.int ys.length,H,I.tok _,⟨s.toks + 1,by rw [Jam,hlen]⟩,q⟩
theorem Zca:Zdq X (.builtin "len") (fun xs H Q=>∃ z,xs = [.str z]/\z.length<=sizeLine/\Q (.int z.length) H):=by
 intro pins s σ H xs us Q I r h
 obtain ⟨z,rfl,hz,q⟩:=h
 obtain ⟨u,rfl,t,rfl⟩:=Zg3 r
 have hn:=Zgz
 exact len_str (by omega) ⟨.int z.length,H,I.tok _,⟨_,rfl⟩,q⟩
theorem Zfe:Zdq X (.type "list") (fun xs H Q=>∃ p ys,xs = [.ref p]/\(SqL X.K H p ys\/SqT X.K H p ys)/\∀ l,H l = none->Q (.ref l) (upd H l (.lst ys))):=by
 intro pins s σ H xs us Q I r h
 obtain ⟨p,ys,rfl,hq,q⟩:=h
 obtain ⟨u,rfl,rx⟩:=Zg3 r
 cases rx
 have fin:∀ (its:List Value),Vals ys its->ys.length<=sizeLine->∀ (h':Heap) (c':Nat),(∀ b o',s.heap.get? b = some o'->h'.get? b = some o')->
   h'.get? s.heap.objs.size = some { cls:=.type "list",dict:=none,data:=.seq its.toArray c',slots:=#[] }->EP X pins σ Q (.ref s.heap.objs.size) { s with heap:=h' }:=fun its r' hz h' c' kp e=>
  ⟨.ref s.heap.objs.size,_,I.laid (t':=s.toks) kp (Jae _) (show ObjOk X.prog X.w _ h' _ (.lst ys) from ⟨hz,its,c',r',e⟩),rfl,q _ (I.hok.fresh (Jae _))⟩
 rcases hq with hq | hq
 ·obtain ⟨its,r',pl,hz⟩:=I.list hq
  have hlen:=r'.length
  obtain ⟨o,ho,hc,n,hd⟩:=pl.isList
  exact call_list_seq p (.inl rfl) ho hc hd (fun h' c' kp e=>fin its r' hz h' c' kp e) (by simp only [List.size_toArray] <;> omega)
 ·obtain ⟨its,r',pl,hz⟩:=I.tuple hq
  have hlen:=r'.length
  obtain ⟨o,ho,hc,n,hd⟩:=pl
  exact call_list_seq p (.inr rfl) ho hc hd (fun h' c' kp e=>fin its r' hz h' c' kp e) (by simp only [List.size_toArray] <;> omega)
def tyV (K:PySem.W.Frag) (T:String) (x:V) (H:Hp):Prop:=match x with
 | .str _=>T = "str"
 | .int _=>T = "int"
 | .ref p=>(T = "list" /\ ∃ xs,SqL K H p xs)\/(T = "tuple" /\ ∃ o,K.lookup p = some o/\o.cls = .type "tuple" /\ o.dict = none) \/
   (T = "dict" /\ ((∃ kvs,H p = some (.dK kvs))\/∃ kvs,H p = some (.dT kvs)))\/(T = "set" /\ ∃ S n,H p = some (.set S n))
 | _=>False
theorem tyV_is {pins:List (Addr × Obj)} {σ:St} {H:Hp} {s:Shared} {T:String} {x:V} {v:Value} (I:Inv X pins σ H s) (r:RelV x v) (ty:tyV X.K T x H):
  s.TypeIs v T/\∀ a,v = .ref a->∃ ob,s.heap.get? a = some ob/\ob.dict = none:=by
 cases x with
 | str z=>
  obtain ⟨t,rfl⟩:=r
  cases (show T = "str" from ty)
  exact ⟨Jcp s z t,fun _ e=>nomatch e⟩
 | int i=>
  obtain ⟨t,rfl⟩:=r
  cases (show T = "int" from ty)
  exact ⟨typeIs_int s i t,fun _ e=>nomatch e⟩
 | ref p=>
  cases r
  rcases ty with ⟨rfl,xs,hq⟩ | ⟨rfl,o,hk,hc,hd⟩ | ⟨rfl,hk⟩ | ⟨rfl,S,n,hk⟩
  ·obtain ⟨its,_,pl,_⟩:=I.list hq
   refine ⟨pl.isList.typeIs,fun a e=>?_⟩
   cases e
   obtain ⟨o,n,e,c,hd,_⟩:=pl
   exact ⟨o,e,hd⟩
  ·refine ⟨⟨o,I.kIn p o hk,hc⟩,fun a e=>?_⟩
   cases e
   exact ⟨o,I.kIn _ o hk,hd⟩
  ·have z:∃ o,s.heap.get? p = some o/\o.ExactDict:=by
    rcases hk with ⟨kvs,hk⟩ | ⟨kvs,hk⟩
    ·obtain ⟨_,_,_,_,o,_,_,e,ex,_⟩:=I.hok p _ hk
     exact ⟨o,e,ex⟩
    ·obtain ⟨_,_,_,_,o,_,_,e,ex,_⟩:=I.hok p _ hk
     exact ⟨o,e,ex⟩
   obtain ⟨o,e,ex⟩:=z
   refine ⟨⟨o,e,ex.1⟩,fun a e2=>?_⟩
   cases e2
   exact ⟨o,e,ex.2.1⟩
  ·obtain ⟨o,_,_,_,e,ex,_⟩:=I.hok p _ hk
   refine ⟨⟨o,e,ex.1⟩,fun a e2=>?_⟩
   cases e2
   exact ⟨o,e,ex.2.1⟩
 | _=>exact False.elim ty
def tBM0 (K:PySem.W.Frag) (T:String) (r:V->List V->Hp->VK->Prop) (to:TE):TE:=fun σ H Q=>to σ H fun x H1=>tyV K T x H1/\r x [] H1 Q
def tBM (K:PySem.W.Frag) (T:String) (r:V->List V->Hp->VK->Prop) (to:TE) (t:TA):TE:=fun σ H Q=>to σ H fun x H1=>tyV K T x H1/\t σ H1 fun xs H2=>r x xs H2 Q
variable {o e:Expr} {es:List Expr} {to:TE} {t:TA} {name:Str} {apos cpos:Pos} {T id:String} {r:V->List V->Hp->VK->Prop}
theorem Zdp (pa:PlainAttrs T) (slot:Slot T name id) (hty:typeOf (.builtin id) = pure (.type "method_descriptor")) (hm:MtR X id r) (ho:PE X o to) (ha:PA X (e :: es) t)
  (hbase:attributeBase o name X.env (eval o X.env) = eval o X.env:=by rfl)
  (hfew:((backTo cpos (starEach (e :: es) X.env)).all (fun x=>!x.1) && (backToKw cpos (keywordEach [] X.env)).all (fun x=>x.1.isSome)
   && decide ((e :: es).length + ([]:List Keyword).length + (if ([]:List Keyword).isEmpty then 0 else 1) < 30)) = true:=by rfl)
  (hline:(apos.endLine == cpos.line) = true:=by rfl) (hs:starEach (e :: es) X.env = (false,eval e X.env) :: starEach es X.env:=by rfl) (hplain:(backTo cpos (starEach es X.env)).any (·.1) = false:=by rfl):
  PE X (.Call (.Attribute o name apos) (e :: es) [] cpos) (tBM X.K T r to t):=by
 intro pins s σ H Q I h
 refine wpAny_Call_method_late hbase hfew hline rfl (thn (ho pins s σ H _ I h) fun v s1 ⟨x,H1,I1,r1,ty,q1⟩=>?_)
 obtain ⟨h1,h2⟩:=tyV_is I1 r1 ty
 refine ⟨T,id,pa,slot,hty,h1,h2,?_⟩
 have hA:=ha cpos pins s1 σ H1 _ I1 q1
 rw [hs] at hA ⊢
 refine Calls.callWith_builtin (by show (false || (backTo cpos (starEach es X.env)).any (·.1)) = false; rw [hplain] <;> rfl) (Calls.evalArgs_plain ?_)
 exact thn hA fun us s2 ⟨vs,H2,I2,r2,q2⟩=>hm pins s2 σ H2 x vs v us Q I2 r1 r2 q2
end
def MtM (X:Cx) (id:String) (r:V->List V->Hp->VK->Prop):Prop:=
 ∀ (pins:List (Addr × Obj)) (s:Shared) (σ:St) (H:Hp) (x:V) (xs:List V) (v:Value) (us:List Value) (Q:VK),Inv X pins σ H s->RelV x v->Vals xs us->r x xs H Q->
  wpAny (model X.prog X.w) X.A (call (.builtin id) (v :: us)) (EP X pins σ Q) X.xe s
theorem Vals.one:∀ {x:V} {us:List Value},Vals [x] us->∃ u,us = [u]/\RelV x u
 | _,_,.cons r .nil=>⟨_,rfl,r⟩
theorem Vals.reverse {xs:List V} {us:List Value} (h:Vals xs us):Vals xs.reverse us.reverse:=by
 induction h with
 | nil=>exact .nil
 | cons r t ih=>rw [List.reverse_cons,List.reverse_cons]; exact Vals.append ih (.cons r .nil)
section
variable {X:Cx} {pins:List (Addr × Obj)} {σ:St} {H:Hp} {s:Shared} {l b:Addr} {xs ys zs:List V}
theorem Inv.lset {its its':List Value} {n:Nat} {f:Array Value->Array Value} {t':Nat} (I:Inv X pins σ H s) (hH:H l = some (.lst xs))
  (e:s.heap.get? l = some { cls:=.type "list",data:=.seq its.toArray n }) (hf:f its.toArray = its'.toArray) (hv:Vals ys its') (hz:ys.length<=sizeLine):
  Inv X pins σ (upd H l (.lst ys)) { s with heap:=s.heap.update l (Obj.mapSeq f),toks:=t' }:=by
 have q:=PySem.IsL.update e f
 rw [hf] at q
 refine I.write (x:=l) (e:=l) (by rw [hH]; exact trivial) (.inl rfl) (fun b' u hb hu=>(Jbs s.heap (Obj.mapSeq f) (Jdx hb)).trans hu) ⟨_,q⟩ ?_
 exact ⟨hz,its',_,hv,q⟩
theorem Inv.lnew {its:List Value} {t':Nat} (I:Inv X pins σ H s) (hv:Vals ys its) (hz:ys.length<=sizeLine):
  Inv X pins σ (upd H s.heap.objs.size (.lst ys)) { s with heap:=s.heap.push { cls:=.type "list",data:=.seq its.toArray },toks:=t' }:=
 I.laid (fun _ _ q=>Jad _ q) (Jae _) ⟨hz,its,0,hv,Jaq _ rfl⟩
theorem Inv.fresh (I:Inv X pins σ H s):H s.heap.objs.size = none:=I.hok.fresh (Jae _)
theorem Inv.lstM (I:Inv X pins σ H s) (hH:H l = some (.lst xs)):xs.length<=sizeLine/\∃ (its:List Value) (n:Nat),Vals xs its/\xs.length = its.length/\s.heap.get? l = some { cls:=.type "list",data:=.seq its.toArray n }:=by
 obtain ⟨z,its,n,r,e⟩:=I.hok l _ hH
 exact ⟨z,its,n,r,r.length,e⟩
theorem Zoe {n:Nat} (h:n<=sizeLine):Builtin.List.listTooLong n = false:=by
 unfold Builtin.List.listTooLong
 exact Jak (by omega)
end
section
variable {X:Cx}
def Zls:V->List V->Hp->VK->Prop:=fun x vs H Q=>∃ l xs y,x = .ref l/\vs = [y]/\H l = some (.lst xs)/\xs.length < sizeLine/\Q .non (upd H l (.lst (xs ++ [y])))
theorem Zct:MtM X "list.append" Zls:=by
 intro pins s σ H x vs v us Q I rx rv h
 obtain ⟨l,xs,y,rfl,rfl,hH,hz,q⟩:=h
 cases rx
 obtain ⟨u,rfl,ru⟩:=rv.one
 obtain ⟨z,its,n,r,hl,e⟩:=I.lstM hH
 refine Jdd F.slot_list_append ⟨_,e,rfl⟩ F.entry_list_append (F.args_list_append_2 _ _) (PySem.list_append l its.toArray n u (by rw [Jam]; omega)) ⟨e,?_⟩
 refine ⟨.non,_,I.lset (its':=its ++ [u]) hH e (by simp) (r.append (.cons ru .nil)) ?_,rfl,q⟩
 rw [Jab,List.length_singleton]
 omega
def rExtend:V->List V->Hp->VK->Prop:=fun x vs H Q=>∃ l b xs zs,x = .ref l/\vs = [.ref b]/\H l = some (.lst xs)/\H b = some (.lst zs)/\xs.length + zs.length<=sizeLine/\Q .non (upd H l (.lst (xs ++ zs)))
theorem mt_extend:MtM X "list.extend" rExtend:=by
 intro pins s σ H x vs v us Q I rx rv h
 obtain ⟨l,b,xs,zs,rfl,rfl,hH,hB,hz,q⟩:=h
 cases rx
 obtain ⟨u,rfl,ru⟩:=rv.one
 cases ru
 obtain ⟨z,its,n,r,hl,e⟩:=I.lstM hH
 obtain ⟨z2,its2,n2,r2,hl2,e2⟩:=I.lstM hB
 have hsz:its.toArray.size + its2.toArray.size<=sizeLine:=by rw [Jam,Jam]; omega
 have hlong:¬ (!its.toArray.isEmpty && Builtin.List.listTooLong (its.toArray.size + its2.toArray.size)) = true:=by
  rw [Zoe hsz,Jcd]
  exact Jao
 refine Jdd F.slot_list_extend ⟨_,e,rfl⟩ F.entry_list_extend (F.args_list_extend_2 _ _)
  (AutoSeq1.list_extend_list_list_0 l its.toArray n b its2.toArray n2 hlong (by rw [Jam]; omega) (by omega)) ⟨e,e2,?_⟩
 refine ⟨.non,_,I.lset (its':=its ++ its2) hH e (by simp) (r.append r2) ?_,rfl,q⟩
 rw [Jab]
 omega
def rCat:R2:=fun x y H Q=>∃ l b xs zs,x = .ref l/\y = .ref b/\H l = some (.lst xs)/\H b = some (.lst zs)/\xs.length + zs.length<=sizeLine/\∀ p,H p = none->Q (.ref p) (upd H p (.lst (xs ++ zs)))
theorem Zib:OpR X (binaryOp .Add) rCat:=by
 intro pins s σ H x y v u Q I rx ry h
 obtain ⟨l,b,xs,zs,rfl,rfl,hH,hB,hz,q⟩:=h
 cases rx
 cases ry
 obtain ⟨z,its,n,r,hl,e⟩:=I.lstM hH
 obtain ⟨z2,its2,n2,r2,hl2,e2⟩:=I.lstM hB
 refine PySem.P.add_list e e2 ?_ (by rw [Jam,Jam]; omega)
 have ea:its.toArray ++ its2.toArray = (its ++ its2).toArray:=by simp
 rw [ea]
 exact ⟨.ref _,_,I.lnew (t':=s.toks) (r.append r2) (by rw [Jab]; omega),rfl,q _ I.fresh⟩
end
section
variable {prog:Program} {w:World} {A:Around} {E:Value->Shared->Prop} {s:Shared}
end
section
variable {X:Cx}
end
end L2
namespace Att
open PySem PySem.W PySem.Calls PyProof.Rows
theorem Zgf {P:Params} {h:Heap}:∀ (ns:List Int) (vs:List Value),WellAll P h vs (ns.map WData.int)->IntsAre vs ns:=by
 intro ns
 induction ns with
 | nil=>
  intro vs w
  rw [List.map_nil] at w
  cases w
  exact .nil
 | cons n ns ih=>
  intro vs w
  rw [Jcf] at w
  cases w with
  | cons a b=>
   cases a
   exact .cons _ _ (ih _ b)
theorem Zlo {l:OpenLaw} {n:Nat} (hn:l.most = some n) {P:Params} {h:Heap} {args:List WData} {vals:List Value}
  (hpre:l.row.toRowW.claim.pre args = true) (hwl:WellAll P h vals args):
  ∃ a vs ns,vals = [Value.ref a]/\args = [WData.list (ns.map WData.int)]/\h.get? a = some { cls:=.type "list",data:=.seq vs.toArray }/\IntsAre vs ns/\ns.length<=n:=by
 have hsh:WShape.hasAll [] args [.list .int] = true:=(pre_splitW hpre).1
 have hc:l.pre.holds [] { args:=args } = true:=(pre_splitW hpre).2
 obtain ⟨d,r,rfl,h1,h2⟩:=hasAllW_cons hsh
 obtain rfl:=hasAllW_nil h2
 obtain ⟨xs,rfl,h3⟩:=hasW_list h1
 obtain ⟨ns,rfl⟩:=items_int h3
 have hlen:ns.length<=n:=by
  unfold OpenLaw.pre at hc
  have h4:(WTm.not (.lt (.lit (.int (n:Int))) (.len (.arg 0)))).holds [] { args:=[.list (ns.map .int)] } = true:=by
   have h4:=(holds_andW hc).1
   rw [hn] at h4
   exact h4
  have h5:=condW_of h4 (w_not (w_lt w_lit (w_len_list (w_arg rfl))))
  rw [Jac] at h5
  refine Nat.le_of_not_lt fun q=>?_
  have q':(n:Int) < ((ns.length:Nat):Int):=by omega
  first
   | (rw [Jag q'] at h5; exact absurd h5 (by decide))
   | (simp at h5; omega)
 cases hwl with
 | cons w1 w2=>
  cases w2
  cases w1 with
  | list ho hall=>exact ⟨_,_,ns,rfl,rfl,ho,Zgf ns _ hall,hlen⟩
theorem Zlw (l:OpenLaw) (args:List WData):l.row.toRowW.claim.post args (.bool true) args = true:=
 postW_of (r:=l.row.toRowW) (X:=(true == true))
  (show WShape.has [] (.bool true) .bool = true by first | rfl | decide | simp [WShape.has,WShape.arms,WShape.armsAll])
  (show (WTm.eq .res (.lit (.bool true))).value [] { args:=args,res:=some (.bool true),after:=args } = some (.bool (true == true)) from w_eq_bool (w_res rfl) w_lit) rfl
theorem attach_call {l:OpenLaw} {n:Nat} {q:Program} {loose:List Str} {XP:(Str->Option Value)->Heap->Prop} {YP:World->Heap->Prop} {d:DefRec}
  (hn:l.most = some n) (hdf:d.params.defaults = [])
  (call:∀ (w:World) (s₀ s₁:Shared) (mg mb:Str->Option Value) (fa:Addr) (o:Obj) (pm cd doc:Value) (a:Addr) (vs:List Value) (ns:List Int),
   Ground q loose [] XP w s₀ mg mb s₁.heap->YP w s₁.heap->
   s₁.heap.get? fa = some o->o.data = .func (docDef d.name d.params d.body d.scope pm cd doc)->s₁.heap.CodeRec cd d.name->mg d.name = some (.ref fa)->
   s₁.heap.get? a = some { cls:=.type "list",data:=.seq vs.toArray }->IntsAre vs ns->ns.length<=n->s₁.gens = #[]->
   codeAny (model l.prog w) callerA (.call (.ref fa) ⟨[.ref a],[]⟩) (fun r s'=>r = .ok (.ret (.bool true))/\OldK s₁.heap s'.heap/\s'.os = s₁.os/\AllBare s'.gens) s₁):
  WalkO q loose XP YP l.row.toRowW d [] (fun f vs=>PySem.call f vs):=by
 intro w s₀ s₁ mg mb G Y fa o pm cd doc dV kV ho hd hcd hD hmg hg args vals as hpre hlay hrd hwl hlo
 obtain rfl:dV = .none:=Dflts.none hD hdf
 obtain rfl:kV = .none:=Dflts.noKw hD
 obtain ⟨a,vs,ns,rfl,rfl,hobj,hints,hlen⟩:=Zlo hn hpre hwl
 refine enter_call (Jdo (call w s₀ s₁ mg mb fa o pm cd doc a vs ns G Y ho (fd_plain hd) hcd hmg hobj hints hlen hg) fun r s' hq=>?_)
 obtain ⟨rfl,h2,h3,h4⟩:=hq
 exact ⟨.inl ⟨.bool true,.bool true,[],rfl,fun _=>rfl,.bool true,Zlw l _,fun _=>⟨List.Pairwise.nil,fun _ hm=>(nomatch hm)⟩⟩,h2,h3,h4⟩
section
variable {prog:Program} {w:World} {A:Around} {E:Value->Shared->Prop} {s:Shared} {K:Frag}
end
end Att
namespace L2
open PySem PySem.Spec PyProof.Rows
theorem Zhx:∀ {vs:List Value} {ns:List Int},IntsAre vs ns->Vals (ns.map V.int) vs
 | _,_,.nil=>.nil
 | _,_,.cons n t h=>.cons ⟨t,rfl⟩ (Zhx h)
def Only (H:Hp):Prop:=∀ b,H b = none\/∃ o xs,H b = some (.frz o (.lst xs))
theorem Zoi {P:Program} {w:World} {K:PySem.W.Frag} {mg mb:Str->Option Value} {CX:CXT} {k:Nat} {fa a:Addr} {fd:FuncData} {x:Str} {sp:Sp} {s₁:Shared} {vs:List Value} {ns:List Int}
  (KX:K.In s₁.heap) (hns:s₁.heap.Ns mainGlobals mg) (hb:s₁.heap.Ns builtinsNs mb) (hbb:∀ x:Str,x ≠ "__name__" -> mb x = bootBuiltins x) (hlim:s₁.heap.NoLimit) (hseer:s₁.heap.NoSeer) (hbm:∃ bm ob,mg "__builtins__" = some (.ref bm)/\bm ≠ builtinsNs/\s₁.heap.get? bm = some ob/\ob.cls = .type "module" /\ ob.dict = some builtinsNs/\ob.data = .plain) (hg:s₁.gens = #[])
  (ha:s₁.heap.get? a = some { cls:=.type "list",data:=.seq vs.toArray }) (hi:IntsAre vs ns) (hl:ns.length<=sizeLine) (hr:Room k callerA)
  (F:∀ base:Heap,K.In base->base.Ns mainGlobals mg->FnOk P w K mg base CX k fa fd [x] sp) (hbind:∀ (s:Shared) (u:Value),BindsTo s fd ⟨[u],[]⟩ [(x,u)])
  (hsp:∀ H:Hp,Only H->SqL K H a (ns.map V.int)->sp [.ref a] H (fun v _=>v = .bl true) fun _ _ _=>False)
  (hCX:∀ H e s',CX [] H s₁ (fun _ _ _=>False) e s'->False):
  codeAny (model P w) callerA (.call (.ref fa) ⟨[.ref a],[]⟩) (fun r s'=>r = .ok (.ret (.bool true))/\OldK s₁.heap s'.heap/\s'.os = s₁.os/\AllBare s'.gens) s₁:=by
 have rv:=Zhx hi
 have lenV:=hi.length
 -- from an abstract heap in which nothing but the script may be tracked
 have core:∀ H:Hp,Only H->SqL K H a (ns.map V.int)->HOk P w H s₁.heap->(∀ b,H b ≠ none->b = a)->(H a ≠ none->K.lookup a = none)->
   codeAny (model P w) callerA (.call (.ref fa) ⟨[.ref a],[]⟩) (fun r s'=>r = .ok (.ret (.bool true))/\OldK s₁.heap s'.heap/\s'.os = s₁.os/\AllBare s'.gens) s₁:=by
  intro H hO hS hok hA hK
  have base_of:∀ {b:Addr} {o:Obj},s₁.heap.get? b = some o->H b = none->(Zng s₁.heap H).get? b = some o:=fun e n=>Zoo e n
  have noA:∀ {b:Addr} {o:Obj} {es:Array DictEntry} {ep:Nat},s₁.heap.get? b = some o->o.data = .dict es ep->H b = none:=fun {b o es ep} e d=>by
   cases q:H b with
   | none=>rfl
   | some u=>
    have e':b = a:=hA b (by rw [q]; simp)
    subst e'
    rw [ha] at e; cases e
    have d':Data.seq vs.toArray _ = Data.dict es ep:=d
    cases d'
  have nsK:∀ {b:Addr} {m:Str->Option Value},s₁.heap.Ns b m->(Zng s₁.heap H).Ns b m:=fun {b m} ⟨o,es,ep,e,d,r⟩=>⟨o,es,ep,base_of e (noA e d),d,r⟩
  have hKb:K.In (Zng s₁.heap H):=fun b o e=>base_of (KX b o e) (by
   cases q:H b with
   | none=>rfl
   | some u=>
    have e':b = a:=hA b (by rw [q]; simp)
    subst e'
    rw [hK (by rw [q]; simp)] at e; cases e)
  have seerB:(Zng s₁.heap H).NoSeer:=⟨let ⟨mc,x,y⟩:=hseer.statics; ⟨mc,nsK x,y⟩,let ⟨mc,x,y⟩:=hseer.mods; ⟨mc,nsK x,y⟩,let ⟨mc,x,y⟩:=hseer.imp; ⟨mc,nsK x,y⟩,let ⟨mg',bm,ob,x,y,z,u,v⟩:=hseer.main; ⟨mg',bm,ob,nsK x,y,base_of z (by
   cases q:H bm with
   | none=>rfl
   | some o=>
    have e':bm = a:=hA bm (by rw [q]; simp)
    subst e'
    rw [ha] at z; cases z
    have u':Value.type "list" = Value.type "module" := u
    injection u' with u'
    exact absurd u' (by decide)),u,v⟩⟩
  have hM:Mod K mg (Zng s₁.heap H):=⟨hKb,nsK hns,⟨mb,nsK hb,hbb⟩,let ⟨mc,h1,h2⟩:=hlim; ⟨mc,nsK h1,h2⟩,seerB,let ⟨bm,ob,x1,x2,x3,x4,x5,x6⟩:=hbm; ⟨bm,ob,x1,x2,base_of x3 (by
   cases q:H bm with
   | none=>rfl
   | some o=>
    have e':bm = a:=hA bm (by rw [q]; simp)
    subst e'
    rw [ha] at x3; cases x3
    cases x6),x4,x5,x6⟩⟩
  have e0:Env0 P w K mg (Zng s₁.heap H) callerA [] s₁ H:=⟨rfl,hM,fun b o e=>of_hidT e,Nat.le_of_eq (Zmp _ _),trivial,fun b hb=>absurd (show b ∈ ([]:List Addr) from hb) (by simp),hok,.of_eq hg⟩
  refine Jdo ((F _ hKb (nsK hns)).run callerA [] s₁ H ⟨[.ref a],[]⟩ [.ref a] [.ref a] _ _ hr e0 (hbind s₁ (.ref a)) (.cons rfl .nil) (hsp H hO hS)) fun r s' h=>?_
  cases r with
  | error e=>exact (hCX H e s' h).elim
  | ok fl=>
   cases fl with
   | next=>exact False.elim h
   | brk=>exact False.elim h
   | cont=>exact False.elim h
   | ret u=>
    obtain ⟨v,H',os,bare,un,hok',r',q⟩:=h
    have q':v = .bl true:=q
    subst q'
    obtain rfl:u = Value.bool true:=r'
    refine ⟨rfl,OldK.of_keep fun b o e=>?_,os,bare⟩
    cases q:H b with
    | none=>exact un.keep b o e q (by intro z; exact absurd (show b ∈ ([]:List Addr) from z) (by simp)) (by simp)
    | some u=>
     rcases hO b with z | ⟨ob,xs,z⟩
     ·rw [q] at z; cases z
     ·have z2:=un.frzs b ob _ z
      obtain ⟨e1,_⟩:=hok b _ z
      obtain ⟨e2,_⟩:=hok' b _ z2
      rw [e] at e1; cases e1
      exact e2
 cases hk:K.lookup a with
 | some o=>
  -- the script is one of the module's own objects
  have e:=KX a o hk
  rw [ha] at e
  cases e
  refine core (fun _=>none) (fun _=>.inl rfl) (.inr ⟨_,vs.toArray,_,hk,rfl,rfl,rfl,by rw [Jam,lenV]; exact hl,by simpa using rv⟩) (fun b u z=>by have z':(none:Option HO) = some u:=z; cases z') (fun b z=>absurd rfl z) fun z=>absurd rfl z
 | none=>
  refine core (fun b=>if b = a then some (.frz { cls:=.type "list",data:=.seq vs.toArray } (.lst (ns.map V.int))) else none) (fun b=>?_) (.inl (.inr ⟨{ cls:=.type "list",data:=.seq vs.toArray },if_pos rfl⟩)) (fun b u z=>?_) (fun b z=>?_) fun _=>hk
  ·by_cases hb:b = a
   ·exact .inr ⟨_,_,if_pos hb⟩
   ·exact .inl (if_neg hb)
  ·by_cases hb:b = a
   ·have z':=(if_pos hb).symm.trans z
    cases z'
    subst hb
    exact ⟨ha,by rw [Jac]; exact hl,vs,_,rv,ha⟩
   ·have z':=(if_neg hb).symm.trans z
    cases z'
  ·by_cases hb:b = a
   ·exact hb
   ·exact absurd (if_neg hb) z
theorem walk_of {l:PySem.W.OpenLaw} {n k:Nat} {q:Program} {loose:List Str} {XP:(Str->Option Value)->Heap->Prop} {YP:World->Heap->Prop} {d:DefRec} {K:Params->PySem.W.Frag} {CX:World->CXT} {sp:World->Sp} {x:Str}
  (hq:importsNone q = true) (hn:l.most = some n) (hn2:n<=sizeLine) (hdf:d.params.defaults = []) (hr:Room k callerA)
  (hY:∀ (w:World) (h:Heap),YP w h->(K w.params).In h)
  (F:∀ (w:World) (mg:Str->Option Value) (fa:Addr) (h:Heap),(K w.params).In h->h.Ns mainGlobals mg->mg d.name = some (.ref fa)->
   ∃ fd:FuncData,(∀ (s:Shared) (u:Value),BindsTo s fd ⟨[u],[]⟩ [(x,u)]) /\
    ∀ base:Heap,(K w.params).In base->base.Ns mainGlobals mg->FnOk l.prog w (K w.params) mg base (CX w) k fa fd [x] (sp w))
  (hsp:∀ (w:World) (H:Hp) (a:Addr) (ns:List Int),ns.length<=n->Only H->SqL (K w.params) H a (ns.map V.int)->sp w [.ref a] H (fun v _=>v = .bl true) fun _ _ _=>False)
  (hCX:∀ (w:World) (H:Hp) (s:Shared) (e:Value) (s':Shared),CX w [] H s (fun _ _ _=>False) e s'->False):
  PySem.W.WalkO q loose XP YP l.row.toRowW d [] (fun f vs=>PySem.call f vs):=by
 refine Att.attach_call hn hdf fun w s₀ s₁ mg mb fa o pm cd doc a vs ns G Y ho hd hcd hmg hobj hints hlen hg=>?_
 have KX:=hY w _ Y
 obtain ⟨fd,hb,hF⟩:=F w mg fa _ KX G.T.g hmg
 exact Zoi KX G.T.g G.T.b G.T.builtins G.T.nolimit (G.T.seer hq) G.T.bmain hg hobj hints (Jbw hlen hn2) hr hF hb (fun H hO hS=>hsp w H a ns hlen hO hS) fun H e s'=>hCX w H s₁ e s'
def Zmo (s:Stmt) (j:Nat):Stmt:=match s with
 | .ClassDef _ _ _ body _ _ _ _ _ _ _=>body.getD j (.Pass ⟨0,0,0,0⟩)
 | _=>.Pass ⟨0,0,0,0⟩
def Zaj (s:Stmt):Arguments:=match s with
 | .FunctionDef _ a _ _ _ _ _ _ _ _=>a
 | _=>{ posonlyargs:=[],args:=[],vararg:=none,kwonlyargs:=[],kw_defaults:=[],kwarg:=none,defaults:=[] }
def Zag (s:Stmt):List Stmt:=match s with
 | .FunctionDef _ _ b _ _ _ _ _ _ _=>b
 | _=>[]
def Zad (s:Stmt):Scope:=match s with
 | .FunctionDef _ _ _ _ _ _ sc _ _ _=>sc
 | _=>{ kind:=.function,names:=[],isGenerator:=false,isCoroutine:=false }
abbrev CX0:CXT:=fun _ _ _ _ _ _=>False
abbrev E0:XK:=fun _ _ _=>False
theorem pass0 {X:Cx}:Zcv CX0 X E0:=fun _ _ _ _ _ _ _ h=>h.elim
structure Fun (K:PySem.W.Frag) (x qual:Str) (st:Stmt) (f:Addr) (fd:FuncData):Prop where
 ex:∃ (oc:Value) (od:Option Addr) (kV doc pm:Value) (an:Option Addr) (cdv ct:Value) (osl:Array (Option Value)),
  fd = PySem.W.fnOf x qual (Zaj st) (Zag st) (Zad st) .none kV doc pm an cdv ct/\K.lookup f = some ⟨oc,od,.func fd,osl⟩/\PySem.W.codeIn K cdv qual = true
 kp:PySem.W.keepIn K (.ref f) = true
section
variable {P:Program} {w:World} {K:PySem.W.Frag} {mg:Str->Option Value} {base:Heap}
theorem Fun.ok {x qual:Str} {st:Stmt} {f:Addr} {fd:FuncData} {N ps:List Str} {k:Nat} {sp:Sp} (F:Fun K x qual st f fd) (S:FnScope N ps (Zad st)) (len:∀ vs H Q E,sp vs H Q E->vs.length = ps.length)
  (hbody:∀ (cdv:Value) (A:Around) (outer:List Env) (s:Shared) (H:Hp) (vs:List V) (Q:VK) (E:XK),Room k (A.deeper (envOfC qual (Zad st) s.heap.objs.size f cdv))->sp vs H Q E->
   ∃ t,PSs (Zea CX0 P w K mg base N qual (Zad st) f cdv A outer s H E).nox (Zag st) t/\t { nx:=fun _ H'=>Q .non H',rt:=Q } (Zec N vs) H):FnOk P w K mg base CX0 (k + 1) f fd ps sp:=by
 obtain ⟨oc,od,kV,doc,pm,an,cdv,ct,osl,rfl,lk,hcd⟩:=F.ex
 refine fn_of lk hcd S len fun A outer s H vs Q E hr hsp=>?_
 obtain ⟨t,h,q⟩:=hbody cdv A outer s H vs Q E hr hsp
 exact ⟨t,h.nox,q⟩
theorem Fun.binds {x qual:Str} {st:Stmt} {f:Addr} {fd:FuncData} {ps:List Str} (F:Fun K x qual st f fd)
  (h:∀ (kV doc pm:Value) (an:Option Addr) (cdv ct:Value) (us:List Value),us.length = ps.length->bindArgs (PySem.W.fnOf x qual (Zaj st) (Zag st) (Zad st) .none kV doc pm an cdv ct) ⟨us,[]⟩ = pure (ps.zip us)):Binds K fd ps []:=by
 obtain ⟨oc,od,kV,doc,pm,an,cdv,ct,osl,rfl,lk,hcd⟩:=F.ex
 exact .all (h kV doc pm an cdv ct)
theorem Zar {x qual:Str} {st:Stmt} {f:Addr} {oc:Value} {od an:Option Addr} {osl:Array (Option Value)} {kV doc pm cdv ct:Value} (l:K.lookup f = some ⟨oc,od,.func (PySem.W.fnOf x qual (Zaj st) (Zag st) (Zad st) .none kV doc pm an cdv ct),osl⟩)
  (c:PySem.W.codeIn K cdv qual = true) (k:PySem.W.keepIn K (.ref f) = true):Fun K x qual st f (PySem.W.fnOf x qual (Zaj st) (Zag st) (Zad st) .none kV doc pm an cdv ct):=⟨⟨oc,od,kV,doc,pm,an,cdv,ct,osl,rfl,l,c⟩,k⟩
end
theorem Za4 {n:Nat} (h:n<=1000):n < sizeLine:=Jbe h (by decide)
section
variable {X:Cx}
theorem pv (i:Nat) {x:Str} {pos:Pos} (hN:X.N[i]? = some x:=by rfl) (hv:Vis X.env.scope x:=by first | exact Or.inl rfl | exact Or.inr (Or.inl rfl) | exact Or.inr (Or.inr rfl)) (hd:(x == ("__debug__" : Str)) = false:=by decide)
  (hcd:(x == ("__classdict__" : Str)) = false:=by decide):PE X (.Name x pos) (tVar i):=pe_var hN hv hd hcd
end
theorem iteF {A B:Prop} (h:B):if false = true then A else B:=by
 rw [if_neg Jao]
 exact h
theorem iteT {A B:Prop} (h:A):if true = true then A else B:=by
 rw [if_pos rfl]
 exact h
theorem Zb9 {c A B:Prop} [Decidable c] (h1:c->A) (h2:¬ c->B):if c then A else B:=by
 by_cases h:c
 ·rw [if_pos h]
  exact h1 h
 ·rw [if_neg h]
  exact h2 h
def Same (H H':Hp):Prop:=∀ b o,H b = some o->H' b = some o
theorem Same.refl (H:Hp):Same H H:=fun _ _ h=>h
theorem Same.trans {H H1 H2:Hp} (a:Same H H1) (b:Same H1 H2):Same H H2:=fun c o h=>b c o (a c o h)
theorem Same.free {H H':Hp} (e:Same H H') {l:Addr} (h:H' l = Option.none):H l = Option.none:=by
 cases q:H l with
 | none=>rfl
 | some o=>
  rw [e l o q] at h
  cases h
theorem Same.seq {K:PySem.W.Frag} {H H':Hp} {a:Addr} {xs:List V} (e:Same H H') (h:SqL K H a xs):SqL K H' a xs:=by
 rcases h with (h | ⟨o,h⟩) | h
 ·exact .inl (.inl (e _ _ h))
 ·exact .inl (.inr ⟨o,e _ _ h⟩)
 ·exact .inr h
theorem Zo1 {x:Str} {c:Addr}:∀ (names:List (Str × NameKind)) (n:Nat) (acc:List (Str × Addr)),(cellsFrom n names acc).lookup x = some c->n<=c\/acc.lookup x = some c
 | [],_,_,h=>.inr h
 | (y,k) :: r,n,acc,h=>by
  unfold cellsFrom at h
  split at h
  ·rcases Zo1 r (n + 1) _ h with z | z
   ·exact .inl (Jb6 z)
   ·rw [Jaw] at z
    cases e:x == y with
    | true=>rw [e] at z; cases z; exact .inl (Jae _)
    | false=>rw [e] at z; exact .inr z
  ·exact Zo1 r n acc h
theorem Zm5 {x:Str} {c:Addr}:∀ (names:List (Str × NameKind)) (n:Nat) (acc:List (Str × Addr)),(x,NameKind.cell) ∈ names->(cellsFrom n names acc).lookup x = some c->n<=c
 | [],_,_,m,_=>nomatch m
 | (y,k) :: r,n,acc,m,h=>by
  unfold cellsFrom at h
  split at h
  ·by_cases m':(x,NameKind.cell) ∈ r
   ·exact Jb6 (Zm5 r (n + 1) _ m' h)
   ·have e:(x,NameKind.cell) = (y,k):=(Jav.mp m).resolve_right m'
    cases e
    rcases Zo1 r (n + 1) _ h with z | z
    ·exact Jb6 z
    ·rw [Jaw,beq_self_eq_true] at z
     cases z
     exact Jae _
  ·rename_i hk
   have m':(x,NameKind.cell) ∈ r:=by
    rcases Jav.mp m with e | m'
    ·cases e; exact absurd rfl hk
    ·exact m'
   exact Zm5 r n acc m' h
theorem Zm6 {x:Str}:∀ {names:List (Str × NameKind)} {n:Nat} {acc:List (Str × Addr)},(x,NameKind.cell) ∉ names->(cellsFrom n names acc).lookup x = acc.lookup x
 | [],_,_,_=>rfl
 | (y,k) :: r,n,acc,h=>by
  unfold cellsFrom
  have hr:(x,NameKind.cell) ∉ r:=fun m=>h (Jai _ m)
  split
  ·rename_i hk
   have hy:(x == y) = false:=by
    cases e:x == y with
    | false=>rfl
    | true=>
     exfalso
     refine h ?_
     rw [Ja7.mp e,Ja7.mp hk]
     exact Jbd
   rw [Zm6 hr,Jaw,hy]
  ·exact Zm6 hr
theorem Zm7:∀ (names:List (Str × NameKind)) (n:Nat) (acc:List (Str × Addr)),(∀ x c,acc.lookup x = some c->c < n)->(∀ x y c,acc.lookup x = some c->acc.lookup y = some c->x = y)->
  ∀ x y c,(cellsFrom n names acc).lookup x = some c->(cellsFrom n names acc).lookup y = some c->x = y
 | [],_,_,_,hi=>hi
 | (z,k) :: r,n,acc,hl,hi=>by
  unfold cellsFrom
  split
  ·refine Zm7 r (n + 1) _ (fun x c h=>?_) (fun x y c h1 h2=>?_)
   ·rw [Jaw] at h
    cases e:x == z with
    | true=>rw [e] at h; cases h; exact Nat.lt_succ_self _
    | false=>rw [e] at h; exact Nat.lt_succ_of_lt (hl x c h)
   ·rw [Jaw] at h1 h2
    cases e1:x == z with
    | true=>
     rw [e1] at h1
     cases h1
     cases e2:y == z with
     | true=>rw [Ja7.mp e1,Ja7.mp e2]
     | false=>rw [e2] at h2; exact absurd (hl y _ h2) (Ja9 _)
    | false=>
     rw [e1] at h1
     cases e2:y == z with
     | true=>rw [e2] at h2; cases h2; exact absurd (hl x _ h1) (Ja9 _)
     | false=>rw [e2] at h2; exact hi x y c h1 h2
  ·exact Zm7 r n acc hl hi
theorem Zjk {x:Str} {c:Addr}:∀ (names:List (Str × NameKind)) (h:Heap) (acc:List (Str × Addr)),(cellsFrom h.objs.size names acc).lookup x = some c->(pushCells h names).IsCell c none\/acc.lookup x = some c
 | [],_,_,z=>.inr z
 | (y,k) :: r,h,acc,z=>by
  unfold cellsFrom at z
  unfold pushCells
  split at z
  ·rename_i hk
   rw [if_pos hk]
   have z':(cellsFrom (h.push { cls:=.type "cell",data:=.cell none }).objs.size r ((y,h.objs.size) :: acc)).lookup x = some c:=by rw [Jcn]; exact z
   rcases Zjk r _ _ z' with q | q
   ·exact .inl q
   ·rw [Jaw] at q
    cases e:x == y with
    | true=>
     rw [e] at q
     cases q
     exact .inl ⟨_,pushCells_keeps _ _ _ _ (Jaq _ rfl),rfl⟩
    | false=>rw [e] at q; exact .inr q
  ·rename_i hk
   rw [if_neg hk]
   exact Zjk r h acc z
theorem Zjj {env:Env} (f:Str × NameKind->List (Str × Addr)->Sem (ForInStep (List (Str × Addr))))
  (hf:∀ name kind cs,f (name,kind) cs = if kind == .free then (do let a <- cellOf env name; pure (.yield ((name,a) :: cs))) else pure (.yield cs)):
  ∀ (names:List (Str × NameKind)) (acc:List (Str × Addr)),(∀ y ∈ names,y.2 = .free->∃ c,env.cells.lookup y.1 = some c)->(∀ x c,acc.lookup x = some c->env.cells.lookup x = some c)->
  ∃ cl,forIn names acc f = pure cl/\(∀ x c,cl.lookup x = some c->env.cells.lookup x = some c)/\(∀ y ∈ names,y.2 = .free->∃ c,cl.lookup y.1 = some c)/\∀ x c,acc.lookup x = some c->∃ c',cl.lookup x = some c'
 | [],acc,_,ha=>⟨acc,rfl,ha,(fun _ m=>nomatch m),fun x c e=>⟨c,e⟩⟩
 | (y,k) :: r,acc,h,ha=>by
  rw [Jcu,hf]
  have hr:∀ y ∈ r,y.2 = NameKind.free->∃ c,env.cells.lookup y.1 = some c:=fun z m=>h z (Jai _ m)
  by_cases hk:(k == NameKind.free) = true
  ·obtain ⟨c,hc⟩:=h (y,k) Jbd (Ja7.mp hk)
   have e:cellOf env y = pure c:=by unfold cellOf; rw [hc]
   rw [if_pos hk,e,pure_bind,pure_bind]
   have ha':∀ x d,((y,c) :: acc).lookup x = some d->env.cells.lookup x = some d:=fun x d e=>by
    rw [Jaw] at e
    cases e1:x == y with
    | true=>rw [e1] at e; cases e; rw [Ja7.mp e1]; exact hc
    | false=>rw [e1] at e; exact ha x d e
   obtain ⟨cl,q1,q2,q3,q4⟩:=Zjj f hf r ((y,c) :: acc) hr ha'
   refine ⟨cl,q1,q2,fun z m hz=>?_,fun x d e=>?_⟩
   ·rcases Jav.mp m with e | m
    ·subst e
     exact q4 y c (by rw [Jaw,beq_self_eq_true])
    ·exact q3 z m hz
   ·by_cases e1:(x == y) = true
    ·exact q4 x c (by rw [Jaw,e1])
    ·exact q4 x d (by rw [Jaw]; simp only [e1]; exact e)
  ·rw [if_neg hk,pure_bind]
   obtain ⟨cl,q1,q2,q3,q4⟩:=Zjj f hf r acc hr ha
   refine ⟨cl,q1,q2,fun z m hz=>?_,q4⟩
   rcases Jav.mp m with e | m
   ·subst e; exact absurd (Ja7.mpr hz) hk
   ·exact q3 z m hz
theorem Zji {scope:Scope} {env:Env} (h:∀ y ∈ scope.names,y.2 = .free->∃ c,env.cells.lookup y.1 = some c):
  ∃ cl,closureFor scope env = pure cl/\(∀ x c,cl.lookup x = some c->env.cells.lookup x = some c)/\∀ y ∈ scope.names,y.2 = .free->∃ c,cl.lookup y.1 = some c:=by
 obtain ⟨cl,q1,q2,q3,_⟩:=Zjj (env:=env) (fun x cs=>if x.2 == .free then (do let a <- cellOf env x.1; pure (.yield ((x.1,a) :: cs))) else pure (.yield cs)) (fun _ _ _=>rfl) scope.names [] h (fun _ _ e=>nomatch e)
 refine ⟨cl,?_,q2,q3⟩
 unfold closureFor
 have e:(fun (x:Str × NameKind) (r:List (Str × Addr))=>(match x with
   | (name,kind)=>if (kind == NameKind.free) = true then (do let __do_lift <- cellOf env name; pure (ForInStep.yield ((name,__do_lift) :: r))) else pure (ForInStep.yield r):Sem (ForInStep (List (Str × Addr))))) =
   fun x cs=>if x.2 == .free then (do let a <- cellOf env x.1; pure (.yield ((x.1,a) :: cs))) else pure (.yield cs):=by
  funext x cs
  rfl
 have q:(forIn scope.names ([]:List (Str × Addr)) fun (x:Str × NameKind) (r:List (Str × Addr))=>(match x with
   | (name,kind)=>if (kind == NameKind.free) = true then (do let __do_lift <- cellOf env name; pure (ForInStep.yield ((name,__do_lift) :: r))) else pure (ForInStep.yield r):Sem (ForInStep (List (Str × Addr))))) = pure cl:=by
  rw [e]; exact q1
 simpa using q
theorem Zfd {M:Model} {A:Around} {E:Value->Shared->Prop} {s:Shared} {scope:Scope} {globals:Addr} {cl:List (Str × Addr)} {qual:Str} {env:Env} {Q:Env->Shared->Prop}
  (hQ:∀ h',h'.Ns s.heap.objs.size (fun _=>none)->(∀ b o,s.heap.get? b = some o->h'.get? b = some o)->
   (∀ x c,(cellsFrom (s.heap.objs.size + 1) scope.names cl).lookup x = some c->h'.IsCell c none\/cl.lookup x = some c)->
   Q { scope,locals:=s.heap.objs.size,globals,cells:=cellsFrom (s.heap.objs.size + 1) scope.names cl,qual,func:=none,code:=env.code,frame:=env.frame,builtins:=env.builtins } { s with heap:=h' }):
  wpAny M A (newFunctionEnv scope globals cl [] qual none .none (some env)) Q E s:=by
 simp only [newFunctionEnv,Option.isSome_some,if_true]
 refine Jaj (wpAny_alloc ?_)
 refine Jaj (wpAny_layCells _ (fun name kind cells=>by cases hkc:kind == NameKind.cell <;> simp [hkc]) _ _ _ _ ?_)
 have hsz:(s.heap.push { cls:=.type "dict",data:=.dict #[] }).objs.size = s.heap.objs.size + 1:=Jcn ..
 have q:=hQ (pushCells (s.heap.push { cls:=.type "dict",data:=.dict #[] }) scope.names) ((Heap.Ns.new s.heap (.type "dict")).keeps (pushCells_keeps _ _)) (fun b o e=>pushCells_keeps _ _ b o (Jad _ e))
  (fun x c e=>Zjk scope.names (s.heap.push { cls:=.type "dict",data:=.dict #[] }) cl (by rw [hsz]; exact e))
 show wpAny _ _ _ _ _ _
 rw [show ({ s with heap:=s.heap.push { cls:=.type "dict",data:=.dict #[] } }:Shared).heap.objs.size = s.heap.objs.size + 1 from hsz]
 exact Jaj (Ja5 (Ja5 q))
theorem Zfa {env:Env} {x:Str}:∀ {names:List (Str × NameKind)},names.lookup x = some .free->
  (names.map fun (n,k)=>if (k == NameKind.free && env.scope.kind == .function && env.kindOf n == some .cell) then (n,NameKind.cell) else (n,k)).lookup x = some .cell \/
  (names.map fun (n,k)=>if (k == NameKind.free && env.scope.kind == .function && env.kindOf n == some .cell) then (n,NameKind.cell) else (n,k)).lookup x = some .free
 | [],h=>by simp at h
 | (n,k) :: r,h=>by
  have ih:=@Zfa env x r
  show List.lookup x ((if (k == NameKind.free && env.scope.kind == .function && env.kindOf n == some .cell) = true then (n,NameKind.cell) else (n,k)) :: _) = _\/List.lookup x ((if (k == NameKind.free && env.scope.kind == .function && env.kindOf n == some .cell) = true then (n,NameKind.cell) else (n,k)) :: _) = _
  cases hx:x == n with
  | true=>
   simp only [List.lookup_cons,hx] at h
   cases h
   split <;> simp [List.lookup_cons,hx]
  | false=>
   simp only [List.lookup_cons,hx] at h
   split <;> (simp only [List.lookup_cons,hx]; exact ih h)
theorem Zdv {env:Env} {x:Str} {kd:NameKind}:∀ {names:List (Str × NameKind)},
  (names.map fun (n,k)=>if (k == NameKind.free && env.scope.kind == .function && env.kindOf n == some .cell) then (n,NameKind.cell) else (n,k)).lookup x = some kd->
  names.lookup x = some kd\/names.lookup x = some .free
 | [],h=>by simp at h
 | (n,k) :: r,h=>by
  have ih:=@Zdv env x kd r
  have h':List.lookup x ((if (k == NameKind.free && env.scope.kind == .function && env.kindOf n == some .cell) = true then (n,NameKind.cell) else (n,k)) :: (r.map fun (n,k)=>if (k == NameKind.free && env.scope.kind == .function && env.kindOf n == some .cell) then (n,NameKind.cell) else (n,k))) = some kd:=h
  cases hx:x == n with
  | true=>
   by_cases hc:(k == NameKind.free && env.scope.kind == .function && env.kindOf n == some .cell) = true
   ·have hk:k = .free:=by
     have:=(Jay _ _ ▸ (Jay _ _ ▸ hc).1).1
     exact Ja7.mp this
    subst hk
    exact .inr (by simp [List.lookup_cons,hx])
   ·rw [if_neg hc] at h'
    simp only [List.lookup_cons,hx] at h'
    cases h'
    exact .inl (by simp [List.lookup_cons,hx])
  | false=>
   have h2:List.lookup x (r.map fun (n,k)=>if (k == NameKind.free && env.scope.kind == .function && env.kindOf n == some .cell) then (n,NameKind.cell) else (n,k)) = some kd:=by
    split at h' <;> simpa only [Jaw,hx] using h'
   rcases ih h2 with z | z
   ·exact .inl (by simp only [List.lookup_cons,hx]; exact z)
   ·exact .inr (by simp only [List.lookup_cons,hx]; exact z)
def Zdk (X:Cx) (N:List Str) (scope:Scope) (cl:List (Str × Addr)) (s:Shared) (H:Hp) (fp:List Addr):Cx where
 prog:=X.prog
 w:=X.w
 K:=X.K
 mg:=X.mg
 base:=X.base
 A:=X.A
 N:=N
 s₀:=s
 H₀:=H
 env:={ scope:=relabel scope X.env,locals:=s.heap.objs.size,globals:=X.env.globals,cells:=cellsFrom (s.heap.objs.size + 1) scope.names cl,qual:=X.env.qual,func:=none,code:=X.env.code,frame:=X.env.frame,builtins:=X.env.builtins }
 outer:=X.stack
 stack:=X.stack
 ex:=fp
 fn:=fun x=>scope.names.lookup x == some .cell
 calm:=X.calm
 pn:=[]
 xe:=fun _ _=>False
structure BlScope (X:Cx) (scope:Scope) (own:List Str) (fr:List (Str × Nat)):Prop where
 kind:scope.kind = .function
 free:∀ y ∈ scope.names,y.2 = .free->X.env.scope.names.lookup y.1 = some .cell\/X.env.scope.names.lookup y.1 = some .free
 loc:∀ y ∈ scope.names,y.2 = .local->scope.names.lookup y.1 = some .local
 look:∀ y ∈ scope.names,scope.names.lookup y.1 = some y.2
 cap:∀ y ∈ fr,scope.names.lookup y.1 = some .free/\X.N[y.2]? = some y.1
def Zfh (k:Nat) (fr:List (Str × Nat)) (σ:St):St:=List.replicate k none ++ fr.map fun y=>(σ[y.2]?).getD none
def Zc2 (own:List Str) (fr:List (Str × Nat)):List Str:=own ++ fr.map (·.1)
section
variable {X:Cx} {pins:List (Addr × Obj)} {σ:St} {H:Hp} {s:Shared}
theorem Zik {scope:Scope} {own:List Str} {fr:List (Str × Nat)} {cl:List (Str × Addr)} {fp:List Addr} {h':Heap} (I:Inv X pins σ H s) (B:BlScope X scope own fr)
  (hcl:∀ x c,cl.lookup x = some c->X.env.cells.lookup x = some c) (hcl2:∀ y ∈ scope.names,y.2 = .free->∃ c,cl.lookup y.1 = some c)
  (hfp:∀ b ∈ fp,Ziw X pins H b) (hfo:∀ b ∈ fp,∃ o,s.heap.get? b = some o)
  (hn:h'.Ns s.heap.objs.size (fun _=>none)) (hk:∀ b o,s.heap.get? b = some o->h'.get? b = some o)
  (hc:∀ x c,(cellsFrom (s.heap.objs.size + 1) scope.names cl).lookup x = some c->h'.IsCell c none\/cl.lookup x = some c):
  Inv (Zdk X (Zc2 own fr) scope cl s H fp) [] (Zfh own.length fr σ) H { s with heap:=h' }:=by
 have clt:∀ x c,cl.lookup x = some c->c < s.heap.objs.size:=fun x c e=>by
  obtain ⟨v,z⟩:=I.cell x c (hcl x c e)
  exact z.lt
 have ownC:∀ x c,(cellsFrom (s.heap.objs.size + 1) scope.names cl).lookup x = some c->s.heap.objs.size + 1<=c\/cl.lookup x = some c:=fun x c e=>Zo1 _ _ _ e
 have bsz:X.base.objs.size<=s.heap.objs.size:=Jbw I.ok.bsz I.sz
 refine ⟨⟨I.ok.mod,B.kind,I.ok.glob,I.ok.blt,Jae _,?_,?_,?_,I.ok.hd,I.ok.frames,.inl rfl,?_,I.bs,bsz,?_,?_,I.stack,I.stkFree,I.ok.top⟩,rfl,I.bare,Un.kept hk,⟨_,hn,?_⟩,?_,I.hok.fresh (Jae _),?_,?_,I.hok.kept hk,?_⟩
 ·exact Zm7 _ _ _ (fun x c e=>Nat.lt_succ_of_lt (clt x c e)) fun x y c e1 e2=>I.ok.inj x y c (hcl x c e1) (hcl y c e2)
 ·intro x hx
  have hx:(relabel scope X.env).names.lookup x = some .cell\/(relabel scope X.env).names.lookup x = some .free:=hx
  have q:scope.names.lookup x = some .cell\/scope.names.lookup x = some .free:=by
   rcases hx with z | z
   ·exact Zdv z
   ·exact (Zdv z).elim .inr .inr
  refine Jb3.mp (Jb9 scope.names _ _ ?_)
  rcases q with z | z
  ·exact .inl z
  ·obtain ⟨c,e⟩:=hcl2 _ (Jbk z) rfl
   exact .inr (by rw [e]; rfl)
 ·intro x c hf e
  have hf:(scope.names.lookup x == some .cell) = true:=hf
  exact Jb6 (Zm5 _ _ _ (Jbk (Ja7.mp hf)) e)
 ·intro b hb
  obtain ⟨o,ho⟩:=hfo b hb
  refine ⟨Ja8 (Jaf ho),fun x c e=>?_⟩
  rcases ownC x c e with z | z
  ·intro q
   subst q
   exact absurd (Jan (Jaf ho) (Jb6 z)) (Ja9 _)
  ·exact (hfp b hb).2.2.2.2.1 x c (hcl x c z)
 ·intro b o e hb
  rcases (hfp b hb).2.2.2.1 with z | z
  ·exact I.ok.noex b o e z
  ·exact absurd (Jan (Jaf e) (Jbw I.ok.bsz z)) (Ja9 _)
 ·intro b hb z
  rcases Jav.mp (I.stkSub b z) with q | q
  ·exact (hfp b hb).2.1 q
  ·exact (hfp b hb).2.2.1 q
 ·intro i x v h1 h2 h3
  have h1:(Zc2 own fr)[i]? = some x:=h1
  unfold Zc2 at h1
  unfold Zfh at h2
  by_cases hi:i < own.length
  ·rw [Jbh (by rw [Jbl]; exact hi),Jb0,if_pos hi] at h2
   cases h2
  ·have hi':own.length<=i:=Nat.le_of_not_lt hi
   rw [Jbp hi',Jas] at h1
   rw [Jbp (by rw [Jbl]; exact hi'),Jbl,Jas] at h2
   cases e:fr[i - own.length]? with
   | none=>rw [e] at h1; cases h1
   | some y=>
    rw [e] at h1 h2
    have hy1:y.1 = x:=Ja3 h1
    have hy2:(σ[y.2]?).getD none = some v:=Ja3 h2
    obtain ⟨c1,c2⟩:=B.cap y (Jal e)
    rw [hy1] at c1 c2
    have hs:σ[y.2]? = some (some v):=by
     cases e2:σ[y.2]? with
     | none=>rw [e2] at hy2; cases hy2
     | some o=>rw [e2] at hy2; cases o with
      | none=>cases hy2
      | some w=>cases hy2; rfl
    obtain ⟨m,hm,hl⟩:=I.loc
    have hfree:=B.free _ (Jbk c1) rfl
    obtain ⟨u,r,l⟩:=hl y.2 x v c2 hs (hfree.elim (fun z=>.inr (.inl z)) fun z=>.inr (.inr z))
    refine ⟨u,r,?_⟩
    obtain ⟨k,c,e3,z⟩:(X.env.kindOf x = some .cell\/X.env.kindOf x = some .free)/\∃ c,X.env.cells.lookup x = some c/\s.heap.IsCell c (some u):=by
     rcases l with ⟨k,_⟩ | q
     ·have k:X.env.scope.names.lookup x = some .local:=k
      rcases hfree with z | z <;> (rw [z] at k; cases k)
     ·exact q
    obtain ⟨d,hd⟩:=hcl2 _ (Jbk c1) rfl
    have hd':=hcl x d hd
    rw [e3] at hd'
    cases hd'
    obtain ⟨c',hc'⟩:∃ c',(cellsFrom (s.heap.objs.size + 1) scope.names cl).lookup x = some c':=Jb3.mp (Jb9 scope.names _ _ (.inr (by rw [hd]; rfl)))
    have hcc:c' = c:=by
     rcases ownC x c' hc' with q | q
     ·-- an own cell of that name: it is free,so no
      exfalso
      have:(x,NameKind.cell) ∉ scope.names:=fun m=>by
       have:=B.look _ m
       rw [c1] at this
       cases this
      exact absurd hc' (by
       rw [Zm6 this]
       intro z
       rw [hd] at z
       cases z
       exact absurd (clt x _ hd) (Nat.not_lt.mpr (Jb6 q)))
     ·rw [hd] at q; cases q; rfl
    subst hcc
    refine .inr ⟨?_,c',hc',z.keeps hk⟩
    exact Zfa c1
 ·intro x c e
  rcases hc x c e with z | z
  ·exact ⟨_,z⟩
  ·obtain ⟨v,q⟩:=I.cell x c (hcl x c z)
   exact ⟨v,q.keeps hk⟩
 ·intro x c e
  rcases ownC x c e with z | z
  ·exact I.hok.fresh (Jb6 z)
  ·exact I.freeC x c (hcl x c z)
 ·intro p hp
  exact absurd (show p ∈ ([]:List (Addr × Obj)) from hp) (by simp)
 ·show (Zfh _ _ _).length = (Zc2 _ _).length
  unfold Zfh Zc2
  simp
end
def PTs (X:Cx) (ifs:List Expr) (t:TT):Prop:=
 ∀ (pins:List (Addr × Obj)) (s:Shared) (σ:St) (H:Hp) (Q:Bool->Hp->Prop),Inv X pins σ H s->t σ H Q->
  wpAny (model X.prog X.w) X.A (forIn ifs true fun c r=>if r = true then do let ok <- isTrue c X.env (eval c X.env); pure (ForInStep.yield ok) else pure (ForInStep.yield r)) (TP X pins σ Q) X.xe s
def Zgk:TT:=fun _ H Q=>Q true H
theorem Zbw {X:Cx}:PTs X [] Zgk:=fun pins s σ H Q I h=>wpAny_tests_nil ⟨H,I,h⟩
section
variable {prog:Program} {w:World} {A:Around} {R:Result->Shared->Prop} {s:Shared}
theorem Ziq {elt target iter:Expr} {ifs:List Expr} {scope:Scope} {pos:Pos} {it acc:Value} {env:Env} (I:Nat->Shared->Prop)
  (turn:∀ n s,I n s->wpAny (model prog w) A (pyNext it) (fun r s₁=>match r with
   | none=>R (.ok .next) s₁
   | some v=>wpAny (model prog w) A (letOwnedTupleGo target it v) (fun _ s₁=>wpAny (model prog w) A (assign target env v) (fun _ s₂=>
     wpAny (model prog w) A (forIn ifs true fun c r=>if r = true then do let ok <- isTrue c env (eval c env); pure (ForInStep.yield ok) else pure (ForInStep.yield r)) (fun ok s₃=>
      if ok = true then wpAny (model prog w) A (eval elt env) (fun x s₄=>
       wpAny (model prog w) A (call (.builtin "list.append") [acc,x]) (fun _ s₅=>∃ m,m < n/\I m s₅) (fun _ _=>False) s₄) (fun _ _=>False) s₃
      else ∃ m,m < n/\I m s₃) (fun _ _=>False) s₂) (fun _ _=>False) s₁) (fun _ _=>False) s₁) (fun _ _=>False) s)
  (n:Nat) (h:I n s):
  codeAny (model prog w) A (.compLoop (.ListComp elt [⟨target,iter,ifs,0⟩] scope pos) 0 it acc env) R s:=by
 refine codeAny_loop rfl I (fun n s hI=>?_) n h
 show wpAny _ A ((compTurn (.ListComp elt [⟨target,iter,ifs,0⟩] scope pos) 0 it acc env).onRaise (fun x=>do noteFrame x env; theTreesLotGoes x)) _ _ s
 refine wpAny_noted ?_
 rw [compTurn_list]
 refine Jaj (Jdc (Jaj (Jbb (turn n s hI) (fun r s₁ h₁=>?_) fun _ _ h'=>h'.elim)))
 cases r with
 | none=>exact Ja5 h₁
 | some v=>
  refine Jaj (Jbb h₁ (fun _ s₁' h₁'=>?_) fun _ _ h'=>h'.elim)
  refine Jaj (Jbb h₁' (fun _ s₂ h₂=>Jaj (Jbb h₂ (fun ok s₃ h₃=>?_) fun _ _ h'=>h'.elim)) fun _ _ h'=>h'.elim)
  cases ok with
  | false=>exact Ja5 ⟨rfl,h₃⟩
  | true=>
   exact Jaj (Jaj (Jbb h₃ (fun x s₄ h₄=>Jaj (Jbb h₄ (fun _ s₅ h₅=>Ja5 (Ja5 ⟨rfl,h₅⟩)) fun _ _ h'=>h'.elim)) fun _ _ h'=>h'.elim))
end
def Zbo (g:TG) (tt:TT) (te:TE) (J:It) (D:Addr) (σ0:St) (H1:Hp) (Q:VK):Prop:=
 ∃ W:Nat->Nat->St->Hp->Prop,(∃ m,W 0 m σ0 (upd H1 D (.lst [])))/\∀ i m σ' H2,W i m σ' H2->
  (J.stop i H2/\Q (.ref D) H2)\/(J.go i H2/\∀ x H3,J.yld i H2 x H3->g x σ' H3 fun σ4 H4=>tt σ4 H4 fun b H5=>
   if b = true then te σ4 H5 fun y H6=>∃ vs,H6 D = some (.lst vs)/\vs.length < sizeLine/\∃ m',m' < m/\W (i + 1) m' σ4 (upd H6 D (.lst (vs ++ [y])))
   else ∃ m',m' < m/\W (i + 1) m' σ4 H5)
def Znn (k:Nat) (fr:List (Str × Nat)) (wi:TI) (g:TG) (tt:TT) (te:TE):TE:=fun σ H Q=>wi σ H fun J H1=>∀ D,H1 D = none->Zbo g tt te J D (Zfh k fr σ) H1 Q
section
variable {X:Cx} {tg iter elt:Expr} {ifs:List Expr} {scope:Scope} {pos:Pos} {own:List Str} {fr:List (Str × Nat)} {wi:TI} {g:TG} {tt:TT} {te:TE}
theorem Zkb {pins:List (Addr × Obj)} {s2:Shared} {σ:St} {H2:Hp} {it:Addr} {fp:List Addr} {tn:Nat->Heap->Prop} {J:It} {Q:VK} {cl:List (Str × Addr)} {RR:Value->Addr->Result->Shared->Prop} {E:Value->Shared->Prop}
  (hc:X.calm = true) (B:BlScope X scope own fr)
  (hb:∀ cl s H fp,PG (Zdk X (Zc2 own fr) scope cl s H fp) tg g/\PTs (Zdk X (Zc2 own fr) scope cl s H fp) ifs tt/\PE (Zdk X (Zc2 own fr) scope cl s H fp) elt te)
  (hcl:∀ x c,cl.lookup x = some c->X.env.cells.lookup x = some c) (hcl2:∀ y ∈ scope.names,y.2 = .free->∃ c,cl.lookup y.1 = some c)
  (I2:Inv X pins σ H2 s2) (T:Turn X.prog X.w X.K tg J fp it tn) (st2:tn 0 s2.heap) (f2:∀ b ∈ fp,Ziw X pins H2 b) (q:∀ D,H2 D = none->Zbo g tt te J D (Zfh own.length fr σ) H2 Q)
  (hRR:∀ D C s' H',Inv X pins σ H' s'->Q (.ref D) H'->(∃ m,s'.heap.Ns C m)->C ≠ X.env.locals->(∀ x c,X.env.cells.lookup x = some c->c ≠ C)->(∀ p ∈ X.pn ++ pins,p.1 ≠ C)->X.s₀.heap.objs.size<=C->H' C = none->RR (.ref D) C (.ok .next) s'):
  wpAny (model X.prog X.w) X.A (newList []) (fun acc s₃=>wpAny (model X.prog X.w) X.A (newFunctionEnv scope X.env.globals cl [] X.env.qual none .none (some X.env)) (fun cenv s₄=>
   codeAny (model X.prog X.w) X.A (.compStart (.ListComp elt [⟨tg,iter,ifs,0⟩] scope pos) 0 (.ref it) acc { cenv with scope:=relabel scope X.env }) (RR acc cenv.locals) s₄) E s₃) E s2:=by
 refine Jd4 ?_
 have fr0:H2 s2.heap.objs.size = none:=I2.hok.fresh (Jae _)
 have I3:=I2.lnew (its:=[]) (ys:=[]) (t':=s2.toks) .nil (Jb8 _)
 generalize hs3:({ s2 with heap:=s2.heap.push { cls:=.type "list",data:=.seq ([]:List Value).toArray } }:Shared) = s3 at *
 have k23:∀ b o,s2.heap.get? b = some o->s3.heap.get? b = some o:=fun b o e=>by rw [<- hs3]; exact Jad _ e
 have sz3:s3.heap.objs.size = s2.heap.objs.size + 1:=by rw [<- hs3]; exact Jcn ..
 have I3':Inv X pins σ (upd H2 s2.heap.objs.size (.lst [])) s3:=I3
 have fne:∀ b ∈ fp,b ≠ s2.heap.objs.size:=fun b hb z=>by
  obtain ⟨o,ho,_⟩:=T.obj 0 _ st2 b hb
  exact absurd (Jaf ho) (by rw [z]; exact Ja9 _)
 have f3:∀ b ∈ fp,Ziw X pins (upd H2 s2.heap.objs.size (.lst [])) b:=fun b hb=>⟨by rw [Zah (fne b hb)]; exact (f2 b hb).1,(f2 b hb).2⟩
 have st3:tn 0 s3.heap:=T.keep 0 _ _ st2 fun b _ o e=>k23 b o e
 have hfo:∀ b ∈ fp,∃ o,s3.heap.get? b = some o:=fun b hb=>let ⟨o,ho,_⟩:=T.obj 0 _ st3 b hb; ⟨o,ho⟩
 refine Zfd fun h' hn hk hce=>?_
 have I4:=Zik (own:=own) I3' B hcl hcl2 f3 hfo hn hk hce
 obtain ⟨hg,ht,he⟩:=hb cl s3 (upd H2 s2.heap.objs.size (.lst [])) fp
 have st4:tn 0 h':=T.keep 0 _ _ st3 fun b _ o e=>hk b o e
 have stat:∀ {H':Hp},(∀ b ∈ fp,H' b = none)->∀ b ∈ fp,Ziw (Zdk X (Zc2 own fr) scope cl s3 (upd H2 s2.heap.objs.size (.lst [])) fp) [] H' b:=fun {H'} hnn b hb=>
  ⟨hnn b hb,(I4.ok.exf b hb).1,I4.ok.exfs b hb,.inl hb,(I4.ok.exf b hb).2,fun p hp=>absurd (show p ∈ ([]:List (Addr × Obj)) from hp) (by simp)⟩
 obtain ⟨W,⟨m0,w0⟩,turn⟩:=q s2.heap.objs.size fr0
 have loop:codeAny (model X.prog X.w) X.A (.compLoop (.ListComp elt [⟨tg,iter,ifs,0⟩] scope pos) 0 (.ref it) (.ref s2.heap.objs.size) (Zdk X (Zc2 own fr) scope cl s3 (upd H2 s2.heap.objs.size (.lst [])) fp).env)
   (RR (.ref s2.heap.objs.size) s3.heap.objs.size) { s3 with heap:=h' }:=by
  refine Ziq (fun n s'=>∃ i σ' H',Inv (Zdk X (Zc2 own fr) scope cl s3 (upd H2 s2.heap.objs.size (.lst [])) fp) [] σ' H' s'/\tn i s'.heap/\(∀ b ∈ fp,H' b = none)/\W i n σ' H') ?_ m0
   ⟨0,_,_,I4,st4,fun b hb=>(f3 b hb).1,w0⟩
  rintro n s5 ⟨i,σ5,H5,I5,st5,fr5,w5⟩
  rcases turn i n σ5 H5 w5 with ⟨stop,qn⟩ | ⟨go,step⟩
  ·refine thn (T.done (Zdk X (Zc2 own fr) scope cl s3 (upd H2 s2.heap.objs.size (.lst [])) fp) rfl rfl rfl hc i [] s5 σ5 H5 _ I5 (stat fr5) st5 stop) fun r s6 ⟨hr,I6⟩=>?_
   subst hr
   have I7:Inv X pins σ H5 s6:=I3'.call' (ch:=fp) I6.os I6.base I6.hok I6.bare fun b hb=>⟨(f3 b hb).2.2.2.1,(f3 b hb).2.1,(f3 b hb).2.2.2.2.1,(f3 b hb).2.2.2.2.2⟩
   obtain ⟨m6,hn6,_⟩:=I6.loc
   refine hRR _ _ s6 H5 I7 qn ⟨m6,hn6⟩ (Jdm I3'.lt) (fun x c e=>?_) (fun p hp=>?_) I3'.sz I6.free
   ·obtain ⟨v,z⟩:=I3'.cell x c e
    exact Ja8 z.lt
   ·exact Ja8 (Jaf (I3'.pin p hp).1)
  ·refine thn (T.item (Zdk X (Zc2 own fr) scope cl s3 (upd H2 s2.heap.objs.size (.lst [])) fp) rfl rfl rfl hc i [] s5 σ5 H5 _ I5 (stat fr5) st5 go) fun r s6 ⟨u,hr,h6⟩=>?_
   subst hr
   refine thn h6 fun _ s7 ⟨x,H7,I7,r7,y7,st7,fr7⟩=>?_
   have I7':=I7.pinned (stat fr7) (T.obj _ _ st7)
   refine thn (hg _ s7 σ5 H7 x u _ I7' r7 (step x H7 y7)) fun _ s8 ⟨σ8,H8,I8,q8⟩=>?_
   refine thn (ht _ s8 σ8 H8 _ I8 q8) fun b s9 ⟨H9,I9,q9⟩=>?_
   have again:∀ {sA:Shared} {σA:St} {HA:Hp} {m':Nat},Inv (Zdk X (Zc2 own fr) scope cl s3 (upd H2 s2.heap.objs.size (.lst [])) fp) ([] ++ Zgy fp s7.heap) σA HA sA->m' < n->W (i + 1) m' σA HA->
     ∃ m,m < n/\∃ i σ' H',Inv (Zdk X (Zc2 own fr) scope cl s3 (upd H2 s2.heap.objs.size (.lst [])) fp) [] σ' H' sA/\tn i sA.heap/\(∀ b ∈ fp,H' b = none)/\W i m σ' H':=fun {sA σA HA m'} IA hm wA=>by
    refine ⟨m',hm,i + 1,σA,HA,IA.unpinned,T.keep _ _ _ st7 fun b hb o e=>(IA.pin (b,o) (Jax _ (Jax _ (Zcq hb e)))).1,fun b hb=>?_,wA⟩
    obtain ⟨o,e,d⟩:=T.obj _ _ st7 b hb
    exact (IA.pin (b,o) (Jax _ (Jax _ (Zcq hb e)))).2.1
   cases b with
   | false=>
    obtain ⟨m',hm,w9⟩:=q9
    exact again I9 hm w9
   | true=>
    have q9:te σ8 H9 _:=q9
    show wpAny _ _ _ _ _ _
    refine thn (he _ s9 σ8 H9 _ I9 q9) fun y sA ⟨vy,HA,IA,rA,vs,hvs,hlen,m',hm,wA⟩=>?_
    refine thn (Zct (X:=Zdk X (Zc2 own fr) scope cl s3 (upd H2 s2.heap.objs.size (.lst [])) fp) _ sA σ8 HA (.ref s2.heap.objs.size) [vy] (.ref s2.heap.objs.size) [y] (fun _ HB=>W (i + 1) m' σ8 HB) IA rfl (.cons rA .nil) ⟨_,vs,vy,rfl,rfl,hvs,hlen,wA⟩) fun _ sB ⟨_,HB,IB,_,wB⟩=>?_
    exact again IB hm wB
 exact codeAny_compStart_list loop (T.self _ 0 _ _ _ st4 loop)
theorem SameBut.get {a:Addr} {h h':Heap} (x:Heap.SameBut a h h'):∀ b o,b ≠ a->h.get? b = some o->h'.get? b = some o:=fun b o n e=>(x.2 b n).trans e
theorem Zcd (hc:X.calm = true) (B:BlScope X scope own fr) (hi:PI X tg iter wi)
  (hb:∀ cl s H fp,PG (Zdk X (Zc2 own fr) scope cl s H fp) tg g/\PTs (Zdk X (Zc2 own fr) scope cl s H fp) ifs tt/\PE (Zdk X (Zc2 own fr) scope cl s H fp) elt te)
  (hs:∀ x,foldedSetIterable iter X.env x = pure x:=by intro _; rfl):
  PE X (.ListComp elt [⟨tg,iter,ifs,0⟩] scope pos) (Znn own.length fr wi g tt te):=by
 intro pins s σ H Q I h
 obtain ⟨cl,hclos,hcl,hcl2⟩:=Zji (scope:=scope) (env:=X.env) fun y hy hf=>I.ok.has y.1 (B.free y hy hf)
 rw [eval_ListComp]
 refine Jcq (use:=none) rfl hs hclos B.kind B.loc (thn (hi pins s σ H _ I h) fun v s1 h1=>thn h1 fun itv s2 h2=>?_)
 obtain ⟨it,fp,tn,J,H2,e,I2,T,st2,f2,q⟩:=h2
 subst e
 refine Zkb (RR:=fun acc C=>compPost (model X.prog X.w) X.A X.xe none (EP X pins σ Q) acc C) (Q:=Q) hc B hb hcl hcl2 I2 T st2 f2 q ?_
 intro D C s' H' I' hq hn n1 n2 n3 n4 n5
 obtain ⟨m,hn⟩:=hn
 refine ⟨m,hn,fun h' hs'=>⟨.ref D,H',I'.turned (it:=C) (t':=s'.toks) (fun b o hb e=>SameBut.get hs' b o hb e) n5 (Jdx (Jdx n1)) (.inr n4) n2 n3,rfl,hq⟩⟩
theorem ps_comp {i:Nat} {x:Str} {pos' spos:Pos} (hc:X.calm = true) (B:BlScope X scope own fr) (hi:PI X tg iter wi)
  (hb:∀ cl s H fp,PG (Zdk X (Zc2 own fr) scope cl s H fp) tg g/\PTs (Zdk X (Zc2 own fr) scope cl s H fp) ifs tt/\PE (Zdk X (Zc2 own fr) scope cl s H fp) elt te)
  (hN:X.N.Nodup) (hix:X.N[i]? = some x) (hx:X.env.scope.names.lookup x = some .local)
  (hsw:swapsWith (.ListComp elt [⟨tg,iter,ifs,0⟩] scope pos) (some (.Name x pos')) spos.line X.env = pure true)
  (hs:∀ x,foldedSetIterable iter X.env x = pure x:=by intro _; rfl):
  PS X (.Assign [.Name x pos'] (.ListComp elt [⟨tg,iter,ifs,0⟩] scope pos) spos) (tAsg (Znn own.length fr wi g tt te) (Zce i)):=by
 intro pins s σ H D I h
 obtain ⟨cl,hclos,hcl,hcl2⟩:=Zji (scope:=scope) (env:=X.env) fun y hy hf=>I.ok.has y.1 (B.free y hy hf)
 rw [exec_Assign_Name_used _ _ _ _ hsw]
 refine Jaj (Jdc (Jaj ?_))
 show wpAny _ _ (do let _ <- comprehension (.ListComp elt [⟨tg,iter,ifs,0⟩] scope pos) scope X.env _ (newList []) false (eval iter X.env) (some (assign (.Name x pos') X.env))) _ _ s
 refine Jaj (Jbb (Jcq (use:=some (assign (.Name x pos') X.env)) (Q:=fun _ s'=>SP X pins D .next s') rfl hs hclos B.kind B.loc (thn (hi pins s σ H _ I h) fun v s1 h1=>thn h1 fun itv s2 h2=>?_))
  (fun _ s' hq=>Ja5 (Ja5 hq)) fun _ _ e=>e)
 obtain ⟨it,fp,tn,J,H2,e,I2,T,st2,f2,q⟩:=h2
 subst e
 refine Zkb (RR:=fun acc C=>compPost (model X.prog X.w) X.A X.xe (some (assign (.Name x pos') X.env)) (fun _ s'=>SP X pins D .next s') acc C) (Q:=fun v H'=>Zce i v σ H' D.nx) hc B hb hcl hcl2 I2 T st2 f2 q ?_
 intro DD C s' H' I' hq hn n1 n2 n3 n4 n5
 obtain ⟨m,hn⟩:=hn
 show wpAny _ _ (assign (.Name x pos') X.env (.ref DD)) _ _ s'
 refine wpAny_assign_Name (Zh2 I' hN hix (.inl hx) (v:=.ref DD) rfl (fun s3 I3 ⟨a,hsa,ha⟩=>?_) (.inr hx))
 have hCa:C ≠ a:=by
  rcases ha with z | z
  ·rw [z]; exact n1
  ·exact (n2 x a z).symm
 refine ⟨m,hn.sameBut hsa hCa,fun h' hs'=>⟨σ.set i (some (.ref DD)),H',I3.turned (it:=C) (t':=s3.toks) (fun b o hb e=>SameBut.get hs' b o hb e) n5 n1 (.inr n4) n2 n3,hq⟩⟩
end
section
variable {X:Cx}
theorem Zew:OpR X (binaryOp .Mult) (rI IntMulOk fun i j=>.int (i * j)):=
 opI fun i j t u s Q E c h=>PyProof.Rows.mul_int h c
def cV:V->Option Value
 | .ty n=>some (.type n)
 | .ref a=>some (.ref a)
 | _=>none
theorem Za6:Zdq X (.builtin "isinstance") (fun xs H Q=>∃ x y c t b,xs = [x,y]/\cV y = some c/\TyOf X.K H x t/\PySem.W.kitOne X.K t c = some b/\Q (.bl b) H):=by
 intro pins s σ H xs us Q I r h
 obtain ⟨x,y,c,t,b,rfl,hc,ty,e,q⟩:=h
 obtain ⟨u,v,rfl,rx,ry⟩:=vals2 r
 have hv:v = c:=by
  cases y <;> first | (cases hc; done) | (cases hc; cases ry; rfl)
 subst hv
 exact Zmn I rx ty e fun tk=>⟨.bl b,H,I.tok _,rfl,q⟩
theorem Zdz (bs:List Bool):(List.range bs.length).all (fun i=>(bs[i]?).getD true) = bs.all id:=by
 rw [Jbz,Ja0,Ja0]
 constructor
 ·intro h b hb
  obtain ⟨i,hi,rfl⟩:=Ja1.mp hb
  have:=h i (Jbn.mpr hi)
  rw [Jaa hi] at this
  exact this
 ·intro h i hi
  have hi:=Jbn.mp hi
  rw [Jaa hi]
  exact h _ (Jba hi)
theorem Znc (bs:List Bool):(List.range bs.length).any (fun i=>(bs[i]?).getD true) = bs.any id:=by
 rw [Jbz,Jc7,Jc7]
 constructor
 ·rintro ⟨i,hi,h⟩
  have hi:=Jbn.mp hi
  rw [Jaa hi] at h
  exact ⟨_,Jba hi,h⟩
 ·rintro ⟨b,hb,h⟩
  obtain ⟨i,hi,rfl⟩:=Ja1.mp hb
  exact ⟨i,Jbn.mpr hi,by rw [Jaa hi]; exact h⟩
theorem Zgj {A:Around} {prog:Program} {w:World} {bs:List Bool} {its:List Value} (r:Vals (bs.map V.bl) its):TruthOf prog w A (fun i v=>its.toArray[i]? = some v) (fun i=>(bs[i]?).getD true):=by
 intro i v s Q E hP hQ
 have hP:its[i]? = some v:=by simpa using hP
 have hl:=r.length
 rw [Jac] at hl
 have hi:i < bs.length:=by rw [hl]; exact (Jat.mp hP).1
 obtain ⟨u,hu,rv⟩:=r.get (i:=i) (x:=.bl bs[i]) (by rw [Jas,Jaa hi]; rfl)
 rw [hP] at hu
 cases hu
 cases rv
 have hQ:Q ((bs[i]?).getD true) s:=hQ
 rw [Jaa hi] at hQ
 exact Jbo hQ
theorem Zfu (hc:X.calm = true):Zdq X (.builtin "all") (fun xs H Q=>∃ (p:Addr) (bs:List Bool),xs = [.ref p]/\SqL X.K H p (bs.map V.bl)/\Q (.bl (bs.all id)) H):=by
 intro pins s σ H xs us Q I r h
 obtain ⟨p,bs,rfl,hq,q⟩:=h
 obtain ⟨u,rfl,rx⟩:=Zg3 r
 cases rx
 obtain ⟨its,rv,pl,hz⟩:=I.list hq
 have hl:=rv.length
 rw [Jac] at hl
 refine call_all_walk (Jd2 pl.isList ?_)
 have hne:p ≠ s.heap.objs.size:=fun e=>by
  obtain ⟨o,n,ho,_⟩:=pl
  exact absurd (Jaf ho) (by rw [e]; exact Ja9 _)
 refine ⟨s.heap.objs.size,_,_,_,_,_,fun i=>(bs[i]?).getD true,rfl,Walks.list (A:=X.A.in1) (I.ok.hd hc) _ p hne its.toArray,⟨⟨_,Jaq _ rfl,rfl,rfl⟩,pl.isList.at fun o e=>Jad _ e⟩,Zgj rv,fun h' tk kp=>?_⟩
 have e:(List.range its.toArray.size).all (fun i=>(bs[i]?).getD true) = bs.all id:=by
  rw [Jam,<- hl]; exact Zdz bs
 rw [e]
 have f:=I.fpOk (H':=H) (Jae s.heap.objs.size) (I.hok.fresh (Jae _))
 exact ⟨.bl _,H,(I.kept (h':=s.heap.push { cls:=.type "list_iterator",data:=.fields #[.ref p,.int 0 0] }) (t':=s.toks) fun b o e=>Jad _ e).turned (it:=s.heap.objs.size) (t':=tk) (fun b o hb e=>kp b o (by simpa using hb) e) f.1 f.2.1 f.2.2.2.1 f.2.2.2.2.1 f.2.2.2.2.2,rfl,q⟩
theorem Zo3 (hc:X.calm = true):Zdq X (.builtin "any") (fun xs H Q=>∃ (p:Addr) (bs:List Bool),xs = [.ref p]/\SqL X.K H p (bs.map V.bl)/\Q (.bl (bs.any id)) H):=by
 intro pins s σ H xs us Q I r h
 obtain ⟨p,bs,rfl,hq,q⟩:=h
 obtain ⟨u,rfl,rx⟩:=Zg3 r
 cases rx
 obtain ⟨its,rv,pl,hz⟩:=I.list hq
 have hl:=rv.length
 rw [Jac] at hl
 refine call_any_walk (Jd2 pl.isList ?_)
 have hne:p ≠ s.heap.objs.size:=fun e=>by
  obtain ⟨o,n,ho,_⟩:=pl
  exact absurd (Jaf ho) (by rw [e]; exact Ja9 _)
 refine ⟨s.heap.objs.size,_,_,_,_,_,fun i=>(bs[i]?).getD true,rfl,Walks.list (A:=X.A.in1) (I.ok.hd hc) _ p hne its.toArray,⟨⟨_,Jaq _ rfl,rfl,rfl⟩,pl.isList.at fun o e=>Jad _ e⟩,Zgj rv,fun h' tk kp=>?_⟩
 have e:(List.range its.toArray.size).any (fun i=>(bs[i]?).getD true) = bs.any id:=by
  rw [Jam,<- hl]; exact Znc bs
 rw [e]
 have f:=I.fpOk (H':=H) (Jae s.heap.objs.size) (I.hok.fresh (Jae _))
 exact ⟨.bl _,H,(I.kept (h':=s.heap.push { cls:=.type "list_iterator",data:=.fields #[.ref p,.int 0 0] }) (t':=s.toks) fun b o e=>Jad _ e).turned (it:=s.heap.objs.size) (t':=tk) (fun b o hb e=>kp b o (by simpa using hb) e) f.1 f.2.1 f.2.2.2.1 f.2.2.2.2.1 f.2.2.2.2.2,rfl,q⟩
end
inductive EqD (K:PySem.W.Frag) (H:Hp):Nat->V->V->Bool->Prop where
 | flat {n:Nat} {x y:V} (hx:Zkz x = true) (hy:Zkz y = true):EqD K H n x y (eqV x y)
 | same {n:Nat} {a:Addr}:EqD K H n (.ref a) (.ref a) true
 | list {n:Nat} {a c:Addr} {xs ys:List V} {bs:List Bool} (ne:a ≠ c) (ha:SqL K H a xs) (hc:SqL K H c ys) (hl:xs.length = ys.length) (hb:bs.length = xs.length)
   (he:∀ (j:Nat) x y b,xs[j]? = some x->ys[j]? = some y->bs[j]? = some b->EqD K H n x y b):EqD K H (n + 1) (.ref a) (.ref c) (bs.all id)
 | listL {n:Nat} {a c:Addr} {xs ys:List V} (ne:a ≠ c) (ha:SqL K H a xs) (hc:SqL K H c ys) (hl:xs.length ≠ ys.length):EqD K H (n + 1) (.ref a) (.ref c) false
 | tuple {n:Nat} {a c:Addr} {xs ys:List V} {bs:List Bool} (ne:a ≠ c) (ha:SqT K H a xs) (hc:SqT K H c ys) (hl:xs.length = ys.length) (hb:bs.length = xs.length)
   (he:∀ (j:Nat) x y b,xs[j]? = some x->ys[j]? = some y->bs[j]? = some b->EqD K H n x y b):EqD K H (n + 1) (.ref a) (.ref c) (bs.all id)
def Zhv (K:PySem.W.Frag) (H:Hp) (n:Nat) (xs ys:List V) (bs:List Bool):Prop:=
 xs.length = ys.length/\bs.length = xs.length/\∀ (j:Nat) x y b,xs[j]? = some x->ys[j]? = some y->bs[j]? = some b->EqD K H n x y b
section
variable {X:Cx} {pins:List (Addr × Obj)} {σ:St} {H:Hp} {s:Shared}
theorem Zfp {A:Around} {xs ys:List V} {us vs:List Value} {bs:List Bool} (rx:Vals xs us) (ry:Vals ys vs) (hl:xs.length = ys.length) (hb:bs.length = xs.length)
  (ih:∀ (j:Nat) x y b,xs[j]? = some x->ys[j]? = some y->bs[j]? = some b->∀ u v,RelV x u->RelV y v->SeqAt.EqAt A s u v b):
  ∀ j (h1:j < us.toArray.size) (h2:j < vs.toArray.size),SeqAt.EqAt A s us.toArray[j] vs.toArray[j] ((bs[j]?).getD true):=by
 intro j h1 h2
 have e1:=rx.length
 have e2:=ry.length
 have h1':j < us.length:=by simpa using h1
 have h2':j < vs.length:=by simpa using h2
 have g1:xs[j]? = some (xs[j]'(by omega)):=Jaa _
 have g2:ys[j]? = some (ys[j]'(by omega)):=Jaa _
 have g3:bs[j]? = some (bs[j]'(by omega)):=Jaa _
 obtain ⟨u,hu,ru⟩:=rx.get g1
 obtain ⟨v,hv,rv⟩:=ry.get g2
 have eu:us.toArray[j] = u:=by
  rw [Jaa h1'] at hu; simpa using hu
 have ev:vs.toArray[j] = v:=by
  rw [Jaa h2'] at hv; simpa using hv
 rw [eu,ev,g3]
 exact ih j _ _ _ g1 g2 g3 u v ru rv
theorem EqD.at {n:Nat} {x y:V} {b:Bool} (I:Inv X pins σ H s) (e:EqD X.K H n x y b):∀ {A:Around} {u v:Value},A.units + n < cLine->RelV x u->RelV y v->SeqAt.EqAt A s u v b:=by
 induction e with
 | flat hx hy=>intro A u v _ ru rv; exact Zph ru rv hx hy
 | same=>intro A u v _ ru rv; cases ru; cases rv; exact SeqAt.EqAt.same _
 | @list n a c xs ys bs ne ha hc hl hb he ih=>
  intro A u v hA ru rv
  cases ru
  cases rv
  obtain ⟨its,r1,p1,_⟩:=I.list ha
  obtain ⟨its',r2,p2,_⟩:=I.list hc
  have e1:=r1.length
  have e2:=r2.length
  have q:=SeqAt.RcAt.lists (e:=fun j=>(bs[j]?).getD true) p1.isList p2.isList (by simp; omega) (by omega) (Zfp (A:=A.in1) r1 r2 hl hb fun j x y b h1 h2 h3 u v ru rv=>ih j x y b h1 h2 h3 (show A.units + 1 + n < cLine by omega) ru rv)
  rw [show its.toArray.size = bs.length by simp; omega,Zdz] at q
  exact Jdq ne q
 | @listL n a c xs ys ne ha hc hl=>
  intro A u v hA ru rv
  cases ru
  cases rv
  obtain ⟨its,r1,p1,_⟩:=I.list ha
  obtain ⟨its',r2,p2,_⟩:=I.list hc
  have e1:=r1.length
  have e2:=r2.length
  exact Jdq ne (SeqAt.RcAt.lists_lengths p1.isList p2.isList (by simp; omega) (by omega))
 | @tuple n a c xs ys bs ne ha hc hl hb he ih=>
  intro A u v hA ru rv
  cases ru
  cases rv
  obtain ⟨its,r1,p1,_⟩:=I.tuple ha
  obtain ⟨its',r2,p2,_⟩:=I.tuple hc
  have e1:=r1.length
  have e2:=r2.length
  have q:=SeqAt.RcAt.tuples (e:=fun j=>(bs[j]?).getD true) p1 p2 (by omega) (Zfp (A:=A.in1) r1 r2 hl hb fun j x y b h1 h2 h3 u v ru rv=>ih j x y b h1 h2 h3 (show A.units + 1 + n < cLine by omega) ru rv)
  rw [show min its.toArray.size its'.toArray.size = bs.length by simp; omega,Zdz,show (its.toArray.size == its'.toArray.size) = true by simp; omega,Bool.and_true] at q
  exact Jdq ne q
def rEqL (K:PySem.W.Frag) (neg:Bool):R2:=fun x y H Q=>∃ a c xs ys,x = .ref a/\y = .ref c/\SqL K H a xs/\SqL K H c ys /\
 ((xs.length ≠ ys.length/\Q (.bl neg) H)\/∃ bs,Zhv K H 6 xs ys bs/\Q (.bl (if neg then !bs.all id else bs.all id)) H)
def rEqT (K:PySem.W.Frag) (neg:Bool):R2:=fun x y H Q=>∃ a c xs ys bs,x = .ref a/\y = .ref c/\SqT K H a xs/\SqT K H c ys/\Zhv K H 6 xs ys bs/\Q (.bl (if neg then !bs.all id else bs.all id)) H
theorem op_eqT (hu:X.A.units + 8 < cLine):OpR X (compareOp .Eq) (rEqT X.K false):=by
 intro pins s σ H x y v u Q I rx ry h
 obtain ⟨a,c,xs,ys,bs,rfl,rfl,ha,hc,⟨hl,hb,he⟩,q⟩:=h
 cases rx
 cases ry
 obtain ⟨its,r1,p1,_⟩:=I.tuple ha
 obtain ⟨its',r2,p2,_⟩:=I.tuple hc
 have e1:=r1.length
 have e2:=r2.length
 refine SeqAt.eq_tupleAt (e:=fun j=>(bs[j]?).getD true) p1 p2 (by omega) (Zfp (A:=X.A.in1) r1 r2 hl hb fun j x y b h1 h2 h3 u v ru rv=>(he j x y b h1 h2 h3).at I (show X.A.units + 1 + 6 < cLine by omega) ru rv) ?_
 rw [show min its.toArray.size its'.toArray.size = bs.length by simp; omega,Zdz,show (its.toArray.size == its'.toArray.size) = true by simp; omega,Bool.and_true]
 exact ⟨.bl (bs.all id),H,I,rfl,q⟩
theorem op_neT (hu:X.A.units + 8 < cLine):OpR X (compareOp .NotEq) (rEqT X.K true):=by
 intro pins s σ H x y v u Q I rx ry h
 obtain ⟨a,c,xs,ys,bs,rfl,rfl,ha,hc,⟨hl,hb,he⟩,q⟩:=h
 cases rx
 cases ry
 obtain ⟨its,r1,p1,_⟩:=I.tuple ha
 obtain ⟨its',r2,p2,_⟩:=I.tuple hc
 have e1:=r1.length
 have e2:=r2.length
 refine SeqAt.RcNeAt.tuples (e:=fun j=>(bs[j]?).getD true) p1 p2 (by omega) (Zfp (A:=X.A.in1) r1 r2 hl hb fun j x y b h1 h2 h3 u v ru rv=>(he j x y b h1 h2 h3).at I (show X.A.units + 1 + 6 < cLine by omega) ru rv) _ _ _ _ ?_
 rw [show min its.toArray.size its'.toArray.size = bs.length by simp; omega,Zdz,show (its.toArray.size == its'.toArray.size) = true by simp; omega,Bool.and_true]
 exact ⟨.bl (!bs.all id),H,I,rfl,q⟩
end
theorem Zge (K:PySem.W.Frag):PySem.W.kitOne K (.type "int") (.type "int") = some true:=by rfl
theorem Zez (K:PySem.W.Frag):PySem.W.kitOne K (.type "int") (.type "bool") = some false:=by kernel_rfl
theorem Zjb (K:PySem.W.Frag):PySem.W.kitOne K (.type "bool") (.type "bool") = some true:=by rfl
theorem Zku (K:PySem.W.Frag):PySem.W.kitOne K (.type "bool") (.type "int") = some true:=by kernel_rfl
theorem Zig (K:PySem.W.Frag):PySem.W.kitOne K (.type "tuple") (.type "tuple") = some true:=by rfl
theorem Zgd (K:PySem.W.Frag):PySem.W.kitOne K (.type "list") (.type "list") = some true:=by rfl
structure Cal (P:Program) (w:World) (K:PySem.W.Frag) (mg:Str->Option Value) (base:Heap) (x:Str) (k:Nat) (sp:Sp):Prop where
 ex:∃ (f:Addr) (fd:FuncData) (ps:List Str),FnOk P w K mg base CX0 k f fd ps sp/\mg x = some (.ref f)/\PySem.W.keepIn K (.ref f) = true/\Binds K fd ps []
theorem pe_cal {X:Cx} {x:Str} {k:Nat} {sp:Sp} {e:Expr} {es:List Expr} {t:TA} {p pos:Pos} (C:Cal X.prog X.w X.K X.mg X.base x k sp) (hr:Room k X.A) (hg:Gl X x) (ha:PA X (e :: es) t)
  (hdb:(x == ("__debug__" : Str)) = false:=by decide) (he:starEach (e :: es) X.env = (false,eval e X.env) :: starEach es X.env:=by rfl) (hpl:(backTo pos (starEach es X.env)).any (·.1) = false:=by rfl):
  PE X (.Call (.Name x p) (e :: es) [] pos) (Zh1 sp [] E0 t):=by
 obtain ⟨f,fd,ps,F,hm,hk,hb⟩:=C.ex
 exact Zl3 F hr hg hm hk hb .nil pass0 ha hdb he hpl
structure CalM (P:Program) (w:World) (K:PySem.W.Frag) (mg:Str->Option Value) (base:Heap) (C:Addr) (m:Str) (k:Nat) (sp:Sp):Prop where
 ex:∃ (f:Addr) (fd:FuncData) (ps:List Str),FnOk P w K mg base CX0 k f fd ps sp/\Meth K C m f/\Binds K fd ps []
structure CalI (P:Program) (w:World) (K:PySem.W.Frag) (mg:Str->Option Value) (base:Heap) (x:Str) (C:Addr) (k:Nat) (sp:Sp):Prop where
 ex:∃ (f:Addr) (fd:FuncData) (ps:List Str),FnOk P w K mg base CX0 k f fd ps sp/\Mk K C f/\mg x = some (.ref C)/\Binds K fd ps []
theorem pe_new {X:Cx} {x:Str} {C:Addr} {k:Nat} {sp:Sp} {e:Expr} {es:List Expr} {t:TA} {p pos:Pos} (M:CalI X.prog X.w X.K X.mg X.base x C k sp) (hr:Room (k + 1) X.A) (hg:Gl X x) (ha:PA X (e :: es) t)
  (hdb:(x == ("__debug__" : Str)) = false:=by decide) (he:starEach (e :: es) X.env = (false,eval e X.env) :: starEach es X.env:=by rfl) (hpl:(backTo pos (starEach es X.env)).any (·.1) = false:=by rfl):
  PE X (.Call (.Name x p) (e :: es) [] pos) (Zlg C sp [] E0 t):=by
 obtain ⟨f,fd,ps,F,hm,hk,hb⟩:=M.ex
 exact Zl1 hm F hr hg hk hb .nil pass0 ha hdb he hpl
def blOk (outer:List (Str × NameKind)) (N:List Str) (scope:Scope) (fr:List (Str × Nat)):Bool:=
 scope.kind == .function && scope.names.all (fun y=>y.2 != .free || outer.lookup y.1 == some .cell || outer.lookup y.1 == some .free) && scope.names.all (fun y=>scope.names.lookup y.1 == some y.2) &&
 fr.all fun y=>scope.names.lookup y.1 == some .free && N[y.2]? == some y.1
theorem Zet {X:Cx} {scope:Scope} {own:List Str} {fr:List (Str × Nat)} (h:blOk X.env.scope.names X.N scope fr = true):BlScope X scope own fr:=by
 unfold blOk at h
 simp only [Bool.and_eq_true,List.all_eq_true] at h
 obtain ⟨⟨⟨h1,h2⟩,h3⟩,h4⟩:=h
 refine ⟨?_,fun y hy hf=>?_,fun y hy hl=>?_,fun y hy=>?_,fun y hy=>?_⟩
 ·cases e:scope.kind <;> rw [e] at h1 <;> first | rfl | (exact absurd h1 (by decide))
 ·have:=h2 y hy
  rw [hf] at this
  simp only [Bool.or_eq_true,beq_iff_eq] at this
  rcases this with (q | q) | q
  ·exact absurd q (by decide)
  ·exact .inl q
  ·exact .inr q
 ·have:=h3 y hy
  rw [hl] at this
  exact Ja7.mp this
 ·exact Ja7.mp (h3 y hy)
 ·have:=h4 y hy
  exact ⟨Ja7.mp this.1,Ja7.mp this.2⟩
def Sh (k:Nat) (cap σ:St):Prop:=∃ o,o.length = k/\σ = o ++ cap
theorem Sh.mk1 {cap:St} {a:Option V}:Sh 1 cap (a :: cap):=⟨[a],rfl,rfl⟩
theorem Sh.mk2 {cap:St} {a b:Option V}:Sh 2 cap (a :: b :: cap):=⟨[a,b],rfl,rfl⟩
theorem Sh.one {cap σ:St} (h:Sh 1 cap σ):∃ a,σ = a :: cap:=by
 obtain ⟨o,h1,rfl⟩:=h
 match o,h1 with
 | [a],_=>exact ⟨a,rfl⟩
theorem Sh.two {cap σ:St} (h:Sh 2 cap σ):∃ a b,σ = a :: b :: cap:=by
 obtain ⟨o,h1,rfl⟩:=h
 match o,h1 with
 | [a,b],_=>exact ⟨a,b,rfl⟩
def Zby (fr:List (Str × Nat)) (σ:St):St:=fr.map fun y=>(σ[y.2]?).getD none
def Wv (n k:Nat) (cap:St) (Pv:Nat->List V->Hp->Prop):Nat->Nat->St->Hp->Prop:=fun i m σ H=>m = n - i/\i<=n/\Sh k cap σ/\∃ vs,Pv i vs H
def Lf (D:Addr) (n k:Nat) (cap:St) (Pv:Nat->List V->Hp->Prop) (i:Nat) (σ4:St) (y:V) (H6:Hp):Prop:=
 ∃ vs,H6 D = some (.lst vs)/\vs.length < sizeLine/\∃ m',m' < n - i/\Wv n k cap Pv (i + 1) m' σ4 (upd H6 D (.lst (vs ++ [y])))
def Lf0 (n k:Nat) (cap:St) (Pv:Nat->List V->Hp->Prop) (i:Nat) (σ4:St) (H5:Hp):Prop:=∃ m',m' < n - i/\Wv n k cap Pv (i + 1) m' σ4 H5
theorem Zpf {D:Addr} {n k:Nat} {cap:St} {Pv:Nat->List V->Hp->Prop} {i:Nat} {σ4:St} {y:V} {H6:Hp} {vs ws:List V} (hi:i < n) (sh:Sh k cap σ4) (hD:H6 D = some (.lst vs)) (hl:vs.length < sizeLine)
  (p:Pv (i + 1) ws (upd H6 D (.lst (vs ++ [y])))):Lf D n k cap Pv i σ4 y H6:=⟨vs,hD,hl,n - (i + 1),by omega,rfl,hi,sh,ws,p⟩
def Zff (g:TG) (tt:TT) (te:TE) (D:Addr) (n k:Nat) (cap:St) (Pv:Nat->List V->Hp->Prop) (i:Nat) (x:V) (σ':St) (H:Hp):Prop:=
 g x σ' H fun σ4 H4=>tt σ4 H4 fun b H5=>if b = true then te σ4 H5 fun y H6=>Lf D n k cap Pv i σ4 y H6 else Lf0 n k cap Pv i σ4 H5
section
variable {K:PySem.W.Frag} {a D:Addr} {xs:List V} {g:TG} {tt:TT} {te:TE} {k:Nat} {fr:List (Str × Nat)} {σ:St} {H1:Hp} {Q:VK}
theorem sh0:Sh k (Zby fr σ) (Zfh k fr σ):=⟨List.replicate k none,Jbl,rfl⟩
theorem Zft {J:It} {n:Nat} (it:Nat->V->Prop) (Pv:Nat->List V->Hp->Prop) (h0:Pv 0 [] (upd H1 D (.lst [])))
  (go:∀ i vs H,i < n->Pv i vs H->J.go i H/\∀ x H',J.yld i H x H'->H' = H/\it i x) (stop:∀ vs H,Pv n vs H->J.stop n H)
  (hs:∀ i x vs σ' H,i < n->it i x->Sh k (Zby fr σ) σ'->Pv i vs H->Zff g tt te D n k (Zby fr σ) Pv i x σ' H) (hd:∀ vs H,Pv n vs H->Q (.ref D) H):Zbo g tt te J D (Zfh k fr σ) H1 Q:=by
 refine ⟨Wv n k (Zby fr σ) Pv,⟨n,by simp,Jb8 _,sh0,[],h0⟩,?_⟩
 rintro i m σ' H2 ⟨rfl,hi,sh,vs,p⟩
 by_cases hlt:i < n
 ·obtain ⟨g1,g2⟩:=go i vs H2 hlt p
  refine .inr ⟨g1,fun x H3 y=>?_⟩
  obtain ⟨rfl,hx⟩:=g2 x H3 y
  exact hs i x vs σ' _ hlt hx sh p
 ·have e:i = n:=by omega
  subst e
  exact .inl ⟨stop vs H2 p,hd vs H2 p⟩
theorem Zfs (Pv:Nat->List V->Hp->Prop) (h0:Pv 0 [] (upd H1 D (.lst []))) (hl:∀ i vs H,i<=xs.length->Pv i vs H->SqL K H a xs)
  (hs:∀ i x vs σ' H,i < xs.length->xs[i]? = some x->Sh k (Zby fr σ) σ'->Pv i vs H->Zff g tt te D xs.length k (Zby fr σ) Pv i x σ' H) (hd:∀ vs H,Pv xs.length vs H->Q (.ref D) H):Zbo g tt te (Itl K a) D (Zfh k fr σ) H1 Q:=
 Zft (fun i x=>xs[i]? = some x) Pv h0 (fun i vs H hi p=>⟨⟨xs,xs[i],hl i vs H (Jcb hi) p,by simp [hi]⟩,fun x H' y=>⟨y.1,y.2 xs (hl i vs H (Jcb hi) p)⟩⟩)
  (fun vs H p=>⟨xs,hl _ vs H (Jae _) p,Jae _⟩) hs hd
theorem Zoy (Pv:Nat->List V->Hp->Prop) (h0:Pv 0 [] (upd H1 D (.lst []))) (hl:∀ i vs H,i<=xs.length->Pv i vs H->SqT K H a xs)
  (hs:∀ i x vs σ' H,i < xs.length->xs[i]? = some x->Sh k (Zby fr σ) σ'->Pv i vs H->Zff g tt te D xs.length k (Zby fr σ) Pv i x σ' H) (hd:∀ vs H,Pv xs.length vs H->Q (.ref D) H):Zbo g tt te (Itt K a) D (Zfh k fr σ) H1 Q:=
 Zft (fun i x=>xs[i]? = some x) Pv h0 (fun i vs H hi p=>⟨⟨xs,xs[i],hl i vs H (Jcb hi) p,by simp [hi]⟩,fun x H' y=>⟨y.1,y.2 xs (hl i vs H (Jcb hi) p)⟩⟩)
  (fun vs H p=>⟨xs,hl _ vs H (Jae _) p,Jae _⟩) hs hd
theorem Zo0 {lo:Int} {n:Nat} (Pv:Nat->List V->Hp->Prop) (h0:Pv 0 [] (upd H1 D (.lst [])))
  (hs:∀ i x vs σ' H,i < n->x = .int (lo + i)->Sh k (Zby fr σ) σ'->Pv i vs H->Zff g tt te D n k (Zby fr σ) Pv i x σ' H) (hd:∀ vs H,Pv n vs H->Q (.ref D) H):Zbo g tt te (Itr lo n) D (Zfh k fr σ) H1 Q:=
 Zft (fun i x=>x = .int (lo + i)) Pv h0 (fun i vs H hi p=>⟨hi,fun x H' y=>y⟩) (fun vs H p=>Jae _) hs hd
end
def Ext (l:Addr) (H H':Hp):Prop:=∀ b o,b ≠ l->H b = some o->H' b = some o
theorem Ext.refl (l:Addr) (H:Hp):Ext l H H:=fun _ _ _ e=>e
theorem Ext.trans {l:Addr} {H H1 H2:Hp} (a:Ext l H H1) (b:Ext l H1 H2):Ext l H H2:=fun c o n e=>b c o n (a c o n e)
theorem Ext.new {l p:Addr} {H:Hp} {o:HO} (h:H p = none):Ext l H (upd H p o):=fun c u _ e=>by rw [Zah (Zai e h)]; exact e
theorem Ext.set {l:Addr} {H:Hp} {o:HO}:Ext l H (upd H l o):=fun c u n e=>by rw [Zah n]; exact e
theorem Same.ext {l:Addr} {H H':Hp} (s:Same H H'):Ext l H H':=fun c o _ e=>s c o e
theorem Same.new {p:Addr} {H:Hp} {o:HO} (h:H p = none):Same H (upd H p o):=fun c u e=>by rw [Zah (Zai e h)]; exact e
theorem Same.upd {p:Addr} {H H':Hp} {o:HO} (s:Same H H') (h:H p = none):Same H (upd H' p o):=fun c u e=>by rw [Zah (Zai e h)]; exact s c u e
theorem Ext.upd {l p:Addr} {H H':Hp} {o:HO} (s:Ext l H H') (h:H p = none):Ext l H (upd H' p o):=fun c u n e=>by rw [Zah (Zai e h)]; exact s c u n e
theorem Ext.free {l p:Addr} {H H':Hp} (s:Ext l H H') (n:p ≠ l) (h:H' p = none):H p = none:=by
 cases e:H p with
 | none=>rfl
 | some o=>rw [s p o n e] at h; cases h
theorem cx_K {CX:CXT} {P:Program} {w:World} {K:PySem.W.Frag} {mg:Str->Option Value} {base:Heap} {N:List Str} {qual:Str} {scope:Scope} {f:Addr} {cd:Value} {A:Around} {outer:List Env} {s:Shared} {H:Hp} {E:XK}:(Zea CX P w K mg base N qual scope f cd A outer s H E).K = K:=rfl
theorem in_K {X:Cx} {N:List Str} {scope:Scope} {cl:List (Str × Addr)} {s:Shared} {H:Hp} {fp:List Addr}:(Zdk X N scope cl s H fp).K = X.K:=rfl
theorem wish_K {X:Cx} {E:Value->Shared->Prop}:(X.wish E).K = X.K:=rfl
theorem Zfn {X:Cx} {x:Str} {i:Int} {pos:Pos} (hg:Gl X x) (hm:∃ t,X.mg x = some (.int i t)) (hd:(x == ("__debug__" : Str)) = false:=by decide):PE X (.Name x pos) (tC (.int i)):=by
 obtain ⟨t,e⟩:=hm
 exact Zbn hg e ⟨t,rfl⟩ hd
theorem Zeb {α:Type} {xs:List α} {i:Int} {v:α} (h0:0<=i) (h:xs[i.toNat]? = some v):atI xs i = some v:=by
 have e:((i.toNat:Nat):Int) = i:=Int.toNat_of_nonneg h0
 rw [<- e]
 exact atI_nat h
def Za8:Expr->Bool
 | .Starred _ _=>true
 | _=>false
theorem Zau {e:Expr} {es:List Expr} {env:Env} (h:Za8 e = false):starEach (e :: es) env = (false,eval e env) :: starEach es env:=by
 cases e <;> first | rfl | cases h
theorem Zci {pos:Pos} {env:Env}:∀ {es:List Expr},es.all (fun x=>!Za8 x) = true->(backTo pos (starEach es env)).any (·.1) = false
 | [],_=>rfl
 | e :: es,h=>by
  rw [List.all_cons,Jay] at h
  have h1:Za8 e = false:=by simpa using h.1
  rw [Zau h1]
  show ((false,_).1 || (backTo pos (starEach es env)).any (·.1)) = false
  rw [Zci h.2]
  rfl
section
variable {X:Cx} {x:Str} {p pos:Pos} {e:Expr} {es:List Expr} {te:TE} {t:TA} {id T:String} {r:List V->Hp->VK->Prop}
theorem pa_c (ha:PE X e te) (hr:PA X es t) (h:Za8 e = false:=by rfl):PA X (e :: es) (Zh0 te t):=pa_cons ha hr (Zau h)
theorem Zbj (hc:Zdq X (.builtin id) r) (hg:Gl X x) (hm:X.mg x = none) (hv:bootBuiltins x = some (.builtin id)) (ha:PA X (e :: es) t) (h:Za8 e = false:=by rfl) (h2:es.all (fun x=>!Za8 x) = true:=by rfl)
  (hn:x ≠ "__name__" := by decide) (hdb:(x == ("__debug__" : Str)) = false:=by decide):PE X (.Call (.Name x p) (e :: es) [] pos) (tCB r t):=Zn4 hc hg hm hv ha hn hdb (Zau h) (Zci h2)
theorem Zd4 (hc:Zdq X (.type T) r) (hg:Gl X x) (hm:X.mg x = none) (hv:bootBuiltins x = some (.type T)) (ha:PA X (e :: es) t) (h:Za8 e = false:=by rfl) (h2:es.all (fun x=>!Za8 x) = true:=by rfl)
  (hn:x ≠ "__name__" := by decide) (hdb:(x == ("__debug__" : Str)) = false:=by decide):PE X (.Call (.Name x p) (e :: es) [] pos) (tCB r t):=Zl2 hc hg hm hv ha hn hdb (Zau h) (Zci h2)
theorem Zbb {k:Nat} {sp:Sp} (C:Cal X.prog X.w X.K X.mg X.base x k sp) (hr:Room k X.A) (hg:Gl X x) (ha:PA X (e :: es) t) (h:Za8 e = false:=by rfl) (h2:es.all (fun x=>!Za8 x) = true:=by rfl)
  (hdb:(x == ("__debug__" : Str)) = false:=by decide):PE X (.Call (.Name x p) (e :: es) [] pos) (Zh1 sp [] E0 t):=pe_cal C hr hg ha hdb (Zau h) (Zci h2)
theorem pe_n {C:Addr} {k:Nat} {sp:Sp} (M:CalI X.prog X.w X.K X.mg X.base x C k sp) (hr:Room (k + 1) X.A) (hg:Gl X x) (ha:PA X (e :: es) t) (h:Za8 e = false:=by rfl) (h2:es.all (fun x=>!Za8 x) = true:=by rfl)
  (hdb:(x == ("__debug__" : Str)) = false:=by decide):PE X (.Call (.Name x p) (e :: es) [] pos) (Zlg C sp [] E0 t):=pe_new M hr hg ha hdb (Zau h) (Zci h2)
theorem Znz {tg a:Expr} {ta:TA} (hg:Gl X "range") (hm:X.mg "range" = none) (ha:PA X [a] ta) (h:Za8 a = false:=by rfl):PI X tg (.Call (.Name "range" p) [a] [] pos) (Zom ta):=Zly hg hm ha (Zau h)
theorem pi_r2 {tg a b:Expr} {ta:TA} (hg:Gl X "range") (hm:X.mg "range" = none) (ha:PA X [a,b] ta) (h:Za8 a = false:=by rfl) (h2:Za8 b = false:=by rfl):PI X tg (.Call (.Name "range" p) [a,b] [] pos) (iRng2 ta):=
 Zlx hg hm ha (by rw [Zau h,Zau h2]; rfl) (Zau h2)
end
theorem scal_ii {i j:Int}:scal (.int i) (.int j) = true:=rfl
theorem scal_bb {i j:Bool}:scal (.bl i) (.bl j) = true:=rfl
theorem scal_ss {i j:Str}:scal (.str i) (.str j) = true:=rfl
theorem Zga {X:Cx} {x:Str} {n:String} {pos:Pos} (hg:Gl X x) (hm:X.mg x = none) (hv:bootBuiltins x = some (.type n)) (hn:x ≠ "__name__" := by decide) (hd:(x == ("__debug__" : Str)) = false:=by decide):PE X (.Name x pos) (tC (.ty n)):=pe_bltn (v:=.ty n) hg hm hv rfl hn hd
section
variable {X:Cx} (K:PySem.W.Frag) (hK:X.K = K)
include hK
theorem Zlz {pos:Pos} {es:List Expr} {k:Nat} {t:TGs} {n:Nat} (hc:X.calm = true) (h:PGs X es t) (hn:(assignEach es X.env).length = n) (hst:(assignEach es X.env).findIdx? (·.1) = none):PG X (.Tuple es k pos) (gTup K n t):=by subst hK; exact Zh8 hc h hn hst
theorem Zj6:IxR X (rIxL K):=by subst hK; exact Zaw
theorem Zju {tg l:Expr} {tl:TE} (hl:PE X l tl):PI X tg l (Zon K tl):=by subst hK; exact Zcc hl
end
end L2
set_option maxHeartbeats 1000000
namespace HT
open PySem PySem.Spec PyProof.Rows
section
variable {prog:Program} {w:World} {A:Around} {E:Value->Shared->Prop} {s:Shared}
end
end HT
namespace L2
open PySem PySem.Spec PyProof.Rows
section
variable {X:Cx} {e es:Expr} {te ts:TE} {pos p2:Pos}
end
end L2
namespace L2
open PySem PySem.Spec PyProof.Rows
section
variable {X:Cx}
def rGetL (K:PySem.W.Frag):V->V->Hp->VK->Prop:=fun x y H Q=>∃ p xs i v,x = .ref p/\y = .int i/\0<=i/\SqL K H p xs/\xs[i.toNat]? = some v/\Q v H
end
def Big (x:Int):Prop:=-(100000000000000000000000000000000) < x/\x < 100000000000000000000000000000000
theorem Big.mul {x y:Int} (hx:Big x) (hy:Big y):IntMulOk x y:=by
 have e:(2:Nat) ^ 200 > 100000000000000000000000000000000:=by decide +kernel
 have b:∀ {z:Int},Big z->Builtin.Int.intBits z<=2 ^ 20:=fun {z} h=>by
  have hz:z.natAbs < 2 ^ 200:=by have:=h.1; have:=h.2; omega
  unfold Builtin.Int.intBits
  split
  ·exact Jb8 _
  ·rename_i h0
   have:z.natAbs.log2 < 200:=(Nat.log2_lt (by intro c; apply h0; simpa using c)).mpr hz
   have e2:(2:Nat) ^ 20 = 1048576:=by decide
   rw [e2]
   omega
 exact .of_bits (b hx) (b hy)
def atZ (ns:List Int) (i:Int):Int:=ns.getD i.toNat 0
theorem atZ_get {ns:List Int} {i:Int} (h:i.toNat < ns.length):(ns.map V.int)[i.toNat]? = some (.int (atZ ns i)):=by
 rw [Jas,Jaa h]
 simp [atZ,h]
theorem atZ_mem {ns:List Int} {i:Int} (h:i.toNat < ns.length):atZ ns i ∈ ns:=by
 unfold atZ
 rw [Jau,Jaa h]
 exact Jba h
end L2
namespace L2
open PySem PySem.Spec PyProof.Rows
section
variable {X:Cx} {pins:List (Addr × Obj)} {σ:St} {H:Hp} {s:Shared} {h':Heap}
theorem Inv.turnedL {t':Nat} {fp:List Addr} (I:Inv X pins σ H s) (hf:∀ b ∈ fp,Ziw X pins H b) (k:∀ b o,b ∉ fp->s.heap.get? b = some o->h'.get? b = some o):Inv X pins σ H { s with heap:=h',toks:=t' }:=by
 have nit:∀ b u,H b = some u->b ∉ fp:=fun b u e z=>by rw [(hf b z).1] at e; cases e
 refine I.step (g':=s.gens) (d':=s.drawn) (ch:=fp) (fun b hb=>?_) (fun b o _ _ hc e _=>k b o hc e) (fun b o _ _ hc e _=>⟨o.slots,k b o hc e⟩) (fun _ _ _ _ n=>n)
  (fun b o hc e=>⟨o,k b o hc e⟩) (fun _ _ e=>e) (fun _ _ _ e=>e) (fun b ps e=>⟨#[],by rw [e]; simp⟩) (fun m hm=>?_) (fun b u e=>?_) I.bare
 ·obtain ⟨f0,f1,f2,f3,f4,f5⟩:=hf b hb
  exact ⟨f3,f1,f4,f5⟩
 ·obtain ⟨o,es,ep,ho,r⟩:=hm
  exact ⟨o,es,ep,k _ o (fun z=>(hf _ z).2.1 rfl) ho,r⟩
 ·refine (I.hok b u e).stay (fun c v hc q=>k c v ?_ q) (fun _ q=>q) (fun _ _ q=>q) fun _ _ _ q=>q
  rcases hc with z | z
  ·rw [z]; exact nit b u e
  ·exact nit c _ z
theorem Inv.turnedT {t':Nat} {fp:List Addr} {p:Addr} {o:HO} (I:Inv X pins σ H s) (hf:∀ b ∈ fp,Ziw X pins H b) (k:∀ b o,b ∉ fp->s.heap.get? b = some o->h'.get? b = some o) (hp:s.heap.objs.size<=p)
  (new:ObjOk X.prog X.w (upd H p o) h' p o):Inv X pins σ (upd H p o) { s with heap:=h',toks:=t' }:=by
 have hn:H p = none:=I.hok.fresh hp
 have nit:∀ b u,H b = some u->b ∉ fp:=fun b u e z=>by rw [(hf b z).1] at e; cases e
 have npp:∀ b u,s.heap.get? b = some u->b ≠ p:=fun b u e=>Ja8 (Jan (Jaf e) hp)
 refine I.step (g':=s.gens) (d':=s.drawn) (ch:=fp) (fun b hb=>?_) (fun b o _ _ hc e _=>k b o hc e) (fun b o _ _ hc e _=>⟨o.slots,k b o hc e⟩) (fun b o _ e n=>by rw [Zah (npp b o e)]; exact n)
  (fun b o hc e=>⟨o,k b o hc e⟩) (fun b xs e=>by rw [Zah (Zai e hn)]; exact e) (fun b u xs e=>by rw [Zah (Zai e hn)]; exact e) (fun b ps e=>⟨#[],by rw [Zah (Zai e hn),e]; simp⟩) (fun m hm=>?_) (fun b u e=>?_) I.bare
 ·obtain ⟨f0,f1,f2,f3,f4,f5⟩:=hf b hb
  exact ⟨f3,f1,f4,f5⟩
 ·obtain ⟨o,es,ep,ho,r⟩:=hm
  exact ⟨o,es,ep,k _ o (fun z=>(hf _ z).2.1 rfl) ho,r⟩
 ·by_cases hb:b = p
  ·subst hb; rw [Zac] at e; cases e; exact new
  ·rw [Zah hb] at e
   refine (I.hok b u e).stay (fun c v hc q=>k c v ?_ q) (fun c q=>by rw [Zah (Zai q hn)]; exact q) (fun c xs q=>by rw [Zah (Zai q hn)]; exact q) fun c _ _ q=>by rw [Zah (Zai q hn)]; exact q
   rcases hc with z | z
   ·rw [z]; exact nit b u e
   ·exact nit c _ z
end
def Itz (K:PySem.W.Frag) (a b:Addr):It:=
 ⟨fun i H=>∃ xs ys x y,SqL K H a xs/\SqL K H b ys/\xs[i]? = some x/\ys[i]? = some y,fun i H v H'=>∃ x y p,v = .ref p/\H p = none/\H' = upd H p (.tup [x,y])/\(∀ xs,SqL K H a xs->xs[i]? = some x)/\∀ ys,SqL K H b ys->ys[i]? = some y,fun i H=>∃ xs ys,SqL K H a xs/\SqL K H b ys/\(xs.length<=i\/ys.length<=i)⟩
theorem Znk {P:Program} {w:World} {K:PySem.W.Frag} {elts:List Expr} {x1:Nat} {pos:Pos} {z TI TO i1 i2 a b:Addr} (D:ZipApart z TI TO i1 i2 a b):
  Turn P w K (.Tuple elts x1 pos) (Itz K a b) [z,TI,TO,i1,i2] z (fun i h=>IsZip h z TI TO .none/\IsPair h TI (.ref i1) (.ref i2)/\(∃ u v,IsPair h TO u v)/\h.IsListIter i1 a i/\h.IsListIter i2 b i) where
 mem:=by simp
 obj:=fun i h st c hc=>by
  obtain ⟨hz,hTI,⟨u,v,hTO⟩,⟨o1,e1,c1,d1⟩,⟨o2,e2,c2,d2⟩⟩:=st
  simp at hc
  rcases hc with rfl | rfl | rfl | rfl | rfl
  ·exact ⟨_,hz,fun v z=>by have z':Data.fields _ = Data.cell v:=z; cases z'⟩
  ·exact ⟨_,hTI,fun v z=>by have z':Data.seq _ _ = Data.cell v:=z; cases z'⟩
  ·exact ⟨_,hTO,fun v z=>by have z':Data.seq _ _ = Data.cell v:=z; cases z'⟩
  ·exact ⟨o1,e1,fun v z=>by rw [d1] at z; cases z⟩
  ·exact ⟨o2,e2,fun v z=>by rw [d2] at z; cases z⟩
 keep:=fun i h h' st k=>by
  obtain ⟨hz,hTI,⟨u,v,hTO⟩,h1,h2⟩:=st
  exact ⟨k z (by simp) _ hz,k TI (by simp) _ hTI,⟨u,v,k TO (by simp) _ hTO⟩,h1.at fun o e=>k i1 (by simp) o e,h2.at fun o e=>k i2 (by simp) o e⟩
 item:=by
  intro X hP hw hK hc i pins s σ H E I hf st hg
  subst hP hw hK
  obtain ⟨xs,ys,x,y,hqa,hqb,hx,hy⟩:=hg
  obtain ⟨its,rv,p,hz1⟩:=I.list hqa
  obtain ⟨its2,rv2,p2,hz2⟩:=I.list hqb
  obtain ⟨u,hu,ru⟩:=rv.get hx
  obtain ⟨u2,hu2,ru2⟩:=rv2.get hy
  obtain ⟨hz,hTI,⟨c,d,hTO⟩,h1,h2⟩:=st
  refine wpAny_pyNext_zip_item D hz hTI hTO h1 h2 p.isList p2.isList (by simpa using hu) (by simpa using hu2) fun h' a1 a2 a3 a4 a5 a6 a7=>?_
  refine ⟨_,rfl,wpAny_letOwnedTupleGo_zip a1 fun h'' b1 b2=>?_⟩
  have nz:s.heap.objs.size ≠ z:=Jdm (Jaf hz)
  have k2:∀ c o,c ∉ [z,TI,TO,i1,i2]->s.heap.get? c = some o->h''.get? c = some o:=fun c o hc e=>by
   simp at hc
   exact b2.extBut _ _ hc.1 (a7 c o hc.1 hc.2.2.1 hc.2.2.2.1 hc.2.2.2.2 e)
  have I2:Inv X pins σ (upd H s.heap.objs.size (.tup [x,y])) { s with heap:=h'' }:=I.turnedT (t':=s.toks) hf k2 (Jae _)
   ⟨by show 2<=sizeLine; decide,[u,u2],.cons ru (.cons ru2 .nil),_,b2.extBut _ _ nz a5,rfl,_,rfl⟩
  refine ⟨.ref s.heap.objs.size,_,I2,rfl,⟨x,y,_,rfl,I.hok.fresh (Jae _),rfl,fun xs' hq=>by rw [I.list_inj hq hqa]; exact hx,fun ys' hq=>by rw [I.list_inj hq hqb]; exact hy⟩,
   ⟨b1,b2.extBut _ _ D.TIz (a7 _ _ D.TIz D.TITO D.TIi1 D.TIi2 hTI),⟨_,_,b2.extBut _ _ D.TOz a2⟩,a3.extBut b2.extBut D.i1z,a4.extBut b2.extBut D.i2z⟩,fun c hc=>?_⟩
  have hlt:∀ c ∈ [z,TI,TO,i1,i2],c < s.heap.objs.size:=fun c hc=>by
   simp at hc
   obtain ⟨o1,e1,_⟩:=h1
   obtain ⟨o2,e2,_⟩:=h2
   rcases hc with rfl | rfl | rfl | rfl | rfl
   ·exact Jaf hz
   ·exact Jaf hTI
   ·exact Jaf hTO
   ·exact Jaf e1
   ·exact Jaf e2
  rw [Zah (Ja8 (hlt c hc))]
  exact (hf c hc).1
 done:=by
  intro X hP hw hK hc i pins s σ H E I hf st hg
  subst hP hw hK
  obtain ⟨xs,ys,hqa,hqb,hx⟩:=hg
  obtain ⟨its,rv,p,hz1⟩:=I.list hqa
  obtain ⟨its2,rv2,p2,hz2⟩:=I.list hqb
  obtain ⟨hz,hTI,⟨c,d,hTO⟩,h1,h2⟩:=st
  have l1:=rv.length
  have l2:=rv2.length
  refine wpAny_pyNext_zip_end (I.ok.hd hc) D hz hTI hTO h1 h2 p.isList p2.isList ?_ fun h' kk=>⟨rfl,I.turnedL (t':=s.toks) hf fun c o hc e=>?_⟩
  ·rcases hx with hx | hx
   ·exact .inl (by simp; omega)
   ·exact .inr (by simp; omega)
  ·simp at hc
   exact kk c o hc.1 hc.2.2.1 hc.2.2.2.1 hc.2.2.2.2 e
 self:=fun _ _ _ _ _ st h=>wpAny_pyIter_zip st.1 h
section
variable {X:Cx}
def iZip (K:PySem.W.Frag) (ta:TA):TI:=fun σ H R=>ta σ H fun vs H1=>∃ a b,vs = [.ref a,.ref b]/\(∃ xs,SqL K H1 a xs)/\(∃ ys,SqL K H1 b ys)/\R (Itz K a b) H1
theorem pi_zip {elts:List Expr} {x1:Nat} {pt p pos:Pos} {a b:Expr} {ta:TA} (hg:Gl X "zip") (hm:X.mg "zip" = none) (ha:PA X [a,b] ta) (h:Za8 a = false:=by rfl) (h2:Za8 b = false:=by rfl):
  PI X (.Tuple elts x1 pt) (.Call (.Name "zip" p) [a,b] [] pos) (iZip X.K ta):=by
 intro pins s σ H R I hh
 refine Call_ (Zg0 I hg hm boot_zip (Jb7 (thn (ha pos pins s σ H _ I hh) fun us s1 ⟨vs,H1,I1,r1,q1⟩=>?_) (by rw [Zau h,Zau h2]) (by rw [Zau h2]; rfl)))
 obtain ⟨c,d,e,⟨xs,hq1⟩,⟨ys,hq2⟩,q⟩:=q1
 subst e
 cases r1 with
 | cons r rr=>
  cases rr with
  | cons r' rr=>
   cases rr
   cases r
   cases r'
   obtain ⟨its,rv,p1,hz1⟩:=I1.list hq1
   obtain ⟨its2,rv2,p2,hz2⟩:=I1.list hq2
   have lt1:c < s1.heap.objs.size:=by obtain ⟨o,ho,_⟩:=p1.isList; exact Jaf ho
   have lt2:d < s1.heap.objs.size:=by obtain ⟨o,ho,_⟩:=p2.isList; exact Jaf ho
   refine call_zip_2 p1.isList p2.isList fun h' a1 a2 a3 a4 a5 a6 a7=>wpAny_pyIter_zip (s:={ s1 with heap:=h' }) a1 ?_
   refine ⟨_,_,_,_,H1,rfl,I1.kept (t':=s1.toks) a7,Znk (zipApart_new lt1 lt2),⟨a1,a2,⟨_,_,a3⟩,a4,a5⟩,fun b hb=>?_,q⟩
   have hb':s1.heap.objs.size<=b:=by
    simp at hb
    rcases hb with rfl | rfl | rfl | rfl | rfl
    ·exact Jc8 _ _
    ·exact Jc8 _ _
    ·exact Jc8 _ _
    ·exact Jae _
    ·exact Jc8 _ _
   have:=(I1.fpOk (H':=H1) hb' (I1.hok.fresh hb'))
   exact this
end
section
variable {K:PySem.W.Frag} {a b D:Addr} {xs ys:List V} {g:TG} {tt:TT} {te:TE} {k:Nat} {fr:List (Str × Nat)} {σ:St} {H1:Hp} {Q:VK}
theorem Zox (Pv:Nat->List V->Hp->Prop) (hlen:ys.length = xs.length) (h0:Pv 0 [] (upd H1 D (.lst []))) (hl:∀ i vs H,i<=xs.length->Pv i vs H->SqL K H a xs/\SqL K H b ys)
  (hs:∀ i x y p vs σ' H,i < xs.length->xs[i]? = some x->ys[i]? = some y->H p = none->Sh k (Zby fr σ) σ'->Pv i vs H->Zff g tt te D xs.length k (Zby fr σ) Pv i (.ref p) σ' (upd H p (.tup [x,y]))) (hd:∀ vs H,Pv xs.length vs H->Q (.ref D) H):
  Zbo g tt te (Itz K a b) D (Zfh k fr σ) H1 Q:=by
 refine ⟨Wv xs.length k (Zby fr σ) Pv,⟨xs.length,by simp,Jb8 _,sh0,[],h0⟩,?_⟩
 rintro i m σ' H2 ⟨rfl,hi,sh,vs,p⟩
 obtain ⟨q1,q2⟩:=hl i vs H2 hi p
 by_cases hlt:i < xs.length
 ·refine .inr ⟨⟨xs,ys,xs[i],ys[i]'(by omega),q1,q2,by simp [hlt],by simp [hlen,hlt]⟩,fun x H3 y=>?_⟩
  obtain ⟨u,v,pp,rfl,hp,rfl,e1,e2⟩:=y
  exact hs i u v pp vs σ' _ hlt (e1 _ q1) (e2 _ q2) hp sh p
 ·have e:i = xs.length:=by omega
  subst e
  exact .inl ⟨⟨xs,ys,q1,q2,.inl (Jae _)⟩,hd vs H2 p⟩
end
end L2
namespace L2
open PySem PySem.Spec PyProof.Rows
def nrm (a b:Int):Int × Int:=(a / (Int.gcd a b:Int),b / (Int.gcd a b:Int))
def Low (x:Int × Int):Prop:=0 < x.2/\Int.gcd x.1 x.2 = 1
theorem Zeq {a b:Int} (hb:0 < b):0 < (Int.gcd a b:Int):=by
 have:0 < Int.gcd a b:=Int.gcd_pos_of_ne_zero_right a (by omega)
 omega
theorem nrm_fst {a b:Int}:(nrm a b).1 * (Int.gcd a b:Int) = a:=Int.ediv_mul_cancel (Int.gcd_dvd_left ..)
theorem Zmf {a b:Int}:(nrm a b).2 * (Int.gcd a b:Int) = b:=Int.ediv_mul_cancel (Jd5 ..)
theorem nrm_pos {a b:Int} (hb:0 < b):0 < (nrm a b).2:=by
 have h2:=@Zmf a b
 have g0:=Zeq (a:=a) hb
 rcases Int.lt_trichotomy 0 (nrm a b).2 with h | h | h
 ·exact h
 ·rw [<- h,Int.zero_mul] at h2; omega
 ·have:=Int.mul_neg_of_neg_of_pos h g0
  omega
theorem nrm_low {a b:Int} (hb:0 < b):Low (nrm a b):=by
 refine ⟨nrm_pos hb,?_⟩
 have h:=Int.gcd_mul_right (nrm a b).1 (Int.gcd a b:Int) (nrm a b).2
 rw [nrm_fst,Zmf] at h
 have g0:=Zeq (a:=a) hb
 have:Int.gcd a b = Int.gcd (nrm a b).1 (nrm a b).2 * Int.gcd a b:=by simpa using h
 have g1:0 < Int.gcd a b:=by omega
 exact (Nat.eq_of_mul_eq_mul_right g1 (by omega)).symm
theorem Zd9 (a:Int) {g:Int} (hg:0 < g) (hd:g ∣ a):(a / g).natAbs<=a.natAbs:=by
 obtain ⟨k,rfl⟩:=hd
 rw [Int.mul_ediv_cancel_left _ (by omega),Int.natAbs_mul]
 exact Nat.le_mul_of_pos_left _ (by omega)
def Bd (B:Nat) (x:Int × Int):Prop:=x.1.natAbs<=B/\x.2.natAbs<=B
theorem Zmg {a b:Int} {B:Nat} (hb:0 < b) (h1:a.natAbs<=B) (h2:b.natAbs<=B):Bd B (nrm a b):=
 ⟨Jbw (Zd9 a (Zeq hb) (Int.gcd_dvd_left ..)) h1,Jbw (Zd9 b (Zeq hb) (Jd5 ..)) h2⟩
def Isn (p:Int) (x:Int × Int):Prop:=(p = 0/\Low x)\/(0 < p/\0<=x.1/\x.1 < p/\x.2 = 1)
def Zgl (p:Int) (x y:Int × Int):Int × Int:=if p = 0 then nrm (x.1 * y.2 + y.1 * x.2) (x.2 * y.2) else ((x.1 + y.1) % p,1)
def Zd6 (p:Int) (x y:Int × Int):Int × Int:=if p = 0 then nrm (x.1 * y.1) (x.2 * y.2) else (x.1 * y.1 % p,1)
def Zol (p k:Int):Int × Int:=if p = 0 then (k,1) else (k % p,1)
theorem Isn.pos {p:Int} {x:Int × Int} (h:Isn p x):0 < x.2:=by
 rcases h with ⟨_,h⟩ | ⟨_,_,_,h⟩
 ·exact h.1
 ·omega
theorem Zjc {p a b:Int} (hp:p = 0) (hb:0 < b):Isn p (nrm a b):=.inl ⟨hp,nrm_low hb⟩
theorem Zjd {p a:Int} (hp:0 < p):Isn p (a % p,1):=.inr ⟨hp,Int.emod_nonneg _ (by omega),Jdr _ hp,rfl⟩
theorem Zj7 {p:Int} {x y:Int × Int} (h0:0<=p) (hx:Isn p x) (hy:Isn p y):Isn p (Zgl p x y):=by
 unfold Zgl
 split
 ·rename_i h; exact Zjc h (Jdg hx.pos hy.pos)
 ·exact Zjd (by omega)
theorem Zih {p:Int} {x y:Int × Int} (h0:0<=p) (hx:Isn p x) (hy:Isn p y):Isn p (Zd6 p x y):=by
 unfold Zd6
 split
 ·rename_i h; exact Zjc h (Jdg hx.pos hy.pos)
 ·exact Zjd (by omega)
theorem isn_int {p k:Int} (h0:0<=p):Isn p (Zol p k):=by
 unfold Zol
 split
 ·rename_i h; exact .inl ⟨h,⟨by show (0:Int) < 1; decide,by simp⟩⟩
 ·exact Zjd (by omega)
theorem Zor (a b:Int):Int.gcd b (a % b) = Int.gcd a b:=by
 rw [Int.emod_def,Int.sub_eq_add_neg,<- Int.mul_neg,Int.gcd_add_mul_left_right,Int.gcd_comm]
def CDivG (i j:Int):Prop:=0 < j/\j.natAbs<=100000000000000000000000000000000
theorem Zhi {X:Cx}:OpR X (binaryOp .FloorDiv) (rI CDivG fun i j=>.int (i / j)):=opI fun i j _ _ _ _ _ hc q=>by
 have h1:(0:Int) < j:=hc.1
 have h2:=hc.2
 refine floordiv_int (by omega) (by rw [Int.fdiv_eq_ediv_of_nonneg i (by omega)]; exact q) (.inl (PyProof.noPylong_of_log2 ?_))
 have:j.natAbs.log2 < 200:=(Nat.log2_lt (by omega)).mpr (Jbe h2 (by decide +kernel))
 omega
theorem Bd.big {B:Nat} {x:Int × Int} (h:Bd B x) (hB:B < 100000000000000000000000000000000):Big x.1/\Big x.2:=by
 obtain ⟨h1,h2⟩:=h
 exact ⟨⟨by omega,by omega⟩,⟨by omega,by omega⟩⟩
structure FunD (K:PySem.W.Frag) (x qual:Str) (st:Stmt) (f:Addr) (fd:FuncData) (T:Addr):Prop where
 ex:∃ (oc:Value) (od:Option Addr) (kV doc pm:Value) (an:Option Addr) (cdv ct:Value) (osl:Array (Option Value)),
  fd = PySem.W.fnOf x qual (Zaj st) (Zag st) (Zad st) (.ref T) kV doc pm an cdv ct/\K.lookup f = some ⟨oc,od,.func fd,osl⟩/\PySem.W.codeIn K cdv qual = true
section
variable {P:Program} {w:World} {K:PySem.W.Frag} {mg:Str->Option Value} {base:Heap}
end
structure CalD (P:Program) (w:World) (K:PySem.W.Frag) (mg:Str->Option Value) (base:Heap) (C:Addr) (m:Str) (k:Nat) (sp:Sp) (dvs:List V):Prop where
 ex:∃ (f:Addr) (fd:FuncData) (ps:List Str) (ds:List Value),FnOk P w K mg base CX0 k f fd ps sp/\Meth K C m f/\Binds K fd ps ds/\Vals dvs ds
def rBits:V->List V->Hp->VK->Prop:=fun x vs H Q=>∃ i:Int,x = .int i/\vs = []/\Q (.int ((Builtin.Int.intBits i:Nat):Int)) H
theorem bits_le {i:Int} {n:Nat} (h:i.natAbs < 2 ^ n):Builtin.Int.intBits i<=n:=by
 unfold Builtin.Int.intBits
 split
 ·exact Jb8 _
 ·rename_i h0
  have h1:i.natAbs ≠ 0:=by
   intro e
   exact h0 (by simp [Int.natAbs_eq_zero.mp e])
  exact (Nat.log2_lt h1).mpr h
end L2
namespace L2
open PySem PySem.Spec PyProof.Rows
def Ite (K:PySem.W.Frag) (a:Addr):It:=
 ⟨fun i H=>∃ xs x,SqL K H a xs/\xs[i]? = some x,fun i H v H'=>∃ x p,v = .ref p/\H p = none/\H' = upd H p (.tup [.int i,x])/\(∀ xs,SqL K H a xs->xs[i]? = some x),fun i H=>∃ xs,SqL K H a xs/\xs.length<=i⟩
section
variable {X:Cx}
def iEnm (K:PySem.W.Frag) (ta:TA):TI:=fun σ H R=>ta σ H fun vs H1=>∃ a,vs = [.ref a]/\(∃ xs,SqL K H1 a xs)/\R (Ite K a) H1
end
section
variable {K:PySem.W.Frag} {a b D:Addr} {xs ys:List V} {g:TG} {tt:TT} {te:TE} {k:Nat} {fr:List (Str × Nat)} {σ:St} {H1:Hp} {Q:VK}
end
end L2
namespace L2
open PySem PySem.Spec PyProof.Rows
theorem Zny (vs:List Value):slicePick vs.toArray none none (some (-1)) = vs.reverse.toArray:=by
 unfold slicePick
 have e:sliceRange (sliceBounds none none (some (-1)) vs.toArray.size).1 (sliceBounds none none (some (-1)) vs.toArray.size).2.1 (sliceBounds none none (some (-1)) vs.toArray.size).2.2 = (List.range vs.length).map fun k=>vs.length - 1 - k:=by
  have h1:¬ ((some (-1:Int)).getD 1 > 0):=by decide
  have b:sliceBounds none none (some (-1)) vs.toArray.size = ((vs.length:Int) - 1,-1,-1):=by
   simp [sliceBounds]
  rw [b]
  unfold sliceRange
  have h0:¬ ((-1:Int) > 0):=by decide
  simp only [h0,if_false]
  have hc:(if (vs.length:Int) - 1 > -1 then ((vs.length:Int) - 1 - -1 - -1 - 1) / (- -1) else 0).toNat = vs.length:=by
   by_cases hn:(vs.length:Int) - 1 > -1
   ·rw [if_pos hn]
    have:((vs.length:Int) - 1 - -1 - -1 - 1) / (- -1) = vs.length:=by
     have e:(- -1:Int) = 1:=by decide
     rw [e,Int.ediv_one]; omega
    rw [this]; simp
   ·rw [if_neg hn]; omega
  rw [hc]
  apply List.map_congr_left
  intro k hk
  have hk':k < vs.length:=Jbn.mp hk
  omega
 rw [e]
 congr 1
 apply Jcz
 intro i
 have g:∀ l:List Nat,(∀ j ∈ l,j < vs.length)->∀ i:Nat,(l.filterMap (vs.toArray[·]?))[i]? = (l[i]?).bind (vs[·]?):=by
  intro l
  induction l with
  | nil=>intro _ i; simp
  | cons a r ih=>
   intro h i
   have ha:a < vs.length:=h a (Jbd ..)
   have e:vs.toArray[a]? = some vs[a]:=by simp [ha]
   rw [Ja6,e]
   cases i with
   | zero=>simp [ha]
   | succ i=>simpa using ih (fun j hj=>h j (Jai _ hj)) i
 rw [g _ (fun j hj=>by obtain ⟨k,hk,rfl⟩:=Jbq.mp hj; have:=Jbn.mp hk; omega) i]
 by_cases hi:i < vs.length
 ·rw [Jas,Jdh hi,List.getElem?_reverse hi]
  rfl
 ·rw [Jbf (by simp; omega),Jbf (by simp; omega)]
  rfl
def tRevL (K:PySem.W.Frag) (te:TE):TE:=fun σ H Q=>te σ H fun x H1=>∃ a xs,x = .ref a/\SqL K H1 a xs/\∀ p,H1 p = none->Q (.ref p) (upd H1 p (.lst xs.reverse))
section
variable {X:Cx} {e es:Expr} {te ts:TE} {pos p2:Pos}
theorem Zl0 (K:PySem.W.Frag) (hK:X.K = K) (he:PE X e te) (hs:PE X es ts) (hts:∀ σ H Q,Q (.int (-1)) H->ts σ H Q):PE X (.Subscript e (.Slice none none (some es) p2) pos) (tRevL K te):=by
 subst hK
 intro pins s σ H Q I h
 refine Subscript_ (thn (he pins s σ H _ I h) fun v s1 ⟨x,H1,I1,r1,q1⟩=>?_)
 obtain ⟨a,ys,rfl,hx,q⟩:=q1
 cases r1
 refine wpAny_Slice ?_
 rw [evalPart_none]
 refine Ja5 ?_
 refine Ja5 ?_
 rw [evalPart_some]
 refine thn (hs pins s1 σ H1 (fun x H2=>x = .int (-1)/\H2 = H1) I1 (hts _ _ _ ⟨rfl,rfl⟩)) fun vu s3 ⟨u,H3,I3,pu,q3⟩=>?_
 obtain ⟨rfl,rfl⟩:=q3
 obtain ⟨t,rfl⟩:=pu
 have I4:Inv X pins σ H3 { s3 with heap:=s3.heap.push { cls:=.type "slice",data:=.fields #[.none,.none,.int (-1) t] } }:=I3.kept (t':=s3.toks) fun b ob q=>Jad _ q
 obtain ⟨its,r,ht,hz⟩:=I4.list hx
 have hlen:=r.length
 show wpAny (model X.prog X.w) X.A (subscriptTail e (.Slice none none (some es) p2) (.ref a) (.ref s3.heap.objs.size)) (EP X pins σ Q) X.xe { s3 with heap:=s3.heap.push { cls:=.type "slice",data:=.fields #[.none,.none,.int (-1) t] } }
 refine tail_any (ops:=[.ref a,.ref s3.heap.objs.size]) ht.isList.typeIs Jd3.lookup (wpAny_getItem_list_slice ht.isList (Heap.IsSliceOf.new ..) .none .none (.int (-1) t) (by simp) ?_ (by rw [Jam] <;> omega)) (by with_unfolding_all rfl)
 rw [Zny]
 refine ⟨.ref (Heap.push _ _).objs.size,_,I4.laid (t':=s3.toks) (o:=.lst ys.reverse) (fun b ob q=>Jad _ q) (Jae _) ?_,rfl,q _ (I4.hok.fresh (Jae _))⟩
 exact ⟨by rw [List.length_reverse]; exact hz,_,0,Vals.reverse r,Jaq _ rfl⟩
end
end L2
namespace L2
open PySem PySem.Spec PyProof.Rows PySem.W
structure Trk (B:Heap) (fr:List Env) (e:Addr) (cls c0 fl:Value) (h:Heap):Prop where
 st:B.StaysIn h
 nw:B.get? e = none
 ff:h.FunFrames B fr
 ob:∃ (o:Obj) (vs:Array Value) (T:Addr) (oT:Obj) (us:Array Value),h.get? e = some o/\o.cls = cls/\o.data = .fields vs/\vs[2]? = some c0/\vs[1]? = some (.ref T)/\B.get? T = none/\T ≠ e/\h.get? T = some oT/\oT.data = .fields us/\us[3]? = some fl
theorem Trk.there {B h:Heap} {fr:List Env} {e:Addr} {cls c0 fl:Value} (x:Trk B fr e cls c0 fl h):∃ o,h.get? e = some o/\o.cls = cls:=
 let ⟨o,_,_,_,_,a,b,_⟩:=x.ob; ⟨o,a,b⟩
theorem Trk.outer {B h:Heap} {env:Env} {fr:List Env} {e:Addr} {cls c0 fl:Value} (x:Trk B (env :: fr) e cls c0 fl h):Trk B fr e cls c0 fl h:=⟨x.st,x.nw,x.ff.2.2,x.ob⟩
section
variable {M:Model} {A:Around} {E:Value->Shared->Prop} {s:Shared} {B:Heap} {fr:List Env} {e L:Addr} {cls c0:Value} {Q:Unit->Shared->Prop}
theorem Zc1 {h h':Heap} {T:Addr} {oT:Obj} {us:Array Value} (hT:h.get? T = some oT) (hd:oT.data = .fields us) (k:∀ b,b ≠ T->h'.get? b = h.get? b):h.UpToSlots h':=fun b o hb hn=>
 ⟨o.slots,by rw [k b (fun z=>by rw [z,hT] at hb; cases hb; exact hn us hd)]; exact hb⟩
theorem Zfr {h h':Heap} {B:Heap} {fr:List Env} (x:h.FunFrames B fr) (k:h.UpToSlots h'):h'.FunFrames B fr:=x.of_keeps fun b o hb hn=>let ⟨_,q⟩:=k b o hb hn; ⟨_,q,rfl⟩
theorem Zdf {f0:Value} (fo:Option Addr) (x:Trk B fr e cls c0 f0 s.heap) (k:∀ h',Trk B fr e cls c0 (fo.elim .none fun f=>rawInt f) h'->s.heap.UpToSlots h'->Q () { s with heap:=h' }):wpAny M A (setFlight (.ref e) fo) Q E s:=by
 obtain ⟨o,vs,T,oT,us,he,hc,hd,g2,g1,nT,ne,hT,dT,g3⟩:=x.ob
 have z3:3 < us.size:=(Jca.mp g3).1
 unfold setFlight
 refine Jaj (Jc0 he hd g1 ?_)
 rw [if_pos (by simp)]
 have oth:∀ b,b ≠ T->(s.heap.update T (Obj.mapFields (·.setIfInBounds 3 (fo.elim Value.none fun f=>rawInt f)))).get? b = s.heap.get? b:=fun b hb=>Jbs _ _ hb.symm
 have up:=Zc1 hT dT oth
 have me:=Jc5 (Obj.mapFields (·.setIfInBounds 3 (fo.elim Value.none fun f=>rawInt f))) hT (Obj.isFreed_of_fields (Jcv dT _))
 exact Jdz hT dT z3 (k _ ⟨fun b u hb=>by rw [oth b (fun z=>by rw [z,nT] at hb; cases hb)]; exact x.st b u hb,x.nw,Zfr x.ff up,o,vs,T,_,_,by rw [oth e ne.symm]; exact he,hc,hd,g2,g1,nT,ne,me,Jcv dT _,by simp [z3]⟩ up)
theorem Zfv {env:Env} {o:Obj} {vs:Array Value} {hd0:Value} {bb:Bool} (fA:A.frames = some (env :: fr)) (ff:s.heap.FunFrames B (env :: fr)) (fE:env.frame = some L) (st:B.StaysIn s.heap) (nw:B.get? e = none)
  (he:s.heap.get? e = some o) (hd:o.data = .fields vs) (g2:vs[2]? = some c0) (k:∀ h',Trk B (env :: fr) e o.cls c0 (rawInt L) h'->s.heap.UpToSlots h'->Q () { s with heap:=h' }):
  wpAny M A (do let a <- frameOf env; let pl <- entryPlaceOf L bb; let b <- EntryCells.newEntry hd0 a .none (rawInt L) .none pl; setField (.ref e) 1 b) Q E s:=by
 have z2:2 < vs.size:=(Jca.mp g2).1
 have nfr:e ∉ (env :: fr).filterMap (·.frame):=fun z=>by
  obtain ⟨_,u,hu,hn⟩:=ff.mem z
  rw [he] at hu
  cases hu
  exact hn vs hd
 refine Jaj (wpAny_frameOf_fun fA ff fE fun g sg=>Jaj (wpAny_entryPlaceOf fun pl ip=>?_))
 unfold EntryCells.newEntry newFields
 refine Jaj (Jd4 (?_:_) (ip.sizeOk5 _ _ _ _ _))
 have ge:g.get? e = some o:=(sg.2.1 e nfr).trans he
 have stg:B.StaysIn g:=fun b u hb=>(sg.2.1 b fun z=>by rw [(ff.mem z).1] at hb; cases hb).trans (st b u hb)
 have gs:s.heap.UpToSlots g:=fun b u hb _=>sg.2.2 b u hb
 generalize htb:({ cls:=.type "traceback",dict:=none,data:=.fields ([hd0,.ref L,.none,rawInt L,.none] ++ (if pl.isEmpty then List.replicate 6 Value.none else pl)).toArray }:Obj) = tb
 have tbf:tb.isFreed = false:=by rw [<- htb]; rfl
 have ge2:(g.push tb).get? e = some o:=Jad tb ge
 have nT:g.objs.size ≠ e:=Jdm (Jaf ge)
 have oth:∀ b u,b ≠ e->g.get? b = some u->((g.push tb).update e (Obj.mapFields (·.setIfInBounds 1 (Value.ref g.objs.size)))).get? b = some u:=fun b u hb q=>by
  rw [Jbs _ _ hb.symm]
  exact Jad tb q
 have up:g.UpToSlots ((g.push tb).update e (Obj.mapFields (·.setIfInBounds 1 (Value.ref g.objs.size)))):=fun b u q hn=>⟨u.slots,oth b u (fun z=>by rw [z,ge] at q; cases q; exact hn vs hd) q⟩
 have me:=Jc5 (Obj.mapFields (·.setIfInBounds 1 (Value.ref g.objs.size))) ge2 (Obj.isFreed_of_fields (Jcv hd _))
 have hT:((g.push tb).update e (Obj.mapFields (·.setIfInBounds 1 (Value.ref g.objs.size)))).get? g.objs.size = some tb:=by
  rw [Jbs _ _ nT.symm]
  exact Jaq g tbf
 refine Jdz ge2 hd (by omega) (k _ ⟨fun b u hb=>oth b u (fun z=>by rw [z,nw] at hb; cases hb) (stg b u hb),nw,Zfr ff (gs.trans up),_,_,g.objs.size,tb,_,me,Obj.cls_mapFields _ _,Jcv hd _,by rw [Array.getElem?_setIfInBounds_ne (by decide)]; exact g2,by simp [show 1 < vs.size by omega],stg.fresh,nT,hT,by rw [<- htb],?_⟩ (gs.trans up))
 first | (simp; done) | (rcases ip with rfl | ⟨_,_,_,_,_,_,_,rfl⟩ <;> simp)
theorem Zlc {env:Env} {o:Obj} {vs:Array Value} (fA:A.frames = some (env :: fr)) (ff:s.heap.FunFrames B (env :: fr)) (fE:env.frame = some L) (st:B.StaysIn s.heap) (nw:B.get? e = none)
  (he:s.heap.get? e = some o) (hd:o.data = .fields vs) (g2:vs[2]? = some c0) (g1:vs[1]? = some .none) (k:∀ h',Trk B (env :: fr) e o.cls c0 (rawInt L) h'->s.heap.UpToSlots h'->Q () { s with heap:=h' }):wpAny M A (noteFrame (.ref e) env) Q E s:=by
 unfold noteFrame
 rw [fE]
 refine Jaj (Jc0 he hd g1 ?_)
 exact Zfv fA ff fE st nw he hd g2 k
theorem Zg4 {env:Env} (fA:A.frames = some (env :: fr)) (fE:env.frame = some L) (x:Trk B (env :: fr) e cls c0 .none s.heap) (k:∀ h',Trk B (env :: fr) e cls c0 (rawInt L) h'->s.heap.UpToSlots h'->Q () { s with heap:=h' }):wpAny M A (noteFrame (.ref e) env) Q E s:=by
 obtain ⟨o,vs,T,oT,us,he,hc,hd,g2,g1,nT,ne,hT,dT,g3⟩:=x.ob
 have z3:3 < us.size:=(Jca.mp g3).1
 have oth:∀ b,b ≠ T->(s.heap.update T (Obj.mapFields (·.setIfInBounds 3 Value.none))).get? b = s.heap.get? b:=fun b hb=>Jbs _ _ hb.symm
 have up:=Zc1 hT dT oth
 unfold noteFrame
 rw [fE]
 refine Jaj (Jc0 he hd g1 ?_)
 rw [if_pos (by simp)]
 refine Jaj (Jc0 hT dT g3 ?_)
 rw [if_neg (by simp [rawInt])]
 refine Jaj (Jdz hT dT z3 ?_)
 exact Zfv fA (Zfr x.ff up) fE (fun b u hb=>by rw [oth b (fun z=>by rw [z,nT] at hb; cases hb)]; exact x.st b u hb) x.nw ((oth e ne.symm).trans he) hd g2 fun h' y q=>k h' (hc ▸ y) (up.trans q)
theorem Zlb {env:Env} (fA:A.frames = some (env :: fr)) (fE:env.frame = some L) (x:Trk B (env :: fr) e cls c0 .none s.heap) (k:∀ h',Trk B fr e cls c0 .none h'->s.heap.UpToSlots h'->Q () { s with heap:=h' }):wpAny M A (leaving env (.ref e)) Q E s:=by
 unfold leaving
 exact Jaj (Zg4 fA fE x fun h1 y q=>Zdf (s:={ s with heap:=h1 }) none y fun h2 y2 q2=>k h2 y2.outer (q.trans q2))
theorem Znm {env:Env} {h0:Heap} {as:List Value} (fA:A.frames = some (env :: fr)) (fE:env.frame = some L) (st:B.StaysIn h0) (ff:h0.FunFrames B (env :: fr)) (x:Heap.MadeExcOf h0 s.heap e cls as)
  (k:∀ h',Trk B fr e cls .none .none h'->s.heap.UpToSlots h'->Q () { s with heap:=h' }):wpAny M A (leaving env (.ref e)) Q E s:=by
 obtain ⟨t,he,_,_⟩:=x.there
 have nw:B.get? e = none:=by
  cases q:B.get? e with
  | none=>rfl
  | some u=>have:=st e u q; rw [x.new] at this; cases this
 unfold leaving
 exact Jaj (Zlc fA (ff.of_keeps fun b u hb _=>⟨u,x.keeps b u hb,rfl⟩) fE (fun b u hb=>x.keeps b u (st b u hb)) nw he rfl rfl rfl fun h1 y q=>Zdf (s:={ s with heap:=h1 }) none y fun h2 y2 q2=>k h2 y2.outer (q.trans q2))
end
end L2
namespace L2
open PySem PySem.Spec PyProof.Rows PySem.W
theorem HOk.track {P:Program} {w:World} {H:Hp} {h h':Heap} (x:HOk P w H h) (k:∀ b u o,H b = some u->h.get? b = some o->h'.get? b = some o):HOk P w H h':=fun a o e=>
 (x a o e).stay (fun b u hb q=>by
  rcases hb with rfl | hb
  ·exact k b o u e q
  ·exact k b _ u hb q) (fun _ z=>z) (fun _ _ z=>z) fun _ _ _ z=>z
theorem ObjOk.there {P:Program} {w:World} {H:Hp} {h:Heap} {a:Addr} {o:HO} (x:ObjOk P w H h a o):∃ u,h.get? a = some u:=by
 cases o with
 | lst xs=>obtain ⟨_,_,_,_,e⟩:=x; exact ⟨_,e⟩
 | tup xs=>obtain ⟨_,_,_,p⟩:=x; obtain ⟨o,e,_⟩:=p; exact ⟨_,e⟩
 | dK kvs=>obtain ⟨_,_,_,_,o,_,_,e,_⟩:=x; exact ⟨_,e⟩
 | dT kvs=>obtain ⟨_,_,_,_,o,_,_,e,_⟩:=x; exact ⟨_,e⟩
 | set S n=>obtain ⟨o,_,_,_,e,_⟩:=x; exact ⟨_,e⟩
 | ins C dx fs=>obtain ⟨_,_,_,e,_⟩:=x; exact ⟨_,e⟩
 | own y=>obtain ⟨_,e⟩:=x; exact ⟨_,e⟩
 | xd fs=>obtain ⟨_,⟨_,_,_,e,_⟩,_⟩:=x; exact ⟨_,e⟩
 | rng lo hi=>obtain ⟨_,_,_,e⟩:=x; exact ⟨_,e⟩
 | frz ob u=>obtain ⟨e,_⟩:=x; exact ⟨_,e⟩
 | tbl ps=>exact ⟨_,(show h.get? a = some _ from x)⟩
 | met f y=>exact ⟨_,(show h.get? a = some _ from x)⟩
 | ext φ=>obtain ⟨_,⟨_,e⟩,_⟩:=x; exact ⟨_,e⟩
 | tab l c q=>
  rcases x with e | ⟨_,_,_,_,e,_⟩
  ·exact ⟨_,e⟩
  ·exact ⟨_,e⟩
structure Fly (P:Program) (w:World) (outer:List Env) (H:Hp) (s:Shared) (a:Addr) (cls c0:Value) (H':Hp) (s':Shared):Prop where
 os:s'.os = s.os
 bare:AllBare s'.gens
 hok:HOk P w H' s'.heap
 un:Un (frs outer) [] H H' s.heap s'.heap
 fly:∃ B,Trk B outer a cls c0 .none s'.heap/\(∀ b o,s.heap.get? b = some o->b ∉ frs outer->∃ o',B.get? b = some o')/\∀ b u,H' b = some u->∃ o',B.get? b = some o'
 new:∀ o,s.heap.get? a ≠ some o
 free:H' a = none
def CXe (P:Program) (w:World):CXT:=fun outer H s E e s'=>∃ (a:Addr) (cls c0:Value) (H':Hp),e = .ref a/\Fly P w outer H s a cls c0 H' s'/\E cls none H'/\(c0 = .none\/E cls (some 0) H')
section
variable {P:Program} {w:World} {K:PySem.W.Frag} {mg:Str->Option Value} {base:Heap} {N:List Str} {qual:Str} {scope:Scope} {f:Addr} {cd:Value} {A:Around} {outer:List Env} {s:Shared} {H:Hp} {E:XK} {pins:List (Addr × Obj)} {σ:St} {H1:Hp} {s1 s2:Shared} {e:Addr} {cls:Value}
theorem xe_made {vs:List Value} (I:Inv (Zea (CXe P w) P w K mg base N qual scope f cd A outer s H E) pins σ H1 s1) (hx:Heap.MadeExcOf s1.heap s2.heap e cls vs) (ho:s2.os = s1.os) (hg:AllBare s2.gens) (hE:E cls none H1):
  (Zea (CXe P w) P w K mg base N qual scope f cd A outer s H E).xe (.ref e) s2:=by
 show wpAny (model P w) (A.deeper (envOfC qual scope s.heap.objs.size f cd)) (leaving (envOfC qual scope s.heap.objs.size f cd) (.ref e)) (fun _ s''=>CXe P w outer H s E (.ref e) s'') (fun e' s''=>CXe P w outer H s E e' s'') s2
 have hin:∀ env ∈ (envOfC qual scope s.heap.objs.size f cd :: outer),∀ b,env.frame = some b->b ∈ frs (envOfC qual scope s.heap.objs.size f cd :: outer):=fun env he b hb=>Jdn.mpr ⟨env,he,hb⟩
 have hstk:s1.heap.FunFrames base (envOfC qual scope s.heap.objs.size f cd :: outer):=I.stack
 have hfree:∀ b ∈ frs (envOfC qual scope s.heap.objs.size f cd :: outer),H1 b = none:=I.stkFree
 have hsub:∀ b ∈ frs (envOfC qual scope s.heap.objs.size f cd :: outer),b ∈ s.heap.objs.size :: frs outer:=I.stkSub
 refine Znm (B:=hideAll s1.heap (frs (envOfC qual scope s.heap.objs.size f cd :: outer))) (h0:=s1.heap) I.ok.frames rfl (fun b o q=>of_hideAll _ q) (funFrames_hide hstk hin) hx fun h' x1 x4=>?_
 have keepB:∀ b o,s1.heap.get? b = some o->b ∉ frs (envOfC qual scope s.heap.objs.size f cd :: outer)->h'.get? b = some o:=fun b o q nb=>x1.st b o (hideAll_get _ q nb)
 have hne:s1.heap.get? e = none:=hx.new
 have ub:Un (frs outer) [] H H1 s.heap s1.heap:=I.base
 have nst:∀ b o,s.heap.get? b = some o->b ∉ frs outer->b ∉ frs (envOfC qual scope s.heap.objs.size f cd :: outer):=fun b o q nb z=>by
  rcases Jav.mp (hsub b z) with e1 | z
  ·exact absurd (Jaf q) (by rw [e1]; exact Ja9 _)
  ·exact nb z
 have slotS:∀ b o,s1.heap.get? b = some o->b ∈ frs (envOfC qual scope s.heap.objs.size f cd :: outer)->∃ sl,h'.get? b = some { o with slots:=sl }:=fun b o q hb=>by
  obtain ⟨_,o',ho',hd⟩:=hstk.mem hb
  rw [q] at ho'
  cases ho'
  exact x4 b o (hx.keeps b o q) hd
 refine ⟨e,cls,.none,H1,rfl,⟨ho.trans I.os,hg,HOk.track I.hok (fun b u o hb q=>keepB b o q (fun z=>by rw [hfree b z] at hb; cases hb)),⟨fun b o q n hb hx=>?_,fun b o q n hb hx=>?_,fun b o q n hx=>ub.free b o q n hx,fun b o q hx=>?_,ub.tups,ub.frzs,ub.tbls⟩,⟨_,x1,fun b o q nb=>?_,fun b u hb=>?_⟩,fun o q=>?_,?_⟩,hE,.inl rfl⟩
 ·exact keepB b o (ub.keep b o q n hb hx) (nst b o q hb)
 ·obtain ⟨sl,e1⟩:=ub.slot b o q n hb hx
  obtain ⟨sl',e2⟩:=slotS b _ e1 (by unfold frs at hb ⊢; rw [Ja6]; split <;> first | exact hb | exact Jai _ hb)
  exact ⟨sl',e2⟩
 ·obtain ⟨o',e1⟩:=ub.there b o q hx
  by_cases z:b ∈ frs (envOfC qual scope s.heap.objs.size f cd :: outer)
  ·obtain ⟨sl,e2⟩:=slotS b o' e1 z
   exact ⟨_,e2⟩
  ·exact ⟨o',keepB b o' e1 z⟩
 ·obtain ⟨o',e1⟩:=ub.there b o q (by simp)
  exact ⟨o',hideAll_get _ e1 (nst b o q nb)⟩
 ·obtain ⟨o',e1⟩:=ObjOk.there (I.hok b u hb)
  exact ⟨o',hideAll_get _ e1 fun z=>by rw [hfree b z] at hb; cases hb⟩
 ·obtain ⟨o',e1⟩:=ub.there e o q (by simp)
  rw [hne] at e1
  cases e1
 ·cases z:H1 e with
  | none=>rfl
  | some u=>
   obtain ⟨o',e1⟩:=ObjOk.there (I.hok e u z)
   rw [hne] at e1
   cases e1
theorem Zhf {E':XK} (hE:∀ cls o H',E' cls o H'->E cls o H'):Zcv (CXe P w) (Zea (CXe P w) P w K mg base N qual scope f cd A outer s H E) E':=by
 intro pins σ H1 s1 e s2 I h
 obtain ⟨a,cls,c0,H',rfl,F,e',e2'⟩:=h
 have F:Fly P w (envOfC qual scope s.heap.objs.size f cd :: outer) H1 s1 a cls c0 H' s2:=F
 obtain ⟨B,fl,inB,trB⟩:=F.fly
 show wpAny (model P w) (A.deeper (envOfC qual scope s.heap.objs.size f cd)) (leaving (envOfC qual scope s.heap.objs.size f cd) (.ref a)) (fun _ s''=>CXe P w outer H s E (.ref a) s'') (fun e' s''=>CXe P w outer H s E e' s'') s2
 have hsub:∀ b ∈ frs (envOfC qual scope s.heap.objs.size f cd :: outer),b ∈ s.heap.objs.size :: frs outer:=I.stkSub
 refine Zlb (B:=B) I.ok.frames rfl fl fun h' x1 x4=>?_
 have ub:Un (frs outer) [] H H1 s.heap s1.heap:=I.base
 have sup:∀ b,b ∈ frs outer->b ∈ frs (envOfC qual scope s.heap.objs.size f cd :: outer):=fun b hb=>by
  unfold frs at hb ⊢
  rw [Ja6]
  split <;> first | exact hb | exact Jai _ hb
 have nst:∀ b o,s.heap.get? b = some o->b ∉ frs outer->b ∉ frs (envOfC qual scope s.heap.objs.size f cd :: outer):=fun b o q nb z=>by
  rcases Jav.mp (hsub b z) with e1 | z
  ·exact absurd (Jaf q) (by rw [e1]; exact Ja9 _)
  ·exact nb z
 have keepB:∀ b o,(∃ o',B.get? b = some o')->s2.heap.get? b = some o->h'.get? b = some o:=fun b o ⟨o',hb⟩ q=>by
  have:=fl.st b o' hb
  rw [q] at this
  cases this
  exact x1.st b _ hb
 have slotS:∀ b o,s2.heap.get? b = some o->b ∈ frs (envOfC qual scope s.heap.objs.size f cd :: outer)->∃ sl,h'.get? b = some { o with slots:=sl }:=fun b o q hb=>by
  obtain ⟨_,o',ho',hd⟩:=fl.ff.mem hb
  rw [q] at ho'
  cases ho'
  exact x4 b o q hd
 refine ⟨a,cls,c0,H',rfl,⟨F.os.trans I.os,F.bare,HOk.track F.hok (fun b u o hb q=>keepB b o (trB b u hb) q),⟨fun b o q n hb hx=>?_,fun b o q n hb hx=>?_,fun b o q n hx=>?_,fun b o q hx=>?_,fun b xs z=>F.un.tups b xs (ub.tups b xs z),fun b o u z=>F.un.frzs b o u (ub.frzs b o u z),fun b ps z=>?_⟩,⟨B,x1,fun b o q nb=>?_,trB⟩,fun o q=>?_,F.free⟩,hE cls _ H' e',e2'.imp id (hE cls _ H')⟩
 ·have e1:=ub.keep b o q n hb hx
  exact keepB b o (inB b o e1 (nst b o q hb)) (F.un.keep b o e1 (ub.free b o q n hx) (nst b o q hb) hx)
 ·obtain ⟨sl,e1⟩:=ub.slot b o q n hb hx
  obtain ⟨sl',e2⟩:=F.un.slot b _ e1 (ub.free b o q n hx) (sup b hb) hx
  obtain ⟨sl'',e3⟩:=slotS b _ e2 (sup b hb)
  exact ⟨sl'',e3⟩
 ·obtain ⟨o',e1⟩:=ub.there b o q hx
  exact F.un.free b o' e1 (ub.free b o q n hx) hx
 ·obtain ⟨o',e1⟩:=ub.there b o q hx
  obtain ⟨o'',e2⟩:=F.un.there b o' e1 hx
  by_cases z:b ∈ frs (envOfC qual scope s.heap.objs.size f cd :: outer)
  ·obtain ⟨sl,e3⟩:=slotS b o'' e2 z
   exact ⟨_,e3⟩
  ·exact ⟨o'',keepB b o'' (inB b o' e1 z) e2⟩
 ·obtain ⟨m1,e1⟩:=ub.tbls b ps z
  obtain ⟨m2,e2⟩:=F.un.tbls b _ e1
  exact ⟨m1 ++ m2,by rw [e2,Jdj]⟩
 ·obtain ⟨o',e1⟩:=ub.there b o q (by simp)
  exact inB b o' e1 (nst b o q nb)
 ·obtain ⟨o',e1⟩:=ub.there a o q (by simp)
  exact F.new o' e1
end
end L2
namespace L2
open PySem PySem.Spec PyProof.Rows PySem.W
def Zld (t:TA) (R:Hp->Prop):TS:=fun _ σ H=>t σ H fun vs H1=>vs.length<=1000/\R H1
section
variable {X:Cx} {x:Str} {C:Addr} {bm bmN:List Value} {B Bn newId nid initId inN:String} {np cpos pos:Pos} {e₀:Expr} {rest:List Expr} {t:TA} {R:Hp->Prop}
theorem Znx (hc:X.calm = true) (O:OwnCls x C bm newId X.mg X.base) (Fn:ExcBaseFacts Bn newId inN bmN) (hBn:bm.contains (.type Bn) = true) (FB:ExcBaseFacts B nid initId bm) (hg:Gl X x) (ha:PA X (e₀ :: rest) t)
  (hxe:∀ pins σ H1 s1 s2 e vs,Inv X pins σ H1 s1->Heap.MadeExcOf s1.heap s2.heap e (.ref C) vs->s2.os = s1.os->AllBare s2.gens->R H1->X.xe (.ref e) s2)
  (h1:Za8 e₀ = false:=by rfl) (h2:rest.all (fun x=>!Za8 x) = true:=by rfl) (hd:(x == ("__debug__" : Str)) = false:=by decide):
  PS X (.Raise (some (.Call (.Name x np) (e₀ :: rest) [] cpos)) none pos) (Zld t R):=by
 intro pins s σ H D I h
 have he:=Zau (e:=e₀) (es:=rest) (env:=X.env) h1
 have hpl:=Zci (pos:=cpos) (env:=X.env) h2
 obtain ⟨tl,N,nm,q,bs,hdct,sn,sub,ab,col,dd,k0,k1,k2,k3,k5,mN,hC,hN,hni,T⟩:=O.obj
 refine wpAny_Raise_call_subU (C:=C) (nm:=nm) (q:=q) (N:=N) (bs:=bs) (bm:=tl) (hdct:=hdct) (sn:=sn) (sub:=sub) (ab:=ab) (col:=col) (dd:=dd) (k0:=k0) (k1:=k1) (k2:=k2) (k3:=k3) (k5:=k5)
  Fn hBn FB (mN:=mN) (T.hasType FB.hasBase) (I.ok.hd hc) (by rw [he]; show (false || (backTo cpos (starEach rest X.env)).any (·.1)) = false; rw [hpl]; rfl) hni (Zey I hg O.bound ⟨rfl,?_⟩ hd)
 have hA:=ha cpos pins s σ H _ I h
 rw [he] at hA ⊢
 refine Calls.evalArgs_plain (Jbb hA (fun us s2 ⟨vs,H2,I2,rv,hl,r2⟩=>⟨rfl,?_,I2.bk _ _ hC,hN.keeps I2.bk,T.keeps I2.bk,fun h' e hm=>?_⟩) fun _ _ y=>y)
 ·rw [<- rv.length]
  exact Jcb (Za4 hl)
 ·exact hxe pins σ H2 s2 _ e us I2 hm rfl I2.bare r2
end
end L2
namespace L2
open PySem PySem.Spec PyProof.Rows PySem.W
section
variable {P:Program} {w:World} {K:PySem.W.Frag} {mg:Str->Option Value} {base:Heap}
theorem Fun.okE {x qual:Str} {st:Stmt} {f:Addr} {fd:FuncData} {N ps:List Str} {k:Nat} {sp:Sp} (F:Fun K x qual st f fd) (S:FnScope N ps (Zad st)) (len:∀ vs H Q E,sp vs H Q E->vs.length = ps.length)
  (hbody:∀ (cdv:Value) (A:Around) (outer:List Env) (s:Shared) (H:Hp) (vs:List V) (Q:VK) (E:XK),Room k (A.deeper (envOfC qual (Zad st) s.heap.objs.size f cdv))->sp vs H Q E->
   ∃ t,PSs (Zea (CXe P w) P w K mg base N qual (Zad st) f cdv A outer s H E) (Zag st) t/\t { nx:=fun _ H'=>Q .non H',rt:=Q } (Zec N vs) H):FnOk P w K mg base (CXe P w) (k + 1) f fd ps sp:=by
 obtain ⟨oc,od,kV,doc,pm,an,cdv,ct,osl,rfl,lk,hcd⟩:=F.ex
 exact fn_of lk hcd S len fun A outer s H vs Q E hr hsp=>hbody cdv A outer s H vs Q E hr hsp
theorem Zi9 {x:Str} {C:Addr} {bmB:List Value} {newId:String} {h:Heap} (X:K.In h) (b:mg x = some (.ref C)) (q:excIn K C bmB newId = true):OwnCls x C bmB newId mg h:=by
 refine ⟨b,?_⟩
 unfold excIn at q
 split at q
 ·rename_i dd cd sl ho
  split at q
  ·rename_i C' bm k0 k1 k2 k3 n k5 hm hs
   simp only [Bool.and_eq_true,beq_iff_eq,Bool.not_eq_true'] at q
   obtain ⟨⟨⟨⟨⟨rfl,rfl⟩,hdel⟩,ht⟩,hok⟩,hni⟩:=q
   obtain ⟨nm,bs,mro,ns,qn,hd,sn,sub,ab,col,del⟩:=cd
   dsimp only at hm hdel hok hni
   subst hm hdel
   have hsl:sl = #[k0,k1,k2,k3,some (.builtin n),k5]:=by
    obtain ⟨l⟩:=sl
    simp only at hs
    rw [hs]
   subst hsl
   exact ⟨bm,ns,nm,qn,bs,hd,sn,sub,ab,col,dd,k0,k1,k2,k3,k5,_,X _ _ ho,.of_isNs (isNs_of_in X hok),nsMap_none_of_in X hok hni,tail_of_in X ht⟩
  ·cases q
 ·cases q
end
section
variable {X:Cx} {pins:List (Addr × Obj)} {σ:St} {H H':Hp} {s s':Shared} {a:Addr} {cls:Value}
theorem Fly.land {B:Heap} {c0 f0:Value} (I:Inv X pins σ H s) (hl:X.env.locals ∈ frs X.stack) (F:Fly X.prog X.w X.stack H s a cls c0 H' s') (fl:Trk B X.stack a cls c0 f0 s'.heap)
  (inB:∀ b o,s.heap.get? b = some o->b ∉ frs X.stack->∃ o',B.get? b = some o') (trB:∀ b u,H' b = some u->∃ o',B.get? b = some o') {h':Heap} (st:B.StaysIn h') (x4:s'.heap.UpToSlots h'):Inv X pins σ H' { s' with heap:=h' }:=by
 have keepB:∀ b o,(∃ o',B.get? b = some o')->s'.heap.get? b = some o->h'.get? b = some o:=fun b o ⟨o',hb⟩ q=>by
  have:=fl.st b o' hb
  rw [q] at this
  cases this
  exact st b _ hb
 have slotS:∀ b o,s'.heap.get? b = some o->b ∈ frs X.stack->∃ sl,h'.get? b = some { o with slots:=sl }:=fun b o q hb=>by
  obtain ⟨_,o',ho',hd⟩:=fl.ff.mem hb
  rw [q] at ho'
  cases ho'
  exact x4 b o q hd
 have sup:∀ b,b ∈ X.fs->b ∈ frs X.stack:=fun b hb=>by
  rcases I.ok.stk with e | ⟨e,hf⟩
  ·rw [e]; exact hb
  ·rw [e]
   unfold Cx.fs frs at *
   rw [Ja6,hf]
   exact Jai _ hb
 have nst:∀ b,b ≠ X.env.locals->b ∉ X.fs->b ∉ frs X.stack:=fun b h1 h2 z=>by
  rcases Jav.mp (I.stkSub b z) with e | z
  ·exact h1 e
  ·exact h2 z
 obtain ⟨hh,g,d,t,os'⟩:=s'
 obtain rfl:os' = s.os:=F.os
 show Inv X pins σ H' { s with heap:=h',gens:=g,drawn:=d,toks:=t }
 refine I.step (ch:=[]) (fun b z=>absurd z (by simp)) (fun b o n1 n2 _ q n=>?_) (fun b o n1 n2 _ q n=>?_) (fun b o _ q n=>F.un.free b o q n (by simp)) (fun b o _ q=>?_) F.un.tups F.un.frzs F.un.tbls (fun m hn=>?_) (HOk.track F.hok fun b u o hb q=>keepB b o (trB b u hb) q) F.bare
 ·exact keepB b o (inB b o q (nst b n1 n2)) (F.un.keep b o q n (nst b n1 n2) (by simp))
 ·obtain ⟨sl,e1⟩:=F.un.slot b o q n (sup b n2) (by simp)
  obtain ⟨sl',e2⟩:=slotS b _ e1 (sup b n2)
  exact ⟨sl',e2⟩
 ·obtain ⟨o',e1⟩:=F.un.there b o q (by simp)
  by_cases z:b ∈ frs X.stack
  ·obtain ⟨sl,e2⟩:=slotS b o' e1 z
   exact ⟨_,e2⟩
  ·exact ⟨o',keepB b o' (inB b o q z) e1⟩
 ·obtain ⟨o,es,ep,ho,hd,r⟩:=hn
  obtain ⟨sl,e1⟩:=F.un.slot _ o ho I.free hl (by simp)
  obtain ⟨sl',e2⟩:=slotS _ _ e1 hl
  exact ⟨_,es,ep,e2,hd,r⟩
end
end L2
namespace L2
open PySem PySem.Spec PyProof.Rows PySem.W
section
variable {M:Model} {A:Around} {E:Value->Shared->Prop}
variable {nm q:Str} {C N:Addr} {bs bm:List Value} {hdct:Bool} {sn:List Str} {sub:List Value} {ab:Bool} {col:Option Bool} {dd:Option Addr} {k0 k1 k2 k3 k5:Option Value} {newId:String}
variable {nm' q':Str} {C' N':Addr} {bs' bm':List Value} {hdct':Bool} {sn':List Str} {sub':List Value} {ab':Bool} {col':Option Bool} {dd':Option Addr} {j0 j1 j2 j3 j5:Option Value} {newId':String}
theorem Zja {h:Heap} {g:Array GenState} {d:Drawn} {t:Nat} {os:OsState} {e:Addr} {oe:Obj} {Q:Bool->Shared->Prop}
  (hC:h.get? C = some (excClassObj nm q C N bs bm hdct sn sub ab col dd k0 k1 k2 k3 k5 newId)) (hD:h.get? C' = some (excClassObj nm' q' C' N' bs' bm' hdct' sn' sub' ab' col' dd' j0 j1 j2 j3 j5 newId'))
  (he:h.get? e = some oe) (hcls:oe.cls = .ref C) (hbase:bm'.contains (.type "BaseException") = true) (hsub:bm.contains (.ref C') = true)
  (hq:Q true ⟨h,g,d,t,os⟩):wpAny M A (excMatches (.ref e) (.ref C')) Q E ⟨h,g,d,t,os⟩:=by
 have hcB:(Value.ref C' :: bm').contains (.type "BaseException") = true:=by rw [Jds,hbase,Bool.or_true]
 have hcC:(Value.ref C :: bm).contains (.ref C') = true:=by rw [Jds,hsub,Bool.or_true]
 have f:=tc_notTuple
 unfold excMatches
 repeat (first | (with_reducible refine Jcj he ?_; rw [hcls]) | with_reducible refine Jcj hD ?_ | (with_reducible refine wpAny_isSubtype_exc hD ?_; rw [hcB]) | (with_reducible refine wpAny_isSubtype_exc hC ?_; rw [hcC]) | wp_step)
 exact hq
end
end L2
namespace L2
open PySem PySem.Spec PyProof.Rows PySem.W
abbrev Cx.pnx (X:Cx) (pins:List (Addr × Obj)):Cx:={ X with pn:=X.pn ++ pins }
abbrev Cx.hnd (X:Cx) (pins:List (Addr × Obj)) (a:Addr):Cx:={ X with pn:=X.pn ++ pins,A:=X.A.mark (some (.ref a)),calm:=false,xe:=fun _ _=>False }
section
variable {X:Cx} {pins pins':List (Addr × Obj)} {σ:St} {H:Hp} {s:Shared} {a:Addr}
theorem Inv.pnx (I:Inv X pins σ H s):Inv (X.pnx pins) [] σ H s:=
 ⟨⟨I.ok.mod,I.ok.kind,I.ok.glob,I.ok.blt,I.ok.above,I.ok.inj,I.ok.has,I.ok.cab,I.ok.hd,I.ok.frames,I.ok.stk,I.ok.exf,I.ok.bs,I.ok.bsz,I.ok.noex,I.ok.exfs,I.ok.funs,I.ok.frf,I.ok.top⟩,I.os,I.bare,I.base,I.loc,I.cell,I.free,I.freeC,fun p hp=>I.pin p (by simpa using hp),I.hok,I.len⟩
theorem Inv.unpnx (I:Inv (X.pnx pins) pins' σ H s):Inv X pins σ H s:=
 ⟨⟨I.ok.mod,I.ok.kind,I.ok.glob,I.ok.blt,I.ok.above,I.ok.inj,I.ok.has,I.ok.cab,I.ok.hd,I.ok.frames,I.ok.stk,I.ok.exf,I.ok.bs,I.ok.bsz,I.ok.noex,I.ok.exfs,I.ok.funs,I.ok.frf,I.ok.top⟩,I.os,I.bare,I.base,I.loc,I.cell,I.free,I.freeC,fun p hp=>I.pin p (Jcl _ hp),I.hok,I.len⟩
theorem Inv.hnd (I:Inv X pins σ H s) (a:Addr):Inv (X.hnd pins a) [] σ H s:=
 ⟨⟨I.ok.mod,I.ok.kind,I.ok.glob,I.ok.blt,I.ok.above,I.ok.inj,I.ok.has,I.ok.cab,(fun z=>nomatch z),I.ok.frames,I.ok.stk,I.ok.exf,I.ok.bs,I.ok.bsz,I.ok.noex,I.ok.exfs,I.ok.funs,I.ok.frf,I.ok.top⟩,I.os,I.bare,I.base,I.loc,I.cell,I.free,I.freeC,fun p hp=>I.pin p (by simpa using hp),I.hok,I.len⟩
theorem Inv.unhnd (ok:X.Ok) (I:Inv (X.hnd pins a) pins' σ H s):Inv X pins σ H s:=
 ⟨ok,I.os,I.bare,I.base,I.loc,I.cell,I.free,I.freeC,fun p hp=>I.pin p (Jcl _ hp),I.hok,I.len⟩
theorem Inv.track {o:HO} (I:Inv X pins σ H s) (hn:H a = none) (h0:∀ u,X.s₀.heap.get? a ≠ some u) (hL:a ≠ X.env.locals) (hc:∀ x c,X.env.cells.lookup x = some c->c ≠ a) (hp:∀ p ∈ X.pn ++ pins,p.1 ≠ a)
  (new:ObjOk X.prog X.w (upd H a o) s.heap a o):Inv X pins σ (upd H a o) s:=by
 have ne:∀ {b:Addr} {u:HO},H b = some u->b ≠ a:=fun {b u} hb z=>by rw [z,hn] at hb; cases hb
 refine ⟨I.ok,I.os,I.bare,⟨I.base.keep,I.base.slot,fun b u q n hx=>?_,I.base.there,fun b xs z=>?_,fun b u v z=>?_,fun b ps z=>?_⟩,I.loc,I.cell,?_,fun x c e=>?_,fun p hp'=>?_,fun b u hb=>?_,I.len⟩
 ·rw [Zah (fun z=>h0 u (by rw [<- z]; exact q))]
  exact I.base.free b u q n hx
 ·have:=I.base.tups b xs z
  rw [Zah (ne this)]
  exact this
 ·have:=I.base.frzs b u v z
  rw [Zah (ne this)]
  exact this
 ·obtain ⟨m,e⟩:=I.base.tbls b ps z
  exact ⟨m,by rw [Zah (ne e)]; exact e⟩
 ·rw [Zah hL.symm]; exact I.free
 ·rw [Zah (hc x c e)]; exact I.freeC x c e
 ·obtain ⟨p1,p2,p3,p4,p5⟩:=I.pin p hp'
  exact ⟨p1,by rw [Zah (hp p hp')]; exact p2,p3,p4,p5⟩
 ·by_cases hb':b = a
  ·subst hb'
   rw [Zac] at hb
   cases hb
   exact new
  ·rw [Zah hb'] at hb
   exact (I.hok b u hb).stay (fun _ _ _ q=>q) (fun c z=>by rw [Zah (ne z)]; exact z) (fun c xs z=>by rw [Zah (ne z)]; exact z) fun c _ _ z=>by rw [Zah (ne z)]; exact z
theorem Inv.goes {h':Heap} {m':Str->Option Value} {t':Nat} (I:Inv X pins σ H s) (hn:h'.Ns X.env.locals m') (sb:Heap.SameBut X.env.locals s.heap h'):Inv X pins (List.replicate X.N.length none) H { s with heap:=h',toks:=t' }:=by
 have neL:∀ b o,X.s₀.heap.get? b = some o->b ≠ X.env.locals:=fun b o e=>Ja8 (Jan (Jaf e) I.ok.above)
 have k:∀ b o,b ≠ X.env.locals->s.heap.get? b = some o->h'.get? b = some o:=fun b o n e=>(sb.2 b n).trans e
 refine ⟨I.ok,I.os,I.bare,⟨fun b o q n hb hx=>k b o (neL b o q) (I.base.keep b o q n hb hx),fun b o q n hb hx=>?_,I.base.free,fun b o q hx=>?_,I.base.tups,I.base.frzs,I.base.tbls⟩,⟨m',hn,fun i x v e1 e2=>?_⟩,fun x c e=>?_,I.free,I.freeC,fun p hp=>?_,HOk.track I.hok fun b u o hb q=>k b o (fun z=>by rw [z,I.free] at hb; cases hb) q,by simp⟩
 ·obtain ⟨sl,e1⟩:=I.base.slot b o q n hb hx
  exact ⟨sl,k b _ (neL b o q) e1⟩
 ·obtain ⟨o',e1⟩:=I.base.there b o q hx
  exact ⟨o',k b o' (neL b o q) e1⟩
 ·rw [Jb0] at e2
  split at e2
  ·cases e2
  ·cases e2
 ·obtain ⟨v,o,ho,hd⟩:=I.cell x c e
  exact ⟨v,o,k c o (I.cne x c e) ho,hd⟩
 ·obtain ⟨p1,p2,p3,p4,p5⟩:=I.pin p hp
  exact ⟨k _ _ p3 p1,p2,p3,p4,p5⟩
end
def Zeo (a:Addr) (cls:Value):HO:=.ext fun h=>∃ ob,h.get? a = some ob/\ob.cls = cls
theorem Zok {P:Program} {w:World} {H:Hp} {h:Heap} {a:Addr} {cls:Value} {ob:Obj} (e:h.get? a = some ob) (c:ob.cls = cls):ObjOk P w H h a (Zeo a cls):=
 ⟨⟨ob,e,c⟩,⟨ob,e⟩,fun h1 h2 ⟨o,e1,c1⟩ k=>⟨o,k o e1,c1⟩⟩
def hEnds (X:Cx) (D:Ends):Ends:={ nx:=fun _ H=>D.nx (List.replicate X.N.length none) H,rt:=D.rt,bk:=fun _ H=>D.bk (List.replicate X.N.length none) H,ct:=fun _ H=>D.ct (List.replicate X.N.length none) H }
def tTry (X:Cx) (E':XK) (tb:TS) (i:Nat) (th:TS):TS:=fun D σ H=>tb D σ H/\∀ (cls:Value) (H':Hp) (a:Addr) (σ':St),E' cls none H'->H' a = none->σ'.length = X.N.length->th (hEnds X D) (σ'.set i (some (.ref a))) (upd H' a (Zeo a cls))
section
variable {X:Cx} {x n:Str} {np hpos pos:Pos} {body suite:List Stmt} {b₀:Stmt} {E':XK} {tb th:TS} {i:Nat} {D:Addr} {bmD:List Value} {newD:String}
theorem ps_try (hstk:X.stack = X.env :: X.outer) (hfr:X.env.frame = some X.env.locals) (hex:X.ex = [])
  (hb:∀ pins xt,Zcv (CXe X.prog X.w) ((X.pnx pins).wish xt) E'->PSs ((X.pnx pins).wish xt) body tb) (hs:∀ pins a,PSs (X.hnd pins a) (b₀ :: suite) th)
  (hg:Gl X x) (OD:OwnCls x D bmD newD X.mg X.base) (hDB:bmD.contains (.type "BaseException") = true)
  (hC:∀ cls H',E' cls none H'->∃ C nm q N bs bm hdct sn sub ab col dd k0 k1 k2 k3 k5 new,cls = .ref C/\X.base.get? C = some (excClassObj nm q C N bs bm hdct sn sub ab col dd k0 k1 k2 k3 k5 new)/\bm.contains (.ref D) = true)
  (hN:X.N.Nodup) (hi:X.N[i]? = some n) (hn:X.env.scope.names.lookup n = some .local) (hd:(x == ("__debug__" : Str)) = false:=by decide):
  PS X (.Try body [.ExceptHandler (some (.Name x np)) (some n) (b₀ :: suite) hpos] [] [] pos) (tTry X E' tb i th):=by
 intro pins s σ H Dn I h
 obtain ⟨hbody,hhand⟩:=h
 rw [arm_exec_Try]
 refine Jaj (Jdc (wpAny_tryStmt_except ?_))
 have hp:Zcv (CXe X.prog X.w) ((X.pnx pins).wish fun e s'=>∃ pins' σ' H1 s1,Inv (X.pnx pins) pins' σ' H1 s1/\CXe X.prog X.w X.stack H1 s1 E' e s') E':=fun pins' σ' H1 s1 e s' I1 h=>⟨pins',σ',H1,s1,I1.unwish,h⟩
 have hl:X.env.locals ∈ frs X.stack:=by rw [hstk]; unfold frs; rw [Ja6,hfr]; exact Jbd
 refine Jbb (hb pins _ hp [] s σ H Dn (I.pnx.wish _) hbody) (fun f s₁ h₁=>?_) (fun e s₁ h₁=>?_)
 ·cases f with
  | next=>obtain ⟨σ',H',J,q⟩:=h₁; exact Jcs ⟨σ',H',J.unwish.unpnx,q⟩
  | brk=>obtain ⟨σ',H',J,q⟩:=h₁; exact ⟨σ',H',J.unwish.unpnx,q⟩
  | cont=>obtain ⟨σ',H',J,q⟩:=h₁; exact ⟨σ',H',J.unwish.unpnx,q⟩
  | ret u=>obtain ⟨v,σ',H',J,r,q⟩:=h₁; exact ⟨v,σ',H',J.unwish.unpnx,r,q⟩
 ·obtain ⟨pins',σ',H1,s1,I1,a,cls,c0,H',rfl,F,hE,_⟩:=h₁
  obtain ⟨B,fl,inB,trB⟩:=F.fly
  have J1:Inv X pins σ' H1 s1:=I1.unpnx
  refine Zg4 (B:=B) (env:=X.env) (fr:=X.outer) (by rw [I.ok.frames,hstk]) hfr (hstk ▸ fl) fun h₄ held₄ sm₄=>?_
  refine Zdf (s:={ s₁ with heap:=h₄ }) none held₄ fun h₅ fl₅ sm₅=>?_
  have J5:Inv X pins σ' H' { s₁ with heap:=h₅ }:=F.land J1 hl fl inB trB fl₅.st (sm₄.trans sm₅)
  obtain ⟨C,nm,q,N,bs,bm,hdct,sn,sub,ab,col,dd,k0,k1,k2,k3,k5,new,rfl,hCb,hsub⟩:=hC cls H' hE
  obtain ⟨tl,N',nm',q',bs',hdct',sn',sub',ab',col',dd',j0,j1,j2,j3,j5,mN,hDb,_,_,T⟩:=OD.obj
  obtain ⟨ob,hob,hobc⟩:=fl₅.there
  refine wpAny_handleBy_cons (codeAny_handlers_test (Zey (X:=X.hnd pins a) (J5.hnd a) hg OD.bound ?_ hd)) (by intro q; cases q)
  refine Zja (J5.bk _ _ hCb) (J5.bk _ _ hDb) hob hobc (T.hasType hDB) hsub ?_
  refine codeAny_handlers_suite_as (Zdf (s:={ s₁ with heap:=h₅ }) none fl₅ fun h₆ fl₆ sm₆=>?_)
  have J6:Inv X pins σ' H' { s₁ with heap:=h₆ }:=F.land J1 hl fl inB trB fl₆.st ((sm₄.trans sm₅).trans sm₆)
  obtain ⟨ob6,hob6,hobc6⟩:=fl₆.there
  have new1:∀ b o,s1.heap.get? b = some o->b ≠ a:=fun b o e z=>F.new o (by rw [<- z]; exact e)
  have J7:=J6.track (a:=a) (o:=Zeo a (.ref C)) F.free (fun u z=>by
    obtain ⟨o',e1⟩:=J1.base.there a u z (by rw [hex]; simp)
    exact F.new o' e1) (by
    obtain ⟨m,⟨o,_,_,ho,_⟩,_⟩:=J1.loc
    exact (new1 _ o ho).symm) (fun y c e=>by
    obtain ⟨v,o,ho,_⟩:=J1.cell y c e
    exact new1 _ o ho) (fun p hp=>new1 _ _ (J1.pin p hp).1) (Zok hob6 hobc6)
  refine Zg7 J7 hN hi (.inl hn) (v:=.ref a) rfl (fun s7 J8=>?_) (.inr hn)
  have hk:X.env.kindOf n = some .local:=hn
  have hcls:(X.env.scope.kind == .class || (X.env.scope.kind == .module && X.env.locals != X.env.globals)) = false:=by rw [I.ok.kind]; rfl
  refine Jbb (hs pins a [] s7 _ _ (hEnds X Dn) (J8.hnd a) (hhand _ _ _ _ hE F.free J1.len)) (fun f s8 h8=>?_) fun _ _ z=>z.elim
  cases f with
  | next=>
   obtain ⟨σ8,H8,J,q⟩:=h8
   have J9:=Inv.unhnd I.ok J
   obtain ⟨m,hn8,_⟩:=J9.loc
   exact Jd0 hk hn8 hcls fun h' m' hn' sb=>⟨_,_,J9.goes hn' sb,q⟩
  | brk=>
   obtain ⟨σ8,H8,J,q⟩:=h8
   have J9:=Inv.unhnd I.ok J
   obtain ⟨m,hn8,_⟩:=J9.loc
   exact Jd0 hk hn8 hcls fun h' m' hn' sb=>⟨_,_,J9.goes hn' sb,q⟩
  | cont=>
   obtain ⟨σ8,H8,J,q⟩:=h8
   have J9:=Inv.unhnd I.ok J
   obtain ⟨m,hn8,_⟩:=J9.loc
   exact Jd0 hk hn8 hcls fun h' m' hn' sb=>⟨_,_,J9.goes hn' sb,q⟩
  | ret u=>
   obtain ⟨v,σ8,H8,J,r,q⟩:=h8
   have J9:=Inv.unhnd I.ok J
   obtain ⟨m,hn8,_⟩:=J9.loc
   exact Jd0 hk hn8 hcls fun h' m' hn' sb=>⟨v,_,_,J9.goes hn' sb,r,q⟩
end
end L2
namespace L2
open PySem PySem.Spec PySem.Calls PyProof.Rows PySem.W Builtin Builtin.ObjectAttr Builtin.Getset_descriptor
structure ExcCls (K:PySem.W.Frag) (C:Addr):Prop where
 ga:findIn K (.ref C) "__getattribute__" = some (some (.builtin "BaseException.__getattribute__"))
 gt:findIn K (.ref C) "__getattr__" = some none
 cl:findIn K (.ref C) "__class__" = some (some (.builtin "object.__class__"))
 so:mroIn K C (.type "object") = some true
 sb:mroIn K C (.type "BaseException") = some true
section
variable {prog:Program} {w:World} {A:Around} {E:Value->Shared->Prop} {h:Heap} {g:Array GenState} {d:Drawn} {t:Nat} {os:OsState} {a C:Addr} {ox:Obj} {K:PySem.W.Frag}
theorem Zni {tp:Value} {R:Result->Shared->Prop} (Z:ExcCls K C) (X:K.In h) (hx:h.get? a = some ox) (hc:ox.cls = .ref C) (hq:R (.ok (.ret (.ref C))) ⟨h,g,d,t,os⟩):
  codeAny (model prog w) A (.call (.builtin "getset_descriptor.__get__") ⟨[.builtin "object.__class__",.ref a,tp],[]⟩) R ⟨h,g,d,t,os⟩:=by
 have L0:Looks (model prog w) h (typeOf (.ref a)) (.ref C):=hc ▸ (Looks.ld hx).andThen .now
 have L1:=looks_mroIn (M:=model prog w) X Z.so
 refine codeAny_call_builtin KF.slot_gs.plain KF.entry_gs (KF.slot_gs.check _ _ _ _ _ _ _ _ KF.type_class (KF.args_gs _ _ _) ?_)
 unfold Builtin.«getset_descriptor.__get__» descrGet
 rw [dga_obj]
 refine Jaj (Ja5 ?_)
 unfold descrGetter descrCheckInstance descrNameAndClass isInstance
 simp only [KF.owner_class]
 repeat lk
 refine ⟨Code.quiet_builtin _ (by decide +kernel),codeAny_builtin KF.entry_class ?_⟩
 unfold Builtin.«object.__class__» shownTypeOf
 repeat lk
 exact hq
theorem Zkk {tk:Tok} {Q:Fin->Shared->Prop} (Z:ExcCls K C) (X:K.In h) (hx:h.get? a = some ox) (hc:ox.cls = .ref C) (hq:Q (.done (.ret (.ref C))) ⟨h,g,d,t,os⟩):
  wpAny (model prog w) A (Builtin.«object.__getattribute__» ⟨[.ref a,.str "__class__" tk],[]⟩) Q E ⟨h,g,d,t,os⟩:=by
 have hT5:(⟨h,g,d,t,os⟩:Shared).TypeIs (.builtin "object.__class__") "getset_descriptor" := F.typeOf_object_class
 have f5:=F.typeOf_object_class
 have f6:=F.slot_gs_get.lookup
 have f7:=F.slot_gs_set.lookup
 have L4:=looks_findIn (M:=model prog w) X Z.cl
 repeat (any_goals (first | assumption | (with_reducible refine Jcj hx ?_; rw [hc]) | with_reducible refine L4.at ?_ | wp_step))
 refine Zni Z X hx hc ?_
 repeat (any_goals (first | assumption | wp_step))
theorem Zkl {M:Model} {nameV:Value} {Q:Unit->Shared->Prop} (Z:ExcCls K C) (X:K.In h) (hx:h.get? a = some ox) (hc:ox.cls = .ref C) (hq:Q () ⟨h,g,d,t,os⟩):
  wpAny M A (checkBuiltinCall "BaseException.__getattribute__" ⟨[.ref a,nameV],[]⟩) Q E ⟨h,g,d,t,os⟩:=by
 have hk:builtinKind "BaseException.__getattribute__" = some .slot:=by decide +kernel
 have hsplit:splitId "BaseException.__getattribute__" = some ("BaseException","__getattribute__"):=by decide +kernel
 have L1:=looks_mroIn (M:=M) X Z.sb
 have ha:=F.args_bexc_ga (.ref a) nameV
 simp only [checkBuiltinCall,hk,hsplit]
 refine Jaj ?_
 unfold isInstance
 repeat (first | (with_reducible refine Jcj hx ?_; rw [hc]) | with_reducible refine L1.at ?_ | wp_step)
 exact hq
theorem Zk7 {tk:Tok} {R:Result->Shared->Prop} (Z:ExcCls K C) (X:K.In h) (hx:h.get? a = some ox) (hc:ox.cls = .ref C) (hq:R (.ok (.ret (.ref C))) ⟨h,g,d,t,os⟩):
  codeAny (model prog w) A (.call (.builtin "BaseException.__getattribute__") ⟨[.ref a,.str "__class__" tk],[]⟩) R ⟨h,g,d,t,os⟩:=
 codeAny_call_builtin F.excAttr_ValueError.ga.plain F.entry_bexc_ga (Zkl Z X hx hc (Zkk Z X hx hc hq))
theorem xcls_by {tk:Tok} {fill expr:Bool} {Q:Value->Shared->Prop} (Z:ExcCls K C) (X:K.In h) (hx:h.get? a = some ox) (hc:ox.cls = .ref C) (hq:Q (.ref C) ⟨h,g,d,t,os⟩):
  wpAny (model prog w) A (getAttrBy (.ref a) (.str "__class__" tk) fill expr) Q E ⟨h,g,d,t,os⟩:=by
 have f3:=F.excAttr_ValueError.ga.bind (.ref a)
 have hx0:(expr && onTheHeap (Value.builtin "BaseException.__getattribute__")) = false:=by cases expr <;> rfl
 have hx2:(Value.builtin "BaseException.__getattribute__" == Value.builtin "object.__getattribute__") = false:=by decide +kernel
 have hx1:(onTheHeap (Value.ref C) && Value.builtin "BaseException.__getattribute__" == Value.builtin "object.__getattribute__") = false:=by rw [hx2]; rfl
 have L1:=looks_findIn (M:=model prog w) X Z.ga
 have L2:=looks_findIn (M:=model prog w) X Z.gt
 repeat (any_goals (first | assumption | (with_reducible refine Jcj hx ?_; rw [hc]) | with_reducible refine L1.at ?_ | with_reducible refine L2.at ?_ | wp_step))
 refine Zk7 Z X hx hc ?_
 repeat (any_goals (first | assumption | wp_step))
theorem Zk8 {Q:Option Value->Shared->Prop} (Z:ExcCls K C) (X:K.In h) (hx:h.get? a = some ox) (hc:ox.cls = .ref C) (hq:Q (some (.ref C)) ⟨h,g,d,t + 1,os⟩):
  wpAny (model prog w) A (getAttr? (.ref a) "__class__") Q E ⟨h,g,d,t,os⟩:=by
 unfold getAttr? getAttrBy?
 refine Jaj (wpAny_mkText (Jaj (wpAny_attempt (xcls_by Z X hx hc ?_))))
 exact Ja5 hq
def ExcAt (a C:Addr) (h:Heap):Prop:=∃ ob,h.get? a = some ob/\ob.cls = .ref C
theorem Zj4 (Z:ExcCls K C) (hC:(clsIn K C).isSome = true):KitX K (.ref a) (.ref C) (ExcAt a C) where
 ty:=fun _ _ _ ⟨ob,hx,hc⟩=>hc ▸ (Looks.ld hx).andThen .now
 it:=fun _ _ X _=>by
  obtain ⟨cdD,hcD⟩:=Jb3.mp hC
  unfold clsIn at hcD
  split at hcD
  ·rename_i c' d' cd' sl' ho
   intro A' Q' E' s' k q
   unfold isType loadHead
   exact Jaj (wpAny_loadPart (k _ _ (X _ _ ho)) (Ja5 q))
  ·cases hcD
 ne:=fun h tp dd its n sl X htp=>by
  obtain ⟨cdD,hcD⟩:=Jb3.mp hC
  refine Bool.eq_false_iff.mpr fun q=>?_
  have e:C = tp:=Value.ref.inj (Ja7.mp q)
  subst e
  unfold clsIn at hcD
  split at hcD
  ·rename_i c' d' cd' sl' ho
   have z:=(X _ _ ho).symm.trans htp
   cases z
  ·cases hcD
 ca:=fun {_ _ _ _ _ s} X ⟨ob,hx,hc⟩ k=>by
  obtain ⟨hh,g,d,t,os⟩:=s
  exact Zk8 Z X hx hc k
end
end L2
namespace L2
open PySem PySem.Spec PyProof.Rows PySem.W
section
variable {X:Cx}
theorem Zpg {pins:List (Addr × Obj)} {σ:St} {H:Hp} {s:Shared} {a C:Addr} (I:Inv X pins σ H s) (ha:H a = some (Zeo a (.ref C))):ExcAt a C s.heap:=(I.hok a _ ha).1
theorem Zo2:Zdq X (.builtin "isinstance") (fun xs H Q=>∃ (a C:Addr) (y:V) (c:Value) (b:Bool),xs = [.ref a,y]/\cV y = some c/\H a = some (Zeo a (.ref C))/\ExcCls X.K C/\(clsIn X.K C).isSome = true/\PySem.W.kitOne X.K (.ref C) c = some b/\Q (.bl b) H):=by
 intro pins s σ H xs us Q I r h
 obtain ⟨a,C,y,c,b,rfl,hc,ha,Z,hC,e,q⟩:=h
 obtain ⟨u,v,rfl,rx,ry⟩:=vals2 r
 have hv:v = c:=by
  cases y <;> first | (cases hc; done) | (cases hc; cases ry; rfl)
 subst hv
 cases rx
 exact Jbj (Zj4 Z hC) I.kIn (Zpg I ha) e (fun z=>nomatch z) fun tk=>⟨.bl b,H,I.tok _,rfl,q⟩
theorem Zk9:∀ {ys:List V} {cs us:List Value},Vals ys us->ys.map cV = cs.map some->us = cs
 | [],[],_,.nil,_=>rfl
 | y :: ys,c :: cs,_,.cons r rs,h=>by
  simp only [List.map_cons,List.cons.injEq] at h
  rw [Zk9 rs h.2]
  congr 1
  obtain ⟨hc,_⟩:=h
  cases y <;> first | (cases hc; done) | (cases hc; cases r; rfl)
theorem Zm8:Zdq X (.builtin "isinstance") (fun xs H Q=>∃ (a C t:Addr) (ys:List V) (cs:List Value) (b:Bool),xs = [.ref a,.ref t]/\H t = some (.tup ys)/\ys.map cV = cs.map some/\H a = some (Zeo a (.ref C))/\ExcCls X.K C/\(clsIn X.K C).isSome = true/\PySem.W.kitAny X.K (.ref C) cs = some b/\Q (.bl b) H):=by
 intro pins s σ H xs us Q I r h
 obtain ⟨a,C,t,ys,cs,b,rfl,ht,hc,ha,Z,hC,e,q⟩:=h
 obtain ⟨u,v,rfl,rx,ry⟩:=vals2 r
 cases rx
 cases ry
 obtain ⟨_,its,rv,p⟩:=(show ObjOk X.prog X.w H s.heap t (.tup ys) from I.hok t _ ht)
 obtain rfl:=Zk9 rv hc
 obtain ⟨⟨oc,odd,oda,osl⟩,h1,h2,n,h3⟩:=p
 dsimp only at h2 h3
 subst h2 h3
 exact PySem.W.kia_tup (Zj4 Z hC) I.kIn (Zpg I ha) h1 e (fun z=>nomatch z) fun tk=>⟨.bl b,H,I.tok _,rfl,q⟩
theorem Zcu (K:PySem.W.Frag) (hK:X.K = K):Zdq X (.builtin "isinstance") (fun xs H Q=>∃ (a C:Addr) (y:V) (c:Value) (b:Bool),xs = [.ref a,y]/\cV y = some c/\H a = some (Zeo a (.ref C))/\ExcCls K C/\(clsIn K C).isSome = true/\PySem.W.kitOne K (.ref C) c = some b/\Q (.bl b) H):=by subst hK; exact Zo2
theorem Zk4 (K:PySem.W.Frag) (hK:X.K = K):Zdq X (.builtin "isinstance") (fun xs H Q=>∃ (a C t:Addr) (ys:List V) (cs:List Value) (b:Bool),xs = [.ref a,.ref t]/\H t = some (.tup ys)/\ys.map cV = cs.map some/\H a = some (Zeo a (.ref C))/\ExcCls K C/\(clsIn K C).isSome = true/\PySem.W.kitAny K (.ref C) cs = some b/\Q (.bl b) H):=by subst hK; exact Zm8
end
end L2
namespace L2
open PySem PySem.Spec PyProof.Rows PySem.W
structure CalE (P:Program) (w:World) (K:PySem.W.Frag) (mg:Str->Option Value) (base:Heap) (x:Str) (k:Nat) (sp:Sp):Prop where
 ex:∃ (f:Addr) (fd:FuncData) (ps:List Str),FnOk P w K mg base (CXe P w) k f fd ps sp/\mg x = some (.ref f)/\PySem.W.keepIn K (.ref f) = true/\Binds K fd ps []
structure CalME (P:Program) (w:World) (K:PySem.W.Frag) (mg:Str->Option Value) (base:Heap) (C:Addr) (m:Str) (k:Nat) (sp:Sp):Prop where
 ex:∃ (f:Addr) (fd:FuncData) (ps:List Str),FnOk P w K mg base (CXe P w) k f fd ps sp/\Meth K C m f/\Binds K fd ps []
structure CalIE (P:Program) (w:World) (K:PySem.W.Frag) (mg:Str->Option Value) (base:Heap) (x:Str) (C:Addr) (k:Nat) (sp:Sp):Prop where
 ex:∃ (f:Addr) (fd:FuncData) (ps:List Str),FnOk P w K mg base (CXe P w) k f fd ps sp/\Mk K C f/\mg x = some (.ref C)/\Binds K fd ps []
section
variable {X:Cx} {x m:Str} {k:Nat} {sp:Sp} {e o:Expr} {es:List Expr} {ta:TE} {t:TA} {p pos apos:Pos} {E:XK} {C:Addr}
theorem Zl4 (M:CalE X.prog X.w X.K X.mg X.base x k sp) (hx:Zcv (CXe X.prog X.w) X E) (hr:Room k X.A) (hg:Gl X x) (ha:PA X (e :: es) t) (h:Za8 e = false:=by rfl) (h2:es.all (fun x=>!Za8 x) = true:=by rfl)
  (hdb:(x == ("__debug__" : Str)) = false:=by decide):PE X (.Call (.Name x p) (e :: es) [] pos) (Zh1 sp [] E t):=by
 obtain ⟨f,fd,ps,F,hm,hk,hb⟩:=M.ex
 exact Zl3 F hr hg hm hk hb .nil hx ha hdb (Zau h) (Zci h2)
theorem pe_nE (M:CalIE X.prog X.w X.K X.mg X.base x C k sp) (hx:Zcv (CXe X.prog X.w) X E) (hr:Room (k + 1) X.A) (hg:Gl X x) (ha:PA X (e :: es) t) (h:Za8 e = false:=by rfl) (h2:es.all (fun x=>!Za8 x) = true:=by rfl)
  (hdb:(x == ("__debug__" : Str)) = false:=by decide):PE X (.Call (.Name x p) (e :: es) [] pos) (Zlg C sp [] E t):=by
 obtain ⟨f,fd,ps,F,hm,hk,hb⟩:=M.ex
 exact Zl1 hm F hr hg hk hb .nil hx ha hdb (Zau h) (Zci h2)
end
theorem hnd_K {X:Cx} {pins:List (Addr × Obj)} {a:Addr}:(X.hnd pins a).K = X.K:=rfl
theorem pnx_K {X:Cx} {pins:List (Addr × Obj)}:(X.pnx pins).K = X.K:=rfl
theorem pass_no {X:Cx}:Zcv (CXe X.prog X.w) X (fun _ _ _=>False):=fun _ _ _ _ _ _ _ ⟨_,_,_,_,_,_,h,_⟩=>h.elim
structure CalDE (P:Program) (w:World) (K:PySem.W.Frag) (mg:Str->Option Value) (base:Heap) (C:Addr) (m:Str) (k:Nat) (sp:Sp) (dvs:List V):Prop where
 ex:∃ (f:Addr) (fd:FuncData) (ps:List Str) (ds:List Value),FnOk P w K mg base (CXe P w) k f fd ps sp/\Meth K C m f/\Binds K fd ps ds/\Vals dvs ds
abbrev bmV:List Value:=[.type "ValueError",.type "Exception",.type "BaseException",.type "object"]
abbrev newV:String:="ValueError.__new__"
theorem Zgi:bootBuiltins "ValueError" = some (.type "ValueError"):=by decide +kernel
section
variable {P:Program} {w:World} {K:PySem.W.Frag} {mg:Str->Option Value} {base:Heap} {N:List Str} {qual:Str} {scope:Scope} {f:Addr} {cd:Value} {A:Around} {outer:List Env} {s:Shared} {H:Hp} {E:XK}
theorem Zlu {x:Str} {C:Addr} {np cpos pos:Pos} {e₀:Expr} {rest:List Expr} {t:TA} (O:OwnCls x C bmV newV mg base) (hg:Gl (Zea (CXe P w) P w K mg base N qual scope f cd A outer s H E) x)
  (ha:PA (Zea (CXe P w) P w K mg base N qual scope f cd A outer s H E) (e₀ :: rest) t) (h1:Za8 e₀ = false:=by rfl) (h2:rest.all (fun x=>!Za8 x) = true:=by rfl) (hd:(x == ("__debug__" : Str)) = false:=by decide):
  PS (Zea (CXe P w) P w K mg base N qual scope f cd A outer s H E) (.Raise (some (.Call (.Name x np) (e₀ :: rest) [] cpos)) none pos) (Zld t (E (.ref C) none)):=
 Znx rfl O PySem.F.excBase_ValueError rfl PySem.F.excBase_ValueError hg ha (fun pins σ H1 s1 s2 e vs I hm ho hg hE=>xe_made I hm ho hg hE) h1 h2 hd
theorem Zg2 {C:Addr} {b:Value} {r:Bool} (m:mroIn K C b = some r):(clsIn K C).isSome = true:=by
 unfold mroIn at m
 cases h:clsIn K C with
 | none=>rw [h] at m; cases m
 | some cd=>rfl
theorem Zia {C D:Addr} {bmB:List Value} {newId:String} {h:Heap} (X:K.In h) (q:excIn K C bmB newId = true) (m:mroIn K C (.ref D) = some true) (ne:C ≠ D):
  ∃ C' nm q N bs bm hdct sn sub ab col dd k0 k1 k2 k3 k5 new,Value.ref C = .ref C'/\h.get? C' = some (excClassObj nm q C' N bs bm hdct sn sub ab col dd k0 k1 k2 k3 k5 new)/\bm.contains (.ref D) = true:=by
 unfold excIn at q
 split at q
 ·rename_i dd cd sl ho
  split at q
  ·rename_i C' bm k0 k1 k2 k3 n k5 hm hs
   simp only [Bool.and_eq_true,beq_iff_eq,Bool.not_eq_true'] at q
   obtain ⟨⟨⟨⟨⟨rfl,rfl⟩,hdel⟩,ht⟩,hok⟩,hni⟩:=q
   have hcl:clsIn K C' = some cd:=by unfold clsIn; rw [ho]
   obtain ⟨nm,bs,mro,ns,qn,hd,sn,sub,ab,col,del⟩:=cd
   dsimp only at hm hdel hok hni
   subst hm hdel
   have hsl:sl = #[k0,k1,k2,k3,some (.builtin n),k5]:=by
    obtain ⟨l⟩:=sl
    simp only at hs
    rw [hs]
   subst hsl
   refine ⟨C',nm,qn,ns,bs,bm,hd,sn,sub,ab,col,dd,k0,k1,k2,k3,k5,_,rfl,X _ _ ho,?_⟩
   unfold mroIn at m
   rw [hcl] at m
   have m:(Value.ref C' :: bm).contains (.ref D) = true:=Ja3 m
   rw [Jds,Bool.or_eq_true] at m
   rcases m with m | m
   ·exact absurd (Value.ref.inj (Ja7.mp m)).symm ne
   ·exact m
  ·cases q
 ·cases q
end
end L2
namespace L2
open PySem PySem.Spec PyProof.Rows
structure RoomH (k:Nat) (A:Around):Prop where
 dp:A.depth + 3 * k + 205 < recursionLimit
 un:A.units + 16 * k + 200 < cLine
theorem Room.mark {k:Nat} {A:Around} (r:Room k A) (v:Option Value):RoomH k (A.mark v):=⟨r.dp,r.un⟩
theorem RoomH.depth {k:Nat} {A:Around} (r:RoomH k A):A.depth < recursionLimit:=by have:=r.dp; omega
theorem RoomH.deeper {k:Nat} {A:Around} (r:RoomH (k + 1) A) (env:Env):RoomH k (A.deeper env):=by
 have h1:=r.dp
 have h2:=r.un
 constructor
 ·show A.depth + 1 + 3 * k + 205 < _
  omega
 ·show A.units + 3 + 16 * k + 200 < _
  omega
structure FnOkH (P:Program) (w:World) (K:PySem.W.Frag) (mg:Str->Option Value) (base:Heap) (CX:CXT) (k:Nat) (f:Addr) (fd:FuncData) (ps:List Str) (sp:Sp):Prop where
 len:∀ vs H Q E,sp vs H Q E->vs.length = ps.length
 run:∀ (A:Around) (outer:List Env) (s:Shared) (H:Hp) (args:Args) (us:List Value) (vs:List V) (Q:VK) (E:XK),RoomH k A->Env0 P w K mg base A outer s H->BindsTo s fd args (ps.zip us)->Vals vs us->sp vs H Q E->
  codeAny (model P w) A (.call (.ref f) args) (CR CX outer P w H s Q E) s
abbrev Zmz (CX:CXT) (P:Program) (w:World) (K:PySem.W.Frag) (mg:Str->Option Value) (base:Heap) (N:List Str) (qual:Str) (scope:Scope) (f:Addr) (cd:Value) (A:Around) (outer:List Env) (s:Shared) (H:Hp) (E:XK):Cx:={ Zea CX P w K mg base N qual scope f cd A outer s H E with calm:=false }
theorem Zkv {CX:CXT} {P:Program} {w:World} {K:PySem.W.Frag} {mg:Str->Option Value} {base:Heap} {N ps:List Str} {qual:Str} {scope:Scope} {f:Addr} {cd:Value} {A:Around} {outer:List Env} {s s1:Shared} {H:Hp} {E:XK} {us:List Value} {vs:List V}
  (S:FnScope N ps scope) (e0:Env0 P w K mg base A outer s H) (hl:vs.length = ps.length) (r:Vals vs us)
  (x:InCallC s s.heap.objs.size (bindL (envOfC qual scope s.heap.objs.size f cd).kindOf (ps.zip us) fun _=>none) (cellsFrom (s.heap.objs.size + 1) scope.names []) (bindC (envOfC qual scope s.heap.objs.size f cd).kindOf (ps.zip us) fun _=>none) s1):
  Inv (Zmz CX P w K mg base N qual scope f cd A outer s H E) [] (Zec N vs) H s1:=by
 have I:=Zij (CX:=CX) (E:=E) (A:={ A with handled:=none }) S rfl ⟨e0.frames,e0.mod,e0.bs,e0.bsz,e0.funs,e0.frf,e0.hok,e0.bare⟩ hl r x
 exact ⟨⟨I.ok.mod,I.ok.kind,I.ok.glob,I.ok.blt,I.ok.above,I.ok.inj,I.ok.has,I.ok.cab,(fun z=>nomatch z),Around.frames_deeper e0.frames,I.ok.stk,I.ok.exf,I.ok.bs,I.ok.bsz,I.ok.noex,I.ok.exfs,I.ok.funs,I.ok.frf,I.ok.top⟩,I.os,I.bare,I.base,I.loc,I.cell,I.free,I.freeC,I.pin,I.hok,I.len⟩
theorem fn_ofH {CX:CXT} {P:Program} {w:World} {K:PySem.W.Frag} {mg:Str->Option Value} {base:Heap} {k:Nat} {f:Addr} {name qual:Str} {params:Arguments} {body:List Stmt} {scope:Scope} {dV kV doc pm cdv ct oc:Value} {an od:Option Addr}
  {osl:Array (Option Value)} {N ps:List Str} {sp:Sp} (lk:K.lookup f = some ⟨oc,od,.func (PySem.W.fnOf name qual params body scope dV kV doc pm an cdv ct),osl⟩) (hcd:PySem.W.codeIn K cdv qual = true) (S:FnScope N ps scope)
  (len:∀ vs H Q E,sp vs H Q E->vs.length = ps.length)
  (hbody:∀ (A:Around) (outer:List Env) (s:Shared) (H:Hp) (vs:List V) (Q:VK) (E:XK),RoomH k (A.deeper (envOfC qual scope s.heap.objs.size f cdv))->sp vs H Q E->
   ∃ t,PSs (Zmz CX P w K mg base N qual scope f cdv A outer s H E) body t/\t { nx:=fun _ H'=>Q .non H',rt:=Q } (Zec N vs) H):
  FnOkH P w K mg base CX (k + 1) f (PySem.W.fnOf name qual params body scope dV kV doc pm an cdv ct) ps sp:=by
 refine ⟨len,fun A outer s H args us vs Q E hr e0 hb r hsp=>?_⟩
 have hl:=len _ _ _ _ hsp
 have KX:K.In s.heap:=e0.mod.kin.keeps fun b o e=>(e0.bs b o e).1
 have lim:s.heap.NoLimit:=e0.mod.nolimit.keeps fun b o e=>(e0.bs b o e).1
 have hkind:∀ y ∈ ps.zip us,scope.names.lookup y.1 = some .local\/(scope.names.lookup y.1 = some .cell/\((cellsFrom (s.heap.objs.size + 1) scope.names []).lookup y.1).isSome = true):=fun ⟨n,v⟩ hy=>by
  rcases S.par n (Jdf hy).1 with q | q
  ·exact .inl q
  ·exact .inr ⟨q,Jb9 _ _ _ (.inl q)⟩
 refine codeAny_call_function hr.depth (KX _ _ lk) rfl S.co S.gen rfl (PySem.W.codeRec_of KX hcd) (hb _ _ _ _ ?_)
 refine wpAny_newFunctionEnv_cells S.kind hkind fun env he s1 x=>?_
 subst he
 refine ⟨lim.keeps x.toInCall.keep,codeAny_func ?_⟩
 obtain ⟨t,ht,hq⟩:=hbody A outer s H vs Q E (hr.deeper _) hsp
 have I:Inv (Zmz CX P w K mg base N qual scope f cdv A outer s H E) [] (Zec N vs) H s1:=Zkv S e0 hl r x
 refine Jbb (ht [] s1 (Zec N vs) H _ I hq) (fun fl s' hs=>?_) fun e s' hs=>hs
 have fin:∀ {σ':St} {H':Hp} {v:V} {u:Value},Inv (Zmz CX P w K mg base N qual scope f cdv A outer s H E) [] σ' H' s'->RelV v u->Q v H'->CE outer P w H s Q u s':=
  fun {σ' H' v u} J rv q=>⟨v,H',J.os,J.bare,J.base,J.hok,rv,q⟩
 cases fl with
 | ret u=>
  obtain ⟨v,σ',H',J,rv,q⟩:=hs
  exact fin J rv q
 | next=>
  obtain ⟨σ',H',J,q⟩:=hs
  exact fin (v:=V.non) (u:=Value.none) J rfl q
 | brk=>
  obtain ⟨_,_,_,q⟩:=hs
  exact False.elim q
 | cont=>
  obtain ⟨_,_,_,q⟩:=hs
  exact False.elim q
section
variable {P:Program} {w:World} {K:PySem.W.Frag} {mg:Str->Option Value} {base:Heap}
theorem Fun.okH {x qual:Str} {st:Stmt} {f:Addr} {fd:FuncData} {N ps:List Str} {k:Nat} {sp:Sp} (F:Fun K x qual st f fd) (S:FnScope N ps (Zad st)) (len:∀ vs H Q E,sp vs H Q E->vs.length = ps.length)
  (hbody:∀ (cdv:Value) (A:Around) (outer:List Env) (s:Shared) (H:Hp) (vs:List V) (Q:VK) (E:XK),RoomH k (A.deeper (envOfC qual (Zad st) s.heap.objs.size f cdv))->sp vs H Q E->
   ∃ t,PSs (Zmz CX0 P w K mg base N qual (Zad st) f cdv A outer s H E).nox (Zag st) t/\t { nx:=fun _ H'=>Q .non H',rt:=Q } (Zec N vs) H):FnOkH P w K mg base CX0 (k + 1) f fd ps sp:=by
 obtain ⟨oc,od,kV,doc,pm,an,cdv,ct,osl,rfl,lk,hcd⟩:=F.ex
 refine fn_ofH lk hcd S len fun A outer s H vs Q E hr hsp=>?_
 obtain ⟨t,h,q⟩:=hbody cdv A outer s H vs Q E hr hsp
 exact ⟨t,h.nox,q⟩
structure CalH (P:Program) (w:World) (K:PySem.W.Frag) (mg:Str->Option Value) (base:Heap) (x:Str) (k:Nat) (sp:Sp):Prop where
 ex:∃ (f:Addr) (fd:FuncData) (ps:List Str),FnOkH P w K mg base CX0 k f fd ps sp/\mg x = some (.ref f)/\PySem.W.keepIn K (.ref f) = true/\Binds K fd ps []
end
section
variable {X:Cx} {CX:CXT} {k:Nat} {f C:Addr} {fd:FuncData} {ps:List Str} {sp:Sp} {dvs:List V} {ds:List Value} {E:XK} {x m:Str} {p pos apos:Pos} {e o:Expr} {es:List Expr} {ta:TE} {t:TA}
theorem run_fnH {pins:List (Addr × Obj)} {σ:St} {H:Hp} {s:Shared} {Q:VK} {us:List Value} {vs:List V} (F:FnOkH X.prog X.w X.K X.mg X.base CX k f fd ps sp) (hr:RoomH k X.A) (hb:Binds X.K fd ps ds) (hd:Vals dvs ds) (hx:Zcv CX X E)
  (I:Inv X pins σ H s) (r:Vals vs us) (h:sp (vs ++ dvs) H Q E):wpAny (model X.prog X.w) X.A (call (.ref f) us) (EP X pins σ Q) X.xe s:=by
 have r2:Vals (vs ++ dvs) (us ++ ds):=r.append hd
 have hl:(us ++ ds).length = ps.length:=by rw [<- r2.length]; exact F.len _ _ _ _ h
 refine wpAny_call (Jdo (F.run X.A X.stack s H ⟨us,[]⟩ (us ++ ds) (vs ++ dvs) Q E hr I.env0 (hb s us I.kIn hl) r2 h) fun r s' hq=>?_)
 cases r with
 | error e=>exact hx pins σ H s e s' I hq
 | ok fl=>
  cases fl with
  | ret u=>exact I.after hq
  | next=>exact False.elim hq
  | brk=>exact False.elim hq
  | cont=>exact False.elim hq
theorem Zn3 (F:FnOkH X.prog X.w X.K X.mg X.base CX k f fd ps sp) (hr:RoomH k X.A) (hg:Gl X x) (hm:X.mg x = some (.ref f)) (hk:PySem.W.keepIn X.K (.ref f) = true) (hb:Binds X.K fd ps ds) (hd:Vals dvs ds) (hx:Zcv CX X E)
  (ha:PA X (e :: es) t) (hdb:(x == ("__debug__" : Str)) = false:=by decide) (he:starEach (e :: es) X.env = (false,eval e X.env) :: starEach es X.env:=by rfl) (hpl:(backTo pos (starEach es X.env)).any (·.1) = false:=by rfl):
  PE X (.Call (.Name x p) (e :: es) [] pos) (Zh1 sp dvs E t):=by
 intro pins s σ H Q I h
 refine Jch (Zey I hg hm ?_ hdb)
 refine Jdp (h₀:=X.base) I.ok.mod.kin hk (thn (ha pos pins s σ H _ I h) fun us s1 ⟨vs,H1,I1,r,q⟩=>⟨I1.kIn,?_⟩) he hpl
 exact run_fnH F hr hb hd hx I1 r q
theorem pe_cH (C:CalH X.prog X.w X.K X.mg X.base x k sp) (hr:RoomH k X.A) (hg:Gl X x) (ha:PA X (e :: es) t) (h:Za8 e = false:=by rfl) (h2:es.all (fun x=>!Za8 x) = true:=by rfl)
  (hdb:(x == ("__debug__" : Str)) = false:=by decide):PE X (.Call (.Name x p) (e :: es) [] pos) (Zh1 sp [] E0 t):=by
 obtain ⟨f,fd,ps,F,hm,hk,hb⟩:=C.ex
 exact Zn3 F hr hg hm hk hb .nil pass0 ha hdb (Zau h) (Zci h2)
end
section
variable {X:Cx}
def rNeTs (K:PySem.W.Frag):R2:=fun x y H Q=>rNe x y H Q\/rEqT K true x y H Q
theorem Zl7 (hu:X.A.units + 8 < cLine):OpR X (compareOp .NotEq) (rNeTs X.K):=Zhg.or (op_neT hu)
end
end L2
namespace L2
open PySem PySem.Spec PyProof.Rows
def LIM:Nat:=2 ^ 4000
theorem Zj3 {z:Int} (h:z.natAbs < LIM):Builtin.Int.intBits z<=4000:=bits_le h
theorem mulL {x y:Int} (hx:x.natAbs < LIM) (hy:y.natAbs < LIM):IntMulOk x y:=by
 have e2:(2:Nat) ^ 20 = 1048576:=by decide
 refine .of_bits ?_ ?_
 ·rw [e2]; have:=Zj3 hx; omega
 ·rw [e2]; have:=Zj3 hy; omega
end L2
namespace L2
open PySem PySem.Spec PyProof.Rows
abbrev sg (x:Str):List Nat:=x.cps.toList
def mkS (l:List Nat):Str:=⟨l.toArray⟩
theorem Zi6 (l:List Nat):sg (mkS l) = l:=rfl
theorem Zog (x:Str):mkS (sg x) = x:=rfl
theorem Zbz (x:Str):(sg x).length = x.length:=by simp [Str.length]
def Its (z:Str):It:=⟨fun i _=>i < z.length,fun i H x H'=>H' = H/\∃ c,z.cps[i]? = some c/\x = .str ⟨#[c]⟩,fun i _=>z.length<=i⟩
theorem Znl {P:Program} {w:World} {K:PySem.W.Frag} {tg:Expr} (z:Str) (t:Tok) (it:Addr):Turn P w K tg (Its z) [it] it (fun i h=>h.IsStrIter it "str_ascii_iterator" z t i) where
 mem:=by simp
 obj:=fun i h st b hb=>by
  have e:b = it:=by simpa using hb
  subst e
  obtain ⟨o,e,c,d⟩:=st
  exact ⟨o,e,fun v z=>by rw [d] at z; cases z⟩
 keep:=fun i h h' st k=>by
  obtain ⟨o,e,c,d⟩:=st
  exact ⟨o,k it (by simp) o e,c,d⟩
 item:=by
  intro X hP hw hK hc i pins s σ H E I hf st hg
  subst hP hw hK
  have hg:i < z.length:=hg
  obtain ⟨f0,f1,f2,f3,f4,f5⟩:=hf it (by simp)
  have hx:z.cps[i]? = some (z.cps[i]'hg):=Array.getElem?_eq_getElem hg
  refine wpAny_pyNext_ascii_item st hx fun h' st' sb=>?_
  have I1:Inv X pins σ H { s with heap:=h',toks:=s.toks + 1 }:=I.turned (fun b o hb e=>(sb.2 b hb).trans e) f0 f1 f3 f4 f5
  obtain ⟨o,e,c,d⟩:=id st'
  exact ⟨_,rfl,Zoq (s:={ s with heap:=h',toks:=s.toks + 1 }) e c d (by decide) ⟨.str ⟨#[z.cps[i]'hg]⟩,H,I1,⟨_,rfl⟩,⟨rfl,_,hx,rfl⟩,st',fun b hb=>(hf b hb).1⟩⟩
 done:=by
  intro X hP hw hK hc i pins s σ H E I hf st hg
  subst hP hw hK
  have hg:z.length<=i:=hg
  obtain ⟨f0,f1,f2,f3,f4,f5⟩:=hf it (by simp)
  exact wpAny_pyNext_ascii_end (I.ok.hd hc) st (Array.getElem?_eq_none hg) fun h' eb=>⟨rfl,I.turned (t':=s.toks) (fun b o hb e=>eb b o hb e) f0 f1 f3 f4 f5⟩
 self:=fun A i s Q E st h=>by
  refine wpAny_pyIter_slot st.typeIs F.slot_str_ascii_iterator_iter (wpAny_call_entry F.slot_str_ascii_iterator_iter st.typeIs F.entry_str_ascii_iterator_iter ?_ (F.args_str_ascii_iterator_iter_1 _))
  show wpAny _ _ (ret (.ref it)) _ _ s
  exact Ja5 ⟨_,rfl,"str_ascii_iterator",_,st.typeIs,F.slot_str_ascii_iterator_next.lookup,h⟩
section
variable {X:Cx} {tg:Expr}
def Zgo (x:Str):Prop:=x.cps.all (· < 128) = true
def iStr (tl:TE):TI:=fun σ H R=>tl σ H fun x H1=>∃ z,x = .str z/\Zgo z/\R (Its z) H1
theorem Zpc {l:Expr} {tl:TE} (hl:PE X l tl):PI X tg l (iStr tl):=by
 intro pins s σ H R I h
 refine thn (hl pins s σ H _ I h) fun v s1 ⟨x,H1,I1,r1,q1⟩=>?_
 obtain ⟨z,rfl,ha,q⟩:=q1
 obtain ⟨t,rfl⟩:=r1
 refine wpAny_pyIter_ascii ha ?_
 refine ⟨s1.heap.objs.size,[s1.heap.objs.size],_,_,H1,rfl,I1.kept (t':=s1.toks) fun b o e=>Jad _ e,Znl z t _,⟨_,Jaq _ rfl,rfl,rfl⟩,fun b hb=>?_,q⟩
 have e:b = s1.heap.objs.size:=by simpa using hb
 subst e
 exact I1.fpOk (Jae _) (I1.hok.fresh (Jae _))
theorem for_str {z:Str} {g:TG} {tb:TS} {Dn:Ends} {σ:St} {H:Hp} (Pv:Nat->St->Hp->Prop) (h0:Pv 0 σ H)
  (hs:∀ (i c:Nat) σ H,(sg z)[i]? = some c->Pv i σ H->g (.str (mkS [c])) σ H fun σ2 H2=>tb { Dn with nx:=Pv (i + 1),ct:=Pv (i + 1),bk:=Dn.nx } σ2 H2) (hd:∀ σ H,Pv z.length σ H->Dn.nx σ H):
  ∃ W:Nat->Nat->St->Hp->Prop,(∃ m,W 0 m σ H)/\∀ i m σ H,W i m σ H->
   ((Its z).stop i H/\Dn.nx σ H)\/((Its z).go i H/\∃ N:St->Hp->Prop,(∀ σ' H',N σ' H'->∃ m',m' < m/\W (i + 1) m' σ' H')/\∀ x H',(Its z).yld i H x H'->g x σ H' fun σ2 H2=>tb { Dn with nx:=N,ct:=N,bk:=Dn.nx } σ2 H2):=by
 refine ⟨fun i m σ H=>m = z.length - i/\i<=z.length/\Pv i σ H,⟨z.length,by simp,Jb8 _,h0⟩,?_⟩
 rintro i m σ H ⟨rfl,hi,p⟩
 by_cases hlt:i < z.length
 ·refine .inr ⟨hlt,Pv (i + 1),fun σ' H' p'=>⟨z.length - (i + 1),by omega,rfl,hlt,p'⟩,fun x H' y=>?_⟩
  obtain ⟨rfl,c,hc,rfl⟩:=y
  exact hs i c σ _ (by simpa using hc) p
 ·have e:i = z.length:=by omega
  subst e
  exact .inl ⟨Jae _,hd σ H p⟩
theorem Zoz {z:Str} {g:TG} {tt:TT} {te:TE} {k:Nat} {fr:List (Str × Nat)} {D:Addr} {σ:St} {H1:Hp} {Q:VK} (Pv:Nat->List V->Hp->Prop) (h0:Pv 0 [] (upd H1 D (.lst [])))
  (hs:∀ i c vs σ' H,i < z.length->(sg z)[i]? = some c->Sh k (Zby fr σ) σ'->Pv i vs H->Zff g tt te D z.length k (Zby fr σ) Pv i (.str (mkS [c])) σ' H) (hd:∀ vs H,Pv z.length vs H->Q (.ref D) H):Zbo g tt te (Its z) D (Zfh k fr σ) H1 Q:=
 Zft (fun i x=>∃ c,(sg z)[i]? = some c/\x = .str (mkS [c])) Pv h0 (fun i vs H hi p=>⟨hi,fun x H' y=>by obtain ⟨e,c,hc,ex⟩:=y; exact ⟨e,c,by simpa using hc,ex⟩⟩) (fun vs H p=>Jae _)
  (fun i x vs σ' H hi hx sh p=>by obtain ⟨c,hc,rfl⟩:=hx; exact hs i c vs σ' H hi hc sh p) hd
end
def Zjh (z:Str) (lo hi:Option Int):Str:=mkS (((sg z).drop (HT.sIx z.length 0 lo)).take (HT.sIx z.length z.length hi - HT.sIx z.length 0 lo))
theorem Zg6 (lo hi:Option Int) (n:Nat):Builtin.Str.strSliceIndices lo hi 1 n = sliceRange ((HT.sIx n 0 lo:Nat):Int) ((HT.sIx n n hi:Nat):Int) 1:=by
 unfold Builtin.Str.strSliceIndices
 simp only [show (1:Int) > 0 by decide,if_true]
 have e1:(match lo with | none=>(0:Int) | some i=>max 0 (min (if i < 0 then i + (n:Int) else i) (n:Int))) = ((HT.sIx n 0 lo:Nat):Int):=by
  cases lo with
  | none=>rfl
  | some i=>
   simp only [HT.sIx]
   by_cases h:i < 0
   ·simp only [h,if_true]; omega
   ·simp only [h,if_false]; omega
 have e2:(match hi with | none=>(n:Int) | some i=>max 0 (min (if i < 0 then i + (n:Int) else i) (n:Int))) = ((HT.sIx n n hi:Nat):Int):=by
  cases hi with
  | none=>rfl
  | some i=>
   simp only [HT.sIx]
   by_cases h:i < 0
   ·simp only [h,if_true]; omega
   ·simp only [h,if_false]; omega
 rw [<- e1,<- e2]
 cases lo <;> cases hi <;> rfl
def rSlS:V->Option Int->Option Int->Hp->VK->Prop:=fun x lo hi H Q=>∃ z,x = .str z/\z.length<=sizeLine/\Q (.str (Zjh z lo hi)) H
theorem Zdm {X:Cx}:SlR X rSlS:=by
 intro pins s σ H x v vl vu lo hi sl Q I rx hs pl pu h
 obtain ⟨z,rfl,hz,q⟩:=h
 obtain ⟨t,rfl⟩:=rx
 refine ⟨"str",_,F.slot_str_getitem.lookup,Jcp s z t,?_⟩
 obtain ⟨l,hl1,hl2⟩:∃ l:Option (Int × Tok),vl = partValue l/\l.map (·.1) = lo:=by cases pl with | none=>exact ⟨none,rfl,rfl⟩ | int i t=>exact ⟨some (i,t),rfl,rfl⟩
 obtain ⟨u,hu1,hu2⟩:∃ l:Option (Int × Tok),vu = partValue l/\l.map (·.1) = hi:=by cases pu with | none=>exact ⟨none,rfl,rfl⟩ | int i t=>exact ⟨some (i,t),rfl,rfl⟩
 subst hl1 hu1 hl2 hu2
 have hp:(slicePicked z l u none) = sliceRange ((HT.sIx z.length 0 (l.map (·.1)):Nat):Int) ((HT.sIx z.length z.length (u.map (·.1)):Nat):Int) 1:=Zg6 _ _ _
 have hc:(⟨((slicePicked z l u none).filterMap (z.cps[·]?)).toArray⟩:Str) = Zjh z (l.map (·.1)) (u.map (·.1)):=by
  unfold Zjh mkS
  rw [hp,Jdy,pick_run]
 refine wpAny_getItem_str_slice (l:=l) (u:=u) (st:=none) hs rfl ?_
 unfold sliceMade
 have hlen:(slicePicked z l u none).length = ((((sg z).drop (HT.sIx z.length 0 (l.map (·.1)))).take (HT.sIx z.length z.length (u.map (·.1)) - HT.sIx z.length 0 (l.map (·.1)))).length)\/True:=.inr trivial
 split
 ·rename_i hb
  have hb2:(slicePicked z l u none).length = z.length:=by
   have:=(Jay _ _).mp hb
   simpa using this.2
  have e:Zjh z (l.map (·.1)) (u.map (·.1)) = z:=by
   rw [<- hc,hp,Jdy,pick_run]
   rw [hp,Jdy,Jac,Jck] at hb2
   have:=HT.sIx_le z.length z.length (Jae _) (u.map (·.1))
   have e2:(sg z).length = z.length:=Zbz z
   have hd:((z.cps.toList.drop (HT.sIx z.length 0 (l.map (·.1)))).take (HT.sIx z.length z.length (u.map (·.1)) - HT.sIx z.length 0 (l.map (·.1)))) = z.cps.toList:=by
    by_cases h0:HT.sIx z.length 0 (l.map (·.1)) = 0
    ·rw [h0,Jd1]
     exact Jbt (by rw [show z.cps.toList.length = z.length from e2]; omega)
    ·have hz0:z.length = 0:=by omega
     have:z.cps.toList = []:=List.length_eq_zero_iff.mp (by rw [show z.cps.toList.length = z.length from e2]; exact hz0)
     rw [this]; simp
   rw [hd]
  rw [e] at q
  exact ⟨.str z,H,I,⟨t,rfl⟩,q⟩
 ·rw [hc]
  have hle:(Zjh z (l.map (·.1)) (u.map (·.1))).length<=sizeLine:=by
   rw [<- Zbz]
   unfold Zjh
   rw [Zi6,Jbv,Jbg,Zbz]
   omega
  exact ⟨hle,.str _,H,I.tok _,⟨_,rfl⟩,q⟩
section
variable {X:Cx}
def rStarts:V->List V->Hp->VK->Prop:=fun x vs H Q=>∃ z y,x = .str z/\vs = [.str y]/\Q (.bl (Txt.startswith z y)) H
def Zlr:V->List V->Hp->VK->Prop:=fun x vs H Q=>∃ z y i r,x = .str z/\vs = [.str y]/\Builtin.Str.occurrences z y 0 z.length 1 = i :: r/\Q (.int (i:Nat)) H
theorem Zmh:MtM X "str.index" Zlr:=by
 intro pins s σ H x vs v us Q I rx rv h
 obtain ⟨z,y,i,r,rfl,rfl,e,q⟩:=h
 obtain ⟨t,rfl⟩:=rx
 obtain ⟨u,rfl,⟨t',rfl⟩⟩:=rv.one
 exact call_gives F.slot_str_index (Jcp s z t) F.entry_str_index (F.args_str_index_2 _ _) (gives_str_index z y t t' i r e) ⟨.int (i:Nat),H,I.tok _,⟨_,rfl⟩,q⟩
def Zh9 (z y:Str):Str × Str × Str:=match Builtin.Str.occurrences z y 0 z.length 1 with
 | i :: _=>(Builtin.Str.strSub z 0 i,y,Builtin.Str.strSub z (i + y.length) z.length)
 | []=>(z,Str.empty,Str.empty)
def rPart:V->List V->Hp->VK->Prop:=fun x vs H Q=>∃ z y,x = .str z/\vs = [.str y]/\0 < y.length/\z.length<=sizeLine/\∀ p,H p = none->Q (.ref p) (upd H p (.tup [.str (Zh9 z y).1,.str (Zh9 z y).2.1,.str (Zh9 z y).2.2]))
theorem mt_part:MtM X "str.partition" rPart:=by
 intro pins s σ H x vs v us Q I rx rv h
 obtain ⟨z,y,rfl,rfl,hy,hz,q⟩:=h
 obtain ⟨t,rfl⟩:=rx
 obtain ⟨u,rfl,⟨t',rfl⟩⟩:=rv.one
 refine Jdd F.slot_str_partition (Jcp _ _ _) F.entry_str_partition (F.args_str_partition_2 _ _) (meets_str_partition z y t t' (by rw [Jbi]; omega) hz) ?_
 have hn:H s.heap.objs.size = none:=I.hok.fresh (Jae _)
 have q':=q s.heap.objs.size hn
 unfold Zh9 at q'
 revert q'
 cases Builtin.Str.occurrences z y 0 z.length 1 with
 | nil=>
  intro q'
  refine ⟨.ref s.heap.objs.size,_,?_,rfl,q'⟩
  exact I.laid (fun b o e=>Jad _ e) (Jae _) ⟨by simp only [List.length_cons,List.length_nil]; rw [Jd9]; decide,[.str z t,.str Str.empty s.toks,.str Str.empty s.toks],.cons ⟨_,rfl⟩ (.cons ⟨_,rfl⟩ (.cons ⟨_,rfl⟩ .nil)),⟨_,Jaq s.heap rfl,rfl,0,rfl⟩⟩
 | cons i r=>
  intro q'
  refine ⟨.ref s.heap.objs.size,_,?_,rfl,q'⟩
  exact I.laid (fun b o e=>Jad _ e) (Jae _) ⟨by simp only [List.length_cons,List.length_nil]; rw [Jd9]; decide,[.str (Builtin.Str.strSub z 0 i) s.toks,.str y t',.str (Builtin.Str.strSub z (i + y.length) z.length) (s.toks + 1)],.cons ⟨_,rfl⟩ (.cons ⟨_,rfl⟩ (.cons ⟨_,rfl⟩ .nil)),⟨_,Jaq s.heap rfl,rfl,0,rfl⟩⟩
theorem Zhw:∀ (tk:Nat) (xs:List Str),Vals (xs.map V.str) (strsFrom tk xs)
 | _,[]=>.nil
 | tk,x :: r=>.cons ⟨_,rfl⟩ (Zhw (tk + 1) r)
def Zpa:V->List V->Hp->VK->Prop:=fun x vs H Q=>∃ z y,x = .str z/\vs = [.str y]/\0 < y.length/\z.length<=sizeLine/\(Txt.split z y).length<=sizeLine/\∀ p,H p = none->Q (.ref p) (upd H p (.lst ((Txt.split z y).map V.str)))
theorem Zhj:MtM X "str.split" Zpa:=by
 intro pins s σ H x vs v us Q I rx rv h
 obtain ⟨z,y,rfl,rfl,hy,hz,hn,q⟩:=h
 obtain ⟨t,rfl⟩:=rx
 obtain ⟨u,rfl,⟨t',rfl⟩⟩:=rv.one
 have hy':(y.length == 0) = false:=by rw [Jbi]; omega
 have hf:H s.heap.objs.size = none:=I.hok.fresh (Jae _)
 have q':=q s.heap.objs.size hf
 have self:(q2:Q (.ref s.heap.objs.size) (upd H s.heap.objs.size (.lst [V.str z])))->EP X pins σ Q (.ref s.heap.objs.size) { s with heap:=s.heap.push { cls:=.type "list",data:=.seq [Value.str z t].toArray } }:=fun q2=>
  ⟨.ref s.heap.objs.size,_,I.laid (t':=s.toks) (o:=.lst [V.str z]) (fun b o e=>Jad _ e) (Jae _) ⟨by simp only [List.length_cons,List.length_nil]; rw [Jd9]; decide,[.str z t],0,.cons ⟨_,rfl⟩ .nil,Jaq s.heap rfl⟩,rfl,q2⟩
 unfold Txt.split at q' hn
 cases h1:(decide (z.length < y.length) || decide (Builtin.Str.strKind z < Builtin.Str.strKind y))
 ·rw [h1] at q' hn
  cases h2:(Builtin.Str.occurrences z y 0 z.length (z.length + 1)).isEmpty
  ·rw [h2] at q' hn
   simp only [Bool.false_eq_true,if_false] at q' hn
   refine Jdd F.slot_str_split (Jcp _ _ _) Jd6 (Jdu _ _) (meets_str_split_sep z y t t' h1 hy' h2 hz hn) ?_
   exact ⟨.ref s.heap.objs.size,_,I.laid (o:=.lst ((Builtin.Str.partsBetween z (Builtin.Str.occurrences z y 0 z.length (z.length + 1)) y.length).map V.str)) (fun b o e=>Jad _ e) (Jae _) ⟨by rw [Jac]; exact hn,_,0,Zhw _ _,Jaq s.heap rfl⟩,rfl,q'⟩
  ·rw [h2] at q'
   simp only [Bool.false_eq_true,if_false,if_true,List.map] at q'
   exact Jdd F.slot_str_split (Jcp _ _ _) Jd6 (Jdu _ _) (meets_str_split_not_found z y t t' h1 hy' h2) (self q')
 ·rw [h1] at q'
  simp only [if_true,List.map] at q'
  exact Jdd F.slot_str_split (Jcp _ _ _) Jd6 (Jdu _ _) (meets_str_split_cannot_occur z y t t' h1) (self q')
theorem Zir:Zdq X (.type "int") (fun xs H Q=>∃ z n,xs = [.str z]/\PySem.intText? z = some n/\z.length<=640/\Q (.int n) H):=by
 intro pins s σ H xs us Q I r h
 obtain ⟨z,n,rfl,e,hl,q⟩:=h
 obtain ⟨u,rfl,⟨t,rfl⟩⟩:=r.one
 exact PySem.W.KIN.call_text e hl ⟨.int n,H,I.tok _,⟨_,rfl⟩,q⟩
def repT (z:Str) (n:Int):Str:=⟨(List.replicate n.toNat z.cps).foldl (· ++ ·) #[]⟩
theorem op_mulS:OpR X (binaryOp .Mult) (fun x y H Q=>∃ z n,x = .str z/\y = .int n/\1 < n/\n < 1000/\0 < z.length/\z.length < 1000/\z.length * n.toNat<=sizeLine/\(repT z n).length<=sizeLine/\Q (.str (repT z n)) H):=by
 intro pins s σ H x y v u Q I rx ry h
 obtain ⟨z,n,rfl,rfl,h1,h2,h3,h4,h6,h5,q⟩:=h
 obtain ⟨t,rfl⟩:=rx
 obtain ⟨t',rfl⟩:=ry
 have e0:(n == 1 || z.length == 0) = false:=by
  rw [Bool.or_eq_false_iff,Jbi,Jbi]
  omega
 refine PySem.P.mul_str (by rw [Jak (by omega),Jak (by omega)]; rfl) (fun _ _=>?_) (fun _ _=>?_) ?_
 ·have:(1000:Int)<=(2 ^ 63 - 1) / n:=Int.le_ediv_of_mul_le (by omega) (by omega)
  omega
 ·unfold Builtin.Str.tooLong
  exact Jak (by omega)
 ·rw [if_neg (by omega),e0]
  exact ⟨h5,.str _,H,I.tok _,⟨_,rfl⟩,q⟩
end
theorem Zlk:∀ {ts:List Str} {its:List Value},Vals (ts.map V.str) its->∃ l:List (Str × Tok),its = strValues l/\l.map (·.1) = ts
 | [],_,.nil=>⟨[],rfl,rfl⟩
 | t :: ts,_,.cons ⟨k,e⟩ r=>by
  obtain ⟨l,e1,e2⟩:=Zlk r
  subst e
  exact ⟨(t,k) :: l,by rw [e1]; rfl,by rw [<- e2]; rfl⟩
def Zlq (K:PySem.W.Frag):V->List V->Hp->VK->Prop:=fun x vs H Q=>∃ z a ts,x = .str z/\vs = [.ref a]/\SqL K H a (ts.map V.str)/\JoinOk z ts = true/\Q (.str (Txt.join z ts)) H
theorem Zex {X:Cx}:MtM X "str.join" (Zlq X.K):=by
 intro pins s σ H x vs v us Q I rx rv h
 obtain ⟨z,a,ts,rfl,rfl,hq,ok,q⟩:=h
 obtain ⟨t,rfl⟩:=rx
 obtain ⟨u,rfl,e⟩:=rv.one
 cases e
 obtain ⟨its,r,p,hz⟩:=I.list hq
 obtain ⟨l,rfl,ht⟩:=Zlk r
 exact SC.join p.isList ht ok fun t' k=>⟨.str _,H,I.tok _,⟨_,rfl⟩,q⟩
theorem Zj1 {X:Cx} (K:PySem.W.Frag) (hK:X.K = K):MtM X "str.join" (Zlq K):=by subst hK; exact Zex
section
variable {X:Cx} {pos:Pos} {body:List Stmt} {h₀:ExceptHandler} {hs:List ExceptHandler} {E':XK} {tb:TS}
end
section
variable {X:Cx} {o e:Expr} {es:List Expr} {to:TE} {t:TA} {name:Str} {apos cpos:Pos} {T id:String} {r:V->List V->Hp->VK->Prop}
theorem Zpd (K:PySem.W.Frag) (hK:X.K = K) (pa:PlainAttrs T) (slot:Slot T name id) (hty:typeOf (.builtin id) = pure (.type "method_descriptor")) (hm:MtR X id r) (ho:PE X o to) (ha:PA X (e :: es) t)
  (hbase:attributeBase o name X.env (eval o X.env) = eval o X.env:=by rfl)
  (hfew:((backTo cpos (starEach (e :: es) X.env)).all (fun x=>!x.1) && (backToKw cpos (keywordEach [] X.env)).all (fun x=>x.1.isSome)
   && decide ((e :: es).length + ([]:List Keyword).length + (if ([]:List Keyword).isEmpty then 0 else 1) < 30)) = true:=by rfl)
  (hline:(apos.endLine == cpos.line) = true:=by rfl) (hs:starEach (e :: es) X.env = (false,eval e X.env) :: starEach es X.env:=by rfl) (hplain:(backTo cpos (starEach es X.env)).any (·.1) = false:=by rfl):
  PE X (.Call (.Attribute o name apos) (e :: es) [] cpos) (tBM K T r to t):=by
 subst hK
 exact Zdp pa slot hty hm ho ha hbase hfew hline hs hplain
end
theorem Zn1 {X:Cx} {x:Str} {z:Str} {pos:Pos} (hg:Gl X x) (hm:∃ t,X.mg x = some (.str z t)) (hd:(x == ("__debug__" : Str)) = false:=by decide):PE X (.Name x pos) (tC (.str z)):=by
 obtain ⟨t,hm⟩:=hm
 exact Zbn hg hm ⟨t,rfl⟩ hd
end L2
namespace L2
open PySem PySem.Spec PyProof.Rows PySem.Builtin PySem.Builtin.Str PySem.StrLaws
def Zaq (s:List Nat):List (List Nat)->List Nat
 | []=>[]
 | [a]=>a
 | a :: b :: r=>a ++ s ++ Zaq s (b :: r)
theorem Zim (s:Array Nat):∀ (r:List Str) (a:Array Nat),(r.foldl (fun acc p=>acc ++ s ++ p.cps) a).toList = a.toList ++ (r.map fun p=>s.toList ++ sg p).flatten
 | [],a=>by simp
 | p :: r,a=>by
  rw [List.foldl_cons,Zim s r]
  simp
theorem Zd2 (s:List Nat):∀ (r:List (List Nat)) (a:List Nat),Zaq s (a :: r) = a ++ (r.map fun p=>s ++ p).flatten
 | [],a=>by simp [Zaq]
 | b :: r,a=>by
  show a ++ s ++ Zaq s (b :: r) = _
  rw [Zd2 s r b]
  simp
theorem sg_join (sep:Str):∀ (ts:List Str),sg (Txt.join sep ts) = Zaq (sg sep) (ts.map sg)
 | []=>rfl
 | a :: r=>by
  show ((⟨r.foldl (fun acc p=>acc ++ sep.cps ++ p.cps) a.cps⟩:Str)).cps.toList = _
  rw [Zim,Jcf,Zd2,Jcr]
  rfl
def Cl (t s:List Nat):Nat->List (List Nat)->Prop
 | _,[]=>False
 | o,[a]=>∀ i,o<=i->i + s.length<=t.length->(t.drop i).take s.length ≠ s
 | o,a :: b :: r=>(∀ i,o<=i->i < o + a.length->(t.drop i).take s.length ≠ s)/\(t.drop (o + a.length)).take s.length = s/\o + a.length + s.length<=t.length/\Cl t s (o + a.length + s.length) (b :: r)
def bnd (w:Nat):Nat->List (List Nat)->List Nat
 | _,[]=>[]
 | _,[a]=>[]
 | o,a :: b :: r=>(o + a.length) :: bnd w (o + a.length + w) (b :: r)
theorem Zfo (x y:Str) (hi limit:Nat):∀ (l:List Nat) (st:Array Nat × Nat),(∀ i ∈ l,st.2<=i->i + y.length<=hi->subAt x y i = false)->(forIn l st (occBody x y hi limit)).run = st
 | [],st,_=>rfl
 | i :: l,st,h=>by
  rw [Jcu]
  have:occBody x y hi limit i st = pure (ForInStep.yield (st.fst,st.snd)):=by
   unfold occBody
   rw [if_neg]
   rintro ⟨⟨⟨_,h1⟩,h2⟩,h3⟩
   rw [h i (Jbd ..) h1 h2] at h3
   cases h3
  rw [this]
  exact Zfo x y hi limit l (st.1,st.2) fun j hj=>h j (Jai _ hj)
theorem Zlj {x y:Str} {i:Nat} (h:((sg x).drop i).take y.length ≠ sg y):subAt x y i = false:=by
 rw [subAt_eq]
 exact Jbi.mpr h
theorem subAt_t {x y:Str} {i:Nat} (h:((sg x).drop i).take y.length = sg y):subAt x y i = true:=by
 rw [subAt_eq]
 exact Ja7.mpr h
theorem Zgh {α β:Type} (f:α->β->Id (ForInStep β)) (hf:∀ a b,∃ b',f a b = pure (ForInStep.yield b')):∀ (l l':List α) (b:β),(forIn (l ++ l') b f).run = (forIn l' (forIn l b f).run f).run
 | [],l',b=>rfl
 | a :: l,l',b=>by
  rw [List.cons_append,Jcu,Jcu]
  obtain ⟨b',e⟩:=hf a b
  rw [e]
  exact Zgh f hf l l' b'
theorem Zen (x y:Str) (hi limit:Nat) (i:Nat) (st:Array Nat × Nat):∃ b',occBody x y hi limit i st = pure (ForInStep.yield b'):=by
 unfold occBody
 split
 ·exact ⟨_,rfl⟩
 ·exact ⟨_,rfl⟩
theorem Zpe (x y:Str) (hy:0 < y.length):∀ (ps:List (List Nat)) (o:Nat) (found:Array Nat),o<=x.length->Cl (sg x) (sg y) o ps->found.size + ps.length<=x.length + 2->
  (forIn (List.range' o (x.length + 1 - o)) (found,o) (occBody x y x.length (x.length + 1))).run.fst.toList = found.toList ++ bnd y.length o ps
 | [],_,_,_,h,_=>h.elim
 | [a],o,found,ho,h,hl=>by
  rw [Zfo x y]
  ·simp [bnd]
  ·intro i hi h1 h2
   have h3:i + (sg y).length<=(sg x).length:=by rw [Zbz,Zbz]; exact h2
   refine Zlj ?_
   have:=h i (by simpa using h1) h3
   rwa [Zbz] at this
 | a :: b :: r,o,found,ho,h,hl=>by
  obtain ⟨h1,h2,h3,h4⟩:=h
  rw [Zbz] at h2 h3 h4
  rw [Zbz] at h3
  have e:List.range' o (x.length + 1 - o) = List.range' o a.length ++ ((o + a.length) :: (List.range' (o + a.length + 1) (y.length - 1) ++ List.range' (o + a.length + y.length) (x.length + 1 - (o + a.length + y.length)))):=by
   have e1:x.length + 1 - o = a.length + (1 + ((y.length - 1) + (x.length + 1 - (o + a.length + y.length)))):=by omega
   rw [e1,<- Jc9,<- Jc9,<- Jc9]
   simp only [List.range'_one,List.singleton_append]
   rw [show o + a.length + 1 + (y.length - 1) = o + a.length + y.length by omega]
  rw [e,Zgh _ (Zen x y _ _)]
  rw [Zfo x y x.length (x.length + 1) (List.range' o a.length) (found,o)]
  ·rw [Jcu]
   have eb:occBody x y x.length (x.length + 1) (o + a.length) (found,o) = pure (ForInStep.yield (found.push (o + a.length),o + a.length + y.length)):=by
    unfold occBody
    rw [if_pos]
    refine ⟨⟨⟨?_,?_⟩,?_⟩,subAt_t h2⟩
    ·show found.size < x.length + 1
     simp at hl
     omega
    ·show o<=o + a.length
     omega
    ·omega
   rw [eb]
   show (forIn (List.range' (o + a.length + 1) (y.length - 1) ++ List.range' (o + a.length + y.length) (x.length + 1 - (o + a.length + y.length))) (found.push (o + a.length),o + a.length + y.length) (occBody x y x.length (x.length + 1))).run.fst.toList = _
   rw [Zgh _ (Zen x y _ _),Zfo x y x.length (x.length + 1) (List.range' (o + a.length + 1) (y.length - 1))]
   ·rw [Zpe x y hy (b :: r) _ _ (by omega) h4 (by simp at hl ⊢; omega)]
    simp [bnd]
   ·intro i hi h5
    have:=List.mem_range'_1.mp hi
    have h5:o + a.length + y.length<=i:=h5
    omega
  ·intro i hi _ _
   have:=List.mem_range'_1.mp hi
   refine Zlj ?_
   have:=h1 i (by omega) (by omega)
   rwa [Zbz] at this
theorem Zfk (x:Str) (i j:Nat):strSub x i j = mkS (((sg x).drop i).take (j - i)):=by
 have:(strSub x i j).cps.toList = ((sg x).drop i).take (j - i):=strSub_toList x i j
 calc strSub x i j = mkS (sg (strSub x i j)):=(Zog _).symm
  _ = _:=by rw [show sg (strSub x i j) = _ from this]
theorem Zjy (x:Str) (s:List Nat):∀ (ps:List (List Nat)) (o:Nat),ps ≠ []->(sg x).drop o = Zaq s ps->o<=x.length->
  ((o :: (bnd s.length o ps).map (· + s.length)).zip (bnd s.length o ps ++ [x.length])).map (fun (i,j)=>strSub x i j) = ps.map mkS
 | [],_,h,_,_=>absurd rfl h
 | [a],o,_,e,ho=>by
  show [strSub x o x.length] = [mkS a]
  rw [Zfk]
  congr 2
  rw [e]
  have:(Zaq s [a]) = a:=rfl
  rw [this]
  refine Jbt ?_
  have hl:((sg x).drop o).length = x.length - o:=by rw [Jbg,Zbz]
  rw [e,this] at hl
  omega
 | a :: b :: r,o,_,e,ho=>by
  have e2:(sg x).drop (o + a.length + s.length) = Zaq s (b :: r):=by
   rw [Nat.add_assoc,<- List.drop_drop,e]
   show (a ++ s ++ Zaq s (b :: r)).drop (a.length + s.length) = _
   rw [List.drop_append_of_le_length (by simp)]
   rw [show a.length + s.length = (a ++ s).length by simp,List.drop_length]
   rfl
  have hlen:o + a.length + s.length<=x.length:=by
   have hl:((sg x).drop o).length = x.length - o:=by rw [Jbg,Zbz]
   rw [e] at hl
   have:(Zaq s (a :: b :: r)).length = a.length + s.length + (Zaq s (b :: r)).length:=by
    show (a ++ s ++ Zaq s (b :: r)).length = _
    rw [Jab,Jab]
   omega
  have ih:=Zjy x s (b :: r) (o + a.length + s.length) (by simp) e2 hlen
  show strSub x o (o + a.length) :: _ = mkS a :: (b :: r).map mkS
  congr 1
  rw [Zfk]
  congr 1
  rw [e,show o + a.length - o = a.length by omega]
  show (a ++ s ++ Zaq s (b :: r)).take a.length = a
  rw [Jd7,List.take_left]
theorem kind1 {x:Str} (h:Zgo x):Builtin.Str.strKind x = 1:=by
 unfold Builtin.Str.strKind
 rw [if_pos]
 unfold Zgo at h
 rw [Array.all_eq_true] at h ⊢
 intro i hi
 have:=h i hi
 simp at this ⊢
 omega
theorem Ziz {x y:Str} {ps:List (List Nat)} (ax:Zgo x) (ay:Zgo y) (hy:0 < y.length) (e:sg x = Zaq (sg y) ps) (c:Cl (sg x) (sg y) 0 ps):Txt.split x y = ps.map mkS:=by
 have hp:ps ≠ []:=by
  intro z
  subst z
  exact c.elim
 have hl:ps.length<=x.length + 2:=by
  have:∀ (ps:List (List Nat)),ps ≠ []->ps.length<=(Zaq (sg y) ps).length + 1:=by
   intro ps
   induction ps with
   | nil=>intro z; exact absurd rfl z
   | cons a r ih=>
    intro _
    cases r with
    | nil=>simp
    | cons b r=>
     have:=ih (by simp)
     show (a :: b :: r).length<=(a ++ sg y ++ Zaq (sg y) (b :: r)).length + 1
     have hyl:=Zbz y
     simp only [List.length_append,List.length_cons] at this ⊢
     omega
  have h:=this ps hp
  rw [<- e,Zbz] at h
  omega
 have ho:=Zpe x y hy ps 0 #[] (Jb8 _) c (by simpa using hl)
 have hocc:occurrences x y 0 x.length (x.length + 1) = bnd y.length 0 ps:=by
  rw [occ_eq]
  simpa using ho
 have hgo:=Zjy x (sg y) ps 0 hp (by simpa using e) (Jb8 _)
 rw [Zbz] at hgo
 unfold Txt.split
 rw [kind1 ax,kind1 ay,hocc]
 by_cases hs:x.length < y.length
 ·rw [if_pos (by simp [hs])]
  match ps,hp with
  | [a],_=>
   have:sg x = a:=e
   rw [<- this]
   simp [Zog]
  | a :: b :: r,_=>
   obtain ⟨_,_,h3,_⟩:=c
   rw [Zbz,Zbz] at h3
   omega
 ·rw [if_neg (by simp [hs])]
  match ps,hp with
  | [a],_=>
   have:sg x = a:=e
   rw [if_pos (by simp [bnd]),<- this]
   simp [Zog]
  | a :: b :: r,_=>
   rw [if_neg (by simp [bnd])]
   exact hgo
def Apart (s a:List Nat):Prop:=∀ rest i,i < a.length->((a ++ rest).drop i).take s.length ≠ s
theorem cl_of {s:List Nat} (hs:0 < s.length):∀ (ps:List (List Nat)) (pre:List Nat),ps ≠ []->(∀ a ∈ ps,Apart s a)->Cl (pre ++ Zaq s ps) s pre.length ps
 | [],_,h,_=>absurd rfl h
 | [a],pre,_,ha=>by
  intro i hi hl
  show ((pre ++ a).drop i).take s.length ≠ s
  have hl:i + s.length<=(pre ++ a).length:=hl
  rw [Jab] at hl
  have:=ha a (by simp) [] (i - pre.length) (by omega)
  rw [Jci] at this
  rw [List.drop_append,Jcw (by omega),List.nil_append]
  exact this
 | a :: b :: r,pre,_,ha=>by
  have e:pre ++ Zaq s (a :: b :: r) = (pre ++ a ++ s) ++ Zaq s (b :: r):=by
   show pre ++ (a ++ s ++ Zaq s (b :: r)) = _
   simp
  refine ⟨fun i h1 h2=>?_,?_,?_,?_⟩
  ·have:=ha a (by simp) (s ++ Zaq s (b :: r)) (i - pre.length) (by omega)
   show ((pre ++ (a ++ s ++ Zaq s (b :: r))).drop i).take s.length ≠ s
   rw [List.drop_append,Jcw (by omega),List.nil_append,Jd7]
   exact this
  ·rw [e,show pre.length + a.length = (pre ++ a).length by simp,Jd7,List.drop_left,List.take_left]
  ·rw [e]
   simp only [List.length_append]
   omega
  ·rw [e,show pre.length + a.length + s.length = (pre ++ a ++ s).length by rw [Jab,Jab]]
   exact cl_of hs (b :: r) (pre ++ a ++ s) (by simp) fun c hc=>ha c (Jai _ hc)
theorem Zk5 {c:Nat} {s a:List Nat} (h:c ∉ a):Apart (c :: s) a:=fun rest i hi e=>by
 have h1:(((a ++ rest).drop i).take (c :: s).length)[0]? = some c:=by rw [e]; rfl
 rw [List.getElem?_take_of_lt (by simp),List.getElem?_drop,Jbh (by simpa using hi)] at h1
 exact h (Jal h1)
theorem Zkg {x:Str} (h:∀ c ∈ sg x,c < 128):Zgo x:=by
 unfold Zgo
 rw [Array.all_eq_true]
 intro i hi
 have:=h (x.cps[i]) (by simp)
 simpa using this
theorem Zko {x y:Str} {ps:List (List Nat)} (ax:Zgo x) (ay:Zgo y) (hy:0 < y.length) (hp:ps ≠ []) (e:sg x = Zaq (sg y) ps) (ha:∀ a ∈ ps,Apart (sg y) a):Txt.split x y = ps.map mkS:=by
 refine Ziz ax ay hy e ?_
 rw [e]
 exact cl_of (by rw [Zbz]; exact hy) ps [] hp ha
def tN (n:Nat):List Nat:=(Nat.toDigits 10 n).map Char.toNat
def tI (a:Int):List Nat:=if a < 0 then 45 :: tN a.natAbs else tN a.natAbs
theorem sg_nat (n:Nat):sg (Str.ofString (toString ((n:Nat):Int))) = tN n:=PySem.W.KIN.signs_num n
theorem Zi5 (a:Int):sg (Str.ofString (toString a)) = tI a:=by
 unfold tI
 by_cases h:a < 0
 ·rw [if_pos h]
  obtain ⟨n,rfl⟩:∃ n:Nat,a = Int.negSucc n:=⟨a.natAbs - 1,by omega⟩
  have e:toString (Int.negSucc n) = "-" ++ toString (n + 1):=rfl
  rw [e]
  show (Str.ofString ("-" ++ toString (n + 1))).cps.toList = _
  rw [PyProof.Rows.signs_ofString,String.toList_append,Jbc]
  show 45 :: (Nat.repr (n + 1)).toList.map Char.toNat = 45 :: tN (n + 1)
  rw [Nat.toList_repr]
  rfl
 ·rw [if_neg h]
  obtain ⟨n,rfl⟩:=Int.eq_ofNat_of_zero_le (show 0<=a by omega)
  exact sg_nat n
open PySem.NumText in
open PySem.NumText in
theorem Zfj {n:Nat} (h:n < 10):tN n = [48 + n]:=by
 unfold tN
 rw [Nat.toDigits_of_lt_base h]
 have:∀ d:Nat,d < 10->(Nat.digitChar d).toNat = 48 + d:=by decide
 rw [Jcf,this n h]
 rfl
theorem tN_rec {n:Nat} (h:10<=n):tN n = tN (n / 10) ++ tN (n % 10):=by
 have hm:n % 10 < 10:=Nat.mod_lt n (by decide)
 have t:Nat.toDigits 10 (n / 10) ++ Nat.toDigits 10 (n % 10) = Nat.toDigits 10 (10 * (n / 10) + n % 10):=Nat.toDigits_append_toDigits (by decide) (by omega) hm
 rw [Nat.div_add_mod] at t
 unfold tN
 rw [<- t,Jbc]
theorem Zlf:∀ (k:Nat) {n:Nat},n < 10 ^ (k + 1)->(tN n).length<=k + 1
 | 0,n,h=>by rw [Zfj (by simpa using h)]; simp
 | k + 1,n,h=>by
  by_cases h10:n < 10
  ·rw [Zfj h10]; simp
  ·rw [tN_rec (by omega),Jab,Zfj (Nat.mod_lt n (by decide))]
   have:n / 10 < 10 ^ (k + 1):=by
    rw [Nat.div_lt_iff_lt_mul (by decide),<- Nat.pow_succ]
    exact h
   have:=Zlf k this
   simp
   omega
end L2
namespace L2
open PySem PySem.Spec PyProof.Rows PySem.W
section
variable {P:Program} {w:World} {A:Around} {F:Value->Shared->Prop} {u:Shared} {D:Env} {nm qn:Str} {C N:Addr} {bs ms:List Value} {hb:Bool} {sn:List Str} {sb:List Value} {ab:Bool} {co:Option Bool} {dd:Option Addr} {k0 k1 k2 k3 k5:Option Value} {ni:String}
end
end L2
namespace L2
open PySem PySem.Spec PyProof.Rows PySem.W
section
variable {P:Program} {w:World} {K:PySem.W.Frag} {mg:Str->Option Value} {base:Heap} {N:List Str} {qual:Str} {scope:Scope} {f:Addr} {cd:Value} {A:Around} {outer:List Env} {s:Shared} {H:Hp} {E:XK} {pins:List (Addr × Obj)} {σ:St} {H1:Hp} {s1 s2:Shared} {e:Addr} {cls c0:Value}
end
section
variable {X:Cx} {y:Str} {C:Addr} {yp cpos:Pos} {e₀:Expr} {rest:List Expr} {ta:TA} {pins:List (Addr × Obj)} {σ:St} {H:Hp} {s:Shared} {R:Hp->Prop}
end
section
variable {P:Program} {w:World} {K:PySem.W.Frag} {mg:Str->Option Value} {base:Heap} {N:List Str} {qual:Str} {scope:Scope} {f:Addr} {cd:Value} {A:Around} {outer:List Env} {s:Shared} {H:Hp} {E E':XK}
variable {x y:Str} {C D:Addr} {bmD:List Value} {newD:String} {np hpos pos yp cpos rpos:Pos} {body:List Stmt} {tb:TS} {ta:TA} {e₀:Expr} {rest:List Expr}
end
end L2
namespace L2
open PySem PySem.Spec PyProof.Rows
def rCountB:V->List V->Hp->VK->Prop:=fun x vs H Q=>∃ (l:Addr) (bs:List Bool) (k:Bool),x = .ref l/\vs = [.bl k]/\H l = some (.lst (bs.map V.bl))/\Q (.int ((bs.countP (· == k):Nat):Int)) H
theorem Zkf:∀ {bs:List Bool} {its:List Value},Vals (bs.map V.bl) its->its = bs.map Value.bool
 | [],_,.nil=>rfl
 | b :: bs,_,.cons r rs=>by
  cases r
  rw [Zkf rs]
  rfl
theorem Zmi {X:Cx}:MtM X "list.count" rCountB:=by
 intro pins s σ H x vs v us Q I rx rv h
 obtain ⟨l,bs,k,rfl,rfl,hH,q⟩:=h
 cases rx
 obtain ⟨u,rfl,ru⟩:=rv.one
 cases ru
 obtain ⟨z,its,n,r,hl,e⟩:=I.lstM hH
 obtain rfl:=Zkf r
 refine Jdd F.slot_list_count ⟨_,e,rfl⟩ F.entry_list_count (F.args_list_count_2 _ _) (SeqAt.list_countAt l (bs.map Value.bool).toArray n _ _ (.bool k) (isBoolOf k)) ⟨e,fun y hy=>?_,?_⟩
 ·obtain ⟨b,_,rfl⟩:=Jbq.mp (by simpa using hy:y ∈ bs.map Value.bool)
  exact SeqAt.EqAt.bool_bool b k
 ·have ec:List.countP (isBoolOf k) (bs.map Value.bool) = bs.countP (· == k):=by
   rw [List.countP_map]
   rfl
  refine ⟨.int _,H,I.tok _,⟨_,rfl⟩,?_⟩
  rw [ec]
  exact q
section
variable {X:Cx}
def tFs1 (t1:TE) (c:Str):TE:=fun σ H Q=>t1 σ H fun x H1=>∃ n:Int,x = .int n/\n.natAbs.log2 < 1920/\(Str.empty ++ Str.ofString (toString n)).length<=sizeLine/\(Str.empty ++ Str.ofString (toString n) ++ c).length<=sizeLine/\Q (.str (Str.empty ++ Str.ofString (toString n) ++ c)) H1
theorem pe_fst1 {e:Expr} {t1:TE} {c:Str} {j} {p1 p2 pos:Pos} (h:PE X e t1):PE X (.JoinedStr [.FormattedValue e (-1) none p1,.Constant (.str c) j p2] pos) (tFs1 t1 c):=by
 intro pins s σ H Q I hw
 refine JoinedStr_many (Jc3 (FormattedValue_plain (Jbb (h pins s σ H _ I hw) ?_ fun _ _ e=>e)))
 rintro v s1 ⟨x,H1,I1,r1,n,rfl,hn,l1,l2,q⟩
 obtain ⟨t,rfl⟩:=r1
 refine Jc6 hn ⟨l1,Jc3 (Jdk ⟨l2,joinParts_nil ⟨.str _,H1,((I1.tok _).tok _).tok _,⟨_,rfl⟩,q⟩ l2⟩)⟩
def tFs2 (t1:TE) (c:Str) (t2:TE):TE:=fun σ H Q=>t1 σ H fun x H1=>∃ n:Int,x = .int n/\n.natAbs.log2 < 1920/\(Str.empty ++ Str.ofString (toString n)).length<=sizeLine/\(Str.empty ++ Str.ofString (toString n) ++ c).length<=sizeLine /\
 t2 σ H1 fun y H2=>∃ m:Int,y = .int m/\m.natAbs.log2 < 1920/\(Str.empty ++ Str.ofString (toString n) ++ c ++ Str.ofString (toString m)).length<=sizeLine/\Q (.str (Str.empty ++ Str.ofString (toString n) ++ c ++ Str.ofString (toString m))) H2
theorem pe_fst2 {e e':Expr} {t1 t2:TE} {c:Str} {j} {p1 p2 p3 pos:Pos} (h:PE X e t1) (h':PE X e' t2):PE X (.JoinedStr [.FormattedValue e (-1) none p1,.Constant (.str c) j p2,.FormattedValue e' (-1) none p3] pos) (tFs2 t1 c t2):=by
 intro pins s σ H Q I hw
 refine JoinedStr_many (Jc3 (FormattedValue_plain (Jbb (h pins s σ H _ I hw) ?_ fun _ _ e=>e)))
 rintro v s1 ⟨x,H1,I1,r1,n,rfl,hn,l1,l2,hw2⟩
 obtain ⟨t,rfl⟩:=r1
 refine Jc6 hn ⟨l1,Jc3 (Jdk ⟨l2,Jc3 (FormattedValue_plain (Jbb (h' pins _ σ H1 _ (((I1.tok _).tok _).tok _) hw2) ?_ fun _ _ e=>e))⟩)⟩
 rintro v s2 ⟨y,H2,I2,r2,m,rfl,hm,l3,q⟩
 obtain ⟨t',rfl⟩:=r2
 exact Jc6 hm ⟨l3,joinParts_nil ⟨.str _,H2,((I2.tok _).tok _).tok _,⟨_,rfl⟩,q⟩ l3⟩
def rEnds:V->List V->Hp->VK->Prop:=fun x vs H Q=>∃ z y,x = .str z/\vs = [.str y]/\Q (.bl (Txt.endswith z y)) H
theorem mt_ends:MtM X "str.endswith" rEnds:=by
 intro pins s σ H x vs v us Q I rx rv h
 obtain ⟨z,y,rfl,rfl,q⟩:=h
 obtain ⟨t,rfl⟩:=rx
 obtain ⟨u,rfl,⟨t',rfl⟩⟩:=rv.one
 exact call_gives F.slot_str_endswith (Jcp s z t) F.entry_str_endswith (F.args_str_endswith_2 _ _) (gives_str_endswith z y t t') ⟨.bl _,H,I,rfl,q⟩
def nonU:Value->Bool
 | .none=>true
 | _=>false
def nonV:V->Bool
 | .non=>true
 | _=>false
def NoT (K:PySem.W.Frag) (H:Hp) (x:V):Prop:=x = .non\/∃ a xs,x = .ref a/\SqT K H a xs
def rInN (K:PySem.W.Frag):R2:=fun x y H Q=>∃ p xs,x = .non/\y = .ref p/\SqL K H p xs/\(∀ z ∈ xs,NoT K H z)/\Q (.bl (xs.any nonV)) H
theorem Zki {K:PySem.W.Frag} {H:Hp}:∀ {xs:List V} {us:List Value},Vals xs us->(∀ z ∈ xs,NoT K H z)->us.any nonU = xs.any nonV
 | _,_,.nil,_=>rfl
 | y :: xs,u :: us,.cons r t,f=>by
  rw [List.any_cons,List.any_cons,Zki t fun z hz=>f z (Jai _ hz)]
  congr 1
  rcases f y (Jbd ..) with h | ⟨a,zs,h,_⟩
  ·subst h; cases r; rfl
  ·subst h; cases r; rfl
theorem Zj2 {X:Cx} {pins:List (Addr × Obj)} {σ:St} {H:Hp} {s:Shared} (I:Inv X pins σ H s) {A:Around} (hu:A.units < cLine):∀ {xs:List V} {us:List Value},Vals xs us->(∀ z ∈ xs,NoT X.K H z)->∀ u ∈ us,SeqAt.EqAt A s u .none (nonU u)
 | _,_,.nil,_=>fun u hu=>by cases hu
 | y :: xs,u :: us,.cons r t,f=>fun u' hm=>by
  rcases Jav.mp hm with rfl | hm
  ·rcases f y (Jbd ..) with h | ⟨a,zs,h,ha⟩
   ·subst h; cases r; exact Zph (x:=.non) (y:=.non) rfl rfl rfl rfl
   ·subst h; cases r
    obtain ⟨its,r1,p1,_⟩:=I.tuple ha
    exact SeqAt.EqAt.tuple_none p1 hu
  ·exact Zj2 I hu t (fun z hz=>f z (Jai _ hz)) u' hm
theorem op_inN (hu:X.A.units + 8 < cLine):OpR X (compareOp .In) (rInN X.K):=by
 intro pins s σ H x y v u Q I rx ry h
 obtain ⟨p,xs,rfl,rfl,hq,hx,q⟩:=h
 cases ry
 cases rx
 obtain ⟨its,r,pl,hz⟩:=I.list hq
 refine SeqAt.in_listAt nonU pl.isList (fun w hw=>Zj2 I (A:=X.A.in1) (Jbe (Nat.add_le_add_left (by decide) _) hu) r hx w (by simpa using hw)) ⟨.bl _,H,I,rfl,?_⟩
 rw [show its.toArray.any nonU = its.any nonU by simp,Zki r hx]
 exact q
end
end L2
namespace L2
open PySem PySem.Spec PyProof.Rows
open PySem.W (hideAll of_hideAll hideAll_get hideAll_none)
theorem Zic (e:Value) {env env':Env} (h:env.frame = env'.frame):noteFrame e env = noteFrame e env':=by
 unfold noteFrame PySem.frameOf
 rw [h]
section
variable {M:Model} {A:Around} {E:Value->Shared->Prop} {s:Shared} {B:Heap} {fr:List Env} {e L:Addr} {cls c0:Value} {Q:Unit->Shared->Prop}
theorem Zhz {env:Env} {fl:Value} (fA:A.frames = some (env :: fr)) (fE:env.frame = some L) (x:Trk B (env :: fr) e cls c0 fl s.heap) (k:∀ h',Trk B fr e cls c0 .none h'->s.heap.UpToSlots h'->Q () { s with heap:=h' }):wpAny M A (leaving env (.ref e)) Q E s:=by
 obtain ⟨o,vs,T,oT,us,he,hc,hd,g2,g1,nT,ne,hT,dT,g3⟩:=x.ob
 unfold leaving noteFrame
 rw [fE]
 refine Jaj (Jaj (Jc0 he hd g1 ?_))
 rw [if_pos (by simp)]
 refine Jaj (Jc0 hT dT g3 ?_)
 by_cases hf:(fl == rawInt L) = true
 ·rw [if_pos hf]
  exact Ja5 (Zdf none x fun h2 y2 q2=>k h2 y2.outer q2)
 ·rw [if_neg hf]
  have z3:3 < us.size:=(Jca.mp g3).1
  have oth:∀ b,b ≠ T->(s.heap.update T (Obj.mapFields (·.setIfInBounds 3 Value.none))).get? b = s.heap.get? b:=fun b hb=>Jbs _ _ hb.symm
  have up:=Zc1 hT dT oth
  refine Jaj (Jdz hT dT z3 ?_)
  exact Zfv fA (Zfr x.ff up) fE (fun b u hb=>by rw [oth b (fun z=>by rw [z,nT] at hb; cases hb)]; exact x.st b u hb) x.nw ((oth e ne.symm).trans he) hd g2 fun h' y q=>Zdf (s:={ s with heap:=h' }) none (hc ▸ y) fun h2 y2 q2=>k h2 y2.outer ((up.trans q).trans q2)
end
section
variable {prog:Program} {w:World} {A:Around} {R:Result->Shared->Prop} {s:Shared}
theorem Zhs {elt target iter:Expr} {ifs:List Expr} {scope:Scope} {pos:Pos} {it acc:Value} {env:Env} (I:Nat->Shared->Prop)
  (turn:∀ n s,I n s->wpAny (model prog w) A (pyNext it) (fun r s₁=>match r with
   | none=>R (.ok .next) s₁
   | some v=>wpAny (model prog w) A (letOwnedTupleGo target it v) (fun _ s₁=>wpAny (model prog w) A (assign target env v) (fun _ s₂=>
     wpAny (model prog w) A (forIn ifs true fun c r=>if r = true then do let ok <- isTrue c env (eval c env); pure (ForInStep.yield ok) else pure (ForInStep.yield r)) (fun ok s₃=>
      if ok = true then wpAny (model prog w) A (eval elt env) (fun x s₄=>
       wpAny (model prog w) A (call (.builtin "list.append") [acc,x]) (fun _ s₅=>∃ m,m < n/\I m s₅) (fun _ _=>False) s₄) (notedBy (model prog w) A env fun x s'=>R (.error x) s') s₃
      else ∃ m,m < n/\I m s₃) (fun _ _=>False) s₂) (fun _ _=>False) s₁) (fun _ _=>False) s₁) (fun _ _=>False) s)
  (n:Nat) (h:I n s):
  codeAny (model prog w) A (.compLoop (.ListComp elt [⟨target,iter,ifs,0⟩] scope pos) 0 it acc env) R s:=by
 refine codeAny_loop rfl I (fun n s hI=>?_) n h
 show wpAny _ A ((compTurn (.ListComp elt [⟨target,iter,ifs,0⟩] scope pos) 0 it acc env).onRaise (fun x=>do noteFrame x env; theTreesLotGoes x)) _ _ s
 refine wpAny_noted ?_
 rw [compTurn_list]
 refine Jaj (Jdc (Jaj (Jbb (turn n s hI) (fun r s₁ h₁=>?_) fun _ _ h'=>h'.elim)))
 cases r with
 | none=>exact Ja5 h₁
 | some v=>
  refine Jaj (Jbb h₁ (fun _ s₁' h₁'=>?_) fun _ _ h'=>h'.elim)
  refine Jaj (Jbb h₁' (fun _ s₂ h₂=>Jaj (Jbb h₂ (fun ok s₃ h₃=>?_) fun _ _ h'=>h'.elim)) fun _ _ h'=>h'.elim)
  cases ok with
  | false=>exact Ja5 ⟨rfl,h₃⟩
  | true=>
   exact Jaj (Jaj (Jbb h₃ (fun x s₄ h₄=>Jaj (Jbb h₄ (fun _ s₅ h₅=>Ja5 (Ja5 ⟨rfl,h₅⟩)) fun _ _ h'=>h'.elim)) fun _ _ h'=>h'))
end
section
variable {P:Program} {w:World} {K:PySem.W.Frag} {mg:Str->Option Value} {base:Heap} {N:List Str} {qual:Str} {scope:Scope} {f:Addr} {cd:Value} {A:Around} {outer:List Env} {s:Shared} {H:Hp} {E:XK} {pins:List (Addr × Obj)} {σ:St} {H1:Hp} {s1 s2:Shared} {e:Addr} {cls:Value}
theorem Zn5 {a C:Addr} {c0 fl0:Value} {H':Hp} {B h3:Heap} (I:Inv (Zea (CXe P w) P w K mg base N qual scope f cd A outer s H E) pins σ H1 s1) (F:Fly P w (envOfC qual scope s.heap.objs.size f cd :: outer) H1 s1 a cls c0 H' s2)
  (hC:s.heap.objs.size<=C) (hCf:C ∉ frs (envOfC qual scope s.heap.objs.size f cd :: outer)) (x3:Trk B (envOfC qual scope s.heap.objs.size f cd :: outer) a cls c0 fl0 h3) (stB:B.StaysIn s2.heap)
  (up3:∀ b o,s2.heap.get? b = some o->b ≠ C->(∀ vs,o.data ≠ .fields vs)->∃ sl,h3.get? b = some { o with slots:=sl })
  (inB:∀ b o,s1.heap.get? b = some o->b ∉ frs (envOfC qual scope s.heap.objs.size f cd :: outer)->b ≠ C->∃ o',B.get? b = some o') (trB:∀ b u,H' b = some u->∃ o',B.get? b = some o')
  (e':E cls none H') (e2':c0 = .none\/E cls (some 0) H'):(Zea (CXe P w) P w K mg base N qual scope f cd A outer s H E).xe (.ref a) { s2 with heap:=h3 }:=by
 show wpAny (model P w) (A.deeper (envOfC qual scope s.heap.objs.size f cd)) (leaving (envOfC qual scope s.heap.objs.size f cd) (.ref a)) (fun _ s''=>CXe P w outer H s E (.ref a) s'') (fun e' s''=>CXe P w outer H s E e' s'') { s2 with heap:=h3 }
 have hsub:∀ b ∈ frs (envOfC qual scope s.heap.objs.size f cd :: outer),b ∈ s.heap.objs.size :: frs outer:=I.stkSub
 refine Zhz (B:=B) (s:={ s2 with heap:=h3 }) I.ok.frames rfl x3 fun h' x1 x4=>?_
 have nC:∀ b o,s.heap.get? b = some o->b ≠ C:=fun b o q z=>absurd (Jaf q) (by rw [z]; exact Nat.not_lt.mpr hC)
 have ub:Un (frs outer) [] H H1 s.heap s1.heap:=I.base
 have sup:∀ b,b ∈ frs outer->b ∈ frs (envOfC qual scope s.heap.objs.size f cd :: outer):=fun b hb=>by
  unfold frs at hb ⊢
  rw [Ja6]
  split <;> first | exact hb | exact Jai _ hb
 have nst:∀ b o,s.heap.get? b = some o->b ∉ frs outer->b ∉ frs (envOfC qual scope s.heap.objs.size f cd :: outer):=fun b o q nb z=>by
  rcases Jav.mp (hsub b z) with e1 | z
  ·exact absurd (Jaf q) (by rw [e1]; exact Ja9 _)
  ·exact nb z
 have keepB:∀ b o,(∃ o',B.get? b = some o')->s2.heap.get? b = some o->h'.get? b = some o:=fun b o ⟨o',hb⟩ q=>by
  have:=stB b o' hb
  rw [q] at this
  cases this
  exact x1.st b _ hb
 have slotS:∀ b o,s2.heap.get? b = some o->b ∈ frs (envOfC qual scope s.heap.objs.size f cd :: outer)->∃ sl,h'.get? b = some { o with slots:=sl }:=fun b o q hb=>by
  obtain ⟨B0,fl,_,_⟩:=F.fly
  obtain ⟨_,o',ho',hd⟩:=fl.ff.mem hb
  rw [q] at ho'
  cases ho'
  obtain ⟨sl,e3⟩:=up3 b o q (fun z=>hCf (z ▸ hb)) hd
  obtain ⟨sl',e4⟩:=x4 b _ e3 hd
  exact ⟨sl',e4⟩
 refine ⟨a,cls,c0,H',rfl,⟨F.os.trans I.os,F.bare,HOk.track F.hok (fun b u o hb q=>keepB b o (trB b u hb) q),⟨fun b o q n hb hx=>?_,fun b o q n hb hx=>?_,fun b o q n hx=>?_,fun b o q hx=>?_,fun b xs z=>F.un.tups b xs (ub.tups b xs z),fun b o u z=>F.un.frzs b o u (ub.frzs b o u z),fun b ps z=>?_⟩,⟨B,x1,fun b o q nb=>?_,trB⟩,fun o q=>?_,F.free⟩,e',e2'⟩
 ·have e1:=ub.keep b o q n hb hx
  exact keepB b o (inB b o e1 (nst b o q hb) (nC b o q)) (F.un.keep b o e1 (ub.free b o q n hx) (nst b o q hb) hx)
 ·obtain ⟨sl,e1⟩:=ub.slot b o q n hb hx
  obtain ⟨sl',e2⟩:=F.un.slot b _ e1 (ub.free b o q n hx) (sup b hb) hx
  obtain ⟨sl'',e3⟩:=slotS b _ e2 (sup b hb)
  exact ⟨sl'',e3⟩
 ·obtain ⟨o',e1⟩:=ub.there b o q hx
  exact F.un.free b o' e1 (ub.free b o q n hx) hx
 ·obtain ⟨o',e1⟩:=ub.there b o q hx
  obtain ⟨o'',e2⟩:=F.un.there b o' e1 hx
  by_cases z:b ∈ frs (envOfC qual scope s.heap.objs.size f cd :: outer)
  ·obtain ⟨sl,e3⟩:=slotS b o'' e2 z
   exact ⟨_,e3⟩
  ·exact ⟨o'',keepB b o'' (inB b o' e1 z (nC b o q)) e2⟩
 ·obtain ⟨m1,e1⟩:=ub.tbls b ps z
  obtain ⟨m2,e2⟩:=F.un.tbls b _ e1
  exact ⟨m1 ++ m2,by rw [e2,Jdj]⟩
 ·obtain ⟨o',e1⟩:=ub.there b o q (by simp)
  exact inB b o' e1 (nst b o q nb) (nC b o q)
 ·obtain ⟨o',e1⟩:=ub.there a o q (by simp)
  exact F.new o' e1
end
section
variable {X:Cx} {tg iter elt:Expr} {ifs:List Expr} {scope:Scope} {pos:Pos} {own:List Str} {fr:List (Str × Nat)} {wi:TI} {g:TG} {tt:TT} {te:TE}
theorem Zm0 {pins:List (Addr × Obj)} {s2:Shared} {σ:St} {H2:Hp} {it:Addr} {fp:List Addr} {tn:Nat->Heap->Prop} {J:It} {Q:VK} {cl:List (Str × Addr)} {RR:Value->Addr->Result->Shared->Prop} {E:Value->Shared->Prop} {E':XK}
  (hc:X.calm = true) (B:BlScope X scope own fr)
  (hb:∀ cl s H fp,PG (Zdk X (Zc2 own fr) scope cl s H fp) tg g/\PTs (Zdk X (Zc2 own fr) scope cl s H fp) ifs tt/\∀ xt,Zcv (CXe X.prog X.w) ((Zdk X (Zc2 own fr) scope cl s H fp).wish xt) E'->PE ((Zdk X (Zc2 own fr) scope cl s H fp).wish xt) elt te)
  (hcl:∀ x c,cl.lookup x = some c->X.env.cells.lookup x = some c) (hcl2:∀ y ∈ scope.names,y.2 = .free->∃ c,cl.lookup y.1 = some c)
  (I2:Inv X pins σ H2 s2) (T:Turn X.prog X.w X.K tg J fp it tn) (st2:tn 0 s2.heap) (f2:∀ b ∈ fp,Ziw X pins H2 b) (q:∀ D,H2 D = none->Zbo g tt te J D (Zfh own.length fr σ) H2 Q)
  (hEE:∀ (e0:Value) (D:Addr) (s3:Shared) (H3:Hp) (sR:Shared),Inv X pins σ H3 s3->(∀ b ∈ fp,Ziw X pins H3 b)->(∃ pins' σ' H1 s1,Inv (Zdk X (Zc2 own fr) scope cl s3 H3 fp) pins' σ' H1 s1/\CXe X.prog X.w X.stack H1 s1 E' e0 sR)->
   notedBy (model X.prog X.w) X.A (Zdk X (Zc2 own fr) scope cl s3 H3 fp).env (fun x s'=>RR (.ref D) s3.heap.objs.size (.error x) s') e0 sR)
  (hRR:∀ D C s' H',Inv X pins σ H' s'->Q (.ref D) H'->(∃ m,s'.heap.Ns C m)->C ≠ X.env.locals->(∀ x c,X.env.cells.lookup x = some c->c ≠ C)->(∀ p ∈ X.pn ++ pins,p.1 ≠ C)->X.s₀.heap.objs.size<=C->H' C = none->RR (.ref D) C (.ok .next) s'):
  wpAny (model X.prog X.w) X.A (newList []) (fun acc s₃=>wpAny (model X.prog X.w) X.A (newFunctionEnv scope X.env.globals cl [] X.env.qual none .none (some X.env)) (fun cenv s₄=>
   codeAny (model X.prog X.w) X.A (.compStart (.ListComp elt [⟨tg,iter,ifs,0⟩] scope pos) 0 (.ref it) acc { cenv with scope:=relabel scope X.env }) (RR acc cenv.locals) s₄) E s₃) E s2:=by
 refine Jd4 ?_
 have fr0:H2 s2.heap.objs.size = none:=I2.hok.fresh (Jae _)
 have I3:=I2.lnew (its:=[]) (ys:=[]) (t':=s2.toks) .nil (Jb8 _)
 generalize hs3:({ s2 with heap:=s2.heap.push { cls:=.type "list",data:=.seq ([]:List Value).toArray } }:Shared) = s3 at *
 have k23:∀ b o,s2.heap.get? b = some o->s3.heap.get? b = some o:=fun b o e=>by rw [<- hs3]; exact Jad _ e
 have sz3:s3.heap.objs.size = s2.heap.objs.size + 1:=by rw [<- hs3]; exact Jcn ..
 have I3':Inv X pins σ (upd H2 s2.heap.objs.size (.lst [])) s3:=I3
 have fne:∀ b ∈ fp,b ≠ s2.heap.objs.size:=fun b hb z=>by
  obtain ⟨o,ho,_⟩:=T.obj 0 _ st2 b hb
  exact absurd (Jaf ho) (by rw [z]; exact Ja9 _)
 have f3:∀ b ∈ fp,Ziw X pins (upd H2 s2.heap.objs.size (.lst [])) b:=fun b hb=>⟨by rw [Zah (fne b hb)]; exact (f2 b hb).1,(f2 b hb).2⟩
 have st3:tn 0 s3.heap:=T.keep 0 _ _ st2 fun b _ o e=>k23 b o e
 have hfo:∀ b ∈ fp,∃ o,s3.heap.get? b = some o:=fun b hb=>let ⟨o,ho,_⟩:=T.obj 0 _ st3 b hb; ⟨o,ho⟩
 refine Zfd fun h' hn hk hce=>?_
 have I4:=Zik (own:=own) I3' B hcl hcl2 f3 hfo hn hk hce
 obtain ⟨hg,ht,he0⟩:=hb cl s3 (upd H2 s2.heap.objs.size (.lst [])) fp
 have he:=he0 (fun e s'=>∃ pins' σ' H1 s1,Inv (Zdk X (Zc2 own fr) scope cl s3 (upd H2 s2.heap.objs.size (.lst [])) fp) pins' σ' H1 s1/\CXe X.prog X.w X.stack H1 s1 E' e s') (fun pins' σ' H1 s1 e s' I1 h=>⟨pins',σ',H1,s1,I1.unwish,h⟩)
 have st4:tn 0 h':=T.keep 0 _ _ st3 fun b _ o e=>hk b o e
 have stat:∀ {H':Hp},(∀ b ∈ fp,H' b = none)->∀ b ∈ fp,Ziw (Zdk X (Zc2 own fr) scope cl s3 (upd H2 s2.heap.objs.size (.lst [])) fp) [] H' b:=fun {H'} hnn b hb=>
  ⟨hnn b hb,(I4.ok.exf b hb).1,I4.ok.exfs b hb,.inl hb,(I4.ok.exf b hb).2,fun p hp=>absurd (show p ∈ ([]:List (Addr × Obj)) from hp) (by simp)⟩
 obtain ⟨W,⟨m0,w0⟩,turn⟩:=q s2.heap.objs.size fr0
 have loop:codeAny (model X.prog X.w) X.A (.compLoop (.ListComp elt [⟨tg,iter,ifs,0⟩] scope pos) 0 (.ref it) (.ref s2.heap.objs.size) (Zdk X (Zc2 own fr) scope cl s3 (upd H2 s2.heap.objs.size (.lst [])) fp).env)
   (RR (.ref s2.heap.objs.size) s3.heap.objs.size) { s3 with heap:=h' }:=by
  refine Zhs (fun n s'=>∃ i σ' H',Inv (Zdk X (Zc2 own fr) scope cl s3 (upd H2 s2.heap.objs.size (.lst [])) fp) [] σ' H' s'/\tn i s'.heap/\(∀ b ∈ fp,H' b = none)/\W i n σ' H') ?_ m0
   ⟨0,_,_,I4,st4,fun b hb=>(f3 b hb).1,w0⟩
  rintro n s5 ⟨i,σ5,H5,I5,st5,fr5,w5⟩
  rcases turn i n σ5 H5 w5 with ⟨stop,qn⟩ | ⟨go,step⟩
  ·refine thn (T.done (Zdk X (Zc2 own fr) scope cl s3 (upd H2 s2.heap.objs.size (.lst [])) fp) rfl rfl rfl hc i [] s5 σ5 H5 _ I5 (stat fr5) st5 stop) fun r s6 ⟨hr,I6⟩=>?_
   subst hr
   have I7:Inv X pins σ H5 s6:=I3'.call' (ch:=fp) I6.os I6.base I6.hok I6.bare fun b hb=>⟨(f3 b hb).2.2.2.1,(f3 b hb).2.1,(f3 b hb).2.2.2.2.1,(f3 b hb).2.2.2.2.2⟩
   obtain ⟨m6,hn6,_⟩:=I6.loc
   refine hRR _ _ s6 H5 I7 qn ⟨m6,hn6⟩ (Jdm I3'.lt) (fun x c e=>?_) (fun p hp=>?_) I3'.sz I6.free
   ·obtain ⟨v,z⟩:=I3'.cell x c e
    exact Ja8 z.lt
   ·exact Ja8 (Jaf (I3'.pin p hp).1)
  ·refine thn (T.item (Zdk X (Zc2 own fr) scope cl s3 (upd H2 s2.heap.objs.size (.lst [])) fp) rfl rfl rfl hc i [] s5 σ5 H5 _ I5 (stat fr5) st5 go) fun r s6 ⟨u,hr,h6⟩=>?_
   subst hr
   refine thn h6 fun _ s7 ⟨x,H7,I7,r7,y7,st7,fr7⟩=>?_
   have I7':=I7.pinned (stat fr7) (T.obj _ _ st7)
   refine thn (hg _ s7 σ5 H7 x u _ I7' r7 (step x H7 y7)) fun _ s8 ⟨σ8,H8,I8,q8⟩=>?_
   refine thn (ht _ s8 σ8 H8 _ I8 q8) fun b s9 ⟨H9,I9,q9⟩=>?_
   have again:∀ {sA:Shared} {σA:St} {HA:Hp} {m':Nat},Inv (Zdk X (Zc2 own fr) scope cl s3 (upd H2 s2.heap.objs.size (.lst [])) fp) ([] ++ Zgy fp s7.heap) σA HA sA->m' < n->W (i + 1) m' σA HA->
     ∃ m,m < n/\∃ i σ' H',Inv (Zdk X (Zc2 own fr) scope cl s3 (upd H2 s2.heap.objs.size (.lst [])) fp) [] σ' H' sA/\tn i sA.heap/\(∀ b ∈ fp,H' b = none)/\W i m σ' H':=fun {sA σA HA m'} IA hm wA=>by
    refine ⟨m',hm,i + 1,σA,HA,IA.unpinned,T.keep _ _ _ st7 fun b hb o e=>(IA.pin (b,o) (Jax _ (Jax _ (Zcq hb e)))).1,fun b hb=>?_,wA⟩
    obtain ⟨o,e,d⟩:=T.obj _ _ st7 b hb
    exact (IA.pin (b,o) (Jax _ (Jax _ (Zcq hb e)))).2.1
   cases b with
   | false=>
    obtain ⟨m',hm,w9⟩:=q9
    exact again I9 hm w9
   | true=>
    have q9:te σ8 H9 _:=q9
    show wpAny _ _ _ _ _ _
    refine Jbb (he _ s9 σ8 H9 _ (I9.wish _) q9) (fun y sA ⟨vy,HA,IA,rA,vs,hvs,hlen,m',hm,wA⟩=>?_) (fun e0 sR hx=>hEE e0 _ s3 _ sR I3' f3 hx)
    have IA:=IA.unwish
    refine thn (Zct (X:=Zdk X (Zc2 own fr) scope cl s3 (upd H2 s2.heap.objs.size (.lst [])) fp) _ sA σ8 HA (.ref s2.heap.objs.size) [vy] (.ref s2.heap.objs.size) [y] (fun _ HB=>W (i + 1) m' σ8 HB) IA rfl (.cons rA .nil) ⟨_,vs,vy,rfl,rfl,hvs,hlen,wA⟩) fun _ sB ⟨_,HB,IB,_,wB⟩=>?_
    exact again IB hm wB
 exact codeAny_compStart_list loop (T.self _ 0 _ _ _ st4 loop)
end
theorem Zmu {B h h':Heap} {C:Addr} (k:∀ b,b ≠ C->h'.get? b = h.get? b):∀ {l:List Env},h.FunFrames B l->C ∉ frs l->h'.FunFrames (hideAll B [C]) l
 | [],_,_=>trivial
 | env :: l,x,n=>by
  obtain ⟨a1,⟨L,o,e1,e2,e3,e4⟩,a3⟩:=x
  have nL:L ≠ C:=fun z=>n (by unfold frs; rw [Ja6,e1,z]; exact Jbd)
  refine ⟨a1,⟨L,o,e1,?_,(k L nL).trans e3,e4⟩,Zmu k a3 fun z=>n ?_⟩
  ·cases q:(hideAll B [C]).get? L with
   | none=>rfl
   | some u=>rw [of_hideAll _ q] at e2; cases e2
  ·unfold frs at z ⊢
   rw [Ja6,e1]
   exact Jai _ z
section
variable {P:Program} {w:World} {K:PySem.W.Frag} {mg:Str->Option Value} {base:Heap} {N:List Str} {qual:Str} {scF:Scope} {f:Addr} {cd:Value} {A:Around} {outer:List Env} {s₀:Shared} {H₀:Hp} {E:XK}
variable {tg iter elt:Expr} {ifs:List Expr} {scope:Scope} {pos:Pos} {own:List Str} {fr:List (Str × Nat)} {wi:TI} {g:TG} {tt:TT} {te:TE}
theorem Zn2 (hc:(Zea (CXe P w) P w K mg base N qual scF f cd A outer s₀ H₀ E).calm = true) (B:BlScope (Zea (CXe P w) P w K mg base N qual scF f cd A outer s₀ H₀ E) scope own fr) (hi:PI (Zea (CXe P w) P w K mg base N qual scF f cd A outer s₀ H₀ E) tg iter wi)
  (hb:∀ cl s H fp,PG (Zdk (Zea (CXe P w) P w K mg base N qual scF f cd A outer s₀ H₀ E) (Zc2 own fr) scope cl s H fp) tg g/\PTs (Zdk (Zea (CXe P w) P w K mg base N qual scF f cd A outer s₀ H₀ E) (Zc2 own fr) scope cl s H fp) ifs tt /\
   ∀ xt,Zcv (CXe P w) ((Zdk (Zea (CXe P w) P w K mg base N qual scF f cd A outer s₀ H₀ E) (Zc2 own fr) scope cl s H fp).wish xt) E->PE ((Zdk (Zea (CXe P w) P w K mg base N qual scF f cd A outer s₀ H₀ E) (Zc2 own fr) scope cl s H fp).wish xt) elt te)
  (hs:∀ x,foldedSetIterable iter (Zea (CXe P w) P w K mg base N qual scF f cd A outer s₀ H₀ E).env x = pure x:=by intro _; rfl):
  PE (Zea (CXe P w) P w K mg base N qual scF f cd A outer s₀ H₀ E) (.ListComp elt [⟨tg,iter,ifs,0⟩] scope pos) (Znn own.length fr wi g tt te):=by
 intro pins s σ H Q I h
 obtain ⟨cl,hclos,hcl,hcl2⟩:=Zji (scope:=scope) (env:=(Zea (CXe P w) P w K mg base N qual scF f cd A outer s₀ H₀ E).env) fun y hy hf=>I.ok.has y.1 (B.free y hy hf)
 rw [eval_ListComp]
 refine Jcq (use:=none) rfl hs hclos B.kind B.loc (thn (hi pins s σ H _ I h) fun v s1 h1=>thn h1 fun itv s2 h2=>?_)
 obtain ⟨it,fp,tn,J,H2,e,I2,T,st2,f2,q⟩:=h2
 subst e
 refine Zm0 (RR:=fun acc C=>compPost (model P w) (Zea (CXe P w) P w K mg base N qual scF f cd A outer s₀ H₀ E).A (Zea (CXe P w) P w K mg base N qual scF f cd A outer s₀ H₀ E).xe none (EP (Zea (CXe P w) P w K mg base N qual scF f cd A outer s₀ H₀ E) pins σ Q) acc C) (Q:=Q) (E':=E) hc B hb hcl hcl2 I2 T st2 f2 q ?_ ?_
 ·intro e0 D s3 H3 sR I3 f3 hx
  obtain ⟨pins',σ',H1,s1,I1,a,cls,c0,H',rfl,F,hE,hE2⟩:=hx
  have F:Fly P w (envOfC qual scF s₀.heap.objs.size f cd :: outer) H1 s1 a cls c0 H' sR:=F
  obtain ⟨B1,fl,inB,trB⟩:=F.fly
  have J1:Inv (Zea (CXe P w) P w K mg base N qual scF f cd A outer s₀ H₀ E) pins σ H1 s1:=I3.call' (ch:=fp) I1.os I1.base I1.hok I1.bare fun b hb=>⟨(f3 b hb).2.2.2.1,(f3 b hb).2.1,(f3 b hb).2.2.2.2.1,(f3 b hb).2.2.2.2.2⟩
  have hCs:s₀.heap.objs.size<=s3.heap.objs.size:=I3.sz
  have hst:s3.heap.FunFrames base (envOfC qual scF s₀.heap.objs.size f cd :: outer):=I3.stack
  have hCf:s3.heap.objs.size ∉ frs (envOfC qual scF s₀.heap.objs.size f cd :: outer):=fun z=>by
   obtain ⟨_,o',ho',_⟩:=hst.mem z
   exact absurd (Jaf ho') (Ja9 _)
  obtain ⟨m,hn,_⟩:=I1.loc
  have hn:s1.heap.Ns s3.heap.objs.size m:=hn
  obtain ⟨oC,_,_,hoC,_⟩:=id hn
  have frC:H1 s3.heap.objs.size = none:=I1.free
  have hRC:=F.un.keep _ _ hoC frC hCf (by simp)
  obtain ⟨oB,hBC⟩:=inB _ _ hoC hCf
  have aC:a ≠ s3.heap.objs.size:=fun z=>F.new oC (z ▸ hoC)
  show wpAny _ _ (noteFrame (.ref a) _) _ _ _
  rw [Zic (.ref a) (env:=(Zdk (Zea (CXe P w) P w K mg base N qual scF f cd A outer s₀ H₀ E) (Zc2 own fr) scope cl s3 H3 fp).env) (env':=envOfC qual scF s₀.heap.objs.size f cd) rfl]
  refine Zg4 (B:=B1) (env:=envOfC qual scF s₀.heap.objs.size f cd) (fr:=outer) J1.ok.frames rfl fl fun h1 y1 q1=>?_
  refine ⟨m,hn.at fun o eo=>?_,fun h2 hs2 cenv hcv=>?_⟩
  ·have e1:=fl.st _ _ hBC
   rw [hoC] at eo
   cases eo
   rw [hRC] at e1
   cases e1
   exact y1.st _ _ hBC
  obtain ⟨o,vs,T,oT,us,he,hc',hd,g2,g1,nT,ne,hT,dT,g3⟩:=y1.ob
  have TC:T ≠ s3.heap.objs.size:=fun z=>by rw [z,hBC] at nT; cases nT
  have hid:∀ {b:Addr},B1.get? b = none->(hideAll B1 [s3.heap.objs.size]).get? b = none:=fun {b} hb=>by
   cases qq:(hideAll B1 [s3.heap.objs.size]).get? b with
   | none=>rfl
   | some u=>rw [of_hideAll _ qq] at hb; cases hb
  have y2:Trk (hideAll B1 [s3.heap.objs.size]) (envOfC qual scF s₀.heap.objs.size f cd :: outer) a cls c0 (rawInt s₀.heap.objs.size) h2:=
   ⟨fun b u hb=>(hs2.2 b (fun z=>by rw [z,hideAll_none _ (Jar.mpr rfl)] at hb; cases hb)).trans (y1.st b u (of_hideAll _ hb)),hid y1.nw,Zmu (fun b nb=>hs2.2 b nb) y1.ff hCf,
    o,vs,T,oT,us,(hs2.2 a aC).trans he,hc',hd,g2,g1,hid nT,ne,(hs2.2 T TC).trans hT,dT,g3⟩
  unfold PySem.passOn
  refine Jaj (Jc0 ((hs2.2 a aC).trans he) hd g1 ?_)
  rw [if_neg (by simp)]
  refine Jaj (Zdf (s:={ sR with heap:=h2 }) cenv.frame y2 fun h3 y3 q3=>wpAny_throw ?_)
  refine Zn5 (s2:=sR) (h3:=h3) (C:=s3.heap.objs.size) J1 F hCs hCf y3 (fun b u hb=>fl.st b u (of_hideAll _ hb)) (fun b o' e1 nb nf=>?_) (fun b o' e1 nf nb=>?_) (fun b u hb=>?_) hE hE2
  ·obtain ⟨sl,e2⟩:=q1 b o' e1 nf
   obtain ⟨sl',e3⟩:=q3 b _ ((hs2.2 b nb).trans e2) nf
   exact ⟨sl',e3⟩
  ·obtain ⟨u,hu⟩:=inB b o' e1 nf
   exact ⟨u,hideAll_get _ hu (fun z=>nb (Jar.mp z))⟩
  ·obtain ⟨u',hu⟩:=trB b u hb
   refine ⟨u',hideAll_get _ hu fun z=>?_⟩
   have:=F.un.free _ _ hoC frC (by simp)
   rw [<- Jar.mp z,hb] at this
   cases this
 ·intro D C s' H' I' hq hn n1 n2 n3 n4 n5
  obtain ⟨m,hn⟩:=hn
  refine ⟨m,hn,fun h' hs'=>⟨.ref D,H',I'.turned (it:=C) (t':=s'.toks) (fun b o hb e=>SameBut.get hs' b o hb e) n5 (Jdx (Jdx n1)) (.inr n4) n2 n3,rfl,hq⟩⟩
end
end L2
set_option maxHeartbeats 4000000
open PySem L2 PyProof.Rows
local macro_rules | `($a<&>$b)=>`(@pa_c _ _ _ _ _ $a $b (by rfl))
local macro_rules | `($a<*>$b)=>`(@Znw _ _ _ _ _ $a $b)
local macro_rules | `($o<|>$a<&&>$b)=>`(@pe_op _ _ _ _ _ _ _ _ $o $a $b)
local macro_rules | `($o<|>$a<||>$b)=>`(@pe_ix _ _ _ _ _ _ _ $o $a $b (fun _ _=>rfl))
local macro_rules | `(~~~$x)=>`(@Zav _ _ _ (@ps_ret _ _ _ _ $x))
local macro_rules | `(tactic| walk_at "wp")=>`(tactic| simp only [tSeq,tIfS,tTest,tOp,tUn,tVar,tC,tCB,Zh0,tNil,tRet,tRetN,tNext,tDrop,tAsg,tAug,ipI,Zce,gTup,Zkx,gNil,gSub,tTup,tLst,tSl,Zle,tPart,Zli,Zh1,tBM,tBM0,tPar,tB,tAnd,tOr,tNot,tAndV,tOrV,tNotV,tIf,Zgk,Zlg,tMeth,tFld,sFld,tFs1,tFs2,rEnds,rInN,tRevL,iEnm,iStr,rStarts,rPart,Zpa,Zlq,rSlS,rIxS,Zlr,tAugS,rGetL,rI0,rI,rU,rIxL,rIxT,rSetL,rSlL,Zls,rBits,tTry,hEnds,Zld,hnd_K,pnx_K,rCat,rEq,rNe,rEqL,rEqT,rIn,scal_ii,scal_bb,scal_ss,Zon,iTup,Zom,iRng2,cV,cx_K,in_K,wish_K,E0,L2.Zec,List.map,List.length,List.replicate,List.cons_append,List.nil_append,List.append_nil,List.getElem?_cons_zero,List.getElem?_cons_succ,List.set_cons_zero,List.set_cons_succ,Option.some.injEq,exists_eq_left',exists_eq_left,exists_and_left,V.int.injEq,V.bl.injEq,V.ref.injEq,V.ty.injEq,List.cons.injEq,reduceCtorEq,false_and,and_false,exists_false,or_false,false_or,and_true,true_and,Nat.reduceSub,Nat.reduceAdd,Nat.reduceLT,if_true,if_false,Bool.false_eq_true])
namespace Pf
open PySem L2 PyProof.Rows
def top (i:Nat):Stmt:=PySem.Challenge.pw_limbtables_k71_tables_and_drawings_writt.main.body.getD i (.Pass ⟨0,0,0,0⟩)
abbrev Zb6:Stmt:=top 18
abbrev Za7:Stmt:=top 26
abbrev Zcp:Stmt:=top 27
abbrev Zbf:Stmt:=Zmo (top 28) 0
abbrev Zbh:Stmt:=top 32
abbrev Zbk:Stmt:=top 33
abbrev Zbp:Stmt:=top 34
abbrev Zbd:Stmt:=top 35
abbrev Zbv:Stmt:=top 36
abbrev Zbq:Stmt:=top 37
abbrev Zbr:Stmt:=top 38
abbrev Zbe:Stmt:=top 39
abbrev Zco:Stmt:=top 42
abbrev Zbc:Stmt:=top 43
abbrev Zbl:Stmt:=Zmo (top 47) 0
abbrev Zcn:Stmt:=top 49
abbrev Zda:Stmt:=top 50
abbrev Zcm:Stmt:=top 51
abbrev Zc9:Stmt:=top 52
abbrev Zbu:Stmt:=top 53
abbrev Zb0:Stmt:=top 54
abbrev Zb3:Stmt:=top 55
abbrev Zbt:Stmt:=top 56
abbrev Zdb:Stmt:=top 57
abbrev Zc7:Stmt:=top 58
abbrev Zc8:Stmt:=top 59
abbrev Zck:Stmt:=top 60
abbrev Zb1:Stmt:=top 61
abbrev Zb2:Stmt:=top 62
abbrev Za2:Stmt:=top 63
abbrev Zb5:Stmt:=top 64
abbrev Za0:Stmt:=top 65
abbrev Zaz:Stmt:=top 66
abbrev Zat:Stmt:=top 67
abbrev Za3:Stmt:=top 68
abbrev Zcl:Stmt:=top 69
abbrev Zb4:Stmt:=top 70
abbrev Zc6:Stmt:=top 71
abbrev Zbs:Stmt:=top 72
abbrev Zha:Stmt:=top 73
theorem Zdh:FnScope ["thing"] ["thing"] (Zad Zb6):=⟨rfl,rfl,rfl,by decide +kernel,rfl,by decide +kernel,by decide +kernel⟩
theorem Zdn:FnScope ["many","arrows"] ["many","arrows"] (Zad Za7):=⟨rfl,rfl,rfl,by decide +kernel,rfl,by decide +kernel,by decide +kernel⟩
theorem Zf6:FnScope ["many","thing"] ["many","thing"] (Zad Zcp):=⟨rfl,rfl,rfl,by decide +kernel,rfl,by decide +kernel,by decide +kernel⟩
theorem Zdu:FnScope ["self","many","arrows"] ["self","many","arrows"] (Zad Zbf):=⟨rfl,rfl,rfl,by decide +kernel,rfl,by decide +kernel,by decide +kernel⟩
theorem Zcj:FnScope ["number","ends","end"] ["number"] (Zad Zbh):=⟨rfl,rfl,rfl,by decide +kernel,rfl,by decide +kernel,by decide +kernel⟩
theorem Zd7:FnScope ["ground","number","top","bottom"] ["ground","number"] (Zad Zbk):=⟨rfl,rfl,rfl,by decide +kernel,rfl,by decide +kernel,by decide +kernel⟩
theorem Zee:FnScope ["ground","table","high","wide","rows"] ["ground","table"] (Zad Zbp):=⟨rfl,rfl,rfl,by decide +kernel,rfl,by decide +kernel,by decide +kernel⟩
theorem Zds:FnScope ["drawing"] ["drawing"] (Zad Zbd):=⟨rfl,rfl,rfl,by decide +kernel,rfl,by decide +kernel,by decide +kernel⟩
theorem Zek:FnScope ["most","text"] ["most","text"] (Zad Zbv):=⟨rfl,rfl,rfl,by decide +kernel,rfl,by decide +kernel,by decide +kernel⟩
theorem Zef:FnScope ["text"] ["text"] (Zad Zbq):=⟨rfl,rfl,rfl,by decide +kernel,rfl,by decide +kernel,by decide +kernel⟩
theorem Zeg:FnScope ["text","tail","sign","head"] ["text"] (Zad Zbr):=⟨rfl,rfl,rfl,by decide +kernel,rfl,by decide +kernel,by decide +kernel⟩
theorem Zdt:FnScope ["text","words","many"] ["text"] (Zad Zbe):=⟨rfl,rfl,rfl,by decide +kernel,rfl,by decide +kernel,by decide +kernel⟩
theorem Zf5:FnScope ["number"] ["number"] (Zad Zco):=⟨rfl,rfl,rfl,by decide +kernel,rfl,by decide +kernel,by decide +kernel⟩
theorem Zdr:FnScope ["thing"] ["thing"] (Zad Zbc):=⟨rfl,rfl,rfl,by decide +kernel,rfl,by decide +kernel,by decide +kernel⟩
theorem Zd8:FnScope ["self","prime"] ["self","prime"] (Zad Zbl):=⟨rfl,rfl,rfl,by decide +kernel,rfl,by decide +kernel,by decide +kernel⟩
theorem Zf4:FnScope ["_law_script","_law_k"] ["_law_script","_law_k"] (Zad Zcn):=⟨rfl,rfl,rfl,by decide +kernel,rfl,by decide +kernel,by decide +kernel⟩
theorem Zgv:FnScope ["_law_cell_here"] ["_law_cell_here"] (Zad Zda):=⟨rfl,rfl,rfl,by decide +kernel,rfl,by decide +kernel,by decide +kernel⟩
theorem Zf3:FnScope ["_law_bag_here","_law_many","_law_found"] ["_law_bag_here","_law_many"] (Zad Zcm):=⟨rfl,rfl,rfl,by decide +kernel,rfl,by decide +kernel,by decide +kernel⟩
theorem Zgu:FnScope ["_law_one","_law_two","_law_rest"] ["_law_one","_law_two"] (Zad Zc9):=⟨rfl,rfl,rfl,by decide +kernel,rfl,by decide +kernel,by decide +kernel⟩
theorem Zej:FnScope ["_law_top","_law_bottom","_law_both"] ["_law_top","_law_bottom"] (Zad Zbu):=⟨rfl,rfl,rfl,by decide +kernel,rfl,by decide +kernel,by decide +kernel⟩
theorem Ze4:FnScope ["_law_found"] ["_law_found"] (Zad Zb0):=⟨rfl,rfl,rfl,by decide +kernel,rfl,by decide +kernel,by decide +kernel⟩
theorem Ze7:FnScope ["_law_bag_here","_law_way"] ["_law_bag_here"] (Zad Zb3):=⟨rfl,rfl,rfl,by decide +kernel,rfl,by decide +kernel,by decide +kernel⟩
theorem Zei:FnScope ["_law_bag_here","_law_p","_law_way"] ["_law_bag_here","_law_p"] (Zad Zbt):=⟨rfl,rfl,rfl,by decide +kernel,rfl,by decide +kernel,by decide +kernel⟩
theorem Zgw:FnScope ["_law_p","_law_a","_law_b"] ["_law_p","_law_a","_law_b"] (Zad Zdb):=⟨rfl,rfl,rfl,by decide +kernel,rfl,by decide +kernel,by decide +kernel⟩
theorem Zgs:FnScope ["_law_p","_law_a","_law_b"] ["_law_p","_law_a","_law_b"] (Zad Zc7):=⟨rfl,rfl,rfl,by decide +kernel,rfl,by decide +kernel,by decide +kernel⟩
theorem Zgt:FnScope ["_law_p","_law_k"] ["_law_p","_law_k"] (Zad Zc8):=⟨rfl,rfl,rfl,by decide +kernel,rfl,by decide +kernel,by decide +kernel⟩
theorem Zf1:FnScope ["_law_bag_here","_law_p","_law_high","_law_wide","_law_thin","_law_rows_here","_law_i","_law_row","_law_j","_law_number_here"] ["_law_bag_here","_law_p","_law_high","_law_wide"] (Zad Zck):=⟨rfl,rfl,rfl,by decide +kernel,rfl,by decide +kernel,by decide +kernel⟩
theorem Ze5:FnScope ["_law_bag_here","_law_p","_law_high","_law_wide","_law_rows_here","_law_a"] ["_law_bag_here","_law_p","_law_high","_law_wide"] (Zad Zb1):=⟨rfl,rfl,rfl,by decide +kernel,rfl,by decide +kernel,by decide +kernel⟩
theorem Ze6:FnScope ["_law_p","_law_number_here"] ["_law_p","_law_number_here"] (Zad Zb2):=⟨rfl,rfl,rfl,by decide +kernel,rfl,by decide +kernel,by decide +kernel⟩
theorem Zc4:FnScope ["_law_text","_law_number_here","_law_sign"] ["_law_text"] (Zad Za2):=⟨rfl,rfl,rfl,by decide +kernel,rfl,by decide +kernel,by decide +kernel⟩
theorem Ze9:FnScope ["_law_e","_law_kind","_law_hits","_law_others"] ["_law_e","_law_kind"] (Zad Zb5):=⟨rfl,rfl,rfl,by decide +kernel,rfl,by decide +kernel,by decide +kernel⟩
theorem Zcx:FnScope ["_law_text","_law_bag_here","_law_signs","_law_at","_law_way","_law_sign"] ["_law_text","_law_bag_here"] (Zad Za0):=⟨rfl,rfl,rfl,by decide +kernel,rfl,by decide +kernel,by decide +kernel⟩
theorem Zcw:FnScope ["_law_p","_law_table_here"] ["_law_p","_law_table_here"] (Zad Zaz):=⟨rfl,rfl,rfl,by decide +kernel,rfl,by decide +kernel,by decide +kernel⟩
theorem Zcf:FnScope ["_law_many","_law_arrows","_law_text","_law_tail","_law_head"] ["_law_many","_law_arrows"] (Zad Zat):=⟨rfl,rfl,rfl,by decide +kernel,rfl,by decide +kernel,by decide +kernel⟩
theorem Zc5:FnScope ["_law_word","_law_parts"] ["_law_word"] (Zad Za3):=⟨rfl,rfl,rfl,by decide +kernel,rfl,by decide +kernel,by decide +kernel⟩
theorem Zf2:FnScope ["_law_text","_law_words","_law_many","_law_arrows","_law_good","_law_arrow"] ["_law_text"] (Zad Zcl):=⟨rfl,rfl,rfl,by decide +kernel,rfl,by decide +kernel,by decide +kernel⟩
theorem Ze8:FnScope ["_law_text","_law_found","_law_e","_law_arrow"] ["_law_text"] (Zad Zb4):=⟨rfl,rfl,rfl,by decide +kernel,rfl,by decide +kernel,by decide +kernel⟩
theorem Zgr:FnScope ["_law_bag_here","_law_some"] ["_law_bag_here"] (Zad Zc6):=⟨rfl,rfl,rfl,by decide +kernel,rfl,by decide +kernel,by decide +kernel⟩
theorem Zeh:FnScope ["_law_bag_here","_law_many","_law_arrows","_law_way","_law_more"] ["_law_bag_here","_law_many","_law_arrows"] (Zad Zbs):=⟨rfl,rfl,rfl,by decide +kernel,rfl,by decide +kernel,by decide +kernel⟩
theorem Zo7:FnScope ["_law_script","_law_cell_here","_law_bag_here","_law_p","_law_most","_law_high","_law_table_here","_law_many","_law_arrows","_law_k","_law_tail","_law_text","_law_turn","_law_bad"] ["_law_script"] (Zad Zha):=⟨rfl,rfl,rfl,by decide +kernel,rfl,by decide +kernel,by decide +kernel⟩
structure Txt (K:PySem.W.Frag) (mg:Str->Option Value) (C Dg:Addr):Prop where
 cl_Ground:Cls K C
 nP:NoAttr K C "prime"
 cl_Drawing:Cls K Dg
 nM:NoAttr K Dg "many"
 nA:NoAttr K Dg "arrows"
 n_abs:mg "abs" = none
 n_all:mg "all" = none
 n_isinstance:mg "isinstance" = none
 n_int:mg "int" = none
 n_bool:mg "bool" = none
 n_tuple:mg "tuple" = none
 n_range:mg "range" = none
 n_len:mg "len" = none
 n_ValueError:mg "ValueError" = none
 n_str:mg "str" = none
 n_any:mg "any" = none
 n_list:mg "list" = none
 n_zip:mg "zip" = none
 g_LARGEST_PRIME:∃ t,mg "LARGEST_PRIME" = some (.int 97 t)
 g_LONG:∃ t,mg "LONG" = some (.int 4000 t)
 g_MOST_POINTS:∃ t,mg "MOST_POINTS" = some (.int 8 t)
 g_MOST_ARROWS:∃ t,mg "MOST_ARROWS" = some (.int 9 t)
 g_MOST_FIGURES:∃ t,mg "MOST_FIGURES" = some (.int 30 t)
 g_FIGURES:∃ t,mg "FIGURES" = some (.str "0123456789" t)
def Zpk (a b:Int):HO:=.lst [.int a,.int b]
def Bag (H:Hp) (l:Addr):Prop:=∃ a b:Int,H l = some (Zpk a b)/\0<=b/\b < 2147483647
def Zln (K:PySem.W.Frag):Sp:=fun vs H Q _=>∃ (a:Addr) (ns:List Int) (k:Int),vs = [.ref a,.int k]/\SqL K H a (ns.map V.int)/\ns.length<=63/\0<=k/\∀ c,Q (.int c) H
def spBag:Sp:=fun vs H Q _=>∃ c:Int,vs = [.int c]/\∀ (l:Addr) (a b:Int),H l = none->0<=b->b < 2147483647->Q (.ref l) (upd H l (Zpk a b))
def Zdl:Sp:=fun vs H Q _=>∃ (l:Addr) (a b n:Int),vs = [.ref l,.int n]/\H l = some (Zpk a b)/\0<=b/\b < 2147483647/\0 < n/\n < 1000000000 /\
 ∀ (r a' b':Int),0<=r->r < n->0<=b'->b' < 2147483647->Q (.int r) (upd H l (Zpk a' b'))
section
variable {P:Program} {w:World} {K:PySem.W.Frag} {mg:Str->Option Value} {base:Heap} {C Dg:Addr}
theorem ok_cell {f:Addr} {fd:FuncData} (F:Fun K "_law_cell" "_law_cell" Zcn f fd) (T:Txt K mg C Dg):FnOk P w K mg base CX0 1 f fd ["_law_script","_law_k"] (Zln K):=by
 have nd:=Zf4.nd
 refine F.ok Zf4 (fun vs H Q E h=>?_) (fun cdv A outer s H vs Q E hr h=>?_)
 ·obtain ⟨a,ns,k,rfl,_⟩:=h
  rfl
 ·obtain ⟨a,ns,k,rfl,hS,hl,h0,q⟩:=h
  refine ⟨_,((@Za1 _ _ _ _ _ _ _ _ (Zae Zfg (pv 1) (Zbj Zcb rfl T.n_len Jb2 ((pv 0)<&>Zaa)) (Zak _)) (~~~(Zaw<|>(pv 0)<||>(pv 1))) Zal)<*>(~~~Zab)),?_⟩
  walk_at "wp"
  refine ⟨_,.inl hS,Zb9 (fun hc=>?_) (fun _=>q 0)⟩
  have hc:=Jah hc
  rw [Jac] at hc
  refine ⟨_,hS,V.int (ns[k.toNat]'(by omega)),Zeb h0 ?_,q _⟩
  rw [Jas,Jaa (by omega)]
  rfl
theorem cpow (k:Int) (h0:0<=k) (h1:k<=1000):CPow 10 k:=⟨h0,by omega,by decide⟩
theorem Zid (c n:Int) (h:0 < n):0<=c % n:=Int.emod_nonneg _ (by omega)
theorem Zie (c n:Int) (h:0 < n):c % n < n:=Jdr _ h
theorem ok_bag {f:Addr} {fd:FuncData} (F:Fun K "_law_bag" "_law_bag" Zda f fd) (T:Txt K mg C Dg):FnOk P w K mg base CX0 1 f fd ["_law_cell_here"] spBag:=by
 have nd:=Zgv.nd
 refine F.ok Zgv (fun vs H Q E h=>?_) (fun cdv A outer s H vs Q E hr h=>?_)
 ·obtain ⟨c,rfl,_⟩:=h
  rfl
 ·obtain ⟨c,rfl,q⟩:=h
  refine ⟨_,((@Za1 _ _ _ _ _ _ _ _ (Zae op_ge (pv 0) (Zl6<|>Zab<&&>Zab) (Zak _)) (~~~(@Zbm _ _ _ _ ((pv 0)<&>((Zdo<|>(pv 0)<&&>Zab)<&>Zaa)))) Zal)<*>(~~~(@Zbm _ _ _ _ (Zab<&>((Zdo<|>(Zch<|>(Zjz<|>(Zdo<|>(pv 0)<&&>Zab)<&&>Zab)<&&>Zab)<&&>Zab)<&>Zaa))))),?_⟩
  walk_at "wp"
  refine ⟨cpow _ (by decide) (by decide),Zb9 (fun _=>?_) (fun _=>?_)⟩
  ·exact ⟨by decide,by decide,fun p hp=>q p _ _ hp (Zid _ _ (by decide)) (Zie _ _ (by decide))⟩
  ·exact ⟨by decide,.inr ⟨by decide,by decide⟩,by decide,by decide,fun p hp=>q p _ _ hp (Zid _ _ (by decide)) (Zie _ _ (by decide))⟩
theorem ok_draw {f:Addr} {fd:FuncData} (F:Fun K "_law_draw" "_law_draw" Zcm f fd) (T:Txt K mg C Dg):FnOk P w K mg base CX0 1 f fd ["_law_bag_here","_law_many"] Zdl:=by
 have nd:=Zf3.nd
 refine F.ok Zf3 (fun vs H Q E h=>?_) (fun cdv A outer s H vs Q E hr h=>?_)
 ·obtain ⟨l,a,b,n,rfl,_⟩:=h
  rfl
 ·obtain ⟨l,a,b,n,rfl,hl,b0,b1,n0,n1,q⟩:=h
  refine ⟨_,((@Za1 _ _ _ _ _ _ _ _ (Zae Zem (Zaw<|>(pv 0)<||>Zab) Zab (Zak _)) ((Zam (i:=2) nd rfl (Or.inl rfl) (Zdo<|>(Zaw<|>(pv 0)<||>Zab)<&&>(pv 1)))<*>((Zf9 (Zhi<|>(Zaw<|>(pv 0)<||>Zab)<&&>(pv 1)) (Zjv (pv 0) Zab Zfm))<*>(~~~(pv 2)))) Zal)<*>((Zf9 (Zdo<|>(Zch<|>(Zjz<|>(Zaw<|>(pv 0)<||>Zab)<&&>Zab)<&&>Zab)<&&>Zab) (Zjv (pv 0) Zab Zfm))<*>(~~~(Zdo<|>(Zl9<|>(Zdo<|>(Zjz<|>(Zaw<|>(pv 0)<||>Zab)<&&>(Zch<|>(Zl9<|>(Zaw<|>(pv 0)<||>Zab)<&&>Zab)<&&>Zab))<&&>Zab)<&&>Zab)<&&>(pv 1))))),?_⟩
  walk_at "wp"
  refine ⟨_,SqL.of hl,_,rfl,_,rfl,Zb9 (fun hc=>?_) (fun hc=>?_)⟩
  ·refine ⟨_,SqL.of hl,_,rfl,_,rfl,n0,_,SqL.of hl,_,rfl,_,rfl,⟨n0,by omega⟩,_,hl,_,rfl,?_⟩
   exact q _ _ _ (Zid _ _ n0) (Zie _ _ n0) b0 b1
  ·refine ⟨_,SqL.of hl,_,rfl,_,rfl,.inr ⟨by decide,by decide⟩,by decide,_,hl,_,rfl,_,SqL.of Zac,_,rfl,_,SqL.of Zac,_,rfl,_,rfl,⟨by decide,by decide⟩,_,rfl,?_⟩
   have h1:=Zid (b * 48271 + 4099) 2147483647 (by decide)
   have h2:=Zie (b * 48271 + 4099) 2147483647 (by decide)
   refine ⟨.inl ⟨by omega,by omega⟩,by decide,⟨by decide,by decide⟩,n0,?_⟩
   exact q _ _ _ (Zid _ _ n0) (Zie _ _ n0) h1 h2
theorem Bag.ne {H:Hp} {l p:Addr} (h:Bag H l) (hp:H p = none):p ≠ l:=by
 obtain ⟨a,b,e,_⟩:=h
 exact (Zai e hp).symm
theorem Bag.new {H:Hp} {l p:Addr} {o:HO} (h:Bag H l) (hp:p ≠ l):Bag (upd H p o) l:=by
 obtain ⟨a,b,e,h1,h2⟩:=h
 exact ⟨a,b,by rw [Zah hp.symm]; exact e,h1,h2⟩
theorem Bag.set {H:Hp} {l:Addr} {a b:Int} (h1:0<=b) (h2:b < 2147483647):Bag (upd H l (Zpk a b)) l:=⟨a,b,Zac,h1,h2⟩
theorem Bag.same {H H':Hp} {l:Addr} (b:Bag H l) (s:Same H H'):Bag H' l:=by
 obtain ⟨x,y,e,h1,h2⟩:=b
 exact ⟨x,y,s _ _ e,h1,h2⟩
theorem Bag.draw {H:Hp} {l:Addr} {n:Int} {Q:VK} {E:XK} (b:Bag H l) (h0:0 < n) (h1:n < 1000000000) (q:∀ (r:Int) (H':Hp),0<=r->r < n->Ext l H H'->Bag H' l->Q (.int r) H'):Zdl [.ref l,.int n] H Q E:=by
 obtain ⟨x,y,e,y0,y1⟩:=b
 exact ⟨l,x,y,n,rfl,e,y0,y1,h0,h1,fun r a' b' r0 r1 c0 c1=>q r _ r0 r1 Ext.set (Bag.set c0 c1)⟩
theorem Zhn {c A B:Prop} [Decidable c] (hc:c) (h:A):if c then A else B:=by rw [if_pos hc]; exact h
theorem Ze0 {c A B:Prop} [Decidable c] (hc:¬ c) (h:B):if c then A else B:=by rw [if_neg hc]; exact h
theorem Zm3 {a D:Addr} {xs:List V} {fr:List (Str × Nat)} {σ:L2.St} {te:TE} {H1:Hp} {Q:VK} (fb:Nat->Bool) (ha:H1 a = some (.lst xs)) (hD:H1 D = none) (hn:xs.length<=1000)
  (h:∀ (i:Nat) x H (Q:VK),xs[i]? = some x->Same H1 H->(∀ H',Same H H'->Q (.bl (fb i)) H')->te (some x :: Zby fr σ) H Q)
  (hQ:∀ H',Same H1 H'->H' D = some (.lst (((List.range xs.length).map fb).map V.bl))->Q (.ref D) H'):Zbo (Zce 0) Zgk te (Itl K a) D (Zfh 1 fr σ) H1 Q:=by
 refine Zfs (xs:=xs) (fun i vs H=>Same H1 H/\H D = some (.lst vs)/\vs = ((List.range i).map fb).map V.bl) ⟨Same.new hD,Zac,rfl⟩ (fun i vs H _ p=>SqL.of (p.1 _ _ ha)) ?_ (fun vs H ⟨s,e,hv⟩=>hQ H s (by rw [e,hv]))
 rintro i x vs σ' H hi hx sh ⟨s,e,rfl⟩
 obtain ⟨z,rfl⟩:=sh.one
 simp only [Zff,Zce,Zgk,List.set_cons_zero,if_true]
 refine h i x H _ hx s fun H' s'=>?_
 exact Zpf (ws:=((List.range (i + 1)).map fb).map V.bl) hi Sh.mk1 (s' _ _ e) (Za4 (by rw [Jac,Jac,Jck]; omega)) ⟨(s.trans s').upd hD,by rw [Zac,Jdi,Jbc,Jbc]; rfl,rfl⟩
theorem Zip {a D:Addr} {xs:List V} {fr:List (Str × Nat)} {σ:L2.St} {te:TE} {H1:Hp} {Q:VK} (fb:Nat->Bool) (ha:H1 a = some (.tup xs)) (hD:H1 D = none) (hn:xs.length<=1000)
  (h:∀ (i:Nat) x H (Q:VK),xs[i]? = some x->Same H1 H->(∀ H',Same H H'->Q (.bl (fb i)) H')->te (some x :: Zby fr σ) H Q)
  (hQ:∀ H',Same H1 H'->H' D = some (.lst (((List.range xs.length).map fb).map V.bl))->Q (.ref D) H'):Zbo (Zce 0) Zgk te (Itt K a) D (Zfh 1 fr σ) H1 Q:=by
 refine Zoy (xs:=xs) (fun i vs H=>Same H1 H/\H D = some (.lst vs)/\vs = ((List.range i).map fb).map V.bl) ⟨Same.new hD,Zac,rfl⟩ (fun i vs H _ p=>SqT.of (p.1 _ _ ha)) ?_ (fun vs H ⟨s,e,hv⟩=>hQ H s (by rw [e,hv]))
 rintro i x vs σ' H hi hx sh ⟨s,e,rfl⟩
 obtain ⟨z,rfl⟩:=sh.one
 simp only [Zff,Zce,Zgk,List.set_cons_zero,if_true]
 refine h i x H _ hx s fun H' s'=>?_
 exact Zpf (ws:=((List.range (i + 1)).map fb).map V.bl) hi Sh.mk1 (s' _ _ e) (Za4 (by rw [Jac,Jac,Jck]; omega)) ⟨(s.trans s').upd hD,by rw [Zac,Jdi,Jbc,Jbc]; rfl,rfl⟩
theorem Zkj (n:Nat):((List.range n).map fun _=>true).all id = true:=by
 rw [Ja0]
 intro b hb
 obtain ⟨_,_,rfl⟩:=Jbq.mp hb
 rfl
def Zeu:Sp:=fun vs H Q _=>∃ i:Int,vs = [.int i]/\Q (.bl true) H
theorem Zn7 {f:Addr} {fd:FuncData} (F:Fun K "is_whole" "is_whole" Zb6 f fd) (T:Txt K mg C Dg):FnOk P w K mg base CX0 1 f fd ["thing"] Zeu:=by
 have nd:=Zdh.nd
 refine F.ok Zdh (fun vs H Q E h=>?_) (fun cdv A outer s H vs Q E hr h=>?_)
 ·obtain ⟨i,rfl,_⟩:=h
  rfl
 ·obtain ⟨i,rfl,q⟩:=h
  refine ⟨_,(~~~(Zdx (Zbj Za6 rfl T.n_isinstance Ja2 ((pv 0)<&>((Zga rfl T.n_int Jeb)<&>Zaa))) (Zdw (Zjw (Zbj Za6 rfl T.n_isinstance Ja2 ((pv 0)<&>((Zga rfl T.n_bool boot_bool)<&>Zaa))))))),?_⟩
  walk_at "wp"
  exact ⟨_,_,⟨rfl,rfl⟩,_,rfl,_,.int i,_,Zge K,iteT ⟨_,_,⟨rfl,rfl⟩,_,rfl,_,.int i,_,Zez K,q⟩⟩
theorem room8 {k:Nat} {A:Around} (hr:Room k A):A.units + 8 < cLine:=by have:=hr.units; omega
theorem Zm2 {lo:Int} {n:Nat} {D:Addr} {fr:List (Str × Nat)} {σ:L2.St} {te:TE} {H1:Hp} {Q:VK} (fb:Nat->Bool) (hD:H1 D = none) (hn:n<=1000)
  (h:∀ (i:Nat) H (Q:VK),i < n->Same H1 H->(∀ H',Same H H'->Q (.bl (fb i)) H')->te (some (.int (lo + (i:Nat))) :: Zby fr σ) H Q)
  (hQ:∀ H',Same H1 H'->H' D = some (.lst (((List.range n).map fb).map V.bl))->Q (.ref D) H'):Zbo (Zce 0) Zgk te (Itr lo n) D (Zfh 1 fr σ) H1 Q:=by
 refine Zo0 (fun i vs H=>Same H1 H/\H D = some (.lst vs)/\vs = ((List.range i).map fb).map V.bl) ⟨Same.new hD,Zac,rfl⟩ ?_ (fun vs H ⟨s,e,hv⟩=>hQ H s (by rw [e,hv]))
 rintro i x vs σ' H hi rfl sh ⟨s,e,rfl⟩
 obtain ⟨z,rfl⟩:=sh.one
 simp only [Zff,Zce,Zgk,List.set_cons_zero,if_true]
 refine h i H _ hi s fun H' s'=>?_
 exact Zpf (ws:=((List.range (i + 1)).map fb).map V.bl) hi Sh.mk1 (s' _ _ e) (Za4 (by rw [Jac,Jac,Jck]; omega)) ⟨(s.trans s').upd hD,by rw [Zac,Jdi,Jbc,Jbc]; rfl,rfl⟩
def Top (a:Int):Prop:=a.natAbs < 2 ^ 4000
theorem Top.of {a:Int} (h:a.natAbs<=100000000000000000000000000000000000000000000000000000000000000000000000000000000):Top a:=Jbe h (by decide +kernel)
def Zpj (p:Int):Prop:=1 < p/\p<=97/\∀ d:Int,2<=d->d < p->p % d ≠ 0
def Zi1:Sp:=fun vs H Q _=>∃ p:Int,vs = [.int p]/\Zpj p/\∀ H',Same H H'->Q (.bl true) H'
theorem Zoa {f:Addr} {fd:FuncData} (F:Fun K "is_prime" "is_prime" Zco f fd) (T:Txt K mg C Dg):FnOk P w K mg base CX0 1 f fd ["number"] Zi1:=by
 have nd:=Zf5.nd
 refine F.ok Zf5 (fun vs H Q E h=>?_) (fun cdv A outer s H vs Q E hr h=>?_)
 ·obtain ⟨p,rfl,_⟩:=h
  rfl
 ·obtain ⟨p,rfl,⟨p1,p2,p3⟩,q⟩:=h
  refine ⟨_,(~~~(Zdx (Zcs Zem (pv 0) Zab (Zak _)) (Zdw (Zbj (Zfu rfl) rfl T.n_all boot_all ((Zcd (own:=["divisor"]) (fr:=[("number",0)]) rfl (Zet (by kernel_rfl)) (pi_r2 rfl T.n_range (Zab<&>((pv 0)<&>Zaa))) (fun _ _ _ _=>⟨(@Zap _ _ 0 _ (show (["divisor","number"]:List Str).Nodup by decide +kernel) rfl (Or.inl rfl) (Or.inr rfl)),Zbw,(Zcs Zhg (Zdo<|>(pv 1)<&&>(pv 0)) Zab (Zak _))⟩))<&>Zaa))))),?_⟩
  walk_at "wp"
  refine Zhn (Jag p1) ⟨_,rfl,2,p,rfl,⟨by decide,by decide,by omega,by omega⟩,fun D hD=>Zm2 (fun _=>true) hD (by omega) (fun i H' Q' hi s' q'=>?_) fun H' s' e'=>⟨D,rfl,_,SqL.of e',?_⟩⟩
  ·have h0:(0:Int) < 2 + (i:Int):=by omega
   have hne:=p3 (2 + (i:Int)) (by omega) (by omega)
   refine ⟨_,rfl,_,rfl,_,_,rfl,rfl,h0,rfl,?_⟩
   have:(!decide (V.int (p % (2 + (i:Int))) = V.int 0)) = true:=by simp only [V.int.injEq,decide_eq_false hne]; rfl
   rw [this]
   exact q' H' (Same.refl _)
  ·rw [Zkj]
   exact q H' s'
def GroundP (p:Int):Prop:=p = 0\/Zpj p
def Zi0:Sp:=fun vs H Q _=>∃ p:Int,vs = [.int p]/\GroundP p/\∀ H',Same H H'->Q (.bl true) H'
theorem Zn8 {f:Addr} {fd:FuncData} (F:Fun K "tells_ground" "tells_ground" Zbc f fd) (T:Txt K mg C Dg) (C_is_whole:Cal P w K mg base "is_whole" 1 Zeu) (C_is_prime:Cal P w K mg base "is_prime" 1 Zi1):FnOk P w K mg base CX0 2 f fd ["thing"] Zi0:=by
 have nd:=Zdr.nd
 refine F.ok Zdr (fun vs H Q E h=>?_) (fun cdv A outer s H vs Q E hr h=>?_)
 ·obtain ⟨p,rfl,_⟩:=h
  rfl
 ·obtain ⟨p,rfl,hp,q⟩:=h
  have p0:0<=p:=by rcases hp with rfl | ⟨h,_⟩ <;> omega
  have p97:p<=97:=by rcases hp with rfl | ⟨_,h,_⟩ <;> omega
  refine ⟨_,((@Za1 _ _ _ _ _ _ _ _ (PW.pt (Zd3 (Zcr (Zdd (Zbb C_is_whole hr.m rfl ((pv 0)<&>Zaa)))) (Zdc (Zcr (Zhd Zhh Zhh Zab (pv 0) (Zfn rfl T.g_LARGEST_PRIME)))))) (~~~Zgn) Zal)<*>(~~~(pe_or (Zcs Zdj (pv 0) Zab (Zak _)) (Zdw (Zbb C_is_prime hr.m rfl ((pv 0)<&>Zaa)))))),?_⟩
  walk_at "wp"
  refine ⟨p,rfl,true,rfl,iteF (Zhn (Jag p0) (Ze0 (by rw [Jag p97]; decide) (Zb9 (fun _=>q H (Same.refl _)) (fun hc=>?_))))⟩
  rcases hp with rfl | hp
  ·exact absurd (Jag rfl) hc
  ·exact ⟨p,rfl,hp,q⟩
def Zgq:Sp:=fun vs H Q _=>∃ a b:Int,vs = [.int a,.int b]/\Top a/\0 < b/\b.natAbs<=100000000000000000000000000000000/\∀ t,H t = none->Q (.ref t) (upd H t (.tup [.int (nrm a b).1,.int (nrm a b).2]))
theorem Zkd {x a b:Int} (hb:0 < b) (h:b.natAbs<=100000000000000000000000000000000):CDivG x (Int.gcd a b:Int):=by
 have h1:=Zeq (a:=a) hb
 have h2:=Int.le_of_dvd hb (Jd5 a b)
 exact ⟨h1,by omega⟩
def flds (p:Int):List (Str × V):=Zgx "prime" (.int p) []
theorem Zky (p:Int):(flds p).lookup ("prime" : Str) = some (.int p):=by
 unfold flds
 rw [Zb8,if_pos rfl]
def Zlm (C:Addr):Sp:=fun vs H Q _=>∃ (g dx:Addr) (p:Int),vs = [.ref g,.int p]/\H g = some (.ins C dx [])/\GroundP p/\∀ (H':Hp),Ext g H H'->H' g = some (.ins C dx (flds p))->Q .non H'
theorem ok_init {f:Addr} {fd:FuncData} (F:Fun K "__init__" "Ground.__init__" Zbl f fd) (T:Txt K mg C Dg) (C_tells_ground:Cal P w K mg base "tells_ground" 2 Zi0):FnOk P w K mg base CX0 3 f fd ["self","prime"] (Zlm C):=by
 have nd:=Zd8.nd
 refine F.ok Zd8 (fun vs H Q E h=>?_) (fun cdv A outer s H vs Q E hr h=>?_)
 ·obtain ⟨g,dx,p,rfl,_⟩:=h
  rfl
 ·obtain ⟨g,dx,p,rfl,hg,hp,q⟩:=h
  refine ⟨_,((@Za1 _ _ _ _ _ _ _ _ (Zcr (Zdd (Zbb C_tells_ground hr.m rfl ((pv 1)<&>Zaa)))) (@Zav _ _ _ Zdi) Zal)<*>(@Zav _ _ _ (Zlv (pv 0) (pv 1) rfl))),?_⟩
  walk_at "wp"
  refine ⟨p,rfl,hp,fun H1 s1=>⟨true,rfl,iteF ⟨C,dx,[],s1 _ _ hg,T.cl_Ground,T.nP,by show 0 < 1000; decide,?_⟩⟩⟩
  exact q _ (fun b o nb e=>by rw [Zah nb]; exact s1 _ _ e) Zac
def spGcd:Sp:=fun vs H Q _=>∃ a b:Int,vs = [.int a,.int b]/\Q (.int (Int.gcd a b:Int)) H
theorem ok_gcd {f:Addr} {fd:FuncData} (F:Fun K "_law_gcd" "_law_gcd" Zc9 f fd) (T:Txt K mg C Dg):FnOk P w K mg base CX0 1 f fd ["_law_one","_law_two"] spGcd:=by
 have nd:=Zgu.nd
 refine F.ok Zgu (fun vs H Q E h=>?_) (fun cdv A outer s H vs Q E hr h=>?_)
 ·obtain ⟨a,b,rfl,_⟩:=h
  rfl
 ·obtain ⟨a,b,rfl,q⟩:=h
  refine ⟨_,((Zam (i:=0) nd rfl (Or.inl rfl) (Zbj Zke rfl T.n_abs boot_abs ((pv 0)<&>Zaa)))<*>((Zam (i:=1) nd rfl (Or.inl rfl) (Zbj Zke rfl T.n_abs boot_abs ((pv 1)<&>Zaa)))<*>((Zhe Jbm (Zae Zem (pv 1) Zab (Zak _)) ((Zam (i:=2) nd rfl (Or.inl rfl) (Zdo<|>(pv 0)<&&>(pv 1)))<*>((Zam (i:=0) nd rfl (Or.inl rfl) (pv 1))<*>(@Zav _ _ _ (Zam (i:=1) nd rfl (Or.inl rfl) (pv 2))))))<*>(~~~(pv 0))))),?_⟩
  walk_at "wp"
  have ea:(if a < 0 then -a else a) = (a.natAbs:Int):=by split <;> omega
  have eb:(if b < 0 then -b else b) = (b.natAbs:Int):=by split <;> omega
  rw [ea,eb]
  refine ⟨fun n σ H2=>∃ (x y:Int) (v:Option V),σ = [some (.int x),some (.int y),v]/\H2 = H/\0<=x/\0<=y/\n = y.toNat/\Int.gcd x y = Int.gcd a b,⟨_,_,_,none,rfl,rfl,by omega,by omega,rfl,by unfold Int.gcd; rfl⟩,?_⟩
  rintro n σ H2 ⟨x,y,v,rfl,rfl,hx,hy,rfl,hg⟩
  walk_at "wp"
  refine Zb9 (fun hc=>?_) (fun hc=>?_)
  ·have y1:0 < y:=Jah hc
   have l1:=Int.emod_nonneg x (show y ≠ 0 by omega)
   have l2:=Jdr x y1
   refine ⟨_,fun _ _ h=>h,?_⟩
   walk_at "wp"
   exact ⟨y1,_,by omega,y,x % y,_,⟨rfl,rfl,rfl⟩,by omega,l1,rfl,by rw [Zor]; exact hg⟩
  ·have hy0:¬ 0 < y:=fun z=>hc (Jag z)
   have hy0:y = 0:=by omega
   subst hy0
   have e:x = (Int.gcd a b:Int):=by
    rw [<- hg,Int.gcd_zero]
    omega
   rw [<- e] at q
   exact q
theorem Zmd {f:Addr} {fd:FuncData} (F:Fun K "_law_lowest" "_law_lowest" Zbu f fd) (T:Txt K mg C Dg) (C_law_gcd:Cal P w K mg base "_law_gcd" 1 spGcd):FnOk P w K mg base CX0 2 f fd ["_law_top","_law_bottom"] Zgq:=by
 have nd:=Zej.nd
 refine F.ok Zej (fun vs H Q E h=>?_) (fun cdv A outer s H vs Q E hr h=>?_)
 ·obtain ⟨a,b,rfl,_⟩:=h
  rfl
 ·obtain ⟨a,b,rfl,_,hb,hB,q⟩:=h
  refine ⟨_,((@Za1 _ _ _ _ _ _ _ _ (Zae Zfg (pv 1) Zab (Zak _)) (@Zav _ _ _ Zdi) Zal)<*>((Zam (i:=2) nd rfl (Or.inl rfl) (Zbb C_law_gcd hr.m rfl ((pv 0)<&>((pv 1)<&>Zaa))))<*>(~~~(@Zcg _ _ _ _ _ ((Zhi<|>(pv 0)<&&>(pv 2))<&>((Zhi<|>(pv 1)<&&>(pv 2))<&>Zaa)))))),?_⟩
  walk_at "wp"
  exact Ze0 (by rw [Jak (by omega)]; decide) ⟨a,b,rfl,_,rfl,Zkd hb hB,_,rfl,Zkd hb hB,by decide,fun t ht=>q t ht⟩
theorem Zmb {f:Addr} {fd:FuncData} (F:Fun K "_law_whole" "_law_whole" Zb0 f fd) (T:Txt K mg C Dg):FnOk P w K mg base CX0 1 f fd ["_law_found"] Zeu:=by
 have nd:=Ze4.nd
 refine F.ok Ze4 (fun vs H Q E h=>?_) (fun cdv A outer s H vs Q E hr h=>?_)
 ·obtain ⟨i,rfl,_⟩:=h
  rfl
 ·obtain ⟨i,rfl,q⟩:=h
  refine ⟨_,(~~~(Zdx (Zbj Za6 rfl T.n_isinstance Ja2 ((pv 0)<&>((Zga rfl T.n_int Jeb)<&>Zaa))) (Zdw (Zjw (Zbj Za6 rfl T.n_isinstance Ja2 ((pv 0)<&>((Zga rfl T.n_bool boot_bool)<&>Zaa))))))),?_⟩
  walk_at "wp"
  exact ⟨_,_,⟨rfl,rfl⟩,_,rfl,_,.int i,_,Zge K,iteT ⟨_,_,⟨rfl,rfl⟩,_,rfl,_,.int i,_,Zez K,q⟩⟩
def goodB (p:Int):Bool:=p == 0 || (decide (1 < p) && decide (p<=97) && (List.range 98).all fun d=>decide ((d:Int) < 2) || decide (p<=(d:Int)) || decide (p % (d:Int) ≠ 0))
theorem Zop {p:Int} (h:goodB p = true):GroundP p:=by
 unfold goodB at h
 simp only [Bool.or_eq_true,Bool.and_eq_true,beq_iff_eq,decide_eq_true_eq,List.all_eq_true,List.mem_range] at h
 rcases h with h | ⟨⟨h1,h2⟩,h3⟩
 ·exact .inl h
 ·refine .inr ⟨h1,h2,fun d d2 dp=>?_⟩
  have:=h3 d.toNat (by omega)
  rw [show ((d.toNat:Nat):Int) = d by omega] at this
  rcases this with (h | h) | h
  ·omega
  ·omega
  ·exact h
theorem Zh7 {L:List Int} (h:L.all goodB = true) {i:Int} (i0:0<=i) (i1:i < L.length):∃ p,atI (L.map V.int) i = some (.int p)/\GroundP p:=by
 have hi:i.toNat < L.length:=by omega
 exact ⟨_,Zeb i0 (atZ_get hi),Zop (Ja0.mp h _ (atZ_mem hi))⟩
def spPr:Sp:=fun vs H Q _=>∃ l:Addr,vs = [.ref l]/\Bag H l/\∀ (p:Int) (H':Hp),Ext l H H'->Bag H' l->GroundP p->Q (.int p) H'
theorem Zmc {f:Addr} {fd:FuncData} (F:Fun K "_law_prime" "_law_prime" Zb3 f fd) (T:Txt K mg C Dg) (C_law_draw:Cal P w K mg base "_law_draw" 1 Zdl):FnOk P w K mg base CX0 2 f fd ["_law_bag_here"] spPr:=by
 have nd:=Ze7.nd
 refine F.ok Ze7 (fun vs H Q E h=>?_) (fun cdv A outer s H vs Q E hr h=>?_)
 ·obtain ⟨l,rfl,_⟩:=h
  rfl
 ·obtain ⟨l,rfl,hb,q⟩:=h
  refine ⟨_,((Zam (i:=1) nd rfl (Or.inl rfl) (Zbb C_law_draw hr.m rfl ((pv 0)<&>(Zab<&>Zaa))))<*>((@Za1 _ _ _ _ _ _ _ _ (Zae Zfg (pv 1) Zab (Zak _)) (~~~(Zaw<|>(@Zbm _ _ _ _ (Zab<&>(Zab<&>(Zab<&>(Zab<&>(Zab<&>Zaa))))))<||>(pv 1))) Zal)<*>(~~~(Zaw<|>(@Zbm _ _ _ _ (Zab<&>(Zab<&>(Zab<&>(Zab<&>(Zab<&>(Zab<&>(Zab<&>(Zab<&>(Zab<&>(Zab<&>(Zab<&>(Zab<&>(Zab<&>(Zab<&>(Zab<&>(Zab<&>(Zab<&>(Zab<&>(Zab<&>(Zab<&>(Zab<&>(Zab<&>Zaa)))))))))))))))))))))))<||>(Zbb C_law_draw hr.m rfl ((pv 0)<&>(Zab<&>Zaa))))))),?_⟩
  walk_at "wp"
  refine hb.draw (by decide) (by decide) fun z H2 z0 z1 e2 b2=>⟨z,rfl,Zb9 (fun hz=>?_) (fun hz=>?_)⟩
  ·have hz:=Jah hz
   refine ⟨by decide,fun p1 hp1=>?_⟩
   obtain ⟨p,hp,gp⟩:=Zh7 (L:=[0,2,3,5,97]) (by decide +kernel) z0 (show z < (5:Nat) by omega)
   have n1:p1 ≠ l:=b2.ne hp1
   exact ⟨_,z,rfl,SqL.of Zac,_,hp,q p _ (e2.trans (Ext.new hp1)) (b2.new n1) gp⟩
  ·refine ⟨by decide,fun p1 hp1=>?_⟩
   have n1:p1 ≠ l:=b2.ne hp1
   refine (b2.new n1).draw (by decide) (by decide) fun y H3 y0 y1 e3 b3=>?_
   obtain ⟨p,hp,gp⟩:=Zh7 (L:=[0,7,11,13,17,19,23,29,31,37,41,43,47,53,59,61,67,71,73,79,83,89]) (by decide +kernel) y0 (show y < (22:Nat) by omega)
   exact ⟨_,y,rfl,SqL.of (e3 _ _ n1 Zac),_,hp,q p _ ((e2.trans (Ext.new hp1)).trans e3) b3 gp⟩
def NumV (H:Hp) (p:Int) (v:V) (x:Int × Int):Prop:=if p = 0 then ∃ t,v = .ref t/\H t = some (.tup [.int x.1,.int x.2]) else v = .int x.1
theorem NumV.same {H H':Hp} {p:Int} {v:V} {x:Int × Int} (h:NumV H p v x) (s:Same H H'):NumV H' p v x:=by
 unfold NumV at *
 split
 ·rename_i hp
  rw [if_pos hp] at h
  obtain ⟨t,e,ht⟩:=h
  exact ⟨t,e,s _ _ ht⟩
 ·rename_i hp
  rw [if_neg hp] at h
  exact h
theorem NumV.tup {H:Hp} {p:Int} {t:Addr} {x:Int × Int} (hp:p = 0) (h:H t = some (.tup [.int x.1,.int x.2])):NumV H p (.ref t) x:=by
 unfold NumV
 rw [if_pos hp]
 exact ⟨t,rfl,h⟩
theorem NumV.of {H:Hp} {p:Int} {x:Int × Int} (hp:¬ p = 0):NumV H p (.int x.1) x:=by
 unfold NumV
 rw [if_neg hp]
theorem NumV.ref {H:Hp} {p:Int} {v:V} {x:Int × Int} (h:NumV H p v x) (hp:p = 0):∃ t,v = .ref t/\H t = some (.tup [.int x.1,.int x.2]):=by
 unfold NumV at h
 rw [if_pos hp] at h
 exact h
theorem NumV.int {H:Hp} {p:Int} {v:V} {x:Int × Int} (h:NumV H p v x) (hp:¬ p = 0):v = .int x.1:=by
 unfold NumV at h
 rw [if_neg hp] at h
 exact h
theorem GroundP.lo {p:Int} (h:GroundP p):0<=p:=by rcases h with rfl | ⟨h,_⟩ <;> omega
theorem GroundP.hi {p:Int} (h:GroundP p):p<=97:=by rcases h with rfl | ⟨_,h,_⟩ <;> omega
def Zno:Sp:=fun vs H Q _=>∃ (l:Addr) (p:Int),vs = [.ref l,.int p]/\Bag H l/\GroundP p/\∀ (v:V) (x:Int × Int) (H':Hp),Ext l H H'->Bag H' l->NumV H' p v x->Isn p x->Bd 10000 x->Q v H'
theorem ok_lnum {f:Addr} {fd:FuncData} (F:Fun K "_law_number" "_law_number" Zbt f fd) (T:Txt K mg C Dg) (C_law_draw:Cal P w K mg base "_law_draw" 1 Zdl) (C_law_lowest:Cal P w K mg base "_law_lowest" 2 Zgq):FnOk P w K mg base CX0 3 f fd ["_law_bag_here","_law_p"] Zno:=by
 have nd:=Zei.nd
 refine F.ok Zei (fun vs H Q E h=>?_) (fun cdv A outer s H vs Q E hr h=>?_)
 ·obtain ⟨l,p,rfl,_⟩:=h
  rfl
 ·obtain ⟨l,p,rfl,hb,hp,q⟩:=h
  have p0:=hp.lo
  have p97:=hp.hi
  refine ⟨_,((@Za1 _ _ _ _ _ _ _ _ (Zae Zem (pv 1) Zab (Zak _)) (~~~(Zbb C_law_draw hr.m rfl ((pv 0)<&>((pv 1)<&>Zaa)))) Zal)<*>((Zam (i:=2) nd rfl (Or.inl rfl) (Zbb C_law_draw hr.m rfl ((pv 0)<&>(Zab<&>Zaa))))<*>((@Za1 _ _ _ _ _ _ _ _ (Zae Zdj (pv 2) Zab (Zak _)) (~~~(Zbb C_law_lowest hr.m rfl ((Zl5<|>(Zbb C_law_draw hr.m rfl ((pv 0)<&>(Zab<&>Zaa)))<&&>Zab)<&>((Zch<|>Zab<&&>(Zbb C_law_draw hr.m rfl ((pv 0)<&>(Zab<&>Zaa))))<&>Zaa)))) Zal)<*>((@Za1 _ _ _ _ _ _ _ _ (Zae Zfg (pv 2) Zab (Zak _)) (~~~(Zbb C_law_lowest hr.m rfl ((Zl5<|>(Zbb C_law_draw hr.m rfl ((pv 0)<&>(Zab<&>Zaa)))<&&>Zab)<&>((Zch<|>Zab<&&>(Zbb C_law_draw hr.m rfl ((pv 0)<&>(Zab<&>Zaa))))<&>Zaa)))) Zal)<*>(~~~(Zaw<|>(@Zbm _ _ _ _ ((@Zcg _ _ _ _ _ (Zab<&>(Zab<&>Zaa)))<&>((@Zcg _ _ _ _ _ (Zab<&>(Zab<&>Zaa)))<&>((@Zcg _ _ _ _ _ ((Zgm Zd5 Zab)<&>(Zab<&>Zaa)))<&>((@Zcg _ _ _ _ _ (Zab<&>(Zab<&>Zaa)))<&>Zaa)))))<||>(Zl5<|>(pv 2)<&&>Zab))))))),?_⟩
  walk_at "wp"
  refine Zb9 (fun hc=>?_) (fun hc=>?_)
  ·have hc:=Jah hc
   refine hb.draw hc (by omega) fun z H2 z0 z1 e2 b2=>?_
   exact q (.int z) (z,1) H2 e2 b2 (NumV.of (x:=(z,1)) (by omega)) (.inr ⟨hc,z0,z1,rfl⟩) ⟨by show z.natAbs<=10000; omega,by show Int.natAbs 1<=10000; decide⟩
  ·have hc:¬ 0 < p:=fun z=>hc (Jag z)
   have hp0:p = 0:=by omega
   subst hp0
   have fin:∀ (H3:Hp) (a b:Int),Ext l H H3->Bag H3 l->0 < b->a.natAbs<=10000->b.natAbs<=10000->Zgq [.int a,.int b] H3 Q E0:=fun H3 a b e3 b3 hb0 h1 h2=>by
    refine ⟨a,b,rfl,Top.of (by omega),hb0,by omega,fun t ht=>?_⟩
    have nt:=b3.ne ht
    exact q _ (nrm a b) _ (e3.trans (Ext.new ht)) (b3.new nt) (NumV.tup rfl Zac) (Zjc rfl hb0) (Zmg hb0 h1 h2)
   refine hb.draw (by decide) (by decide) fun z H2 z0 z1 e2 b2=>⟨rfl,Zb9 (fun hz=>?_) (fun hz=>?_)⟩
   ·refine b2.draw (by decide) (by decide) fun a H3 a0 a1 e3 b3=>⟨a,rfl,b3.draw (by decide) (by decide) fun b H4 b0 b1 e4 b4=>⟨b,rfl,fin _ _ _ ((e2.trans e3).trans e4) b4 (by omega) (by omega) (by omega)⟩⟩
   ·refine ⟨z,rfl,Zb9 (fun hz2=>?_) (fun hz2=>?_)⟩
    ·refine b2.draw (by decide) (by decide) fun a H3 a0 a1 e3 b3=>⟨a,rfl,b3.draw (by decide) (by decide) fun b H4 b0 b1 e4 b4=>⟨b,rfl,fin _ _ _ ((e2.trans e3).trans e4) b4 (by omega) (by omega) (by omega)⟩⟩
    ·have hz2:¬ z < 4:=fun w=>hz2 (Jag w)
     refine ⟨by decide,fun t1 h1=>⟨by decide,fun t2 h2=>⟨by decide,fun t3 h3=>⟨by decide,fun t4 h4=>⟨by decide,fun t5 h5=>⟨z,rfl,_,SqL.of Zac,?_⟩⟩⟩⟩⟩⟩
     have s5:=Same.new (o:=.lst [V.ref t1,V.ref t2,V.ref t3,V.ref t4]) h5
     have s4:=(Same.new (o:=.tup [V.int 2,V.int 1]) h4).trans s5
     have s3:=(Same.new (o:=.tup [V.int (-1),V.int 1]) h3).trans s4
     have s2:=(Same.new (o:=.tup [V.int 1,V.int 1]) h2).trans s3
     have s1:=(Same.new (o:=.tup [V.int 0,V.int 1]) h1).trans s2
     have hex:=e2.trans s1.ext
     have hb5:=b2.same s1
     have:z = 4\/z = 5\/z = 6\/z = 7:=by omega
     rcases this with rfl | rfl | rfl | rfl
     ·exact ⟨_,rfl,q (.ref t1) (0,1) _ hex hb5 (NumV.tup rfl (s2 _ _ Zac)) (.inl ⟨rfl,by show (0:Int) < 1; decide,by decide⟩) ⟨by decide,by decide⟩⟩
     ·exact ⟨_,rfl,q (.ref t2) (1,1) _ hex hb5 (NumV.tup rfl (s3 _ _ Zac)) (.inl ⟨rfl,by show (0:Int) < 1; decide,by decide⟩) ⟨by decide,by decide⟩⟩
     ·exact ⟨_,rfl,q (.ref t3) (-1,1) _ hex hb5 (NumV.tup rfl (s4 _ _ Zac)) (.inl ⟨rfl,by show (0:Int) < 1; decide,by decide⟩) ⟨by decide,by decide⟩⟩
     ·exact ⟨_,rfl,q (.ref t4) (2,1) _ hex hb5 (NumV.tup rfl (s5 _ _ Zac)) (.inl ⟨rfl,by show (0:Int) < 1; decide,by decide⟩) ⟨by decide,by decide⟩⟩
structure Two (H:Hp) (p:Int) (va vb:V) (x y:Int × Int):Prop where
 a:NumV H p va x
 b:NumV H p vb y
 hx:Isn p x
 hy:Isn p y
 bd:∃ B1 B2:Nat,Bd B1 x/\Bd B2 y/\2 * B1 * B2<=10000000000000000000000000000000
theorem Isn.one {p:Int} {x:Int × Int} {B:Nat} (h:Isn p x) (b:Bd B x):1<=B:=by
 have:=h.pos
 have:=b.2
 omega
theorem Zax {a b:Int} {A B:Nat} (ha:a.natAbs<=A) (hb:b.natAbs<=B):(a * b).natAbs<=A * B:=by rw [Int.natAbs_mul]; exact Jc4 ha hb
theorem Two.big {H:Hp} {p:Int} {va vb:V} {x y:Int × Int} (h:Two H p va vb x y):Big x.1/\Big x.2/\Big y.1/\Big y.2/\(x.2 * y.2).natAbs<=100000000000000000000000000000000:=by
 obtain ⟨B1,B2,b1,b2,hB⟩:=h.bd
 have o1:=Isn.one h.hx b1
 have o2:=Isn.one h.hy b2
 have l1:B1<=2 * B1 * B2:=by
  have:B1 * 1<=(2 * B1) * B2:=Jc4 (by omega) o2
  omega
 have l2:B2<=2 * B1 * B2:=by
  have:1 * B2<=(2 * B1) * B2:=Jc4 (by omega) (Jae _)
  omega
 have q1:=b1.big (by omega)
 have q2:=b2.big (by omega)
 have q3:=Zax b1.2 b2.2
 have l3:B1 * B2<=2 * B1 * B2:=Jc4 (by omega) (Jae _)
 exact ⟨q1.1,q1.2,q2.1,q2.2,by omega⟩
theorem Two.tops {H:Hp} {p:Int} {va vb:V} {x y:Int × Int} (h:Two H p va vb x y):Top (x.1 * y.2 + y.1 * x.2)/\Top (x.1 * y.2 - y.1 * x.2)/\Top (x.1 * y.1):=by
 obtain ⟨B1,B2,b1,b2,hB⟩:=h.bd
 have q1:=Zax b1.1 b2.2
 have q2:=Zax b2.1 b1.2
 have q3:=Zax b1.1 b2.1
 rw [Nat.mul_comm B2 B1] at q2
 have l3:2 * B1 * B2 = 2 * (B1 * B2):=Nat.mul_assoc 2 B1 B2
 exact ⟨Top.of (by omega),Top.of (by omega),Top.of (by omega)⟩
def spOp (op:Int->Int × Int->Int × Int->Int × Int):Sp:=fun vs H Q _=>∃ (p:Int) (va vb:V) (x y:Int × Int),vs = [.int p,va,vb]/\GroundP p/\Two H p va vb x y/\∀ v H',Same H H'->NumV H' p v (op p x y)->Q v H'
theorem ok_add {f:Addr} {fd:FuncData} (F:Fun K "_law_add" "_law_add" Zdb f fd) (T:Txt K mg C Dg) (C_law_lowest:Cal P w K mg base "_law_lowest" 2 Zgq):FnOk P w K mg base CX0 3 f fd ["_law_p","_law_a","_law_b"] (spOp Zgl):=by
 have nd:=Zgw.nd
 refine F.ok Zgw (fun vs H Q E h=>?_) (fun cdv A outer s H vs Q E hr h=>?_)
 ·obtain ⟨p,va,vb,x,y,rfl,_⟩:=h
  rfl
 ·obtain ⟨p,va,vb,x,y,rfl,hp,h2,q⟩:=h
  have p0:=hp.lo
  obtain ⟨g1,g2,g3,g4,g5⟩:=h2.big
  refine ⟨_,((@Za1 _ _ _ _ _ _ _ _ (Zae Zem (pv 0) Zab (Zak _)) (~~~(Zdo<|>(Zch<|>(pv 1)<&&>(pv 2))<&&>(pv 0))) Zal)<*>(~~~(Zbb C_law_lowest hr.m rfl ((Zch<|>(Zew<|>(Zbx<|>(pv 1)<||>Zab)<&&>(Zbx<|>(pv 2)<||>Zab))<&&>(Zew<|>(Zbx<|>(pv 2)<||>Zab)<&&>(Zbx<|>(pv 1)<||>Zab)))<&>((Zew<|>(Zbx<|>(pv 1)<||>Zab)<&&>(Zbx<|>(pv 2)<||>Zab))<&>Zaa))))),?_⟩
  walk_at "wp"
  refine Zb9 (fun hc=>?_) (fun hc=>?_)
  ·have hc:=Jah hc
   obtain rfl:=h2.a.int (by omega)
   obtain rfl:=h2.b.int (by omega)
   refine ⟨_,rfl,_,rfl,hc,q _ H (Same.refl _) ?_⟩
   have:=NumV.of (H:=H) (x:=Zgl p x y) (show ¬ p = 0 by omega)
   rw [Zgl,if_neg (by omega)] at this ⊢
   exact this
  ·have hc:¬ 0 < p:=fun z=>hc (Jag z)
   have hp0:p = 0:=by omega
   obtain ⟨ta,rfl,hta⟩:=h2.a.ref hp0
   obtain ⟨tb,rfl,htb⟩:=h2.b.ref hp0
   walk_at "wp"
   refine ⟨_,SqT.of hta,_,rfl,_,SqT.of htb,_,rfl,_,rfl,_,rfl,g1.mul g4,_,SqT.of htb,_,rfl,_,SqT.of hta,_,rfl,_,rfl,_,rfl,g3.mul g2,_,SqT.of hta,_,rfl,_,SqT.of htb,_,rfl,_,rfl,_,rfl,g2.mul g4,?_⟩
   refine ⟨_,_,rfl,h2.tops.1,Jdg h2.hx.pos h2.hy.pos,g5,fun t ht=>q _ _ (Same.new ht) ?_⟩
   rw [Zgl,if_pos hp0]
   exact NumV.tup hp0 Zac
theorem ok_mul {f:Addr} {fd:FuncData} (F:Fun K "_law_mul" "_law_mul" Zc7 f fd) (T:Txt K mg C Dg) (C_law_lowest:Cal P w K mg base "_law_lowest" 2 Zgq):FnOk P w K mg base CX0 3 f fd ["_law_p","_law_a","_law_b"] (spOp Zd6):=by
 have nd:=Zgs.nd
 refine F.ok Zgs (fun vs H Q E h=>?_) (fun cdv A outer s H vs Q E hr h=>?_)
 ·obtain ⟨p,va,vb,x,y,rfl,_⟩:=h
  rfl
 ·obtain ⟨p,va,vb,x,y,rfl,hp,h2,q⟩:=h
  have p0:=hp.lo
  have p97:=hp.hi
  obtain ⟨g1,g2,g3,g4,g5⟩:=h2.big
  refine ⟨_,((@Za1 _ _ _ _ _ _ _ _ (Zae Zem (pv 0) Zab (Zak _)) (~~~(Zdo<|>(Zjz<|>(pv 1)<&&>(pv 2))<&&>(pv 0))) Zal)<*>(~~~(Zbb C_law_lowest hr.m rfl ((Zew<|>(Zbx<|>(pv 1)<||>Zab)<&&>(Zbx<|>(pv 2)<||>Zab))<&>((Zew<|>(Zbx<|>(pv 1)<||>Zab)<&&>(Zbx<|>(pv 2)<||>Zab))<&>Zaa))))),?_⟩
  walk_at "wp"
  refine Zb9 (fun hc=>?_) (fun hc=>?_)
  ·have hc:=Jah hc
   obtain rfl:=h2.a.int (by omega)
   obtain rfl:=h2.b.int (by omega)
   have hx:0<=x.1/\x.1 < p:=by rcases h2.hx with ⟨h,_⟩ | ⟨_,h,h',_⟩ <;> omega
   refine ⟨_,rfl,_,rfl,.inl ⟨by omega,by omega⟩,hc,q _ H (Same.refl _) ?_⟩
   have:=NumV.of (H:=H) (x:=Zd6 p x y) (show ¬ p = 0 by omega)
   rw [Zd6,if_neg (by omega)] at this ⊢
   exact this
  ·have hc:¬ 0 < p:=fun z=>hc (Jag z)
   have hp0:p = 0:=by omega
   obtain ⟨ta,rfl,hta⟩:=h2.a.ref hp0
   obtain ⟨tb,rfl,htb⟩:=h2.b.ref hp0
   walk_at "wp"
   refine ⟨_,SqT.of hta,_,rfl,_,SqT.of htb,_,rfl,_,rfl,_,rfl,g1.mul g3,_,SqT.of hta,_,rfl,_,SqT.of htb,_,rfl,_,rfl,_,rfl,g2.mul g4,?_⟩
   refine ⟨_,_,rfl,h2.tops.2.2,Jdg h2.hx.pos h2.hy.pos,g5,fun t ht=>q _ _ (Same.new ht) ?_⟩
   rw [Zd6,if_pos hp0]
   exact NumV.tup hp0 Zac
def GAt (C:Addr) (H:Hp) (g:Addr) (p:Int):Prop:=∃ dx,H g = some (.ins C dx (flds p))
theorem GAt.same {H H':Hp} {g:Addr} {p:Int} (h:GAt C H g p) (s:Same H H'):GAt C H' g p:=let ⟨dx,e⟩:=h; ⟨dx,s _ _ e⟩
def spInt:Sp:=fun vs H Q _=>∃ p k:Int,vs = [.int p,.int k]/\GroundP p/\∀ v H',Same H H'->NumV H' p v (Zol p k)->Q v H'
theorem ok_int {f:Addr} {fd:FuncData} (F:Fun K "_law_int" "_law_int" Zc8 f fd) (T:Txt K mg C Dg):FnOk P w K mg base CX0 1 f fd ["_law_p","_law_k"] spInt:=by
 have nd:=Zgt.nd
 refine F.ok Zgt (fun vs H Q E h=>?_) (fun cdv A outer s H vs Q E hr h=>?_)
 ·obtain ⟨p,k,rfl,_⟩:=h
  rfl
 ·obtain ⟨p,k,rfl,hp,q⟩:=h
  have p0:=hp.lo
  refine ⟨_,((@Za1 _ _ _ _ _ _ _ _ (Zae Zem (pv 0) Zab (Zak _)) (~~~(Zdo<|>(pv 1)<&&>(pv 0))) Zal)<*>(~~~(@Zcg _ _ _ _ _ ((pv 1)<&>(Zab<&>Zaa))))),?_⟩
  walk_at "wp"
  refine Zb9 (fun hc=>?_) (fun hc=>?_)
  ·have hc:=Jah hc
   refine ⟨hc,q _ H (Same.refl _) ?_⟩
   have:=NumV.of (H:=H) (x:=Zol p k) (show ¬ p = 0 by omega)
   rw [Zol,if_neg (by omega)] at this ⊢
   exact this
  ·have hc:¬ 0 < p:=fun z=>hc (Jag z)
   have hp0:p = 0:=by omega
   refine ⟨by decide,fun t ht=>q _ _ (Same.new ht) ?_⟩
   rw [Zol,if_pos hp0]
   exact NumV.tup hp0 Zac
theorem bd97 {p:Int} {x:Int × Int} {B:Nat} (hp:0 < p) (p97:p<=97) (h:Isn p x) (hB:97<=B):Bd B x:=by
 rcases h with ⟨h,_⟩ | ⟨_,h1,h2,h3⟩
 ·omega
 ·exact ⟨by omega,by rw [h3]; show 1<=B; omega⟩
theorem bd_plus {p:Int} {x y:Int × Int} {B1 B2:Nat} (hp:GroundP p) (hx:Isn p x) (hy:Isn p y) (h1:Bd B1 x) (h2:Bd B2 y) (hB:97<=2 * B1 * B2):Bd (2 * B1 * B2) (Zgl p x y):=by
 by_cases h0:p = 0
 ·unfold Zgl
  rw [if_pos h0]
  have a1:=Zax h1.1 h2.2
  have a2:=Zax h2.1 h1.2
  have a3:=Zax h1.2 h2.2
  have c:B2 * B1 = B1 * B2:=Nat.mul_comm ..
  have d:2 * B1 * B2 = B1 * B2 + B1 * B2:=by rw [Nat.mul_assoc,Nat.two_mul]
  exact Zmg (Jdg hx.pos hy.pos) (by omega) (by omega)
 ·have:=hp.lo
  exact bd97 (by omega) hp.hi (Zj7 hp.lo hx hy) hB
theorem Zo4 {p:Int} {x y:Int × Int} {B1 B2:Nat} (hp:GroundP p) (hx:Isn p x) (hy:Isn p y) (h1:Bd B1 x) (h2:Bd B2 y) (hB:97<=B1 * B2):Bd (B1 * B2) (Zd6 p x y):=by
 by_cases h0:p = 0
 ·unfold Zd6
  rw [if_pos h0]
  exact Zmg (Jdg hx.pos hy.pos) (Zax h1.1 h2.1) (Zax h1.2 h2.2)
 ·have:=hp.lo
  exact bd97 (by omega) hp.hi (Zih hp.lo hx hy) hB
def NumO (H:Hp) (p:Int) (B:Nat) (v:V):Prop:=∃ x,NumV H p v x/\Isn p x/\Bd B x
theorem NumO.same {H H':Hp} {p:Int} {B:Nat} {v:V} (h:NumO H p B v) (s:Same H H'):NumO H' p B v:=let ⟨x,a,b,c⟩:=h; ⟨x,a.same s,b,c⟩
theorem NumO.weak {H:Hp} {p:Int} {B B':Nat} {v:V} (h:NumO H p B v) (hB:B<=B'):NumO H p B' v:=let ⟨x,a,b,c⟩:=h; ⟨x,a,b,Jbw c.1 hB,Jbw c.2 hB⟩
theorem NumO.put {H:Hp} {D:Addr} {l:List V} {o:HO} {p:Int} {B:Nat} {v:V} (h:NumO H p B v) (hD:H D = some (.lst l)):NumO (upd H D o) p B v:=by
 obtain ⟨x,a,b,c⟩:=h
 refine ⟨x,?_,b,c⟩
 by_cases hp:p = 0
 ·obtain ⟨t,rfl,ht⟩:=a.ref hp
  exact NumV.tup hp (by rw [Zah (ne_of ht hD (by intro z; cases z))]; exact ht)
 ·obtain rfl:=a.int hp
  exact NumV.of hp
theorem NumV.ext {l:Addr} {H H':Hp} {p:Int} {v:V} {x:Int × Int} (h:NumV H p v x) (b:Bag H l) (e:Ext l H H'):NumV H' p v x:=by
 by_cases hp:p = 0
 ·obtain ⟨t,rfl,ht⟩:=h.ref hp
  obtain ⟨a,c,hb,_⟩:=b
  exact NumV.tup hp (e _ _ (ne_of ht hb (by intro z; cases z)) ht)
 ·obtain rfl:=h.int hp
  exact NumV.of hp
theorem NumO.ext {l:Addr} {H H':Hp} {p:Int} {B:Nat} {v:V} (h:NumO H p B v) (b:Bag H l) (e:Ext l H H'):NumO H' p B v:=let ⟨x,a,c,d⟩:=h; ⟨x,a.ext b e,c,d⟩
def RowO (H:Hp) (p:Int) (B:Nat) (wd:Int) (a:Addr):Prop:=∃ xs,H a = some (.lst xs)/\(xs.length:Int) = wd/\∀ x ∈ xs,NumO H p B x
theorem RowO.same {H H':Hp} {p wd:Int} {B:Nat} {a:Addr} (h:RowO H p B wd a) (s:Same H H'):RowO H' p B wd a:=let ⟨xs,h1,h2,h3⟩:=h; ⟨xs,s _ _ h1,h2,fun x hx=>(h3 x hx).same s⟩
theorem RowO.weak {H:Hp} {p wd:Int} {B B':Nat} {a:Addr} (h:RowO H p B wd a) (hB:B<=B'):RowO H p B' wd a:=let ⟨xs,h1,h2,h3⟩:=h; ⟨xs,h1,h2,fun x hx=>(h3 x hx).weak hB⟩
theorem RowO.ext {l:Addr} {H H':Hp} {p wd:Int} {B:Nat} {a:Addr} (h:RowO H p B wd a) (b:Bag H l) (e:Ext l H H') (n:a ≠ l):RowO H' p B wd a:=let ⟨xs,h1,h2,h3⟩:=h; ⟨xs,e _ _ n h1,h2,fun x hx=>(h3 x hx).ext b e⟩
theorem RowO.put {H:Hp} {D:Addr} {l:List V} {o:HO} {p wd:Int} {B:Nat} {a:Addr} (h:RowO H p B wd a) (hD:H D = some (.lst l)) (n:a ≠ D):RowO (upd H D o) p B wd a:=let ⟨xs,h1,h2,h3⟩:=h; ⟨xs,by rw [Zah n]; exact h1,h2,fun x hx=>(h3 x hx).put hD⟩
theorem Zif (rs:List Addr) (a:Addr):rs.map V.ref ++ [.ref a] = (rs ++ [a]).map V.ref:=by rw [Jbc]; rfl
theorem bd_int0 {p:Int} (hp:GroundP p):Bd 10000 (Zol p 0):=by
 by_cases h0:p = 0
 ·unfold Zol
  rw [if_pos h0]
  exact ⟨by decide,by decide⟩
 ·unfold Zol
  rw [if_neg h0,Int.zero_emod]
  exact ⟨by decide,by decide⟩
def Zll:Sp:=fun vs H Q _=>∃ (l:Addr) (p hh wd:Int),vs = [.ref l,.int p,.int hh,.int wd]/\Bag H l/\GroundP p/\0<=hh/\hh<=24/\0<=wd/\wd<=24 /\
 ∀ (r:Addr) (rs:List Addr) (H':Hp),Ext l H H'->Bag H' l->H r = none->(∀ a ∈ rs,H a = none)->r ∉ rs->H' r = some (.lst (rs.map V.ref))->(rs.length:Int) = hh->(∀ a ∈ rs,RowO H' p 10000 wd a)->Q (.ref r) H'
theorem ok_rows {f:Addr} {fd:FuncData} (F:Fun K "_law_rows" "_law_rows" Zck f fd) (T:Txt K mg C Dg) (C_law_draw:Cal P w K mg base "_law_draw" 1 Zdl) (C_law_number:Cal P w K mg base "_law_number" 3 Zno) (C_law_int:Cal P w K mg base "_law_int" 1 spInt):FnOk P w K mg base CX0 4 f fd ["_law_bag_here","_law_p","_law_high","_law_wide"] Zll:=by
 have nd:=Zf1.nd
 refine F.ok Zf1 (fun vs H Q E h=>?_) (fun cdv A outer s H vs Q E hr h=>?_)
 ·obtain ⟨l,p,hh,wd,rfl,_⟩:=h
  rfl
 ·obtain ⟨l,p,hh,wd,rfl,hb,hp,h0,h24,w0,w24,q⟩:=h
  refine ⟨_,((Zam (i:=4) nd rfl (Or.inl rfl) (Zch<|>Zab<&&>(Zbb C_law_draw hr.m rfl ((pv 0)<&>(Zab<&>Zaa)))))<*>((Zam (i:=5) nd rfl (Or.inl rfl) (@Zbm _ _ _ _ Zaa))<*>((Zel Jbm rfl (Znz rfl T.n_range ((pv 2)<&>Zaa)) (@Zap _ _ 6 _ nd rfl (Or.inl rfl) (Or.inl rfl)) ((Zam (i:=7) nd rfl (Or.inl rfl) (@Zbm _ _ _ _ Zaa))<*>((Zel Jbm rfl (Znz rfl T.n_range ((pv 3)<&>Zaa)) (@Zap _ _ 8 _ nd rfl (Or.inl rfl) (Or.inl rfl)) ((Zam (i:=9) nd rfl (Or.inl rfl) (Zbb C_law_number hr.m rfl ((pv 0)<&>((pv 1)<&>Zaa))))<*>(@Zav _ _ _ (@Za1 _ _ _ _ _ _ _ _ (Zae Zfg (Zbb C_law_draw hr.m rfl ((pv 0)<&>(Zab<&>Zaa))) (pv 4) (Zak _)) (@Zav _ _ _ (Zf8 (Zdp Jb1 Jb4 Jb5 Zct (pv 7) ((pv 9)<&>Zaa)))) (@Zav _ _ _ (Zf8 (Zdp Jb1 Jb4 Jb5 Zct (pv 7) ((Zbb C_law_int hr.m rfl ((pv 1)<&>(Zab<&>Zaa)))<&>Zaa))))))))<*>(@Zav _ _ _ (Zf8 (Zdp Jb1 Jb4 Jb5 Zct (pv 5) ((pv 7)<&>Zaa)))))))<*>(~~~(pv 5))))),?_⟩
  walk_at "wp"
  refine hb.draw (by decide) (by decide) fun z H2 z0 z1 e2 b2=>⟨z,rfl,by decide,fun r hr0=>?_⟩
  have nr:r ≠ l:=b2.ne hr0
  have fr:H r = none:=e2.free nr hr0
  refine ⟨_,rfl,hh,rfl,by omega,by omega,Zer (fun i σ H3=>∃ (v6 v7 v8 v9:Option V) (rs:List Addr),σ = [some (.ref l),some (.int p),some (.int hh),some (.int wd),some (.int (1 + z)),some (.ref r),v6,v7,v8,v9]/\Ext l H H3/\Bag H3 l/\(∀ a ∈ rs,H a = none)/\r ∉ rs/\H3 r = some (.lst (rs.map V.ref))/\rs.length = i/\∀ a ∈ rs,RowO H3 p 10000 wd a)
   ⟨none,none,none,none,[],rfl,e2.trans (Ext.new hr0),b2.new nr,by simp,by simp,Zac,rfl,by simp⟩ ?_ ?_⟩
  ·rintro i σ H3 hi ⟨v6,v7,v8,v9,rs,rfl,e3,b3,hf,nm,hr3,hln,hro⟩
   walk_at "wp"
   refine ⟨by decide,fun a ha=>?_⟩
   have na:a ≠ l:=b3.ne ha
   have fa:H a = none:=e3.free na ha
   have nar:r ≠ a:=Zai hr3 ha
   have nas:a ∉ rs:=fun z=>by obtain ⟨xs,h1,_⟩:=hro a z; rw [ha] at h1; cases h1
   refine ⟨_,rfl,wd,rfl,by omega,by omega,Zer (fun j σ H4=>∃ (v8 v9:Option V) (xs:List V),σ = [some (.ref l),some (.int p),some (.int hh),some (.int wd),some (.int (1 + z)),some (.ref r),some (.int (0 + (i:Int))),some (.ref a),v8,v9]/\Ext l H H4/\Bag H4 l/\H4 r = some (.lst (rs.map V.ref))/\(∀ a ∈ rs,RowO H4 p 10000 wd a)/\H4 a = some (.lst xs)/\xs.length = j/\∀ x ∈ xs,NumO H4 p 10000 x)
    ⟨v8,v9,[],rfl,e3.trans (Ext.new ha),b3.new na,by rw [Zah nar]; exact hr3,fun b hb=>(hro b hb).same (Same.new ha),Zac,rfl,by simp⟩ ?_ ?_⟩
   ·rintro j σ H4 hj ⟨u8,u9,xs,rfl,e4,b4,hr4,hro4,ha4,hlx,hnx⟩
    walk_at "wp"
    have step:∀ (v:V) (H5:Hp),Ext l H4 H5->Bag H5 l->NumO H5 p 10000 v->(Ext l H (upd H5 a (.lst (xs ++ [v])))/\Bag (upd H5 a (.lst (xs ++ [v]))) l/\upd H5 a (.lst (xs ++ [v])) r = some (.lst (rs.map V.ref))/\(∀ b ∈ rs,RowO (upd H5 a (.lst (xs ++ [v]))) p 10000 wd b) /\
      ∃ ys,upd H5 a (.lst (xs ++ [v])) a = some (.lst ys)/\ys.length = j + 1/\∀ x ∈ ys,NumO (upd H5 a (.lst (xs ++ [v]))) p 10000 x):=by
     intro v H5 e5 b5 nv
     have ha5:=e5 _ _ na ha4
     refine ⟨(e4.trans e5).upd fa,b5.new na,by rw [Zah nar]; exact e5 _ _ nr hr4,fun b hbm=>?_,_,Zac,by rw [Jab,hlx]; rfl,fun x hx=>?_⟩
     ·have nb:b ≠ l:=hb.ne (hf b hbm)
      exact ((hro4 b hbm).ext b4 e5 nb).put ha5 (fun z=>nas (z ▸ hbm))
     ·rcases Ja4.mp hx with hx | hx
      ·exact ((hnx x hx).ext b4 e5).put ha5
      ·rw [Jar.mp hx]; exact nv.put ha5
    have hsz:xs.length < sizeLine:=Za4 (by omega)
    refine ⟨l,p,rfl,b4,hp,fun v x H5 e5 b5 nv iv bv=>?_⟩
    refine b5.draw (by decide) (by decide) fun y H6 y0 y1 e6 b6=>⟨y,rfl,Zb9 (fun _=>?_) (fun _=>?_)⟩
    ·have ha6:=(e5.trans e6) _ _ na ha4
     exact ⟨.inl ⟨rfl,_,SqL.of ha6⟩,xs,ha6,hsz,_,_,⟨rfl,rfl⟩,step v H6 (e5.trans e6) b6 ⟨x,nv.ext b5 e6,iv,bv⟩⟩
    ·have ha6:=(e5.trans e6) _ _ na ha4
     refine ⟨.inl ⟨rfl,_,SqL.of ha6⟩,p,0,rfl,hp,fun v0 H7 s7 n0=>?_⟩
     have ha7:=s7 _ _ ha6
     exact ⟨xs,ha7,hsz,_,_,⟨rfl,rfl⟩,step v0 H7 ((e5.trans e6).trans s7.ext) (b6.same s7) ⟨_,n0,isn_int hp.lo,bd_int0 hp⟩⟩
   ·rintro σ H4 ⟨u8,u9,xs,rfl,e4,b4,hr4,hro4,ha4,hlx,hnx⟩
    walk_at "wp"
    refine ⟨.inl ⟨rfl,_,SqL.of hr4⟩,_,hr4,Za4 (by rw [Jac]; omega),_,_,_,_,⟨rfl,rfl,rfl,rfl⟩,e4.upd fr,b4.new nr,rs ++ [a],?_,?_,?_,by rw [Jab,hln]; rfl,?_⟩
    ·intro b hbm
     rcases Ja4.mp hbm with h | h
     ·exact hf b h
     ·rw [Jar.mp h]; exact fa
    ·intro z
     rcases Ja4.mp z with h | h
     ·exact nm h
     ·exact nar (Jar.mp h)
    ·rw [Zac,Zif]
    ·intro b hbm
     rcases Ja4.mp hbm with h | h
     ·exact (hro4 b h).put hr4 (fun z=>nm (z ▸ h))
     ·rw [Jar.mp h]
      exact RowO.put ⟨xs,ha4,by omega,hnx⟩ hr4 nar.symm
  ·rintro σ H3 ⟨v6,v7,v8,v9,rs,rfl,e3,b3,hf,nm,hr3,hln,hro⟩
   exact ⟨_,rfl,q r rs H3 e3 b3 fr hf nm hr3 (by omega) hro⟩
theorem Zow {a D:Addr} {xs:List V} {fr:List (Str × Nat)} {σ:L2.St} {te:TE} {H1:Hp} {Q:VK} (R:Hp->V->Prop) (hS:∀ {H H' y},R H y->Same H H'->R H' y) (hP:∀ {H y l o},R H y->H D = some (.lst l)->R (upd H D o) y)
  (ha:H1 a = some (.lst xs)) (hD:H1 D = none) (hn:xs.length<=1000)
  (h:∀ (i:Nat) x H (Q:VK),xs[i]? = some x->Same H1 H->(∀ y H',Same H H'->R H' y->Q y H')->te (some x :: Zby fr σ) H Q)
  (hQ:∀ ys H',Same H1 H'->H' D = some (.lst ys)->ys.length = xs.length->(∀ y ∈ ys,R H' y)->Q (.ref D) H'):Zbo (Zce 0) Zgk te (Itl K a) D (Zfh 1 fr σ) H1 Q:=by
 refine Zfs (xs:=xs) (fun i vs H=>Same H1 H/\H D = some (.lst vs)/\vs.length = i/\∀ y ∈ vs,R H y) ⟨Same.new hD,Zac,rfl,by simp⟩ (fun i vs H _ p=>SqL.of (p.1 _ _ ha)) ?_ (fun vs H ⟨s,e,hl,hr⟩=>hQ vs H s e hl hr)
 rintro i x vs σ' H hi hx sh ⟨s,e,hl,hr⟩
 obtain ⟨z,rfl⟩:=sh.one
 simp only [Zff,Zce,Zgk,List.set_cons_zero,if_true]
 refine h i x H _ hx s fun y H' s' ry=>?_
 refine Zpf (ws:=vs ++ [y]) hi Sh.mk1 (s' _ _ e) (Za4 (by omega)) ⟨(s.trans s').upd hD,Zac,by rw [Jab,hl]; rfl,fun u hu=>?_⟩
 rcases Ja4.mp hu with hu | hu
 ·exact hP (hS (hr u hu) s') (s' _ _ e)
 ·rw [Jar.mp hu]; exact hP ry (s' _ _ e)
theorem Zk3 {a b D:Addr} {xs ys:List V} {fr:List (Str × Nat)} {σ:L2.St} {te:TE} {H1:Hp} {Q:VK} (R:Hp->V->Prop) (hS:∀ {H H' y},R H y->Same H H'->R H' y) (hP:∀ {H y l o},R H y->H D = some (.lst l)->R (upd H D o) y)
  (ha:H1 a = some (.lst xs)) (hb:H1 b = some (.lst ys)) (hlen:ys.length = xs.length) (hD:H1 D = none) (hn:xs.length<=1000)
  (h:∀ (i:Nat) x y H (Q:VK),xs[i]? = some x->ys[i]? = some y->Same H1 H->(∀ u H',Same H H'->R H' u->Q u H')->te (some x :: some y :: Zby fr σ) H Q)
  (hQ:∀ zs H',Same H1 H'->H' D = some (.lst zs)->zs.length = xs.length->(∀ y ∈ zs,R H' y)->Q (.ref D) H'):Zbo (gTup K 2 (Zkx (Zce 0) (Zkx (Zce 1) gNil))) Zgk te (Itz K a b) D (Zfh 2 fr σ) H1 Q:=by
 refine Zox (xs:=xs) (ys:=ys) (fun i vs H=>Same H1 H/\H D = some (.lst vs)/\vs.length = i/\∀ y ∈ vs,R H y) hlen ⟨Same.new hD,Zac,rfl,by simp⟩ (fun i vs H _ p=>⟨SqL.of (p.1 _ _ ha),SqL.of (p.1 _ _ hb)⟩) ?_ (fun vs H ⟨s,e,hl,hr⟩=>hQ vs H s e hl hr)
 rintro i x y p vs σ' H hi hx hy hp sh ⟨s,e,hl,hr⟩
 obtain ⟨z1,z2,rfl⟩:=sh.two
 have s0:=Same.new (o:=.tup [x,y]) hp
 refine ⟨p,_,rfl,SqT.of Zac,rfl,_,_,rfl,_,_,rfl,rfl,?_⟩
 simp only [Zgk,List.set_cons_zero,List.set_cons_succ,if_true]
 refine h i x y _ _ hx hy (s.trans s0) fun u H' s' ru=>?_
 have s1:=s0.trans s'
 refine Zpf (ws:=vs ++ [u]) hi Sh.mk2 (s1 _ _ e) (Za4 (by omega)) ⟨(s.trans s1).upd hD,Zac,by rw [Jab,hl]; rfl,fun v hv=>?_⟩
 rcases Ja4.mp hv with hv | hv
 ·exact hP (hS (hr v hv) s1) (s1 _ _ e)
 ·rw [Jar.mp hv]; exact hP ru (s1 _ _ e)
abbrev BB:Nat:=20000000000000000
theorem Zhm {n:Nat} (h:0 < n):ixN n (-1) = some (n - 1):=by
 unfold ixN
 rw [if_neg (by omega),if_pos (by omega)]
 congr 1
 omega
theorem Zjs (rs:List Addr) (j:Nat) (a:Addr):(rs.map V.ref).set j (.ref a) = (rs.set j a).map V.ref:=(List.map_set).symm
theorem Zhp {rs:List Addr} {j:Nat} (h:j < rs.length):(rs.map V.ref)[j]? = some (.ref rs[j]):=by rw [Jas,Jaa h]; rfl
theorem Zm9 {rs:List Addr} (h:0 < rs.length):atI (rs.map V.ref) (-1) = some (.ref (rs[rs.length - 1]'(by omega))):=by
 unfold atI
 rw [Jac,Zhm h]
 exact Zhp (by omega)
structure Tab (H:Hp) (p:Int) (hh wd:Int) (t r:Addr) (rs:List Addr):Prop where
 tup:H t = some (.tup [.int hh,.int wd,.ref r])
 lst:H r = some (.lst (rs.map V.ref))
 len:(rs.length:Int) = hh
 row:∀ a ∈ rs,RowO H p BB wd a
 nin:r ∉ rs
def spTb:Sp:=fun vs H Q _=>∃ (l:Addr) (p hh wd:Int),vs = [.ref l,.int p,.int hh,.int wd]/\Bag H l/\GroundP p/\0<=hh/\hh<=24/\0<=wd/\wd<=24 /\
 ∀ (t r:Addr) (rs:List Addr) (H':Hp),Ext l H H'->Bag H' l->H t = none->H r = none->(∀ a ∈ rs,H a = none)->Tab H' p hh wd t r rs->Q (.ref t) H'
theorem ok_tb {f:Addr} {fd:FuncData} (F:Fun K "_law_table" "_law_table" Zb1 f fd) (T:Txt K mg C Dg) (C_law_rows:Cal P w K mg base "_law_rows" 4 Zll) (C_law_draw:Cal P w K mg base "_law_draw" 1 Zdl) (C_law_number:Cal P w K mg base "_law_number" 3 Zno) (C_law_mul:Cal P w K mg base "_law_mul" 3 (spOp Zd6)) (C_law_add:Cal P w K mg base "_law_add" 3 (spOp Zgl)):FnOk P w K mg base CX0 5 f fd ["_law_bag_here","_law_p","_law_high","_law_wide"] spTb:=by
 have nd:=Ze5.nd
 refine F.ok Ze5 (fun vs H Q E h=>?_) (fun cdv A outer s H vs Q E hr h=>?_)
 ·obtain ⟨l,p,hh,wd,rfl,_⟩:=h
  rfl
 ·obtain ⟨l,p,hh,wd,rfl,hb,hp,h0,h24,w0,w24,q⟩:=h
  refine ⟨_,((Zam (i:=4) nd rfl (Or.inl rfl) (Zbb C_law_rows hr.m rfl ((pv 0)<&>((pv 1)<&>((pv 2)<&>((pv 3)<&>Zaa))))))<*>((@Za1 _ _ _ _ _ _ _ _ (PW.pt (Zlt (Zae Zem (pv 2) Zab (Zak _)) (Zi8 (Zae Zdj (Zbb C_law_draw hr.m rfl ((pv 0)<&>(Zab<&>Zaa))) Zab (Zak _))))) ((Zam (i:=5) nd rfl (Or.inr rfl) (Zbb C_law_number hr.m rfl ((pv 0)<&>((pv 1)<&>Zaa))))<*>((Zf9 (Zcd (own:=["_law_number_here"]) (fr:=[("_law_p",1),("_law_a",5)]) rfl (Zet (by kernel_rfl)) (Zcc (Zaw<|>(pv 4)<||>Zab)) (fun _ _ _ _=>⟨(@Zap _ _ 0 _ (show (["_law_number_here","_law_p","_law_a"]:List Str).Nodup by decide +kernel) rfl (Or.inl rfl) (Or.inr rfl)),Zbw,(Zbb C_law_mul hr.m rfl ((pv 1)<&>((pv 2)<&>((pv 0)<&>Zaa))))⟩)) (Zjv (pv 4) (Zgm Zd5 Zab) Zfm))<*>(@Zav _ _ _ (@Za1 _ _ _ _ _ _ _ _ (PW.pt (Zlt (Zae Zem (pv 2) Zab (Zak _)) (Zi8 (Zae Zdj (Zbb C_law_draw hr.m rfl ((pv 0)<&>(Zab<&>Zaa))) Zab (Zak _))))) (@Zav _ _ _ (Zf9 (Zcd (own:=["_law_b","_law_c"]) (fr:=[("_law_p",1)]) rfl (Zet (by kernel_rfl)) (pi_zip rfl T.n_zip ((Zaw<|>(pv 4)<||>(Zgm Zd5 Zab))<&>((Zaw<|>(pv 4)<||>Zab)<&>Zaa))) (fun _ _ _ _=>⟨(@Zlz _ K rfl _ _ _ _ 2 rfl (@Zbg _ _ _ _ _ (@Zap _ _ 0 _ (show (["_law_b","_law_c","_law_p"]:List Str).Nodup by decide +kernel) rfl (Or.inl rfl) (Or.inr rfl)) (@Zbg _ _ _ _ _ (@Zap _ _ 1 _ (show (["_law_b","_law_c","_law_p"]:List Str).Nodup by decide +kernel) rfl (Or.inl rfl) (Or.inr rfl)) (@Zev _) (by rfl)) (by rfl)) (by rfl) (by rfl)),Zbw,(Zbb C_law_add hr.m rfl ((pv 2)<&>((pv 0)<&>((pv 1)<&>Zaa))))⟩)) (Zjv (pv 4) (Zgm Zd5 Zab) Zfm))) Zal)))) Zal)<*>(~~~(@Zcg _ _ _ _ _ ((pv 2)<&>((pv 3)<&>((pv 4)<&>Zaa))))))),?_⟩
  walk_at "wp"
  refine ⟨l,p,hh,wd,rfl,hb,hp,h0,h24,w0,w24,fun r rs H1 e1 b1 fr hf nin hr1 hln hro=>?_⟩
  have nr:r ≠ l:=hb.ne fr
  have fin:∀ (H2:Hp) (rs2:List Addr),Ext l H H2->Bag H2 l->H2 r = some (.lst (rs2.map V.ref))->(rs2.length:Int) = hh->(∀ a ∈ rs2,RowO H2 p BB wd a)->r ∉ rs2->(∀ a ∈ rs2,H a = none)->
    (3<=sizeLine/\∀ t,H2 t = none->Q (.ref t) (upd H2 t (.tup [.int hh,.int wd,.ref r]))):=by
   intro H2 rs2 e2 b2 hr2 hl2 hro2 nin2 hf2
   refine ⟨by decide,fun t ht=>?_⟩
   have nt:=b2.ne ht
   exact q t r rs2 _ (e2.trans (Ext.new ht)) (b2.new nt) (e2.free nt ht) fr hf2 ⟨Zac,by rw [Zah (Zai hr2 ht)]; exact hr2,hl2,fun a ha=>(hro2 a ha).same (Same.new ht),nin2⟩
  have hroB:∀ H2,Ext l H1 H2->∀ B:Nat,10000<=B->∀ a ∈ rs,RowO H2 p B wd a:=fun H2 e2 B hB a ha=>((hro a ha).ext b1 e2 (hb.ne (hf a ha))).weak hB
  refine Zb9 (fun hc1=>?_) (fun _=>fin H1 rs e1 b1 hr1 hln (hroB H1 (Ext.refl _ _) BB (by decide)) nin hf)
  have hc1:=Jah hc1
  refine b1.draw (by decide) (by decide) fun z H2 z0 z1 e2 b2=>⟨rfl,Zb9 (fun _=>?_) (fun _=>fin H2 rs (e1.trans e2) b2 (e2 _ _ nr hr1) hln (hroB H2 e2 BB (by decide)) nin hf)⟩
  refine ⟨l,p,rfl,b2,hp,fun va x H3 e3 b3 na ia ba=>?_⟩
  have hr3:=(e2.trans e3) _ _ nr hr1
  have hro3:=hroB H3 (e2.trans e3) 10000 (by decide)
  have hn0:0 < rs.length:=by omega
  obtain ⟨xs0,hx0,lx0,nx0⟩:=hro3 (rs[0]) (Jba hn0)
  refine ⟨_,rfl,r,_,0,_,rfl,rfl,SqL.of hr3,Zeb (by decide) (Zhp hn0),_,rfl,⟨_,SqL.of hx0⟩,fun D hD=>Zow (fun H y=>NumO H p 100000000 y) (fun h s=>h.same s) (fun h e=>h.put e) hx0 hD (by omega) (fun i y H' Q' hy s' q'=>?_) fun ys H4 s4 hD4 ly hys=>?_⟩
  ·obtain ⟨xy,ny,iy,byy⟩:=nx0 y (Jal hy)
   exact ⟨_,rfl,_,rfl,_,rfl,p,va,y,x,xy,rfl,hp,⟨na.same s',ny.same s',ia,iy,10000,10000,ba,byy,by decide⟩,fun v H5 s5 n5=>q' v H5 s5 ⟨_,n5,Zih hp.lo ia iy,Zo4 hp ia iy ba byy (by decide)⟩⟩
  have hr4:=s4 _ _ hr3
  have nDl:D ≠ l:=b3.ne hD
  have fD:H D = none:=((e1.trans e2).trans e3).free nDl hD
  have nDr:r ≠ D:=Zai hr3 hD
  refine ⟨r,rfl,_,hr4,_,Zhm (by rw [Jac]; exact hn0),?_⟩
  rw [Jac,Zjs]
  have b4:=b3.same s4
  have e4:Ext l H H4:=((e1.trans e2).trans e3).trans s4.ext
  have e5:Ext l H (upd H4 r (.lst ((rs.set (rs.length - 1) D).map V.ref))):=e4.upd fr
  have b5:Bag (upd H4 r (.lst ((rs.set (rs.length - 1) D).map V.ref))) l:=b4.new nr
  have ro5:∀ a ∈ rs.set (rs.length - 1) D,RowO (upd H4 r (.lst ((rs.set (rs.length - 1) D).map V.ref))) p 100000000 wd a:=fun a ha=>by
   rcases Jbu ha with ha | rfl
   ·exact (((hro3 a ha).same s4).weak (by decide)).put hr4 (fun z=>nin (z ▸ ha))
   ·exact RowO.put ⟨ys,hD4,by omega,hys⟩ hr4 nDr.symm
  have nin5:r ∉ rs.set (rs.length - 1) D:=fun z=>by
   rcases Jbu z with z | z
   ·exact nin z
   ·exact nDr z
  have hf5:∀ a ∈ rs.set (rs.length - 1) D,H a = none:=fun a ha=>by
   rcases Jbu ha with ha | rfl
   ·exact hf a ha
   ·exact fD
  have ln5:((rs.set (rs.length - 1) D).length:Int) = hh:=by rw [Jct]; exact hln
  have r5:(upd H4 r (.lst ((rs.set (rs.length - 1) D).map V.ref))) r = some (.lst ((rs.set (rs.length - 1) D).map V.ref)):=Zac
  generalize upd H4 r (.lst ((rs.set (rs.length - 1) D).map V.ref)) = H5 at *
  generalize rs.set (rs.length - 1) D = rs5 at *
  refine Zb9 (fun hc2=>?_) (fun _=>fin H5 rs5 e5 b5 r5 ln5 (fun a ha=>(ro5 a ha).weak (by decide)) nin5 hf5)
  have hc2:=Jah hc2
  refine b5.draw (by decide) (by decide) fun z2 H6 _ _ e6 b6=>⟨rfl,Zb9 (fun _=>?_) (fun _=>fin H6 rs5 (e5.trans e6) b6 (e6 _ _ nr r5) ln5 (fun a ha=>((ro5 a ha).ext b5 e6 (hb.ne (hf5 a ha))).weak (by decide)) nin5 hf5)⟩
  have r6:=e6 _ _ nr r5
  have ro6:∀ a ∈ rs5,RowO H6 p 100000000 wd a:=fun a ha=>(ro5 a ha).ext b5 e6 (hb.ne (hf5 a ha))
  have hn5:0 < rs5.length:=by omega
  have hn1:1 < rs5.length:=by omega
  obtain ⟨xa,hxa,lxa,nxa⟩:=ro6 (rs5[rs5.length - 1]'(by omega)) (Jba _)
  obtain ⟨xb,hxb,lxb,nxb⟩:=ro6 (rs5[1]) (Jba hn1)
  refine ⟨_,rfl,_,rfl,r,_,-1,_,rfl,rfl,SqL.of r6,Zm9 hn5,_,rfl,r,_,1,_,rfl,rfl,SqL.of r6,Zeb (by decide) (Zhp hn1),_,_,rfl,⟨_,SqL.of hxa⟩,⟨_,SqL.of hxb⟩,fun D2 hD2=>Zk3 (fun H y=>NumO H p BB y) (fun h s=>h.same s) (fun h e=>h.put e) hxa hxb (by omega) hD2 (by omega) (fun i y u H' Q' hy hu s' q'=>?_) fun ys2 H7 s7 hD7 ly2 hys2=>?_⟩
  ·obtain ⟨xy,ny,iy,byy⟩:=nxa y (Jal hy)
   obtain ⟨xu,nu,iu,bu⟩:=nxb u (Jal hu)
   exact ⟨_,rfl,_,rfl,_,rfl,p,y,u,xy,xu,rfl,hp,⟨ny.same s',nu.same s',iy,iu,100000000,100000000,byy,bu,by decide⟩,fun v H8 s8 n8=>q' v H8 s8 ⟨_,n8,Zj7 hp.lo iy iu,bd_plus hp iy iu byy bu (by decide)⟩⟩
  have r7:=s7 _ _ r6
  have nDl2:D2 ≠ l:=b6.ne hD2
  have fD2:H D2 = none:=(e5.trans e6).free nDl2 hD2
  have nDr2:r ≠ D2:=Zai r6 hD2
  refine ⟨r,rfl,_,r7,_,Zhm (by rw [Jac]; exact hn5),?_⟩
  rw [Jac,Zjs]
  refine fin _ (rs5.set (rs5.length - 1) D2) (((e5.trans e6).trans s7.ext).upd fr) ((b6.same s7).new nr) Zac (by rw [Jct]; exact ln5) (fun a ha=>?_) (fun z=>?_) (fun a ha=>?_)
  ·rcases Jbu ha with ha | rfl
   ·exact (((ro6 a ha).same s7).weak (by decide)).put r7 (fun z=>nin5 (z ▸ ha))
   ·exact RowO.put ⟨ys2,hD7,by omega,hys2⟩ r7 nDr2.symm
  ·rcases Jbu z with z | z
   ·exact nin5 z
   ·exact nDr2 z
  ·rcases Jbu ha with ha | rfl
   ·exact hf5 a ha
   ·exact fD2
abbrev Nv:=Int × Int
abbrev Mv:=List (List Nv)
def All2 {α β:Type} (P:α->β->Prop) (xs:List α) (ys:List β):Prop:=xs.length = ys.length/\∀ (i:Nat) x y,xs[i]? = some x->ys[i]? = some y->P x y
theorem All2.nil {α β:Type} {P:α->β->Prop}:All2 P [] []:=⟨rfl,fun i x y e=>by simp at e⟩
theorem All2.app {α β:Type} {P:α->β->Prop} {xs xs':List α} {ys ys':List β} (h:All2 P xs ys) (h':All2 P xs' ys'):All2 P (xs ++ xs') (ys ++ ys'):=⟨by rw [Jab,Jab,h.1,h'.1],fun i x y e1 e2=>by
 have hl:=h.1
 by_cases hi:i < xs.length
 ·rw [Jbh hi] at e1
  rw [Jbh (by omega)] at e2
  exact h.2 i x y e1 e2
 ·rw [Jbp (by omega)] at e1 e2
  rw [<- hl] at e2
  exact h'.2 _ x y e1 e2⟩
theorem All2.one {α β:Type} {P:α->β->Prop} {x:α} {y:β} (h:P x y):All2 P [x] [y]:=⟨rfl,fun i a b e1 e2=>by
 cases i with
 | zero=>cases e1; cases e2; exact h
 | succ i=>simp at e1⟩
theorem All2.mono {α β:Type} {P P':α->β->Prop} {xs:List α} {ys:List β} (h:All2 P xs ys) (k:∀ x y,P x y->P' x y):All2 P' xs ys:=⟨h.1,fun i x y e1 e2=>k x y (h.2 i x y e1 e2)⟩
theorem All2.set {α β:Type} {P:α->β->Prop} {xs:List α} {ys:List β} (h:All2 P xs ys) (n:Nat) {x:α} {y:β} (hp:P x y):All2 P (xs.set n x) (ys.set n y):=⟨by rw [Jct,Jct,h.1],fun i a b e1 e2=>by
 rw [List.getElem?_set] at e1 e2
 by_cases hi:n = i
 ·rw [if_pos hi] at e1 e2
  split at e1
  ·split at e2
   ·cases e1; cases e2; exact hp
   ·cases e2
  ·cases e1
 ·rw [if_neg hi] at e1 e2
  exact h.2 i a b e1 e2⟩
theorem All2.at {α β:Type} {P:α->β->Prop} {xs:List α} {ys:List β} (h:All2 P xs ys) {i:Nat} {y:β} (e:ys[i]? = some y):∃ x,xs[i]? = some x/\P x y:=by
 have hi:i < ys.length:=(Jat.mp e).1
 have hx:xs[i]? = some (xs[i]'(by have:=h.1; omega)):=Jaa _
 exact ⟨_,hx,h.2 i _ y hx e⟩
theorem All2.at' {α β:Type} {P:α->β->Prop} {xs:List α} {ys:List β} (h:All2 P xs ys) {i:Nat} {x:α} (e:xs[i]? = some x):∃ y,ys[i]? = some y/\P x y:=by
 have hi:i < xs.length:=(Jat.mp e).1
 have hy:ys[i]? = some (ys[i]'(by have:=h.1; omega)):=Jaa _
 exact ⟨_,hy,h.2 i x _ e hy⟩
theorem All2.pick {α β:Type} {P:α->β->Prop}:∀ {xs:List α},(∀ x ∈ xs,∃ y,P x y)->∃ ys,All2 P xs ys
 | [],_=>⟨[],All2.nil⟩
 | x :: xs,h=>by
  obtain ⟨y,hy⟩:=h x (by simp)
  obtain ⟨ys,hys⟩:=All2.pick (xs:=xs) fun z hz=>h z (by simp [hz])
  exact ⟨y :: ys,(All2.one hy).app hys⟩
def RowV (H:Hp) (p:Int) (a:Addr) (xs:List Nv):Prop:=∃ vs,H a = some (.lst vs)/\All2 (NumV H p) vs xs
theorem RowV.same {H H':Hp} {p:Int} {a:Addr} {xs:List Nv} (h:RowV H p a xs) (s:Same H H'):RowV H' p a xs:=let ⟨vs,h1,h2⟩:=h; ⟨vs,s _ _ h1,h2.mono fun _ _ k=>k.same s⟩
structure TabV (H:Hp) (p hh wd:Int) (t r:Addr) (rs:List Addr) (M:Mv):Prop where
 tup:H t = some (.tup [.int hh,.int wd,.ref r])
 lst:H r = some (.lst (rs.map V.ref))
 row:All2 (RowV H p) rs M
 nin:r ∉ rs
theorem TabV.same {H H':Hp} {p hh wd:Int} {t r:Addr} {rs:List Addr} {M:Mv} (h:TabV H p hh wd t r rs M) (s:Same H H'):TabV H' p hh wd t r rs M:=⟨s _ _ h.tup,s _ _ h.lst,h.row.mono fun _ _ k=>k.same s,h.nin⟩
def Shp (hh wd:Int) (M:Mv):Prop:=(M.length:Int) = hh/\∀ row ∈ M,(row.length:Int) = wd
def Znf (p:Int) (B:Nat) (M:Mv):Prop:=∀ row ∈ M,∀ x ∈ row,Isn p x/\Bd B x
theorem Tab.byV {H:Hp} {p hh wd:Int} {t r:Addr} {rs:List Addr} (h:Tab H p hh wd t r rs):∃ M,TabV H p hh wd t r rs M/\Shp hh wd M/\Znf p BB M:=by
 obtain ⟨M,hM⟩:=All2.pick (P:=fun a xs=>RowV H p a xs/\(xs.length:Int) = wd/\∀ x ∈ xs,Isn p x/\Bd BB x) (xs:=rs) fun a ha=>by
  obtain ⟨vs,h1,h2,h3⟩:=h.row a ha
  obtain ⟨xs,hxs⟩:=All2.pick (P:=fun v x=>NumV H p v x/\Isn p x/\Bd BB x) (xs:=vs) fun v hv=>h3 v hv
  refine ⟨xs,⟨vs,h1,hxs.mono fun _ _ k=>k.1⟩,by rw [<- hxs.1]; exact h2,fun x hx=>?_⟩
  obtain ⟨j,hj,rfl⟩:=Ja1.mp hx
  obtain ⟨v,_,hv⟩:=hxs.at (Jaa hj)
  exact hv.2
 have at':∀ row ∈ M,∃ a,RowV H p a row/\(row.length:Int) = wd/\∀ x ∈ row,Isn p x/\Bd BB x:=fun row hr=>by
  obtain ⟨j,hj,rfl⟩:=Ja1.mp hr
  obtain ⟨a,_,ha⟩:=hM.at (Jaa hj)
  exact ⟨a,ha⟩
 exact ⟨M,⟨h.tup,h.lst,hM.mono fun _ _ k=>k.1,h.nin⟩,⟨by rw [<- hM.1]; exact h.len,fun row hr=>let ⟨_,_,b,_⟩:=at' row hr; b⟩,fun row hr=>let ⟨_,_,_,c⟩:=at' row hr; c⟩
theorem Zho {H:Hp} {n:Nat} {i:Int}:EqD K H n (.int i) (.int i) true:=by
 have:=EqD.flat (K:=K) (H:=H) (n:=n) (x:=.int i) (y:=.int i) rfl rfl
 rwa [show eqV (.int i) (.int i) = true by simp [eqV]] at this
theorem Zhb (n:Nat):(List.replicate n true).all id = true:=by simp
theorem list_eq {H:Hp} {n:Nat} {a c:Addr} {xs ys:List V} (ha:H a = some (.lst xs)) (hc:H c = some (.lst ys)) (hl:xs.length = ys.length) (he:∀ (j:Nat) x y,xs[j]? = some x->ys[j]? = some y->EqD K H n x y true):EqD K H (n + 1) (.ref a) (.ref c) true:=by
 by_cases h:a = c
 ·subst h; exact EqD.same
 ·have:=EqD.list (bs:=List.replicate xs.length true) h (SqL.of ha) (SqL.of hc) hl Jbl (fun j x y b e1 e2 e3=>by
   rw [Jb0] at e3
   split at e3
   ·cases e3; exact he j x y e1 e2
   ·cases e3)
  rwa [Zhb] at this
theorem tup_eq {H:Hp} {n:Nat} {a c:Addr} {xs ys:List V} (ha:H a = some (.tup xs)) (hc:H c = some (.tup ys)) (hl:xs.length = ys.length) (he:∀ (j:Nat) x y,xs[j]? = some x->ys[j]? = some y->EqD K H n x y true):EqD K H (n + 1) (.ref a) (.ref c) true:=by
 by_cases h:a = c
 ·subst h; exact EqD.same
 ·have:=EqD.tuple (bs:=List.replicate xs.length true) h (SqT.of ha) (SqT.of hc) hl Jbl (fun j x y b e1 e2 e3=>by
   rw [Jb0] at e3
   split at e3
   ·cases e3; exact he j x y e1 e2
   ·cases e3)
  rwa [Zhb] at this
theorem Zoj {H:Hp} {n:Nat} {xs ys:List V} (hl:xs.length = ys.length) (he:∀ (j:Nat) x y,xs[j]? = some x->ys[j]? = some y->EqD K H n x y true):Zhv K H n xs ys (List.replicate xs.length true):=
 ⟨hl,Jbl,fun j x y b e1 e2 e3=>by
  rw [Jb0] at e3
  split at e3
  ·cases e3; exact he j x y e1 e2
  ·cases e3⟩
theorem all2_eq {α:Type} {H:Hp} {n:Nat} {R R':V->α->Prop} {vs us:List V} {xs:List α} (h:All2 R vs xs) (h':All2 R' us xs) (k:∀ v u x,R v x->R' u x->EqD K H n v u true):vs.length = us.length/\∀ (j:Nat) v u,vs[j]? = some v->us[j]? = some u->EqD K H n v u true:=
 ⟨h.1.trans h'.1.symm,fun j v u e1 e2=>by
  obtain ⟨x,ex,hx⟩:=h.at' e1
  exact k v u x hx (h'.2 j u x e2 ex)⟩
theorem Zne {α:Type} {R:Addr->α->Prop} {rs:List Addr} {xs:List α} (h:All2 R rs xs):All2 (fun v x=>∃ a,v = .ref a/\R a x) (rs.map V.ref) xs:=⟨by rw [Jac]; exact h.1,fun i v x e1 e2=>by
 rw [Jas] at e1
 cases e:rs[i]? with
 | none=>rw [e] at e1; cases e1
 | some a=>rw [e] at e1; cases e1; exact ⟨a,rfl,h.2 i a x e e2⟩⟩
theorem Zhr {a D:Addr} {xs:List V} {fr:List (Str × Nat)} {σ:L2.St} {te:TE} {H1:Hp} {Q:VK} (R:Nat->Hp->V->Prop) (hS:∀ {i H H' y},R i H y->Same H H'->R i H' y) (hP:∀ {i H y l o},R i H y->H D = some (.lst l)->R i (upd H D o) y)
  (ha:H1 a = some (.lst xs)) (hD:H1 D = none) (hn:xs.length<=1000)
  (h:∀ (i:Nat) x H (Q:VK),xs[i]? = some x->Same H1 H->(∃ l,H D = some (.lst l))->(∀ y H',Same H H'->R i H' y->Q y H')->te (some x :: Zby fr σ) H Q)
  (hQ:∀ ys H',Same H1 H'->H' D = some (.lst ys)->ys.length = xs.length->(∀ (i:Nat) y,ys[i]? = some y->R i H' y)->Q (.ref D) H'):Zbo (Zce 0) Zgk te (Itl K a) D (Zfh 1 fr σ) H1 Q:=by
 refine Zfs (xs:=xs) (fun i vs H=>Same H1 H/\H D = some (.lst vs)/\vs.length = i/\∀ (j:Nat) y,vs[j]? = some y->R j H y) ⟨Same.new hD,Zac,rfl,fun j y e=>by simp at e⟩ (fun i vs H _ p=>SqL.of (p.1 _ _ ha)) ?_ (fun vs H ⟨s,e,hl,hr⟩=>hQ vs H s e hl hr)
 rintro i x vs σ' H hi hx sh ⟨s,e,hl,hr⟩
 obtain ⟨z,rfl⟩:=sh.one
 simp only [Zff,Zce,Zgk,List.set_cons_zero,if_true]
 refine h i x H _ hx s ⟨_,e⟩ fun y H' s' ry=>?_
 refine Zpf (ws:=vs ++ [y]) hi Sh.mk1 (s' _ _ e) (Za4 (by omega)) ⟨(s.trans s').upd hD,Zac,by rw [Jab,hl]; rfl,fun j u hu=>?_⟩
 by_cases hj:j < vs.length
 ·rw [Jbh hj] at hu
  exact hP (hS (hr j u hu) s') (s' _ _ e)
 ·rw [Jbp (by omega)] at hu
  have hj0:j - vs.length = 0:=by
   by_cases z:j - vs.length = 0
   ·exact z
   ·rw [Jbf (by simp; omega)] at hu; cases hu
  rw [hj0] at hu
  cases hu
  rw [show j = i by omega]
  exact hP ry (s' _ _ e)
theorem Zgg {α:Type} {xs:List α} {i:Nat} {x d:α} (h:xs[i]? = some x):xs.getD i d = x:=by rw [Jau,h]; rfl
theorem str_int (a:Int):Str.ofString (toString a) = mkS (tI a):=by rw [<- Zi5]; rfl
theorem Zas (a b:List Nat):mkS a ++ mkS b = mkS (a ++ b):=by
 show (⟨a.toArray ++ b.toArray⟩:Str) = ⟨(a ++ b).toArray⟩
 simp
theorem Zao (a:List Nat):(mkS a).length = a.length:=by rw [<- Zbz]; rfl
theorem Zo6 {a:Int} (h:a.natAbs < 10 ^ 31):(tI a).length<=32:=by
 have:=Zlf 30 (n:=a.natAbs) h
 unfold tI
 split
 ·rw [Jap]; omega
 ·omega
def Ziy (p:Int) (x:Nv):List Nat:=if p = 0 then (if x.2 = 1 then tI x.1 else tI x.1 ++ 47 :: tI x.2) else tI x.1
theorem Zjp {p:Int} {x:Nv} (h:Bd BB x):(Ziy p x).length<=65:=by
 have h1:=Zo6 (a:=x.1) (Jbe h.1 (by decide +kernel))
 have h2:=Zo6 (a:=x.2) (Jbe h.2 (by decide +kernel))
 unfold Ziy
 split
 ·split
  ·omega
  ·rw [Jab,Jap]; omega
 ·omega
theorem low2 {a:Int} (h:a.natAbs < 10 ^ 60):a.natAbs.log2 < 1920:=by
 by_cases h0:a.natAbs = 0
 ·rw [h0]; decide
 ·exact (Nat.log2_lt h0).mpr (Nat.lt_trans h (by decide +kernel))
theorem slc {n:Nat} (h:n<=1000):n<=sizeLine:=Jcb (Za4 h)
theorem Zio {a D:Addr} {xs:List V} {fr:List (Str × Nat)} {σ:L2.St} {te:TE} {H1:Hp} {Q:VK} (g:Nat->Str) (ha:H1 a = some (.lst xs)) (hD:H1 D = none) (hn:xs.length<=1000)
  (h:∀ (i:Nat) x H (Q:VK),xs[i]? = some x->Same H1 H->(∀ H',Same H H'->Q (.str (g i)) H')->te (some x :: Zby fr σ) H Q)
  (hQ:∀ H',Same H1 H'->H' D = some (.lst (((List.range xs.length).map g).map V.str))->Q (.ref D) H'):Zbo (Zce 0) Zgk te (Itl K a) D (Zfh 1 fr σ) H1 Q:=
 Zhr (fun i _ y=>y = .str (g i)) (fun r _=>r) (fun r _=>r) ha hD hn (fun i x H Q hx s _ k=>h i x H Q hx s fun H' s'=>k _ H' s' rfl) (fun ys H' s e hl hr=>hQ H' s (by
  rw [e]
  congr 2
  apply Jcz
  intro i
  by_cases hi:i < xs.length
  ·rw [Jaa (by omega),hr i _ (Jaa (by omega)),Jas,Jas,Jdh hi]
   rfl
  ·rw [Jbf (by omega),Jbf (by simp; omega)]))
theorem Zdg {a:Int} (h:a.natAbs < 10 ^ 60):(tI a).length<=61:=by
 have:=Zlf 59 (n:=a.natAbs) h
 unfold tI
 split
 ·rw [Jap]; omega
 ·omega
def spShP:Sp:=fun vs H Q _=>∃ n:Int,vs = [.int n]/\0<=n/\n.natAbs < 10 ^ 60/\∀ H',Same H H'->Q (.str (mkS (tI n))) H'
theorem Zn9 {f:Addr} {fd:FuncData} (F:Fun K "show_whole" "show_whole" Zbh f fd) (T:Txt K mg C Dg):FnOk P w K mg base CX0 1 f fd ["number"] spShP:=by
 have nd:=Zcj.nd
 refine F.ok Zcj (fun vs H Q E h=>?_) (fun cdv A outer s H vs Q E hr h=>?_)
 ·obtain ⟨n,rfl,_⟩:=h
  rfl
 ·obtain ⟨n,rfl,n0,n1,q⟩:=h
  refine ⟨_,((@Za1 _ _ _ _ _ _ _ _ (Zae Zfg (pv 0) Zab (Zak _)) (@Zav _ _ _ Zdi) Zal)<*>((Zam (i:=1) nd rfl (Or.inl rfl) (@Zbm _ _ _ _ Zaa))<*>((Zhe Jbm (Zae op_ge (pv 0) (Zl6<|>Zab<&&>Zab) (Zak _)) (Zdi<*>(@Zav _ _ _ Zdi)))<*>(~~~(Zan<|>(Zd4 Za5 rfl T.n_str Jdw ((pv 0)<&>Zaa))<&&>(Zdp Jaz Jbx Jby Zex Zaf ((Zl0 K rfl (pv 1) (Zgm Zd5 Zab) (fun _ _ _ q=>⟨1,rfl,q⟩))<&>Zaa))))))),?_⟩
  walk_at "wp"
  have big:¬ (10:Int) ^ Int.toNat 64<=n:=by
   have:(10:Int) ^ Int.toNat 64 = ((10 ^ 64:Nat):Int):=by decide +kernel
   rw [this]
   have h2:(10:Nat) ^ 60<=10 ^ 64:=by decide +kernel
   omega
  refine Ze0 (by rw [Jak (by omega)]; decide) ⟨by decide,fun p hp=>?_⟩
  refine ⟨fun _ σ H2=>σ = [some (.int n),some (.ref p),none]/\H2 = upd H p (.lst []),⟨0,rfl,rfl⟩,?_⟩
  rintro _ σ H2 ⟨rfl,rfl⟩
  walk_at "wp"
  refine ⟨cpow _ (by decide) (by decide),Ze0 (by rw [Jak big]; decide) ?_⟩
  have hl:=Zdg n1
  refine ⟨low2 n1,rfl,[],SqL.of Zac,fun p2 hp2=>⟨_,rfl,[],SqL.of Zac,by decide,_,rfl,_,rfl,?_,?_⟩⟩
  ·rw [str_int,Zao]
   show (tI n).length + 0<=sizeLine
   exact slc (by omega)
  ·have e:Str.ofString (toString n) ++ Txt.join (Str.ofString "") [] = mkS (tI n):=by
    rw [str_int]
    exact (Zas (tI n) []).trans (by rw [Jci])
   rw [e]
   exact q _ ((Same.new hp).trans (Same.new hp2))
def spSh:Sp:=fun vs H Q _=>∃ n:Int,vs = [.int n]/\n.natAbs < 10 ^ 60/\∀ H',Same H H'->Q (.str (mkS (tI n))) H'
theorem ok_show {f:Addr} {fd:FuncData} (F:Fun K "show_whole" "show_whole" Zbh f fd) (T:Txt K mg C Dg) (C_show_whole:Cal P w K mg base "show_whole" 1 spShP):FnOk P w K mg base CX0 2 f fd ["number"] spSh:=by
 have nd:=Zcj.nd
 refine F.ok Zcj (fun vs H Q E h=>?_) (fun cdv A outer s H vs Q E hr h=>?_)
 ·obtain ⟨n,rfl,_⟩:=h
  rfl
 ·obtain ⟨n,rfl,n1,q⟩:=h
  refine ⟨_,((@Za1 _ _ _ _ _ _ _ _ (Zae Zfg (pv 0) Zab (Zak _)) (~~~(Zan<|>Zaf<&&>(Zbb C_show_whole hr.m rfl ((Zgm Zd5 (pv 0))<&>Zaa)))) Zal)<*>((Zam (i:=1) nd rfl (Or.inl rfl) (@Zbm _ _ _ _ Zaa))<*>((Zhe Jbm (Zae op_ge (pv 0) (Zl6<|>Zab<&&>Zab) (Zak _)) (Zdi<*>(@Zav _ _ _ Zdi)))<*>(~~~(Zan<|>(Zd4 Za5 rfl T.n_str Jdw ((pv 0)<&>Zaa))<&&>(Zdp Jaz Jbx Jby Zex Zaf ((Zl0 K rfl (pv 1) (Zgm Zd5 Zab) (fun _ _ _ q=>⟨1,rfl,q⟩))<&>Zaa))))))),?_⟩
  walk_at "wp"
  by_cases n0:n < 0
  ·refine Zhn (Jag n0) ⟨-n,rfl,by omega,by omega,fun H1 s1=>?_⟩
   refine ⟨_,rfl,_,rfl,?_,?_⟩
   ·have hl:=Zdg (a:=-n) (by omega)
    rw [Zao]
    show 1 + (tI (-n)).length<=sizeLine
    exact slc (by omega)
   ·have e:Str.ofString "-" ++ mkS (tI (-n)) = mkS (tI n):=by
     have e1:Str.ofString "-" = mkS [45]:=by decide +kernel
     rw [e1,Zas]
     congr 1
     unfold tI
     rw [if_neg (by omega),if_pos n0,Int.natAbs_neg]
     rfl
    rw [e]
    exact q H1 s1
  have big:¬ (10:Int) ^ Int.toNat 64<=n:=by
   have:(10:Int) ^ Int.toNat 64 = ((10 ^ 64:Nat):Int):=by decide +kernel
   rw [this]
   have h2:(10:Nat) ^ 60<=10 ^ 64:=by decide +kernel
   omega
  refine Ze0 (by rw [Jak (by omega)]; decide) ⟨by decide,fun p hp=>?_⟩
  refine ⟨fun _ σ H2=>σ = [some (.int n),some (.ref p),none]/\H2 = upd H p (.lst []),⟨0,rfl,rfl⟩,?_⟩
  rintro _ σ H2 ⟨rfl,rfl⟩
  walk_at "wp"
  refine ⟨cpow _ (by decide) (by decide),Ze0 (by rw [Jak big]; decide) ?_⟩
  have hl:=Zdg n1
  refine ⟨low2 n1,rfl,[],SqL.of Zac,fun p2 hp2=>⟨_,rfl,[],SqL.of Zac,by decide,_,rfl,_,rfl,?_,?_⟩⟩
  ·rw [str_int,Zao]
   show (tI n).length + 0<=sizeLine
   exact slc (by omega)
  ·have e:Str.ofString (toString n) ++ Txt.join (Str.ofString "") [] = mkS (tI n):=by
    rw [str_int]
    exact (Zas (tI n) []).trans (by rw [Jci])
   rw [e]
   exact q _ ((Same.new hp).trans (Same.new hp2))
def spShN (C:Addr):Sp:=fun vs H Q _=>∃ (g:Addr) (p:Int) (v:V) (x:Nv),vs = [.ref g,v]/\GAt C H g p/\NumV H p v x/\Bd BB x/\∀ H',Same H H'->Q (.str (mkS (Ziy p x))) H'
theorem ok_shn {f:Addr} {fd:FuncData} (F:Fun K "show_number" "show_number" Zbk f fd) (T:Txt K mg C Dg) (C_show_whole:Cal P w K mg base "show_whole" 2 spSh):FnOk P w K mg base CX0 3 f fd ["ground","number"] (spShN C):=by
 have nd:=Zd7.nd
 refine F.ok Zd7 (fun vs H Q E h=>?_) (fun cdv A outer s H vs Q E hr h=>?_)
 ·obtain ⟨g,p,v,x,rfl,_⟩:=h
  rfl
 ·obtain ⟨g,p,v,x,rfl,⟨dg,hg⟩,nv,bd,q⟩:=h
  refine ⟨_,((@Za1 _ _ _ _ _ _ _ _ (Zae Zhg (Zfb (pv 0) rfl) Zab (Zak _)) (~~~(Zbb C_show_whole hr.m rfl ((pv 1)<&>Zaa))) Zal)<*>((Zf9 (pv 1) (@Zh8 _ _ _ _ _ 2 rfl (@Zbg _ _ _ _ _ (@Zap _ _ 2 _ nd rfl (Or.inl rfl) (Or.inl rfl)) (@Zbg _ _ _ _ _ (@Zap _ _ 3 _ nd rfl (Or.inl rfl) (Or.inl rfl)) (@Zev _) (by rfl)) (by rfl)) (by rfl) (by rfl)))<*>(~~~(Zn0 (Zae Zdj (pv 3) Zab (Zak _)) (Zbb C_show_whole hr.m rfl ((pv 2)<&>Zaa)) (Zan<|>(Zan<|>(Zbb C_show_whole hr.m rfl ((pv 2)<&>Zaa))<&&>Zaf)<&&>(Zbb C_show_whole hr.m rfl ((pv 3)<&>Zaa))))))),?_⟩
  have b1:x.1.natAbs < 10 ^ 60:=Jbe bd.1 (by decide +kernel)
  have b2:x.2.natAbs < 10 ^ 60:=Jbe bd.2 (by decide +kernel)
  have l1:=Zdg b1
  have l2:=Zdg b2
  unfold Ziy at q
  walk_at "wp"
  refine ⟨_,dg,_,hg,T.cl_Ground,T.nP,_,Zky p,rfl,Zb9 (fun hc=>?_) (fun hc=>?_)⟩
  ·have hp:¬ p = 0:=by simpa using hc
   obtain rfl:=nv.int hp
   rw [if_neg hp] at q
   exact ⟨_,rfl,b1,q⟩
  ·have hp:p = 0:=by simpa using hc
   obtain ⟨t,rfl,ht⟩:=nv.ref hp
   rw [if_pos hp] at q
   refine ⟨t,rfl,_,SqT.of ht,rfl,_,_,rfl,_,_,rfl,rfl,rfl,Zb9 (fun h1=>?_) (fun h1=>?_)⟩
   ·have h1:x.2 = 1:=by simpa using h1
    rw [if_pos h1] at q
    exact ⟨_,rfl,b1,q⟩
   ·have h1:¬ x.2 = 1:=by simpa using h1
    rw [if_neg h1] at q
    refine ⟨_,rfl,b1,fun H1 s1=>⟨_,rfl,_,rfl,?_,_,rfl,b2,fun H2 s2=>⟨_,rfl,_,rfl,?_,?_⟩⟩⟩
    ·rw [Zao]
     show (tI x.1).length + 1<=sizeLine
     exact slc (by omega)
    ·have e1:Str.ofString "/" = mkS [47]:=by decide +kernel
     rw [e1,Zas,Zao,Zao,Jab]
     show (tI x.1).length + 1 + (tI x.2).length<=sizeLine
     exact slc (by omega)
    ·have e1:Str.ofString "/" = mkS [47]:=by decide +kernel
     rw [e1,Zas,Zas]
     have:=q H2 (s1.trans s2)
     rwa [show tI x.1 ++ 47 :: tI x.2 = tI x.1 ++ [47] ++ tI x.2 by simp] at this
def spLsh:Sp:=fun vs H Q _=>∃ (p:Int) (v:V) (x:Nv),vs = [.int p,v]/\GroundP p/\NumV H p v x/\Bd BB x/\Q (.str (mkS (Ziy p x))) H
theorem ok_lsh {f:Addr} {fd:FuncData} (F:Fun K "_law_shown" "_law_shown" Zb2 f fd) (T:Txt K mg C Dg):FnOk P w K mg base CX0 1 f fd ["_law_p","_law_number_here"] spLsh:=by
 have nd:=Ze6.nd
 refine F.ok Ze6 (fun vs H Q E h=>?_) (fun cdv A outer s H vs Q E hr h=>?_)
 ·obtain ⟨p,v,x,rfl,_⟩:=h
  rfl
 ·obtain ⟨p,v,x,rfl,hp,nv,bd,q⟩:=h
  have p0:=hp.lo
  refine ⟨_,((@Za1 _ _ _ _ _ _ _ _ (Zae Zem (pv 0) Zab (Zak _)) (~~~(Zd4 Za5 rfl T.n_str Jdw ((pv 1)<&>Zaa))) Zal)<*>((@Za1 _ _ _ _ _ _ _ _ (Zae Zdj (Zbx<|>(pv 1)<||>Zab) Zab (Zak _)) (~~~(Zd4 Za5 rfl T.n_str Jdw ((Zbx<|>(pv 1)<||>Zab)<&>Zaa))) Zal)<*>(~~~(Zan<|>(Zan<|>(Zd4 Za5 rfl T.n_str Jdw ((Zbx<|>(pv 1)<||>Zab)<&>Zaa))<&&>Zaf)<&&>(Zd4 Za5 rfl T.n_str Jdw ((Zbx<|>(pv 1)<||>Zab)<&>Zaa)))))),?_⟩
  have b1:x.1.natAbs < 10 ^ 60:=Jbe bd.1 (by decide +kernel)
  have b2:x.2.natAbs < 10 ^ 60:=Jbe bd.2 (by decide +kernel)
  have l1:=Zdg b1
  have l2:=Zdg b2
  unfold Ziy at q
  walk_at "wp"
  refine Zb9 (fun hc=>?_) (fun hc=>?_)
  ·have hc:=Jah hc
   have hp:¬ p = 0:=by omega
   obtain rfl:=nv.int hp
   rw [if_neg hp,<- str_int] at q
   exact ⟨_,rfl,low2 b1,q⟩
  ·have hc:¬ 0 < p:=fun z=>hc (Jag z)
   have hp:p = 0:=by omega
   obtain ⟨t,rfl,ht⟩:=nv.ref hp
   rw [if_pos hp] at q
   walk_at "wp"
   refine ⟨_,SqT.of ht,_,rfl,rfl,Zb9 (fun h1=>?_) (fun h1=>?_)⟩
   ·have h1:x.2 = 1:=by simpa using h1
    rw [if_pos h1,<- str_int] at q
    exact ⟨_,SqT.of ht,_,rfl,_,rfl,low2 b1,q⟩
   ·have h1:¬ x.2 = 1:=by simpa using h1
    rw [if_neg h1] at q
    refine ⟨_,SqT.of ht,_,rfl,_,rfl,low2 b1,?_⟩
    have e1:Str.ofString "/" = mkS [47]:=by decide +kernel
    refine ⟨_,rfl,_,rfl,?_,_,SqT.of ht,_,rfl,_,rfl,low2 b2,_,rfl,_,rfl,?_,?_⟩
    ·rw [str_int,Zao]
     show (tI x.1).length + 1<=sizeLine
     exact slc (by omega)
    ·rw [str_int,str_int,e1,Zas,Zao,Zao,Jab]
     show (tI x.1).length + 1 + (tI x.2).length<=sizeLine
     exact slc (by omega)
    ·rw [str_int,str_int,e1,Zas,Zas]
     rwa [show tI x.1 ++ 47 :: tI x.2 = tI x.1 ++ [47] ++ tI x.2 by simp] at q
def Zix (p:Int) (xs:List Nv):List Nat:=Zaq [32] (xs.map (Ziy p))
def tTab (p hh wd:Int) (M:Mv):List Nat:=if hh = 0\/wd = 0 then [45] else Zaq [32,47,32] (M.map (Zix p))
theorem Zil {s:List Nat} {B:Nat}:∀ {ps:List (List Nat)},(∀ a ∈ ps,a.length<=B)->(Zaq s ps).length<=ps.length * (B + s.length)
 | [],_=>by simp [Zaq]
 | [a],h=>by have:=h a (by simp); show a.length<=_; simp; omega
 | a :: b :: r,h=>by
  have h1:=h a (by simp)
  have h2:=Zil (s:=s) (ps:=b :: r) fun c hc=>h c (Jai _ hc)
  show (a ++ s ++ Zaq s (b :: r)).length<=_
  rw [Jab,Jab]
  have:(a :: b :: r).length * (B + s.length) = (b :: r).length * (B + s.length) + (B + s.length):=by rw [Jap (a:=a),Nat.add_mul,Nat.one_mul]
  omega
theorem Zhk {z:Str} {ts:List Str} {B:Nat} (h:∀ y ∈ ts,y.length<=B) (hb:ts.length * B + ts.length * z.length<=16777216):JoinOk z ts = true:=by
 unfold JoinOk
 rw [StrLaws.joinFits h hb]
 rfl
theorem Zhl (z:Str) (ps:List (List Nat)):Txt.join z (ps.map mkS) = mkS (Zaq (sg z) ps):=by
 rw [<- Zog (Txt.join z (ps.map mkS)),sg_join,Jcr]
 congr 2
 exact (List.map_congr_left fun a _=>rfl).trans (List.map_id ps)
theorem Zh6 {α β:Type} [Inhabited α] (f:α->β) (xs:List α) (g:Nat->α) (h:∀ i x,xs[i]? = some x->g i = x):(List.range xs.length).map (fun i=>f (g i)) = xs.map f:=by
 apply Jcz
 intro i
 rw [Jas,Jas]
 by_cases hi:i < xs.length
 ·rw [Jdh hi,Jaa hi]
  show some (f (g i)) = some (f xs[i])
  rw [h i _ (Jaa hi)]
 ·rw [Jbf (by simpa using hi),Jbf (by omega)]
  rfl
theorem Zjo {p:Int} {xs:List Nv} (hl:xs.length<=24) (h:∀ x ∈ xs,Bd BB x):(Zix p xs).length<=1600:=by
 have:=Zil (s:=[32]) (B:=65) (ps:=xs.map (Ziy p)) fun a ha=>by
  obtain ⟨x,hx,rfl⟩:=Jbq.mp ha
  exact Zjp (h x hx)
 rw [Jac] at this
 unfold Zix
 have h2:xs.length * (65 + [32].length)<=24 * 66:=Jc4 hl (by decide)
 omega
theorem Zms {α:Type} {xs:List α} {d:α}:∀ i x,xs[i]? = some x->xs.getD i d = x:=fun i x h=>Zgg h
theorem Znu {a D:Addr} {p:Int} {xs:List Nv} {fr:List (Str × Nat)} {σ:L2.St} {te:TE} {H1:Hp} {Q:VK} (rv:RowV H1 p a xs) (hl:xs.length<=24) (gd:∀ x ∈ xs,Isn p x/\Bd BB x) (hD:H1 D = none)
  (h:∀ (v:V) (x:Nv) H (Q:VK),Same H1 H->NumV H p v x->Bd BB x->(∀ H',Same H H'->Q (.str (mkS (Ziy p x))) H')->te (some v :: Zby fr σ) H Q)
  (hQ:∀ H',Same H1 H'->H' D = some (.lst ((xs.map fun x=>mkS (Ziy p x)).map V.str))->Q (.ref D) H'):Zbo (Zce 0) Zgk te (Itl K a) D (Zfh 1 fr σ) H1 Q:=by
 obtain ⟨vs,h1,al⟩:=rv
 have vl:=al.1
 refine Zio (fun i=>mkS (Ziy p (xs.getD i (0,1)))) h1 hD (by omega) (fun i v H' Q' hv s' q'=>?_) fun H' s' e'=>hQ H' s' ?_
 ·obtain ⟨x,ex,nx⟩:=al.at' hv
  refine h v x H' _ s' (nx.same s') (gd x (Jal ex)).2 fun H'' s''=>?_
  have:=q' H'' s''
  rwa [Zgg ex] at this
 ·rw [e',vl,Zh6 (fun x=>mkS (Ziy p x)) xs _ Zms]
theorem Zht:Str.ofString " " = mkS [32]:=by decide +kernel
theorem Zjr:Str.ofString " / " = mkS [32,47,32]:=by decide +kernel
theorem Zh5 {D r:Addr} {p hh wd:Int} {t:Addr} {rs:List Addr} {M:Mv} {fr fr2:List (Str × Nat)} {σ:L2.St} {te:TE} {H1:Hp} {Q:VK} (tb:TabV H1 p hh wd t r rs M) (sh:Shp hh wd M) (gd:Znf p BB M) (h24:hh<=24) (w24:wd<=24) (hD:H1 D = none)
  (h:∀ (rx v:V) (x:Nv) H (Q:VK),Same H1 H->NumV H p v x->Bd BB x->(∀ H',Same H H'->Q (.str (mkS (Ziy p x))) H')->te (some v :: Zby fr2 (some rx :: Zby fr σ)) H Q)
  (hQ:∀ H',Same H1 H'->H' D = some (.lst ((M.map fun xs=>mkS (Zix p xs)).map V.str))->Q (.ref D) H'):
  Zbo (Zce 0) Zgk (tBM K "str" (Zlq K) (tC (V.str (Str.ofString " "))) (Zh0 (Znn 1 fr2 (Zon K (tVar 0)) (Zce 0) Zgk te) tNil)) (Itl K r) D (Zfh 1 fr σ) H1 Q:=by
 have rl:=tb.row.1
 have ml:=sh.1
 refine Zio (fun i=>mkS (Zix p (M.getD i []))) tb.lst hD (by rw [Jac]; omega) (fun i v H' Q' hv s' q'=>?_) fun H' s' e'=>hQ H' s' ?_
 ·obtain ⟨xs,ex,a,rfl,rv⟩:=(Zne tb.row).at' hv
  have hx:=Jal ex
  have wx:=sh.2 xs hx
  refine ⟨rfl,_,rfl,a,rfl,?_⟩
  have k:=fun D2 hD2=>Znu (K:=K) (D:=D2) (fr:=fr2) (σ:=some (V.ref a) :: Zby fr σ) (te:=te) (H1:=H') (Q:=fun x H2=>Zlq K (V.str (Str.ofString " ")) [x] H2 Q') (rv.same s') (by omega) (fun x hxx=>gd xs hx x hxx) hD2 (fun v x H2 Q2 s2 nv bd q2=>h _ v x H2 Q2 (s'.trans s2) nv bd q2) (fun H2 s2 e2=>by
   refine ⟨_,D2,_,rfl,rfl,SqL.of e2,Zhk (B:=65) (fun y hy=>?_) ?_,?_⟩
   ·obtain ⟨x,hxx,rfl⟩:=Jbq.mp hy
    rw [Zao]
    exact Zjp (gd xs hx x hxx).2
   ·rw [Jac,Zht,Zao]
    have:xs.length<=24:=by omega
    show xs.length * 65 + xs.length * 1<=16777216
    omega
   ·have e:Txt.join (Str.ofString " ") (xs.map fun x=>mkS (Ziy p x)) = mkS (Zix p xs):=by
     have:=Zhl (Str.ofString " ") (xs.map (Ziy p))
     rw [Jcr] at this
     unfold Zix
     rw [<- show sg (Str.ofString " ") = [32] by rw [Zht]; rfl]
     exact this
    rw [e]
    have:=q' H2 s2
    rwa [Zgg ex] at this)
  obtain ⟨vs0,h0,_⟩:=rv.same s'
  exact ⟨⟨_,SqL.of h0⟩,fun D2 hD2=>k D2 hD2⟩
 ·rw [e',Jac,rl,Zh6 (fun xs=>mkS (Zix p xs)) M _ Zms]
def spShT (C:Addr):Sp:=fun vs H Q _=>∃ (g t r:Addr) (p hh wd:Int) (rs:List Addr) (M:Mv),vs = [.ref g,.ref t]/\GAt C H g p/\TabV H p hh wd t r rs M/\Shp hh wd M/\Znf p BB M/\hh<=24/\wd<=24/\∀ H',Same H H'->Q (.str (mkS (tTab p hh wd M))) H'
theorem ok_sht {f:Addr} {fd:FuncData} (F:Fun K "show_table" "show_table" Zbp f fd) (T:Txt K mg C Dg) (C_show_number:Cal P w K mg base "show_number" 3 (spShN C)):FnOk P w K mg base CX0 4 f fd ["ground","table"] (spShT C):=by
 have nd:=Zee.nd
 refine F.ok Zee (fun vs H Q E h=>?_) (fun cdv A outer s H vs Q E hr h=>?_)
 ·obtain ⟨g,t,r,p,hh,wd,rs,M,rfl,_⟩:=h
  rfl
 ·obtain ⟨g,t,r,p,hh,wd,rs,M,rfl,hg,tb,sh,gd,h24,w24,q⟩:=h
  refine ⟨_,((Zf9 (pv 1) (@Zh8 _ _ _ _ _ 3 rfl (@Zbg _ _ _ _ _ (@Zap _ _ 2 _ nd rfl (Or.inl rfl) (Or.inl rfl)) (@Zbg _ _ _ _ _ (@Zap _ _ 3 _ nd rfl (Or.inl rfl) (Or.inl rfl)) (@Zbg _ _ _ _ _ (@Zap _ _ 4 _ nd rfl (Or.inl rfl) (Or.inl rfl)) (@Zev _) (by rfl)) (by rfl)) (by rfl)) (by rfl) (by rfl)))<*>((@Za1 _ _ _ _ _ _ _ _ (PW.pt (Zd3 (Zae Zdj (pv 2) Zab (Zak _)) (Zdc (Zae Zdj (pv 3) Zab (Zak _))))) (~~~Zaf) Zal)<*>(~~~(Zdp Jaz Jbx Jby Zex Zaf ((Zcd (own:=["row"]) (fr:=[("ground",0)]) rfl (Zet (by kernel_rfl)) (Zcc (pv 4)) (fun _ _ _ _=>⟨(@Zap _ _ 0 _ (show (["row","ground"]:List Str).Nodup by decide +kernel) rfl (Or.inl rfl) (Or.inr rfl)),Zbw,(Zpd K rfl Jaz Jbx Jby (Zj1 K rfl) Zaf ((Zcd (own:=["number"]) (fr:=[("ground",1)]) rfl (Zet (by kernel_rfl)) (Zju K rfl (pv 0)) (fun _ _ _ _=>⟨(@Zap _ _ 0 _ (show (["number","ground"]:List Str).Nodup by decide +kernel) rfl (Or.inl rfl) (Or.inr rfl)),Zbw,(Zbb C_show_number hr.m rfl ((pv 1)<&>((pv 0)<&>Zaa)))⟩))<&>Zaa))⟩))<&>Zaa))))),?_⟩
  have rl:=tb.row.1
  have ml:=sh.1
  unfold tTab at q
  walk_at "wp"
  refine ⟨_,SqT.of tb.tup,rfl,_,_,rfl,_,_,rfl,_,_,rfl,rfl,rfl,?_⟩
  have dash:Str.ofString "-" = mkS [45]:=by decide +kernel
  refine Zb9 (fun hc=>?_) (fun hc=>⟨rfl,Zb9 (fun hc2=>?_) (fun hc2=>?_)⟩)
  ·have hc:hh = 0:=by simpa using hc
   rw [if_pos (.inl hc)] at q
   rw [dash]
   exact q H (Same.refl _)
  ·have hc2:wd = 0:=by simpa using hc2
   rw [if_pos (.inr hc2)] at q
   rw [dash]
   exact q H (Same.refl _)
  ·have hc:¬ hh = 0:=by simpa using hc
   have hc2:¬ wd = 0:=by simpa using hc2
   rw [if_neg (by rintro (h | h) <;> contradiction)] at q
   refine ⟨rfl,_,rfl,r,rfl,⟨_,SqL.of tb.lst⟩,fun D hD=>Zh5 tb sh gd h24 w24 hD (fun rx v x H' Q' s' nv bd q'=>⟨_,rfl,_,rfl,g,p,v,x,rfl,hg.same s',nv,bd,q'⟩) fun H' s' e'=>?_⟩
   refine ⟨_,rfl,D,rfl,_,SqL.of e',Zhk (B:=1600) (fun y hy=>?_) ?_,?_⟩
   ·obtain ⟨xs,hx,rfl⟩:=Jbq.mp hy
    have:=sh.2 xs hx
    rw [Zao]
    exact Zjo (by omega) fun x hxx=>(gd xs hx x hxx).2
   ·rw [Jac,Zjr,Zao]
    show M.length * 1600 + M.length * 3<=16777216
    omega
   ·have e:Txt.join (Str.ofString " / ") (M.map fun xs=>mkS (Zix p xs)) = mkS (Zaq [32,47,32] (M.map (Zix p))):=by
     have:=Zhl (Str.ofString " / ") (M.map (Zix p))
     rw [Jcr] at this
     rw [show sg (Str.ofString " / ") = [32,47,32] by rw [Zjr]; rfl] at this
     exact this
    rw [e]
    exact q H' s'
theorem strokes (p:Int) (M:Mv):Txt.join (Str.ofString " / ") (M.map fun xs=>mkS (Zix p xs)) = mkS (Zaq [32,47,32] (M.map (Zix p))):=by
 have:=Zhl (Str.ofString " / ") (M.map (Zix p))
 rw [Jcr] at this
 rw [show sg (Str.ofString " / ") = [32,47,32] by rw [Zjr]; rfl] at this
 exact this
theorem Znt {p hh wd:Int} {M:Mv} (sh:Shp hh wd M) (gd:Znf p BB M) (h24:hh<=24) (w24:wd<=24):JoinOk (Str.ofString " / ") (M.map fun xs=>mkS (Zix p xs)) = true:=by
 have ml:=sh.1
 refine Zhk (B:=1600) (fun y hy=>?_) ?_
 ·obtain ⟨xs,hx,rfl⟩:=Jbq.mp hy
  have:=sh.2 xs hx
  rw [Zao]
  exact Zjo (by omega) fun x hxx=>(gd xs hx x hxx).2
 ·rw [Jac,Zjr,Zao]
  show M.length * 1600 + M.length * 3<=16777216
  omega
def spLts:Sp:=fun vs H Q _=>∃ (t r:Addr) (p hh wd:Int) (rs:List Addr) (M:Mv),vs = [.int p,.ref t]/\GroundP p/\TabV H p hh wd t r rs M/\Shp hh wd M/\Znf p BB M/\hh<=24/\wd<=24/\∀ H',Same H H'->Q (.str (mkS (tTab p hh wd M))) H'
theorem ok_lts {f:Addr} {fd:FuncData} (F:Fun K "_law_table_shown" "_law_table_shown" Zaz f fd) (T:Txt K mg C Dg) (C_law_shown:Cal P w K mg base "_law_shown" 1 spLsh):FnOk P w K mg base CX0 2 f fd ["_law_p","_law_table_here"] spLts:=by
 have nd:=Zcw.nd
 refine F.ok Zcw (fun vs H Q E h=>?_) (fun cdv A outer s H vs Q E hr h=>?_)
 ·obtain ⟨t,r,p,hh,wd,rs,M,rfl,_⟩:=h
  rfl
 ·obtain ⟨t,r,p,hh,wd,rs,M,rfl,hp,tb,sh,gd,h24,w24,q⟩:=h
  refine ⟨_,((@Za1 _ _ _ _ _ _ _ _ (PW.pt (Zd3 (Zae Zdj (Zbx<|>(pv 1)<||>Zab) Zab (Zak _)) (Zdc (Zae Zdj (Zbx<|>(pv 1)<||>Zab) Zab (Zak _))))) (~~~Zaf) Zal)<*>(~~~(Zdp Jaz Jbx Jby Zex Zaf ((Zcd (own:=["_law_row"]) (fr:=[("_law_p",0)]) rfl (Zet (by kernel_rfl)) (Zcc (Zbx<|>(pv 1)<||>Zab)) (fun _ _ _ _=>⟨(@Zap _ _ 0 _ (show (["_law_row","_law_p"]:List Str).Nodup by decide +kernel) rfl (Or.inl rfl) (Or.inr rfl)),Zbw,(Zpd K rfl Jaz Jbx Jby (Zj1 K rfl) Zaf ((Zcd (own:=["_law_number_here"]) (fr:=[("_law_p",1)]) rfl (Zet (by kernel_rfl)) (Zju K rfl (pv 0)) (fun _ _ _ _=>⟨(@Zap _ _ 0 _ (show (["_law_number_here","_law_p"]:List Str).Nodup by decide +kernel) rfl (Or.inl rfl) (Or.inr rfl)),Zbw,(Zbb C_law_shown hr.m rfl ((pv 1)<&>((pv 0)<&>Zaa)))⟩))<&>Zaa))⟩))<&>Zaa)))),?_⟩
  unfold tTab at q
  walk_at "wp"
  have dash:Str.ofString "-" = mkS [45]:=by decide +kernel
  refine ⟨_,SqT.of tb.tup,_,rfl,rfl,Zb9 (fun hc=>?_) (fun hc=>⟨_,SqT.of tb.tup,_,rfl,rfl,Zb9 (fun hc2=>?_) (fun hc2=>?_)⟩)⟩
  ·have hc:hh = 0:=by simpa using hc
   rw [if_pos (.inl hc)] at q
   rw [dash]
   exact q H (Same.refl _)
  ·have hc2:wd = 0:=by simpa using hc2
   rw [if_pos (.inr hc2)] at q
   rw [dash]
   exact q H (Same.refl _)
  ·have hc:¬ hh = 0:=by simpa using hc
   have hc2:¬ wd = 0:=by simpa using hc2
   rw [if_neg (by rintro (h | h) <;> contradiction)] at q
   refine ⟨rfl,_,rfl,t,_,2,_,rfl,rfl,SqT.of tb.tup,rfl,r,rfl,⟨_,SqL.of tb.lst⟩,fun D hD=>Zh5 tb sh gd h24 w24 hD (fun rx v x H' Q' s' nv bd q'=>⟨_,rfl,_,rfl,p,v,x,rfl,hp,nv,bd,q' H' (Same.refl _)⟩) fun H' s' e'=>?_⟩
   refine ⟨_,rfl,D,rfl,_,SqL.of e',Znt sh gd h24 w24,?_⟩
   rw [strokes]
   exact q H' s'
end
end Pf
set_option maxHeartbeats 1000000
namespace Pf
open PySem L2 PyProof.Rows
structure Cs where
 LimbError:Addr
 NoGround:Addr
 NoNumber:Addr
 NoTable:Addr
 NoDrawing:Addr
 NoKind:Addr
 NoStanding:Addr
 NoChange:Addr
 NoMirror:Addr
 NoRoot:Addr
 NoText:Addr
 NoRow:Addr
 NoName:Addr
structure Xt (K:PySem.W.Frag) (mg:Str->Option Value) (base:Heap) (cc:Cs):Prop where
 g_LimbError:mg "LimbError" = some (.ref cc.LimbError)
 g_NoGround:mg "NoGround" = some (.ref cc.NoGround)
 g_NoNumber:mg "NoNumber" = some (.ref cc.NoNumber)
 g_NoTable:mg "NoTable" = some (.ref cc.NoTable)
 g_NoDrawing:mg "NoDrawing" = some (.ref cc.NoDrawing)
 g_NoKind:mg "NoKind" = some (.ref cc.NoKind)
 g_NoStanding:mg "NoStanding" = some (.ref cc.NoStanding)
 g_NoChange:mg "NoChange" = some (.ref cc.NoChange)
 g_NoMirror:mg "NoMirror" = some (.ref cc.NoMirror)
 g_NoRoot:mg "NoRoot" = some (.ref cc.NoRoot)
 g_NoText:mg "NoText" = some (.ref cc.NoText)
 g_NoRow:mg "NoRow" = some (.ref cc.NoRow)
 g_NoName:mg "NoName" = some (.ref cc.NoName)
 o_LimbError:OwnCls "LimbError" cc.LimbError bmV newV mg base
 o_NoDrawing:OwnCls "NoDrawing" cc.NoDrawing bmV newV mg base
 o_NoText:OwnCls "NoText" cc.NoText bmV newV mg base
 u_NoText:∃ C' nm q N bs bm hdct sn sub ab col dd k0 k1 k2 k3 k5 new,Value.ref cc.NoText = .ref C'/\base.get? C' = some (excClassObj nm q C' N bs bm hdct sn sub ab col dd k0 k1 k2 k3 k5 new)/\bm.contains (.ref cc.LimbError) = true
 z:ExcCls K cc.NoText
 i:(PySem.W.clsIn K cc.NoText).isSome = true
 t1:PySem.W.kitAny K (.ref cc.NoText) [.ref cc.NoChange,.ref cc.NoGround,.ref cc.NoKind,.ref cc.NoMirror,.ref cc.NoName,.ref cc.NoRoot,.ref cc.NoRow] = some false
 q_NoDrawing:PySem.W.kitOne K (.ref cc.NoText) (.ref cc.NoDrawing) = some false
 q_NoNumber:PySem.W.kitOne K (.ref cc.NoText) (.ref cc.NoNumber) = some false
 q_NoTable:PySem.W.kitOne K (.ref cc.NoText) (.ref cc.NoTable) = some false
 q_NoStanding:PySem.W.kitOne K (.ref cc.NoText) (.ref cc.NoStanding) = some false
 v:PySem.W.kitOne K (.ref cc.NoText) (.type "ValueError") = some true
 u_NoDrawing:∃ C' nm q N bs bm hdct sn sub ab col dd k0 k1 k2 k3 k5 new,Value.ref cc.NoDrawing = .ref C'/\base.get? C' = some (excClassObj nm q C' N bs bm hdct sn sub ab col dd k0 k1 k2 k3 k5 new)/\bm.contains (.ref cc.LimbError) = true
 zz:ExcCls K cc.NoDrawing
 ii:(PySem.W.clsIn K cc.NoDrawing).isSome = true
 tt1:PySem.W.kitAny K (.ref cc.NoDrawing) [.ref cc.NoChange,.ref cc.NoGround,.ref cc.NoKind,.ref cc.NoMirror,.ref cc.NoName,.ref cc.NoRoot,.ref cc.NoRow] = some false
 qq_NoText:PySem.W.kitOne K (.ref cc.NoDrawing) (.ref cc.NoText) = some false
 qq_NoNumber:PySem.W.kitOne K (.ref cc.NoDrawing) (.ref cc.NoNumber) = some false
 qq_NoTable:PySem.W.kitOne K (.ref cc.NoDrawing) (.ref cc.NoTable) = some false
 qq_NoStanding:PySem.W.kitOne K (.ref cc.NoDrawing) (.ref cc.NoStanding) = some false
 vv:PySem.W.kitOne K (.ref cc.NoDrawing) (.type "ValueError") = some true
section
variable {P:Program} {w:World} {K:PySem.W.Frag} {mg:Str->Option Value} {base:Heap} {C Dg:Addr} {cc:Cs}
def Kn (H:Hp) (v:V):Prop:=v = .non\/(∃ b,v = .bl b)\/(∃ i,v = .int i)\/(∃ s,v = .str s)\/(∃ a xs,v = .ref a/\H a = some (.lst xs)/\xs.length<=1000)\/∃ a xs,v = .ref a/\H a = some (.tup xs)/\xs.length<=1000
theorem Kn.same {H H':Hp} {v:V} (h:Kn H v) (s:Same H H'):Kn H' v:=by
 rcases h with h | h | h | h | ⟨a,xs,h1,h2,h3⟩ | ⟨a,xs,h1,h2,h3⟩
 ·exact .inl h
 ·exact .inr (.inl h)
 ·exact .inr (.inr (.inl h))
 ·exact .inr (.inr (.inr (.inl h)))
 ·exact .inr (.inr (.inr (.inr (.inl ⟨a,xs,h1,s _ _ h2,h3⟩))))
 ·exact .inr (.inr (.inr (.inr (.inr ⟨a,xs,h1,s _ _ h2,h3⟩))))
theorem Kn.int {H:Hp} {i:Int}:Kn H (.int i):=.inr (.inr (.inl ⟨i,rfl⟩))
theorem Kn.bl {H:Hp} {i:Bool}:Kn H (.bl i):=.inr (.inl ⟨i,rfl⟩)
theorem Kn.str {H:Hp} {i:Str}:Kn H (.str i):=.inr (.inr (.inr (.inl ⟨i,rfl⟩)))
theorem Kn.lst {H:Hp} {a:Addr} {xs:List V} (h:H a = some (.lst xs)) (hl:xs.length<=1000):Kn H (.ref a):=.inr (.inr (.inr (.inr (.inl ⟨a,xs,rfl,h,hl⟩))))
theorem Kn.tup {H:Hp} {a:Addr} {xs:List V} (h:H a = some (.tup xs)) (hl:xs.length<=1000):Kn H (.ref a):=.inr (.inr (.inr (.inr (.inr ⟨a,xs,rfl,h,hl⟩))))
def isI:V->Bool
 | .int _=>true
 | .bl _=>true
 | _=>false
def isBl:V->Bool
 | .bl _=>true
 | _=>false
def isTu (H:Hp):V->Bool
 | .ref a=>match H a with
  | some (.tup _)=>true
  | _=>false
 | _=>false
def isLi (H:Hp):V->Bool
 | .ref a=>match H a with
  | some (.lst _)=>true
  | _=>false
 | _=>false
def whB:V->Bool
 | .int _=>true
 | _=>false
theorem kn_int {H:Hp} {v:V} (h:Kn H v):∃ t,TyOf K H v t/\PySem.W.kitOne K t (.type "int") = some (isI v):=by
 rcases h with rfl | ⟨b,rfl⟩ | ⟨i,rfl⟩ | ⟨z,rfl⟩ | ⟨a,xs,rfl,h2,_⟩ | ⟨a,xs,rfl,h2,_⟩
 ·exact ⟨_,.non,by kernel_rfl⟩
 ·exact ⟨_,.bl b,Zku K⟩
 ·exact ⟨_,.int i,Zge K⟩
 ·exact ⟨_,.str z,by kernel_rfl⟩
 ·exact ⟨_,.lst h2,by kernel_rfl⟩
 ·exact ⟨_,.tup h2,by kernel_rfl⟩
theorem kn_bool {H:Hp} {v:V} (h:Kn H v):∃ t,TyOf K H v t/\PySem.W.kitOne K t (.type "bool") = some (isBl v):=by
 rcases h with rfl | ⟨b,rfl⟩ | ⟨i,rfl⟩ | ⟨z,rfl⟩ | ⟨a,xs,rfl,h2,_⟩ | ⟨a,xs,rfl,h2,_⟩
 ·exact ⟨_,.non,by kernel_rfl⟩
 ·exact ⟨_,.bl b,Zjb K⟩
 ·exact ⟨_,.int i,Zez K⟩
 ·exact ⟨_,.str z,by kernel_rfl⟩
 ·exact ⟨_,.lst h2,by kernel_rfl⟩
 ·exact ⟨_,.tup h2,by kernel_rfl⟩
theorem kn_tup {H:Hp} {v:V} (h:Kn H v):∃ t,TyOf K H v t/\PySem.W.kitOne K t (.type "tuple") = some (isTu H v):=by
 rcases h with rfl | ⟨b,rfl⟩ | ⟨i,rfl⟩ | ⟨z,rfl⟩ | ⟨a,xs,rfl,h2,_⟩ | ⟨a,xs,rfl,h2,_⟩
 ·exact ⟨_,.non,by kernel_rfl⟩
 ·exact ⟨_,.bl b,by kernel_rfl⟩
 ·exact ⟨_,.int i,by kernel_rfl⟩
 ·exact ⟨_,.str z,by kernel_rfl⟩
 ·refine ⟨_,.lst h2,?_⟩
  simp only [isTu,h2]
  kernel_rfl
 ·refine ⟨_,.tup h2,?_⟩
  simp only [isTu,h2]
  exact Zig K
theorem kn_list {H:Hp} {v:V} (h:Kn H v):∃ t,TyOf K H v t/\PySem.W.kitOne K t (.type "list") = some (isLi H v):=by
 rcases h with rfl | ⟨b,rfl⟩ | ⟨i,rfl⟩ | ⟨z,rfl⟩ | ⟨a,xs,rfl,h2,_⟩ | ⟨a,xs,rfl,h2,_⟩
 ·exact ⟨_,.non,by kernel_rfl⟩
 ·exact ⟨_,.bl b,by kernel_rfl⟩
 ·exact ⟨_,.int i,by kernel_rfl⟩
 ·exact ⟨_,.str z,by kernel_rfl⟩
 ·refine ⟨_,.lst h2,?_⟩
  simp only [isLi,h2]
  exact Zgd K
 ·refine ⟨_,.tup h2,?_⟩
  simp only [isLi,h2]
  kernel_rfl
def Zfl:Sp:=fun vs H Q _=>∃ v:V,vs = [v]/\Kn H v/\Q (.bl (whB v)) H
theorem Zma {f:Addr} {fd:FuncData} (F:Fun K "is_whole" "is_whole" Zb6 f fd) (T:Txt K mg C Dg):FnOk P w K mg base CX0 1 f fd ["thing"] Zfl:=by
 have nd:=Zdh.nd
 refine F.ok Zdh (fun vs H Q E h=>?_) (fun cdv A outer s H vs Q E hr h=>?_)
 ·obtain ⟨i,rfl,_⟩:=h
  rfl
 ·obtain ⟨v,rfl,hk,q⟩:=h
  refine ⟨_,(~~~(Zdx (Zbj Za6 rfl T.n_isinstance Ja2 ((pv 0)<&>((Zga rfl T.n_int Jeb)<&>Zaa))) (Zdw (Zjw (Zbj Za6 rfl T.n_isinstance Ja2 ((pv 0)<&>((Zga rfl T.n_bool boot_bool)<&>Zaa))))))),?_⟩
  walk_at "wp"
  obtain ⟨t1,h1,h2⟩:=kn_int (K:=K) hk
  obtain ⟨t2,h3,h4⟩:=kn_bool (K:=K) hk
  refine ⟨_,_,⟨rfl,rfl⟩,_,rfl,_,h1,_,h2,Zb9 (fun hc=>⟨_,_,⟨rfl,rfl⟩,_,rfl,_,h3,_,h4,?_⟩) (fun hc=>?_)⟩
  ·cases v <;> first | exact q | cases hc
  ·cases v <;> first | exact q | exact absurd rfl hc
theorem Kn.back {H H':Hp} {a:Addr} {o:HO} (h:Kn H (.ref a)) (s:Same H H') (e:H' a = some o):H a = some o:=by
 rcases h with h | ⟨_,h⟩ | ⟨_,h⟩ | ⟨_,h⟩ | ⟨b,xs,h1,h2,_⟩ | ⟨b,xs,h1,h2,_⟩
 ·cases h
 ·cases h
 ·cases h
 ·cases h
 ·cases h1
  rw [s _ _ h2] at e
  rw [h2,e]
 ·cases h1
  rw [s _ _ h2] at e
  rw [h2,e]
theorem Kn.at {H H':Hp} {a:Addr} (h:Kn H (.ref a)) (s:Same H H'):H' a = H a:=by
 rcases h with h | ⟨_,h⟩ | ⟨_,h⟩ | ⟨_,h⟩ | ⟨b,xs,h1,h2,_⟩ | ⟨b,xs,h1,h2,_⟩
 ·cases h
 ·cases h
 ·cases h
 ·cases h
 ·cases h1
  rw [s _ _ h2,h2]
 ·cases h1
  rw [s _ _ h2,h2]
theorem tu_of {H:Hp} {v:V} (h:Kn H v) (ht:isTu H v = true):∃ a xs,v = .ref a/\H a = some (.tup xs)/\xs.length<=1000:=by
 rcases h with rfl | ⟨b,rfl⟩ | ⟨i,rfl⟩ | ⟨z,rfl⟩ | ⟨a,xs,rfl,h2,_⟩ | h
 ·cases ht
 ·cases ht
 ·cases ht
 ·cases ht
 ·simp only [isTu,h2] at ht; cases ht
 ·exact h
theorem li_of {H:Hp} {v:V} (h:Kn H v) (ht:isLi H v = true):∃ a xs,v = .ref a/\H a = some (.lst xs)/\xs.length<=1000:=by
 rcases h with rfl | ⟨b,rfl⟩ | ⟨i,rfl⟩ | ⟨z,rfl⟩ | h | ⟨a,xs,rfl,h2,_⟩
 ·cases ht
 ·cases ht
 ·cases ht
 ·cases ht
 ·exact h
 ·simp only [isLi,h2] at ht; cases ht
theorem wh_of {v:V} (h:whB v = true):∃ i,v = .int i:=by
 cases v <;> first | exact ⟨_,rfl⟩ | cases h
def endB (m:Int):V->Bool
 | .int i=>decide (0<=i) && decide (i < m)
 | _=>false
def Zc0 (m:Int) (H:Hp):V->Bool
 | .ref a=>match H a with
  | some (.tup xs)=>decide (xs.length = 2) && xs.all (endB m)
  | _=>false
 | _=>false
def Zde (H:Hp) (v u:V):Bool:=match v with
 | .int m=>decide (1<=m) && decide (m<=8) && (match u with
  | .ref a=>match H a with
   | some (.lst xs)=>decide (xs.length<=9) && xs.all (Zc0 m H)
   | _=>false
  | _=>false)
 | _=>false
def WfA (H:Hp) (v:V):Prop:=Kn H v/\∀ a xs,v = .ref a->H a = some (.tup xs)->∀ y ∈ xs,Kn H y
def WfL (H:Hp) (v:V):Prop:=Kn H v/\∀ a xs,v = .ref a->H a = some (.lst xs)->∀ y ∈ xs,WfA H y
theorem WfA.same {H H':Hp} {v:V} (h:WfA H v) (s:Same H H'):WfA H' v:=⟨h.1.same s,fun a xs e1 e2 y hy=>by subst e1; exact (h.2 a xs rfl (h.1.back s e2) y hy).same s⟩
theorem Zjn {H H':Hp} {m:Int} {v:V} (h:Kn H v) (s:Same H H'):Zc0 m H' v = Zc0 m H v:=by
 cases v <;> try rfl
 simp only [Zc0,h.at s]
theorem Znd {f:V->Bool} (xs:List V):((List.range xs.length).map fun i=>f (xs.getD i .non)).all id = xs.all f:=by
 rw [Jbz,Ja0,Ja0]
 constructor
 ·intro h x hx
  obtain ⟨i,hi,rfl⟩:=Ja1.mp hx
  have:=h (f (xs.getD i .non)) (Jbq.mpr ⟨i,Jbn.mpr hi,rfl⟩)
  rw [Jau,Jaa hi] at this
  exact this
 ·intro h b hb
  obtain ⟨i,hi,rfl⟩:=Jbq.mp hb
  have hi:=Jbn.mp hi
  rw [Jau,Jaa hi]
  exact h _ (Jba hi)
theorem Zmr {xs:List V} {i:Nat} {x:V} (h:xs[i]? = some x):xs.getD i .non = x:=by rw [Jau,h]; rfl
def Zi3:Sp:=fun vs H Q _=>∃ (m:Int) (x:V),vs = [.int m,x]/\WfA H x/\∀ H',Same H H'->Q (.bl (Zc0 m H x)) H'
theorem Zod {f:Addr} {fd:FuncData} (F:Fun K "is_arrow" "is_arrow" Zcp f fd) (T:Txt K mg C Dg) (C_is_whole:Cal P w K mg base "is_whole" 1 Zfl):FnOk P w K mg base CX0 2 f fd ["many","thing"] Zi3:=by
 have nd:=Zf6.nd
 refine F.ok Zf6 (fun vs H Q E h=>?_) (fun cdv A outer s H vs Q E hr h=>?_)
 ·obtain ⟨m,x,rfl,_⟩:=h
  rfl
 ·obtain ⟨m,x,rfl,⟨hk,hx⟩,q⟩:=h
  refine ⟨_,((@Za1 _ _ _ _ _ _ _ _ (PW.pt (Zd3 (Zcr (Zdd (Zbj Za6 rfl T.n_isinstance Ja2 ((pv 1)<&>((Zga rfl T.n_tuple boot_tuple)<&>Zaa))))) (Zdc (Zae Zhg (Zbj Zcb rfl T.n_len Jb2 ((pv 1)<&>Zaa)) Zab (Zak _))))) (~~~Zgn) Zal)<*>(~~~(Zbj (Zfu rfl) rfl T.n_all boot_all ((Zcd (own:=["end"]) (fr:=[("many",0)]) rfl (Zet (by kernel_rfl)) (Zpb (pv 1)) (fun _ _ _ _=>⟨(@Zap _ _ 0 _ (show (["end","many"]:List Str).Nodup by decide +kernel) rfl (Or.inl rfl) (Or.inr rfl)),Zbw,(Zdx (Zbb C_is_whole hr.m rfl ((pv 0)<&>Zaa)) (Zdw (Zjx Zhh Zfg Zab (pv 0) (pv 1))))⟩))<&>Zaa)))),?_⟩
  walk_at "wp"
  obtain ⟨t1,h1,h2⟩:=kn_tup (K:=K) hk
  refine ⟨_,_,⟨rfl,rfl⟩,_,rfl,_,h1,_,h2,Zb9 (fun hc=>?_) (fun hc=>?_)⟩
  ·have hc:isTu H x = false:=by simpa using hc
   have e:Zc0 m H x = false:=by
    cases x <;> try rfl
    simp only [isTu] at hc
    simp only [Zc0]
    split
    ·rename_i e; rw [e] at hc; cases hc
    ·rfl
   have:=q H (Same.refl _)
   rw [e] at this
   exact this
  ·obtain ⟨a,xs,rfl,ha,hl⟩:=tu_of hk (by simpa using hc)
   have e:Zc0 m H (.ref a) = (decide (xs.length = 2) && xs.all (endB m)):=by simp only [Zc0,ha]
   refine ⟨a,rfl,xs,.inr (SqT.of ha),Zb9 (fun hn=>?_) (fun hn=>?_)⟩
   ·have hn:¬ xs.length = 2:=by intro z; rw [z] at hn; exact absurd hn (by decide)
    have:=q H (Same.refl _)
    rw [e,Jak hn,Jcm] at this
    exact this
   ·have hn:xs.length = 2:=by
     have:((xs.length:Nat):Int) = 2:=by simpa using hn
     omega
    rw [e,Jag hn,Jcc] at q
    refine ⟨_,rfl,a,rfl,⟨_,SqT.of ha⟩,fun D hD=>Zip (fun i=>endB m (xs.getD i .non)) ha hD (by omega) (fun k y H' Q' hy s' q'=>?_) fun H' s' e'=>⟨D,rfl,_,SqL.of e',?_⟩⟩
    ·rw [Zmr hy] at q'
     refine ⟨_,rfl,y,rfl,(hx a xs rfl ha y (Jal hy)).same s',whB y,rfl,Zb9 (fun hw=>?_) (fun hw=>?_)⟩
     ·obtain ⟨z,rfl⟩:=wh_of hw
      refine ⟨_,rfl,_,_,rfl,rfl,_,rfl,Zb9 (fun z0=>⟨_,rfl,_,_,rfl,rfl,?_⟩) (fun z0=>?_)⟩
      ·have:=q' H' (Same.refl _)
       simp only [endB] at this
       rw [show decide (0<=z) = true from z0,Jcc] at this
       exact this
      ·have:=q' H' (Same.refl _)
       simp only [endB] at this
       rw [show decide (0<=z) = false by simpa using z0,Jcm] at this
       exact this
     ·have:=q' H' (Same.refl _)
      rw [show endB m y = false by cases y <;> first | rfl | exact absurd rfl hw] at this
      exact this
    ·rw [Znd]
     exact q H' s'
def Zi2:Sp:=fun vs H Q _=>∃ v u:V,vs = [v,u]/\Kn H v/\WfL H u/\∀ H',Same H H'->Q (.bl (Zde H v u)) H'
theorem Zob {f:Addr} {fd:FuncData} (F:Fun K "makes_drawing" "makes_drawing" Za7 f fd) (T:Txt K mg C Dg) (C_is_whole:Cal P w K mg base "is_whole" 1 Zfl) (C_is_arrow:Cal P w K mg base "is_arrow" 2 Zi3):FnOk P w K mg base CX0 3 f fd ["many","arrows"] Zi2:=by
 have nd:=Zdn.nd
 refine F.ok Zdn (fun vs H Q E h=>?_) (fun cdv A outer s H vs Q E hr h=>?_)
 ·obtain ⟨v,u,rfl,_⟩:=h
  rfl
 ·obtain ⟨v,u,rfl,hv,⟨hk,hx⟩,q⟩:=h
  refine ⟨_,((@Za1 _ _ _ _ _ _ _ _ (PW.pt (Zd3 (Zcr (Zdd (Zbb C_is_whole hr.m rfl ((pv 0)<&>Zaa)))) (Zdc (Zcr (Zhd Zhh Zhh Zab (pv 0) (Zfn rfl T.g_MOST_POINTS)))))) (~~~Zgn) Zal)<*>((@Za1 _ _ _ _ _ _ _ _ (PW.pt (Zd3 (Zcr (Zdd (Zbj Za6 rfl T.n_isinstance Ja2 ((pv 1)<&>((Zga rfl T.n_list boot_list)<&>Zaa))))) (Zdc (Zae Zem (Zbj Zcb rfl T.n_len Jb2 ((pv 1)<&>Zaa)) (Zfn rfl T.g_MOST_ARROWS) (Zak _))))) (~~~Zgn) Zal)<*>(~~~(Zbj (Zfu rfl) rfl T.n_all boot_all ((Zcd (own:=["arrow"]) (fr:=[("many",0)]) rfl (Zet (by kernel_rfl)) (Zcc (pv 1)) (fun _ _ _ _=>⟨(@Zap _ _ 0 _ (show (["arrow","many"]:List Str).Nodup by decide +kernel) rfl (Or.inl rfl) (Or.inr rfl)),Zbw,(Zbb C_is_arrow hr.m rfl ((pv 1)<&>((pv 0)<&>Zaa)))⟩))<&>Zaa))))),?_⟩
  walk_at "wp"
  have q0:=q H (Same.refl _)
  refine ⟨v,rfl,hv,whB v,rfl,Zb9 (fun hc=>?_) (fun hc=>?_)⟩
  ·rw [show Zde H v u = false by cases v <;> first | rfl | (exact absurd hc (by simp [whB]))] at q0
   exact q0
  ·obtain ⟨m,rfl⟩:=wh_of (v:=v) (by simpa using hc)
   refine ⟨m,rfl,Zb9 (fun h1=>⟨m,rfl,Zb9 (fun h8=>?_) (fun h8=>?_)⟩) (fun h1=>Zhn rfl ?_)⟩
   ·rw [show Zde H (.int m) u = false by simp only [Zde]; rw [show decide (m<=8) = false by simpa using h8]; simp] at q0
    exact q0
   ·have h8:decide (m<=8) = true:=by simpa using h8
    obtain ⟨t1,k1,k2⟩:=kn_list (K:=K) hk
    refine ⟨_,_,⟨rfl,rfl⟩,_,rfl,_,k1,_,k2,Zb9 (fun hc=>?_) (fun hc=>?_)⟩
    ·have hc:isLi H u = false:=by simpa using hc
     have e:Zde H (.int m) u = false:=by
      simp only [Zde]
      cases u <;> try simp
      simp only [isLi] at hc
      split
      ·rename_i e; rw [e] at hc; cases hc
      ·simp
     rw [e] at q0
     exact q0
    ·obtain ⟨a,xs,rfl,ha,hl⟩:=li_of hk (by simpa using hc)
     have e:Zde H (.int m) (.ref a) = (decide (xs.length<=9) && xs.all (Zc0 m H)):=by simp only [Zde,ha]; rw [show decide (1<=m) = true from h1,h8]; rfl
     refine ⟨a,rfl,xs,.inl (SqL.of ha),Zb9 (fun h9=>?_) (fun h9=>?_)⟩
     ·have h9:=Jah h9
      rw [e,Jak (show ¬ xs.length<=9 by omega),Jcm] at q0
      exact q0
     ·have h9:xs.length<=9:=by
       have:¬ (9:Int) < xs.length:=fun z=>h9 (Jag z)
       omega
      rw [e,Jag h9,Jcc] at q
      refine ⟨_,rfl,a,rfl,⟨_,SqL.of ha⟩,fun D hD=>Zm3 (fun i=>Zc0 m H (xs.getD i .non)) ha hD (by omega) (fun k y H' Q' hy s' q'=>?_) fun H' s' e'=>⟨D,rfl,_,SqL.of e',?_⟩⟩
      ·rw [Zmr hy] at q'
       have wy:=hx a xs rfl ha y (Jal hy)
       exact ⟨_,rfl,_,rfl,m,y,rfl,wy.same s',fun H'' s''=>by rw [Zjn wy.1 s']; exact q' H'' s''⟩
      ·rw [Znd]
       exact q H' s'
   ·rw [show Zde H (.int m) u = false by simp only [Zde]; rw [show decide (1<=m) = false by simpa using h1]; simp] at q0
    exact q0
def Zk1 (m:Int) (lp:Addr):List (Str × V):=Zgx "arrows" (.ref lp) (Zgx "many" (.int m) [])
theorem Zcy (m:Int) (lp:Addr):(Zk1 m lp).lookup ("arrows" : Str) = some (.ref lp):=by
 unfold Zk1
 rw [Zb8,if_pos rfl]
theorem Ze3 (m:Int) (lp:Addr):(Zk1 m lp).lookup ("many" : Str) = some (.int m):=by
 unfold Zk1
 rw [Zb8,if_neg (by decide +kernel),Zb8,if_pos rfl]
theorem Zmv (m:Int):(Zgx "many" (.int m) ([]:List (Str × V))).length < 1000:=by
 have:=Zed "many" (.int m) []
 simp at this
 omega
theorem Zot {H:Hp} {v u:V} (h:Zde H v u = true):∃ m a xs,v = .int m/\u = .ref a/\H a = some (.lst xs):=by
 unfold Zde at h
 cases v with
 | int m=>
  cases u with
  | ref a=>
   simp only [Bool.and_eq_true] at h
   have:=h.2
   split at this
   ·rename_i xs e
    exact ⟨m,a,xs,rfl,rfl,e⟩
   ·cases this
  | _=>simp at h
 | _=>cases h
def Zg8 (Dg ND:Addr):Sp:=fun vs H Q E=>∃ (p dx:Addr) (v u:V),vs = [.ref p,v,u]/\H p = some (.ins Dg dx [])/\Kn H v/\WfL H u/\(Zde H v u = false->∀ H',Same H H'->E (.ref ND) none H') /\
 ∀ (m:Int) (a:Addr) (xs:List V),v = .int m->u = .ref a->H a = some (.lst xs)->Zde H v u = true->∀ (lp:Addr) (H':Hp),Ext p H H'->H' p = some (.ins Dg dx (Zk1 m lp))->H lp = none->H' lp = some (.lst xs)->Q .non H'
theorem Zoc {f:Addr} {fd:FuncData} (F:Fun K "__init__" "Drawing.__init__" Zbf f fd) (T:Txt K mg C Dg) (XT:Xt K mg base cc) (C_makes_drawing:Cal P w K mg base "makes_drawing" 3 Zi2):FnOk P w K mg base (CXe P w) 4 f fd ["self","many","arrows"] (Zg8 Dg cc.NoDrawing):=by
 have nd:=Zdu.nd
 refine F.okE Zdu (fun vs H Q E h=>?_) (fun cdv A outer s H vs Q E hr h=>?_)
 ·obtain ⟨p,dx,v,u,rfl,_⟩:=h
  rfl
 ·obtain ⟨p,dx,v,u,rfl,hp,hk,hw,hE,q⟩:=h
  refine ⟨_,((@Za1 _ _ _ _ _ _ _ _ (Zcr (Zdd (Zbb C_makes_drawing hr.m rfl ((pv 1)<&>((pv 2)<&>Zaa))))) (@Zav _ _ _ (Zlu XT.o_NoDrawing rfl (Zaf<&>Zaa))) Zal)<*>((Zlv (pv 0) (pv 1) rfl)<*>(@Zav _ _ _ (Zlv (pv 0) (Zd4 Zfe rfl T.n_list boot_list ((pv 2)<&>Zaa)) rfl)))),?_⟩
  walk_at "wp"
  refine ⟨v,u,rfl,hk,hw,fun H1 s1=>⟨Zde H v u,rfl,Zb9 (fun hc=>⟨by decide,hE (by simpa using hc) H1 s1⟩) (fun hc=>?_)⟩⟩
  have hd:Zde H v u = true:=by simpa using hc
  obtain ⟨m,a,xs,rfl,rfl,ha⟩:=Zot hd
  have nap:a ≠ p:=ne_of ha hp (by intro z; cases z)
  refine ⟨Dg,dx,[],s1 _ _ hp,T.cl_Drawing,T.nM,by show 0 < 1000; decide,?_⟩
  refine ⟨_,rfl,xs,.inl (SqL.of (by rw [Zah nap]; exact s1 _ _ ha)),fun l hl0=>?_⟩
  have npl:p ≠ l:=Zai Zac hl0
  refine ⟨Dg,dx,_,by rw [Zah npl]; exact Zac,T.cl_Drawing,T.nA,Zmv m,?_⟩
  have fl:H l = none:=by
   rw [Zah npl.symm] at hl0
   exact s1.free hl0
  refine q m a xs rfl rfl ha hd l _ (fun b o nb e=>?_) Zac fl (by rw [Zah npl.symm]; exact Zac)
  rw [Zah nb,Zah (Zai e fl),Zah nb]
  exact s1 _ _ e
theorem figs:sg (Str.ofString "0123456789") = [48,49,50,51,52,53,54,55,56,57]:=by decide +kernel
theorem Zm1 {z:Str} {D:Addr} {fr:List (Str × Nat)} {σ:L2.St} {te:TE} {H1:Hp} {Q:VK} (fb:Nat->Bool) (hD:H1 D = none) (hn:z.length<=1000)
  (h:∀ (i c:Nat) H (Q:VK),(sg z)[i]? = some c->Same H1 H->(∀ H',Same H H'->Q (.bl (fb i)) H')->te (some (.str (mkS [c])) :: Zby fr σ) H Q)
  (hQ:∀ H',Same H1 H'->H' D = some (.lst (((List.range z.length).map fb).map V.bl))->Q (.ref D) H'):Zbo (Zce 0) Zgk te (Its z) D (Zfh 1 fr σ) H1 Q:=by
 refine Zoz (fun i vs H=>Same H1 H/\H D = some (.lst vs)/\vs = ((List.range i).map fb).map V.bl) ⟨Same.new hD,Zac,rfl⟩ ?_ (fun vs H ⟨s,e,hv⟩=>hQ H s (by rw [e,hv]))
 rintro i c vs σ' H hi hx sh ⟨s,e,rfl⟩
 obtain ⟨z',rfl⟩:=sh.one
 simp only [Zff,Zce,Zgk,List.set_cons_zero,if_true]
 refine h i c H _ hx s fun H' s'=>?_
 exact Zpf (ws:=((List.range (i + 1)).map fb).map V.bl) hi Sh.mk1 (s' _ _ e) (Za4 (by rw [Jac,Jac,Jck]; omega)) ⟨(s.trans s').upd hD,by rw [Zac,Jdi,Jbc,Jbc]; rfl,rfl⟩
theorem slash:Str.ofString ">" = mkS [62]:=by decide +kernel
theorem part_no {l:List Nat} (h:62 ∉ l):Zh9 (mkS l) (Str.ofString ">") = (mkS l,Str.empty,Str.empty):=by
 have h1:=StrLaws.found_one (mkS l) 62
 rw [Jak (show ¬ 62 ∈ (mkS l).cps.toList from h)] at h1
 unfold Zh9
 rw [slash]
 cases e:Builtin.Str.occurrences (mkS l) (mkS [62]) 0 (mkS l).length 1 with
 | nil=>rfl
 | cons i r=>
  have h2:(!(Builtin.Str.occurrences (mkS l) ⟨#[62]⟩ 0 (mkS l).length 1).isEmpty) = false:=h1
  rw [show (⟨#[62]⟩:Str) = mkS [62] from rfl,e] at h2
  cases h2
theorem Zn6 {a b:List Nat} (h:62 ∉ a):Zh9 (mkS (a ++ 62 :: b)) (Str.ofString ">") = (mkS a,mkS [62],mkS b):=by
 have hat:∀ i,StrLaws.At (mkS (a ++ 62 :: b)) (mkS [62]) (mkS (a ++ 62 :: b)).length i ↔ (a ++ 62 :: b)[i]? = some 62:=fun i=>StrLaws.subAt_one (mkS (a ++ 62 :: b)) 62 i
 have hin:(a ++ 62 :: b)[a.length]? = some 62:=by rw [Jbp (Jae _),Nat.sub_self]; rfl
 unfold Zh9
 rw [slash]
 rcases StrLaws.occ_head (mkS (a ++ 62 :: b)) (mkS [62]) 1 (Jae _) with ⟨_,hn⟩ | ⟨i,r,e,h1,h2⟩
 ·exact absurd ((hat a.length).mpr hin) (hn a.length)
 ·have hi:i = a.length:=by
   have hi1:=(hat i).mp h1
   rcases Nat.lt_trichotomy i a.length with hlt | heq | hgt
   ·rw [Jbh hlt] at hi1
    exact absurd (Jal hi1) h
   ·exact heq
   ·exact absurd ((hat a.length).mpr hin) (h2 a.length hgt)
  rw [e]
  subst hi
  show (Builtin.Str.strSub (mkS (a ++ 62 :: b)) 0 a.length,mkS [62],Builtin.Str.strSub (mkS (a ++ 62 :: b)) (a.length + 1) (mkS (a ++ 62 :: b)).length) = _
  rw [Zfk,Zfk,Zao]
  congr 2
  ·show ((a ++ 62 :: b).drop 0).take (a.length - 0) = a
   rw [Jd1,Nat.sub_zero,List.take_left]
  ·congr 1
   show ((a ++ 62 :: b).drop (a.length + 1)).take _ = b
   rw [show a ++ 62 :: b = (a ++ [62]) ++ b by simp,show a.length + 1 = (a ++ [62]).length by simp,List.drop_left]
   exact Jbt (by simp; omega)
def dig (c:Nat):Bool:=decide (48<=c) && decide (c<=57)
def isW (l:List Nat):Bool:=decide (1<=l.length) && decide (l.length<=30) && l.all dig && (decide (l = [48]) || decide (l[0]? ≠ some 48))
abbrev Asc (l:List Nat):Prop:=∀ c ∈ l,c < 128
theorem Zna {l:List Nat} (h:Asc l):Zgo (mkS l):=Zkg h
theorem Zj8 (c:Nat):(!(!(Builtin.Str.occurrences (Str.ofString "0123456789") (mkS [c]) 0 (Str.ofString "0123456789").length 1).isEmpty)) = !dig c:=by
 have:=StrLaws.found_one (Str.ofString "0123456789") c
 have e:(!(Builtin.Str.occurrences (Str.ofString "0123456789") (mkS [c]) 0 (Str.ofString "0123456789").length 1).isEmpty) = decide (c ∈ [48,49,50,51,52,53,54,55,56,57]):=by
  refine this.trans ?_
  rw [show (Str.ofString "0123456789").cps.toList = _ from figs]
 rw [e]
 congr 1
 unfold dig
 by_cases h:48<=c/\c<=57
 ·have h3:c = 48\/c = 49\/c = 50\/c = 51\/c = 52\/c = 53\/c = 54\/c = 55\/c = 56\/c = 57:=by omega
  rcases h3 with rfl | rfl | rfl | rfl | rfl | rfl | rfl | rfl | rfl | rfl <;> decide
 ·have h4:c ∉ [48,49,50,51,52,53,54,55,56,57]:=by simp; omega
  rw [Jak h4]
  by_cases h5:48<=c
  ·rw [Jag h5,Jak (show ¬ c<=57 by omega)]; rfl
  ·rw [Jak h5]; rfl
theorem Zfy {a b:List Nat} (h:mkS a = mkS b):a = b:=by rw [<- Zi6 a,h,Zi6]
def spWt (NT:Addr):Sp:=fun vs H Q _=>∃ l:List Nat,vs = [.int 30,.str (mkS l)]/\Asc l/\l.length<=300/\∀ H',Same H H'->Q (.bl (isW l)) H'
theorem ok_wt {f:Addr} {fd:FuncData} (F:Fun K "is_written" "is_written" Zbv f fd) (T:Txt K mg C Dg):FnOk P w K mg base CX0 1 f fd ["most","text"] (spWt NT):=by
 have nd:=Zek.nd
 refine F.ok Zek (fun vs H Q E h=>?_) (fun cdv A outer s H vs Q E hr h=>?_)
 ·obtain ⟨l,rfl,_⟩:=h
  rfl
 ·obtain ⟨l,rfl,asc,h300,q⟩:=h
  refine ⟨_,((@Za1 _ _ _ _ _ _ _ _ (PW.pt (Zd3 (Zcr (Zhd Zhh Zhh Zab (Zbj Zca rfl T.n_len Jb2 ((pv 1)<&>Zaa)) (pv 0))) (Zdc (Zdd (Zbj (Zo3 rfl) rfl T.n_any boot_any ((Zcd (own:=["sign"]) (fr:=[]) rfl (Zet (by kernel_rfl)) (Zpc (pv 1)) (fun _ _ _ _=>⟨(@Zap _ _ 0 _ (show (["sign"]:List Str).Nodup by decide +kernel) rfl (Or.inl rfl) (Or.inr rfl)),Zbw,(Zcs Zfc (pv 0) (Zn1 rfl T.g_FIGURES) (by with_unfolding_all rfl))⟩))<&>Zaa)))))) (~~~Zgn) Zal)<*>(~~~(pe_or (Zcs Zdj (pv 1) Zaf (Zak _)) (Zdw (Zcs Zhg (Zml<|>(pv 1)<||>Zab) Zaf (Zak _)))))),?_⟩
  walk_at "wp"
  have hl:=Zao l
  have no:isW l = false->∀ H',Same H H'->Q (.bl false) H':=fun e H' s'=>by rw [<- e]; exact q H' s'
  have zero:Str.ofString "0" = mkS [48]:=by decide +kernel
  refine ⟨_,rfl,by rw [hl]; exact slc (by omega),Zb9 (fun h1=>?_) (fun h1=>Zhn rfl (no ?_ H (Same.refl _)))⟩
  rotate_left
  ·have:¬ 1<=l.length:=fun z=>h1 (Jag (by rw [hl]; omega))
   unfold isW
   rw [Jak this]
   rfl
  have h1':1<=l.length:=by have:=Jah h1; rw [hl] at this; omega
  refine Zb9 (fun h2=>no ?_ H (Same.refl _)) (fun h2=>?_)
  ·have:¬ l.length<=30:=fun z=>by rw [hl,Jag (by omega)] at h2; cases h2
   unfold isW
   rw [Jak this,Jcd]
   rfl
  have h2':l.length<=30:=by
   have:=h2
   rw [hl] at this
   by_cases z:((l.length:Nat):Int)<=30
   ·omega
   ·rw [Jak z] at this; exact absurd rfl this
  refine ⟨_,rfl,_,rfl,Zna asc,fun D hD=>Zm1 (fun i=>!dig (l.getD i 0)) hD (by rw [hl]; omega) (fun i c H' Q' hc s' q'=>?_) fun H1 s1 e1=>?_⟩
  ·refine ⟨_,rfl,_,rfl,_,rfl,?_⟩
   rw [Zj8]
   have hc':l[i]? = some c:=hc
   have:=q' H' (Same.refl _)
   rwa [Jau,hc'] at this
  ·have hall:(((List.range (mkS l).length).map fun i=>!dig (l.getD i 0)).any id) = !(l.all dig):=by
    rw [hl,Jbz,Jc7]
    constructor
    ·rintro ⟨b,hb,hb2⟩
     obtain ⟨i,hi,rfl⟩:=Jbq.mp hb
     have hi:=Jbn.mp hi
     rw [Jau,Jaa hi] at hb2
     rw [Jc1,Jd8]
     exact ⟨_,Jba hi,by simpa using hb2⟩
    ·intro h
     rw [Jc1,Jd8] at h
     obtain ⟨c,hc,hd⟩:=h
     obtain ⟨i,hi,rfl⟩:=Ja1.mp hc
     exact ⟨_,Jbq.mpr ⟨i,Jbn.mpr hi,rfl⟩,by rw [Jau,Jaa hi]; simpa using hd⟩
   refine ⟨D,rfl,_,SqL.of e1,?_⟩
   rw [hall]
   refine Zb9 (fun h3=>no ?_ H1 s1) (fun h3=>?_)
   ·have:l.all dig = false:=by simpa using h3
    unfold isW
    rw [this,Jcd]
    rfl
   have h3':l.all dig = true:=by simpa using h3
   have base:isW l = (decide (l = [48]) || decide (l[0]? ≠ some 48)):=by
    unfold isW
    rw [Jag h1',Jag h2',h3']
    rfl
   rw [base] at q
   refine Zb9 (fun h4=>?_) (fun h4=>?_)
   ·have h4:=Jah h4
    rw [zero] at h4
    have:=q H1 s1
    rwa [Jag (Zfy (V.str.inj h4))] at this
   ·have n4:l ≠ [48]:=fun z=>h4 (Jag (by rw [z,zero]))
    have e0:l[0]? = some (l[0]'(by omega)):=Jaa (by omega)
    refine ⟨_,rfl,by rw [hl]; exact slc (by omega),l[0]'(by omega),Zeb (by decide) e0,?_⟩
    have:=q H1 s1
    rw [Jak n4,Bool.false_or,e0] at this
    have e5:(!decide (V.str ⟨#[l[0]'(by omega)]⟩ = V.str (Str.ofString "0"))) = decide (some (l[0]'(by omega)) ≠ some 48):=by
     rw [zero]
     by_cases z:l[0]'(by omega) = 48
     ·rw [z]; rfl
     ·rw [Jak (fun y=>z (by have:=Zfy (a:=[l[0]'(by omega)]) (b:=[48]) (V.str.inj y); injection this)),Jag (show some (l[0]'(by omega)) ≠ some 48 from fun y=>z (Ja3 y))]
      rfl
    rw [e5]
    exact this
abbrev vW (l:List Nat):Nat:=PySem.NumText.digitsVal l
theorem Zii {l:List Nat} (h:isW l = true):1<=l.length/\l.length<=30/\∀ c ∈ l,48<=c/\c<=57:=by
 unfold isW at h
 rw [Jay,Jay,Jay] at h
 obtain ⟨⟨⟨h1,h2⟩,h3⟩,_⟩:=h
 refine ⟨Jah h1,Jah h2,fun c hc=>?_⟩
 have:=Ja0.mp h3 c hc
 unfold dig at this
 rw [Jay] at this
 exact ⟨Jah this.1,Jah this.2⟩
def spRw (NT:Addr):Sp:=fun vs H Q E=>∃ l:List Nat,vs = [.str (mkS l)]/\Asc l/\l.length<=300/\(isW l = false->∀ H',Same H H'->E (.ref NT) none H')/\(isW l = true->∀ H',Same H H'->Q (.int (vW l:Nat)) H')
theorem ok_rw {f:Addr} {fd:FuncData} (F:Fun K "read_whole" "read_whole" Zbq f fd) (T:Txt K mg C Dg) (XT:Xt K mg base cc) (C_is_written:Cal P w K mg base "is_written" 1 (spWt NT)):FnOk P w K mg base (CXe P w) 2 f fd ["text"] (spRw cc.NoText):=by
 have nd:=Zef.nd
 refine F.okE Zef (fun vs H Q E h=>?_) (fun cdv A outer s H vs Q E hr h=>?_)
 ·obtain ⟨l,rfl,_⟩:=h
  rfl
 ·obtain ⟨l,rfl,asc,h300,hE,q⟩:=h
  refine ⟨_,((@Za1 _ _ _ _ _ _ _ _ (Zcr (Zdd (Zbb C_is_written hr.m rfl ((Zfn rfl T.g_MOST_FIGURES)<&>((pv 0)<&>Zaa))))) (@Zav _ _ _ (Zlu XT.o_NoText rfl (Zaf<&>Zaa))) Zal)<*>(~~~(Zd4 Zir rfl T.n_int Jeb ((pv 0)<&>Zaa)))),?_⟩
  walk_at "wp"
  refine ⟨l,rfl,asc,h300,fun H1 s1=>⟨_,rfl,?_⟩⟩
  cases e:isW l with
  | false=>exact Zhn rfl ⟨by decide,hE e H1 s1⟩
  | true=>
   obtain ⟨p1,p2,p3⟩:=Zii e
   have hl:=Zao l
   refine Ze0 (by decide) ⟨_,rfl,(vW l:Nat),?_,by rw [hl]; omega,q e H1 s1⟩
   exact PySem.intText_digits (x:=mkS l) p3 (fun z=>by rw [show l = [] from z] at p1; simp at p1) (by rw [hl]; omega)
theorem Zmt:∀ (l:List Nat) (k:Nat),(∀ c ∈ l,c<=57)->l.foldl (fun a c=>a * 10 + (c - 48)) k < (k + 1) * 10 ^ l.length
 | [],k,_=>by simp
 | c :: l,k,h=>by
  have h1:=h c (by simp)
  have h2:=Zmt l (k * 10 + (c - 48)) fun d hd=>h d (by simp [hd])
  rw [List.foldl_cons,Jap,Nat.pow_succ]
  refine Jan h2 ?_
  have h3:k * 10 + (c - 48) + 1<=(k + 1) * 10:=by omega
  calc (k * 10 + (c - 48) + 1) * 10 ^ l.length<=(k + 1) * 10 * 10 ^ l.length:=Nat.mul_le_mul_right _ h3
   _ = (k + 1) * (10 ^ l.length * 10):=by rw [Nat.mul_assoc,Nat.mul_comm 10]
theorem Zg1 {A X:TS} {D:Ends} {σ:L2.St} {H:Hp} (h:∀ X',X' = X->tSeq A X' D σ H):tSeq A X D σ H:=h X rfl
theorem mul30 {n k:Int} (h:n.natAbs < 10 ^ 40/\k.natAbs < 10 ^ 40):IntMulOk n k:=mulL (Jan h.1 (by decide +kernel)) (Jan h.2 (by decide +kernel))
def Znp:Sp:=fun vs H Q _=>∃ l:List Nat,vs = [.str (mkS l)]/\Asc l/\l.length<=300/\∀ H',Same H H'->Q (if isW l = true then .int (vW l:Nat) else .non) H'
theorem ok_lrw {f:Addr} {fd:FuncData} (F:Fun K "_law_read_whole" "_law_read_whole" Za2 f fd) (T:Txt K mg C Dg):FnOk P w K mg base CX0 1 f fd ["_law_text"] Znp:=by
 have nd:=Zc4.nd
 refine F.ok Zc4 (fun vs H Q E h=>?_) (fun cdv A outer s H vs Q E hr h=>?_)
 ·obtain ⟨l,rfl,_⟩:=h
  rfl
 ·obtain ⟨l,rfl,asc,h300,q⟩:=h
  refine ⟨_,((@Za1 _ _ _ _ _ _ _ _ (PW.pt (Zd3 (Zae Zfg (Zbj Zca rfl T.n_len Jb2 ((pv 0)<&>Zaa)) Zab (Zak _)) (Zd3 (Zae Zem (Zbj Zca rfl T.n_len Jb2 ((pv 0)<&>Zaa)) Zab (Zak _)) (Zdc (PW.pt (Zlt (Zae Zdj (Zml<|>(pv 0)<||>Zab) Zaf (Zak _)) (Zi8 (Zae Zem (Zbj Zca rfl T.n_len Jb2 ((pv 0)<&>Zaa)) Zab (Zak _))))))))) (~~~Zgb) Zal)<*>((Zam (i:=1) nd rfl (Or.inl rfl) Zab)<*>((Zel Jbm rfl (Zpc (pv 0)) (@Zap _ _ 2 _ nd rfl (Or.inl rfl) (Or.inl rfl)) ((@Za1 _ _ _ _ _ _ _ _ (Zae Zfc (pv 2) Zaf (by with_unfolding_all rfl)) (~~~Zgb) Zal)<*>(@Zav _ _ _ (Zam (i:=1) nd rfl (Or.inl rfl) (Zch<|>(Zew<|>(pv 1)<&&>Zab)<&&>(Zdp Jaz PySem.F.slot_str_index PySem.F.type_str_index Zmh Zaf ((pv 2)<&>Zaa)))))))<*>(~~~(pv 1))))),?_⟩
  refine Zg1 fun X hX=>?_
  walk_at "wp"
  have hl:=Zao l
  have zero:Str.ofString "0" = mkS [48]:=by decide +kernel
  have no:isW l = false->∀ H',Same H H'->Q .non H':=fun e H' s'=>by have:=q H' s'; rwa [e] at this
  have go:1<=l.length->l.length<=30->(l = [48]\/l[0]? ≠ some 48)->X { nx:=fun x H'=>Q V.non H',rt:=Q } [some (V.str (mkS l)),none,none] H:=by
   intro h1 h30 hz
   subst hX
   walk_at "wp"
   refine ⟨_,rfl,_,rfl,Zna asc,for_str (z:=mkS l) (fun i σ H2=>∃ v2:Option V,H2 = H/\σ = [some (V.str (mkS l)),some (.int (vW (l.take i):Nat)),v2]/\∀ c ∈ l.take i,dig c = true) ⟨none,rfl,rfl,by simp⟩ ?_ ?_⟩
   ·rintro i c σ H2 hc ⟨v2,rfl,rfl,hd⟩
    have hc':l[i]? = some c:=hc
    have hi:i < l.length:=(Jat.mp hc').1
    have et:l.take (i + 1) = l.take i ++ [c]:=by rw [Jc2,hc']; rfl
    walk_at "wp"
    refine ⟨_,rfl,_,rfl,?_⟩
    rw [Zj8]
    cases hcd:dig c with
    | false=>
     refine Zhn rfl (no ?_ H2 (Same.refl _))
     have:l.all dig = false:=Jd8.mpr ⟨c,Jal hc',by rw [hcd]; decide⟩
     unfold isW
     rw [this,Jcd]
     rfl
    | true=>
     have hcr:48<=c/\c<=57:=by
      unfold dig at hcd
      rw [Jay] at hcd
      exact ⟨Jah hcd.1,Jah hcd.2⟩
     have hv:vW (l.take i) < 10 ^ 30:=by
      have a1:=Zmt (l.take i) 0 fun d hd'=>by
       have:=hd d hd'
       unfold dig at this
       rw [Jay] at this
       exact Jah this.2
      have a2:(l.take i).length<=30:=by rw [Jbv]; omega
      have a3:10 ^ (l.take i).length<=10 ^ 30:=Nat.pow_le_pow_right (by decide) a2
      have a4:vW (l.take i) < (0 + 1) * 10 ^ (l.take i).length:=a1
      omega
     refine Ze0 (by decide) ?_
     have hi1:Builtin.Str.occurrences (Str.ofString "0123456789") (mkS [c]) 0 (Str.ofString "0123456789").length 1 = [c - 48]:=by
      have h3:c = 48\/c = 49\/c = 50\/c = 51\/c = 52\/c = 53\/c = 54\/c = 55\/c = 56\/c = 57:=by omega
      rcases h3 with rfl | rfl | rfl | rfl | rfl | rfl | rfl | rfl | rfl | rfl <;> decide +kernel
     have ev:vW (l.take (i + 1)) = vW (l.take i) * 10 + (c - 48):=by
      rw [et]
      show (l.take i ++ [c]).foldl _ 0 = (l.take i).foldl _ 0 * 10 + (c - 48)
      rw [List.foldl_append]
      rfl
     refine ⟨mul30 ⟨by omega,by decide +kernel⟩,rfl,_,rfl,_,rfl,_,_,hi1,_,⟨by rw [ev]; push_cast; rfl,rfl⟩,fun d hd'=>?_⟩
     rw [et] at hd'
     rcases Ja4.mp hd' with z | z
     ·exact hd d z
     ·rw [Jar.mp z]; exact hcd
   ·rintro σ H2 ⟨v2,rfl,rfl,hd⟩
    rw [hl,Jco] at hd
    rw [hl,Jco]
    have e:isW l = true:=by
     unfold isW
     rw [Jag h1,Jag h30,Ja0.mpr hd]
     rcases hz with hz | hz
     ·rw [Jag hz]; rfl
     ·rw [Jag hz,Bool.or_true]; rfl
    have:=q H2 (Same.refl _)
    rw [e] at this
    exact ⟨_,rfl,this⟩
  have hz:(mkS l).length<=sizeLine:=by rw [hl]; exact slc (by omega)
  refine ⟨_,rfl,hz,Zb9 (fun h1=>no ?_ H (Same.refl _)) (fun h1=>⟨_,rfl,hz,Zb9 (fun h2=>no ?_ H (Same.refl _)) (fun h2=>?_)⟩)⟩
  ·have:=Jah h1
   rw [hl] at this
   unfold isW
   rw [Jak (show ¬ 1<=l.length by omega)]
   rfl
  ·have:=Jah h2
   rw [hl] at this
   unfold isW
   rw [Jak (show ¬ l.length<=30 by omega),Jcd]
   rfl
  have h1':1<=l.length:=Classical.byContradiction fun z=>h1 (Jag (by rw [hl]; omega))
  have h2':l.length<=30:=Classical.byContradiction fun z=>h2 (Jag (by rw [hl]; omega))
  have e0:l[0]? = some (l[0]'(by omega)):=Jaa (by omega)
  refine ⟨_,rfl,hz,l[0]'(by omega),Zeb (by decide) e0,Zb9 (fun h3=>⟨_,rfl,hz,Zb9 (fun h4=>no ?_ H (Same.refl _)) (fun h4=>go h1' h2' (.inl ?_))⟩) (fun h3=>go h1' h2' (.inr fun z=>?_))⟩
  ·have h3:=Jah h3
   have h4:=Jah h4
   rw [hl] at h4
   rw [zero] at h3
   have h5:l[0]'(by omega) = 48:=by have:=Zfy (a:=[l[0]'(by omega)]) (b:=[48]) (V.str.inj h3); injection this
   have n6:l ≠ [48]:=fun z=>by rw [z] at h4; simp at h4
   unfold isW
   rw [Jak n6,e0,h5]
   simp
  ·have h3:=Jah h3
   rw [zero] at h3
   have h5:l[0]'(by omega) = 48:=by have:=Zfy (a:=[l[0]'(by omega)]) (b:=[48]) (V.str.inj h3); injection this
   have h6:¬ 1 < l.length:=fun z=>h4 (Jag (by rw [hl]; omega))
   obtain ⟨c,rfl⟩:=List.length_eq_one_iff.mp (show l.length = 1 by omega)
   rw [show c = 48 from h5]
  ·rw [e0] at z
   exact h3 (Jag (by rw [zero,Ja3 z]; rfl))
theorem Zdy {l:List Nat} {i:Int} (h0:0<=i):Zjh (mkS l) none (some i) = mkS (l.take i.toNat):=by
 unfold Zjh
 rw [Zao]
 have e1:HT.sIx l.length l.length (some i) = min i.toNat l.length:=by
  simp only [HT.sIx]
  rw [if_neg (by omega)]
 have e0:HT.sIx l.length 0 none = 0:=rfl
 rw [e1,e0,Jd1,Nat.sub_zero]
 show mkS (l.take (min i.toNat l.length)) = _
 rw [<- List.take_eq_take_min]
theorem Zcz {l:List Nat} {i:Int} (h0:0<=i):Zjh (mkS l) (some i) none = mkS (l.drop i.toNat):=by
 unfold Zjh
 rw [Zao]
 have e1:HT.sIx l.length 0 (some i) = min i.toNat l.length:=by
  simp only [HT.sIx]
  rw [if_neg (by omega)]
 have e0:HT.sIx l.length l.length none = l.length:=rfl
 rw [e1,e0]
 show mkS ((l.drop (min i.toNat l.length)).take (l.length - min i.toNat l.length)) = _
 congr 1
 by_cases h:i.toNat<=l.length
 ·rw [Nat.min_eq_left h]
  exact Jbt (by rw [Jbg]; exact Jae _)
 ·rw [Nat.min_eq_right (by omega),Nat.sub_self,List.take_zero,Jcw (by omega)]
theorem Zou {l:List Nat} {i:Int} (h0:0<=i):∃ m,Zjh (mkS l) (some i) (some (i + 1)) = mkS m/\m.length<=1/\∀ c ∈ m,c ∈ l:=by
 refine ⟨_,rfl,?_,fun c hc=>Jda (Jdb hc)⟩
 rw [Zao,Jbv]
 have e1:HT.sIx l.length 0 (some i) = min i.toNat l.length:=by
  simp only [HT.sIx]
  rw [if_neg (by omega)]
 have e2:HT.sIx l.length l.length (some (i + 1)) = min (i + 1).toNat l.length:=by
  simp only [HT.sIx]
  rw [if_neg (by omega)]
 rw [e1,e2]
 omega
def spSpo:Sp:=fun vs H Q _=>∃ (l:List Nat) (b:Addr),vs = [.str (mkS l),.ref b]/\Asc l/\l.length<=200/\Bag H b/\∀ (l':List Nat) (H':Hp),Ext b H H'->Bag H' b->Asc l'->l'.length<=l.length + 1->Q (.str (mkS l')) H'
theorem ok_spo {f:Addr} {fd:FuncData} (F:Fun K "_law_sign_spoilt" "_law_sign_spoilt" Za0 f fd) (T:Txt K mg C Dg) (C_law_draw:Cal P w K mg base "_law_draw" 1 Zdl):FnOk P w K mg base CX0 2 f fd ["_law_text","_law_bag_here"] spSpo:=by
 have nd:=Zcx.nd
 refine F.ok Zcx (fun vs H Q E h=>?_) (fun cdv A outer s H vs Q E hr h=>?_)
 ·obtain ⟨l,b,rfl,_⟩:=h
  rfl
 ·obtain ⟨l,b,rfl,asc,hl,hb,q⟩:=h
  refine ⟨_,((Zam (i:=2) nd rfl (Or.inl rfl) Zaf)<*>((Zam (i:=3) nd rfl (Or.inl rfl) (Zbb C_law_draw hr.m rfl ((pv 1)<&>((Zch<|>(Zbj Zca rfl T.n_len Jb2 ((pv 0)<&>Zaa))<&&>Zab)<&>Zaa))))<*>((Zam (i:=4) nd rfl (Or.inl rfl) (Zbb C_law_draw hr.m rfl ((pv 1)<&>(Zab<&>Zaa))))<*>((Zam (i:=5) nd rfl (Or.inl rfl) (Zml<|>(pv 2)<||>(Zbb C_law_draw hr.m rfl ((pv 1)<&>(Zab<&>Zaa)))))<*>((@Za1 _ _ _ _ _ _ _ _ (Zae Zdj (pv 4) Zab (Zak _)) (~~~(Zan<|>(Zan<|>(@Za9 _ _ _ _ _ _ _ _ _ _ Zdm (pv 0) Zb7 (@Zbi _ _ _ (pv 3)))<&&>(pv 5))<&&>(@Za9 _ _ _ _ _ _ _ _ _ _ Zdm (pv 0) (@Zbi _ _ _ (pv 3)) Zb7))) Zal)<*>((@Za1 _ _ _ _ _ _ _ _ (Zae Zdj (pv 4) Zab (Zak _)) (~~~(Zan<|>(@Za9 _ _ _ _ _ _ _ _ _ _ Zdm (pv 0) Zb7 (@Zbi _ _ _ (pv 3)))<&&>(@Za9 _ _ _ _ _ _ _ _ _ _ Zdm (pv 0) (@Zbi _ _ _ (Zch<|>(pv 3)<&&>Zab)) Zb7))) Zal)<*>((@Za1 _ _ _ _ _ _ _ _ (Zae Zdj (pv 4) Zab (Zak _)) (~~~(Zan<|>(Zan<|>(@Za9 _ _ _ _ _ _ _ _ _ _ Zdm (pv 0) Zb7 (@Zbi _ _ _ (pv 3)))<&&>(pv 5))<&&>(@Za9 _ _ _ _ _ _ _ _ _ _ Zdm (pv 0) (@Zbi _ _ _ (Zch<|>(pv 3)<&&>Zab)) Zb7))) Zal)<*>(~~~(Zan<|>(Zan<|>(@Za9 _ _ _ _ _ _ _ _ _ _ Zdm (pv 0) Zb7 (@Zbi _ _ _ (pv 3)))<&&>(@Za9 _ _ _ _ _ _ _ _ _ _ Zdm (pv 0) (@Zbi _ _ _ (pv 3)) (@Zbi _ _ _ (Zch<|>(pv 3)<&&>Zab))))<&&>(@Za9 _ _ _ _ _ _ _ _ _ _ Zdm (pv 0) (@Zbi _ _ _ (pv 3)) Zb7)))))))))),?_⟩
  walk_at "wp"
  have hl0:=Zao l
  have hsz:∀ m:List Nat,m.length<=300->(mkS m).length<=sizeLine:=fun m h=>by rw [Zao]; exact slc (by omega)
  have hsz2:∀ m n:List Nat,m.length<=300->n.length<=300->(mkS m).length + (mkS n).length<=sizeLine:=fun m n h h'=>by rw [Zao,Zao]; exact slc (by omega)
  refine ⟨_,rfl,hsz l (by omega),hb.draw (by omega) (by rw [hl0]; omega) fun i H1 i0 i1 e1 b1=>b1.draw (by decide) (by decide) fun z H2 z0 z1 e2 b2=>b2.draw (by decide) (by decide) fun y H3 y0 y1 e3 b3=>?_⟩
  rw [hl0] at i1
  have e:=(e1.trans e2).trans e3
  obtain ⟨c,hc,c128⟩:∃ c,atI (Str.ofString " 0123456789-/+.;:,><ab_()~").cps.toList y = some c/\c < 128:=by
   have hall:((Str.ofString " 0123456789-/+.;:,><ab_()~").cps.toList.all fun c=>decide (c < 128)) = true:=by decide +kernel
   have hlen:(Str.ofString " 0123456789-/+.;:,><ab_()~").cps.toList.length = 26:=by decide +kernel
   have hi:y.toNat < (Str.ofString " 0123456789-/+.;:,><ab_()~").cps.toList.length:=by rw [hlen]; omega
   exact ⟨_,Zeb y0 (Jaa hi),Jah (Ja0.mp hall _ (Jba hi))⟩
  have mc:(⟨#[c]⟩:Str) = mkS [c]:=rfl
  have t1:(l.take i.toNat).length<=300:=by rw [Jbv]; omega
  have t2:(l.drop i.toNat).length<=300:=by rw [Jbg]; omega
  have t3:(l.drop (i + 1).toNat).length<=300:=by rw [Jbg]; omega
  have l1:(l.take i.toNat).length = i.toNat:=by rw [Jbv]; omega
  have l2:(l.drop i.toNat).length = l.length - i.toNat:=by rw [Jbg]
  have l3:(l.drop (i + 1).toNat).length<=l.length - i.toNat:=by rw [Jbg]; omega
  have a1:∀ c ∈ l.take i.toNat,c < 128:=fun c hc=>asc c (Jdb hc)
  have a2:∀ c ∈ l.drop i.toNat,c < 128:=fun c hc=>asc c (Jda hc)
  have a3:∀ c ∈ l.drop (i + 1).toNat,c < 128:=fun c hc=>asc c (Jda hc)
  have ap:∀ {m n:List Nat},(∀ c ∈ m,c < 128)->(∀ c ∈ n,c < 128)->∀ c ∈ m ++ n,c < 128:=fun h h' c hc=>by
   rcases Ja4.mp hc with z | z
   ·exact h c z
   ·exact h' c z
  have ac:∀ d ∈ [c],d < 128:=fun d hd=>by rw [Jar.mp hd]; exact c128
  obtain ⟨m,em,lm,hm⟩:=Zou (l:=l) i0
  have am:∀ c ∈ m,c < 128:=fun c hc=>asc c (hm c hc)
  refine ⟨_,rfl,y,rfl,by decide,c,hc,rfl,?_⟩
  rw [mc]
  refine Zb9 (fun _=>⟨i,rfl,_,rfl,hsz l (by omega),_,rfl,_,rfl,?_,i,rfl,_,rfl,hsz l (by omega),_,rfl,_,rfl,?_,?_⟩) (fun _=>⟨rfl,Zb9 (fun _=>⟨i,rfl,_,rfl,hsz l (by omega),i,rfl,_,rfl,hsz l (by omega),_,rfl,_,rfl,?_,?_⟩) (fun _=>⟨rfl,Zb9 (fun _=>⟨i,rfl,_,rfl,hsz l (by omega),_,rfl,_,rfl,?_,i,rfl,_,rfl,hsz l (by omega),_,rfl,_,rfl,?_,?_⟩) (fun _=>?_)⟩)⟩)
  ·rw [Zdy i0]
   exact hsz2 _ _ t1 (by simp)
  ·rw [Zdy i0,Zcz i0,Zas]
   exact hsz2 _ _ (by rw [Jab,l1]; simp; omega) t2
  ·rw [Zdy i0,Zcz i0,Zas,Zas]
   exact q _ H3 e b3 (ap (ap a1 ac) a2) (by rw [Jab,Jab,l1,l2]; simp; omega)
  ·rw [Zdy i0,Zcz (by omega)]
   exact hsz2 _ _ t1 t3
  ·rw [Zdy i0,Zcz (by omega),Zas]
   exact q _ H3 e b3 (ap a1 a3) (by rw [Jab,l1]; omega)
  ·rw [Zdy i0]
   exact hsz2 _ _ t1 (by simp)
  ·rw [Zdy i0,Zcz (by omega),Zas]
   exact hsz2 _ _ (by rw [Jab,l1]; simp; omega) t3
  ·rw [Zdy i0,Zcz (by omega),Zas,Zas]
   exact q _ H3 e b3 (ap (ap a1 ac) a3) (by rw [Jab,Jab,l1]; simp; omega)
  ·refine ⟨i,rfl,_,rfl,hsz l (by omega),i,rfl,i,rfl,_,rfl,hsz l (by omega),_,rfl,_,rfl,?_,i,rfl,_,rfl,hsz l (by omega),_,rfl,_,rfl,?_,?_⟩
   ·rw [Zdy i0,em]
    exact hsz2 _ _ t1 (by omega)
   ·rw [Zdy i0,Zcz i0,em,Zas]
    exact hsz2 _ _ (by rw [Jab,l1]; omega) t2
   ·rw [Zdy i0,Zcz i0,em,Zas,Zas]
    exact q _ H3 e b3 (ap (ap a1 am) a2) (by rw [Jab,Jab,l1,l2]; omega)
def gtB:V->Bool
 | .str z=>(sg z).all (fun c=>decide (c < 128)) && decide ((sg z).length<=200)
 | _=>false
theorem gtB_ok {v:V} (h:gtB v = true):∃ l,v = .str (mkS l)/\Asc l/\l.length<=200:=by
 cases v with
 | str z=>
  unfold gtB at h
  rw [Jay] at h
  exact ⟨sg z,rfl,fun c hc=>Jah (Ja0.mp h.1 c hc),Jah h.2⟩
 | _=>cases h
abbrev Ar:=Int × Int
def IsP (H:Hp) (x:V) (q:Ar):Prop:=∃ t,x = .ref t/\H t = some (.tup [.int q.1,.int q.2])
def Prs (H:Hp) (xs:List V) (ps:List Ar):Prop:=All2 (IsP H) xs ps
theorem Prs.same {H H':Hp} {xs:List V} {ps:List Ar} (h:Prs H xs ps) (s:Same H H'):Prs H' xs ps:=h.mono fun _ _ ⟨t,e,ht⟩=>⟨t,e,s _ _ ht⟩
def Dig (e:Int):Prop:=0<=e/\e < 10
def Zk6 (ps:List Ar):Prop:=∀ q ∈ ps,Dig q.1/\Dig q.2
theorem Zc3 {e:Int} (h:Dig e):tI e = [48 + e.toNat]:=by
 have h1:=h.1
 have h2:=h.2
 unfold tI
 rw [if_neg (by omega),Zfj (by omega)]
 congr 2
 omega
def Zfx (q:Ar):List Nat:=tI q.1 ++ 62 :: tI q.2
def Zlh (m:Int) (ps:List Ar):List Nat:=Zaq [32] ((tI m ++ [58]) :: ps.map Zfx)
theorem Zg5 {q:Ar} (h:Dig q.1/\Dig q.2):(Zfx q).length = 3:=by
 unfold Zfx
 rw [Zc3 h.1,Zc3 h.2]
 rfl
theorem Ze2 {e:Int} (h:Dig e):e.natAbs.log2 < 1920:=low2 (Jbe (show e.natAbs<=9 by have:=h.1; have:=h.2; omega) (by decide +kernel))
theorem Zfw (m:Int) (ps:List Ar):Zlh m ps = tI m ++ [58] ++ (ps.map fun q=>32 :: Zfx q).flatten:=by
 unfold Zlh
 rw [Zd2,Jcr]
 rfl
theorem Zhq:∀ {ps:List Ar},Zk6 ps->((ps.map fun q=>32 :: Zfx q).flatten).length = 4 * ps.length
 | [],_=>rfl
 | q :: ps,h=>by
  rw [Jcf,List.flatten_cons,Jab,Jap,Zg5 (h q (by simp)),Zhq fun x hx=>h x (Jai _ hx),Jap]
  omega
theorem Zjq {m:Int} {ps:List Ar} (hm:Dig m) (h:Zk6 ps):(Zlh m ps).length = 2 + 4 * ps.length:=by
 rw [Zfw,Jab,Jab,Zhq h,Zc3 hm]
 rfl
theorem Zm4:Str.ofString ":" = mkS [58]:=by decide +kernel
theorem gtS:Str.ofString ">" = mkS [62]:=by decide +kernel
theorem Zk2 {a D:Addr} {xs:List V} {ps:List Ar} {fr:List (Str × Nat)} {σ:L2.St} {te:TE} {H1:Hp} {Q:VK} (g:Ar->Str) (ha:H1 a = some (.lst xs)) (hps:Prs H1 xs ps) (hD:H1 D = none) (hn:xs.length<=1000)
  (h:∀ q H (Q:VK),q ∈ ps->Same H1 H->(∀ H',Same H H'->Q (.str (g q)) H')->te (some (.int q.1) :: some (.int q.2) :: Zby fr σ) H Q)
  (hQ:∀ H',Same H1 H'->H' D = some (.lst ((ps.map g).map V.str))->Q (.ref D) H'):Zbo (gTup K 2 (Zkx (Zce 0) (Zkx (Zce 1) gNil))) Zgk te (Itl K a) D (Zfh 2 fr σ) H1 Q:=by
 have hlen:=hps.1
 refine Zfs (xs:=xs) (fun i vs H=>Same H1 H/\H D = some (.lst vs)/\vs = ((ps.take i).map g).map V.str) ⟨Same.new hD,Zac,rfl⟩ (fun i vs H _ p=>SqL.of (p.1 _ _ ha)) ?_ (fun vs H ⟨s,e,hv⟩=>hQ H s (by rw [e,hv,hlen,Jco]))
 rintro i x vs σ' H hi hx sh ⟨s,e,rfl⟩
 obtain ⟨z1,z2,rfl⟩:=sh.two
 have hi':i < ps.length:=by omega
 have hq:ps[i]? = some ps[i]:=Jaa hi'
 obtain ⟨t,rfl,ht⟩:=hps.2 i x _ hx hq
 refine ⟨t,_,rfl,SqT.of (s _ _ ht),rfl,_,_,rfl,_,_,rfl,rfl,?_⟩
 simp only [Zgk,List.set_cons_zero,List.set_cons_succ,if_true]
 refine h _ H _ (Jal hq) s fun H' s'=>?_
 refine Zpf (ws:=((ps.take (i + 1)).map g).map V.str) hi Sh.mk2 (s' _ _ e) (Za4 (by rw [Jac,Jac,Jbv]; omega)) ⟨(s.trans s').upd hD,?_,rfl⟩
 rw [Zac,Jc2,hq,Jbc,Jbc]
 rfl
theorem Zos (m:Int) (ps:List Ar):Txt.join (Str.ofString " ") (mkS (tI m ++ [58]) :: ps.map fun q=>mkS (Zfx q)) = mkS (Zlh m ps):=by
 have:=Zhl (Str.ofString " ") ((tI m ++ [58]) :: ps.map Zfx)
 rw [Jcf,Jcr] at this
 rw [show sg (Str.ofString " ") = [32] by rw [Zht]; rfl] at this
 exact this
theorem drw_fit {m:Int} {ps:List Ar} (hm:Dig m) (h:Zk6 ps) (hl:ps.length<=11):JoinOk (Str.ofString " ") (mkS (tI m ++ [58]) :: ps.map fun q=>mkS (Zfx q)) = true:=by
 refine Zhk (B:=10) (fun y hy=>?_) ?_
 ·rcases Jav.mp hy with rfl | hy
  ·rw [Zao,Zc3 hm]
   show 2<=10
   decide
  ·obtain ⟨q,hq,rfl⟩:=Jbq.mp hy
   rw [Zao,Zg5 (h q hq)]
   decide
 ·rw [Jap,Jac,Zht,Zao]
  show (ps.length + 1) * 10 + (ps.length + 1) * 1<=16777216
  omega
def DrA (Dg:Addr) (H:Hp) (d:Addr) (m:Int) (ps:List Ar):Prop:=∃ dx lp xs,H d = some (.ins Dg dx (Zk1 m lp))/\H lp = some (.lst xs)/\Prs H xs ps
def spShD (Dg:Addr):Sp:=fun vs H Q _=>∃ (d:Addr) (m:Int) (ps:List Ar),vs = [.ref d]/\DrA Dg H d m ps/\Dig m/\Zk6 ps/\ps.length<=11/\∀ H',Same H H'->Q (.str (mkS (Zlh m ps))) H'
theorem ok_shd {f:Addr} {fd:FuncData} (F:Fun K "show_drawing" "show_drawing" Zbd f fd) (T:Txt K mg C Dg):FnOk P w K mg base CX0 1 f fd ["drawing"] (spShD Dg):=by
 have nd:=Zds.nd
 refine F.ok Zds (fun vs H Q E h=>?_) (fun cdv A outer s H vs Q E hr h=>?_)
 ·obtain ⟨d,m,ps,rfl,_⟩:=h
  rfl
 ·obtain ⟨d,m,ps,rfl,⟨dx,lp,xs,hd,hlp,hps⟩,hm,hp,hl,q⟩:=h
  refine ⟨_,(~~~(Zdp Jaz Jbx Jby Zex Zaf ((Zib<|>(@Zbm _ _ _ _ ((pe_fst1 (Zfb (pv 0) rfl))<&>Zaa))<&&>(Zcd (own:=["tail","head"]) (fr:=[]) rfl (Zet (by kernel_rfl)) (Zcc (Zfb (pv 0) rfl)) (fun _ _ _ _=>⟨(@Zlz _ K rfl _ _ _ _ 2 rfl (@Zbg _ _ _ _ _ (@Zap _ _ 0 _ (show (["tail","head"]:List Str).Nodup by decide +kernel) rfl (Or.inl rfl) (Or.inr rfl)) (@Zbg _ _ _ _ _ (@Zap _ _ 1 _ (show (["tail","head"]:List Str).Nodup by decide +kernel) rfl (Or.inl rfl) (Or.inr rfl)) (@Zev _) (by rfl)) (by rfl)) (by rfl) (by rfl)),Zbw,(pe_fst2 (pv 0) (pv 1))⟩)))<&>Zaa))),?_⟩
  walk_at "wp"
  have em:Str.empty ++ Str.ofString (toString m) ++ Str.ofString ":" = mkS (tI m ++ [58]):=by
   rw [str_int,Zm4]
   show mkS [] ++ mkS (tI m) ++ mkS [58] = _
   rw [Zas,Zas]
   rfl
  have lm:(tI m).length = 1:=by rw [Zc3 hm]; rfl
  have l1:(Str.empty ++ Str.ofString (toString m)).length<=sizeLine:=by
   rw [str_int]
   show (mkS [] ++ mkS (tI m)).length<=sizeLine
   rw [Zas,Zao]
   exact slc (by show (tI m).length<=1000; omega)
  have l2:(Str.empty ++ Str.ofString (toString m) ++ Str.ofString ":").length<=sizeLine:=by
   rw [em,Zao]
   exact slc (by rw [Jab,lm]; decide)
  refine ⟨rfl,Dg,dx,_,hd,T.cl_Drawing,T.nM,_,Ze3 m lp,m,rfl,Ze2 hm,l1,l2,by decide,fun p1 hp1=>?_⟩
  rw [em]
  have sA:=Same.new (o:=.lst [V.str (mkS (tI m ++ [58]))]) hp1
  have e1:upd H p1 (.lst [V.str (mkS (tI m ++ [58]))]) p1 = some (.lst [V.str (mkS (tI m ++ [58]))]):=Zac
  generalize upd H p1 (.lst [V.str (mkS (tI m ++ [58]))]) = H1 at *
  have hll:=hps.1
  refine ⟨_,rfl,d,Dg,dx,_,_,rfl,sA _ _ hd,T.cl_Drawing,T.nA,Zcy m lp,lp,rfl,⟨_,SqL.of (sA _ _ hlp)⟩,fun D hD=>Zk2 (fun q=>mkS (Zfx q)) (sA _ _ hlp) (hps.same sA) hD (by omega) (fun q H' Q' hq s' q'=>?_) fun H2 s2 e2=>?_⟩
  ·have hq2:=hp q hq
   have ea:Str.empty ++ Str.ofString (toString q.1) ++ Str.ofString ">" ++ Str.ofString (toString q.2) = mkS (Zfx q):=by
    rw [str_int,str_int,gtS]
    show mkS [] ++ mkS (tI q.1) ++ mkS [62] ++ mkS (tI q.2) = _
    rw [Zas,Zas,Zas]
    unfold Zfx
    simp
   have ln:∀ l:List Nat,l.length<=10->(mkS l).length<=sizeLine:=fun l h=>by rw [Zao]; exact slc (by omega)
   have ed:=Zc3 hq2.1
   refine ⟨_,rfl,q.1,rfl,Ze2 hq2.1,?_,?_,_,rfl,q.2,rfl,Ze2 hq2.2,?_,?_⟩
   ·rw [str_int]
    show (mkS [] ++ mkS (tI q.1)).length<=sizeLine
    rw [Zas,ed]
    exact ln _ (by show 1<=10; decide)
   ·rw [str_int,gtS]
    show (mkS [] ++ mkS (tI q.1) ++ mkS [62]).length<=sizeLine
    rw [Zas,Zas,ed]
    exact ln _ (by show 2<=10; decide)
   ·rw [ea]
    exact ln _ (by rw [Zg5 hq2]; decide)
   ·rw [ea]
    exact q' _ (Same.refl _)
  ·refine ⟨D,rfl,_,s2 _ _ e1,_,e2,?_,fun p2 hp2=>⟨_,rfl,mkS (tI m ++ [58]) :: ps.map (fun q=>mkS (Zfx q)),SqL.of Zac,drw_fit hm hp hl,?_⟩⟩
   ·rw [Jac,Jac]
    show 1 + ps.length<=sizeLine
    exact slc (by omega)
   ·rw [Zos]
    exact q _ ((sA.trans s2).trans (Same.new hp2))
def Znq:Sp:=fun vs H Q _=>∃ (a:Addr) (xs:List V) (m:Int) (ps:List Ar),vs = [.int m,.ref a]/\H a = some (.lst xs)/\Prs H xs ps/\Dig m/\Zk6 ps/\ps.length<=11/\Q (.str (mkS (Zlh m ps))) H
theorem ok_lds {f:Addr} {fd:FuncData} (F:Fun K "_law_drawing_shown" "_law_drawing_shown" Zat f fd) (T:Txt K mg C Dg):FnOk P w K mg base CX0 1 f fd ["_law_many","_law_arrows"] Znq:=by
 have nd:=Zcf.nd
 refine F.ok Zcf (fun vs H Q E h=>?_) (fun cdv A outer s H vs Q E hr h=>?_)
 ·obtain ⟨a,xs,m,ps,rfl,_⟩:=h
  rfl
 ·obtain ⟨a,xs,m,ps,rfl,ha,hps,hm,hp,hl,q⟩:=h
  refine ⟨_,((Zam (i:=2) nd rfl (Or.inl rfl) (Zan<|>(Zd4 Za5 rfl T.n_str Jdw ((pv 0)<&>Zaa))<&&>Zaf))<*>((Zel Jbm rfl (Zcc (pv 1)) (@Zh8 _ _ _ _ _ 2 rfl (@Zbg _ _ _ _ _ (@Zap _ _ 3 _ nd rfl (Or.inl rfl) (Or.inl rfl)) (@Zbg _ _ _ _ _ (@Zap _ _ 4 _ nd rfl (Or.inl rfl) (Or.inl rfl)) (@Zev _) (by rfl)) (by rfl)) (by rfl) (by rfl)) (@Zav _ _ _ (Zam (i:=2) nd rfl (Or.inl rfl) (Zan<|>(Zan<|>(Zan<|>(Zan<|>(pv 2)<&&>Zaf)<&&>(Zd4 Za5 rfl T.n_str Jdw ((pv 3)<&>Zaa)))<&&>Zaf)<&&>(Zd4 Za5 rfl T.n_str Jdw ((pv 4)<&>Zaa))))))<*>(~~~(pv 2)))),?_⟩
  walk_at "wp"
  have lm:(tI m).length = 1:=by rw [Zc3 hm]; rfl
  have hll:=hps.1
  refine ⟨Ze2 hm,_,rfl,_,rfl,?_,?_⟩
  ·rw [str_int,Zm4,Zao,Zao,lm]
   exact slc (by show 2<=1000; decide)
  rw [str_int,Zm4,Zas]
  refine ⟨_,rfl,_,rfl,⟨_,SqL.of ha⟩,Zfq (xs:=xs) (fun i σ H2=>∃ v3 v4:Option V,H2 = H/\σ = [some (.int m),some (.ref a),some (.str (mkS (tI m ++ [58] ++ ((ps.take i).map fun q=>32 :: Zfx q).flatten))),v3,v4]) ⟨none,none,rfl,by simp⟩ (fun i σ H2 _ ⟨_,_,e,_⟩=>by rw [e]; exact SqL.of ha) ?_ ?_⟩
  ·rintro i x σ H2 hx ⟨v3,v4,rfl,rfl⟩
   have hi:i < ps.length:=by have:=(Jat.mp hx).1; omega
   have hq:ps[i]? = some ps[i]:=Jaa hi
   obtain ⟨t,rfl,ht⟩:=hps.2 i x _ hx hq
   have dq:=hp _ (Jal hq)
   have et:(List.map (fun q=>32 :: Zfx q) (ps.take (i + 1))).flatten = (List.map (fun q=>32 :: Zfx q) (ps.take i)).flatten ++ 32 :: Zfx ps[i]:=by
    rw [Jc2,hq,Jbc,List.flatten_append]
    simp
   have lf:=Zhq (ps:=ps.take i) fun q hq=>hp q (Jdb hq)
   have lt:(ps.take i).length<=11:=by rw [Jbv]; omega
   have ln:∀ l l':List Nat,l.length<=100->l'.length<=100->(mkS l).length + (mkS l').length<=sizeLine:=fun l l' h h'=>by rw [Zao,Zao]; exact slc (by omega)
   have e1:=Zc3 dq.1
   have e2:=Zc3 dq.2
   generalize hB:(List.map (fun q=>32 :: Zfx q) (ps.take i)).flatten = B at *
   refine ⟨t,_,rfl,SqT.of ht,rfl,_,_,rfl,_,_,rfl,rfl,?_⟩
   walk_at "wp"
   rw [str_int,str_int,gtS,Zht,e1,e2]
   refine ⟨_,rfl,_,rfl,?_,Ze2 dq.1,_,rfl,_,rfl,?_,_,rfl,_,rfl,?_,Ze2 dq.2,_,rfl,_,rfl,?_,?_⟩
   ·exact ln _ _ (by rw [Jab,Jab,lm]; simp; omega) (by simp)
   ·rw [Zas]
    exact ln _ _ (by rw [Jab,Jab,Jab,lm]; simp; omega) (by simp)
   ·rw [Zas,Zas]
    exact ln _ _ (by rw [Jab,Jab,Jab,Jab,lm]; simp; omega) (by simp)
   ·rw [Zas,Zas,Zas]
    exact ln _ _ (by rw [Jab,Jab,Jab,Jab,Jab,lm]; simp; omega) (by simp)
   ·refine ⟨?_,_,rfl⟩
    rw [Zas,Zas,Zas,Zas,et]
    unfold Zfx
    rw [e1,e2]
    simp
  ·rintro σ H2 ⟨v3,v4,rfl,rfl⟩
   rw [hll,Jco,<- Zfw]
   exact ⟨_,rfl,q⟩
theorem pcs (d:Nat):∀ l:List Nat,∃ a ps,l = Zaq [d] (a :: ps)/\∀ b ∈ a :: ps,d ∉ b
 | []=>⟨[],[],rfl,by simp⟩
 | c :: l=>by
  obtain ⟨a,ps,e,h⟩:=pcs d l
  by_cases hc:c = d
  ·subst hc
   refine ⟨[],a :: ps,?_,fun b hb=>?_⟩
   ·show c :: l = [] ++ [c] ++ Zaq [c] (a :: ps)
    rw [e]
    rfl
   ·rcases Jav.mp hb with rfl | hb
    ·simp
    ·exact h b hb
  ·refine ⟨c :: a,ps,?_,fun b hb=>?_⟩
   ·rw [Zd2] at e ⊢
    rw [e]
    rfl
   ·rcases Jav.mp hb with rfl | hb
    ·intro z
     rcases Jav.mp z with z | z
     ·exact hc z.symm
     ·exact h a (by simp) z
    ·exact h b (by simp [hb])
theorem Zfz {d:Nat} (hd:d < 128) {ps:List (List Nat)} (hp:ps ≠ []) (asc:Asc (Zaq [d] ps)) (h:∀ b ∈ ps,d ∉ b):Txt.split (mkS (Zaq [d] ps)) (mkS [d]) = ps.map mkS:=by
 refine Zko (Zna asc) (Zkg ?_) (by rw [Zao]; exact Nat.one_pos) hp ?_ fun a ha=>?_
 ·intro c hc
  rw [Zi6] at hc
  rw [Jar.mp hc]
  exact hd
 ·rw [Zi6,Zi6]
 ·rw [Zi6]
  exact Zk5 (h a ha)
theorem Zd1 (d:Nat):∀ (ps:List (List Nat)),(∀ b ∈ ps,b.length<=(Zaq [d] ps).length)/\ps.length<=(Zaq [d] ps).length + 1
 | []=>⟨by simp,by simp⟩
 | [a]=>⟨by simp [Zaq],by simp⟩
 | a :: b :: r=>by
  obtain ⟨h1,h2⟩:=Zd1 d (b :: r)
  have e:(Zaq [d] (a :: b :: r)).length = a.length + 1 + (Zaq [d] (b :: r)).length:=by
   show (a ++ [d] ++ Zaq [d] (b :: r)).length = _
   rw [Jab,Jab]
   rfl
  refine ⟨fun c hc=>?_,?_⟩
  ·rcases Jav.mp hc with rfl | hc
   ·omega
   ·have:=h1 c hc
    omega
  ·rw [Jap]
   omega
theorem Zd0 (d:Nat):∀ (ps:List (List Nat)) (b:List Nat),b ∈ ps->∀ c ∈ b,c ∈ Zaq [d] ps
 | [],b,hb,_,_=>by simp at hb
 | [a],b,hb,c,hc=>by rw [Jar.mp hb] at hc; exact hc
 | a :: a' :: r,b,hb,c,hc=>by
  show c ∈ a ++ [d] ++ Zaq [d] (a' :: r)
  rcases Jav.mp hb with rfl | hb
  ·simp [hc]
  ·have:=Zd0 d (a' :: r) b hb c hc
   simp [this]
def Zf0:List Nat->List Nat × Option (List Nat)
 | []=>([],none)
 | c :: l=>if c = 62 then ([],some l) else (c :: (Zf0 l).1,(Zf0 l).2)
theorem Zh3:∀ {l:List Nat},62 ∉ l->Zf0 l = (l,none)
 | [],_=>rfl
 | c :: l,h=>by
  have h1:c ≠ 62:=fun z=>h (by simp [z])
  have h2:=Zh3 (l:=l) fun z=>h (Jai _ z)
  show (if c = 62 then _ else _) = _
  rw [if_neg h1,h2]
theorem Zgp {b:List Nat}:∀ {a:List Nat},62 ∉ a->Zf0 (a ++ 62 :: b) = (a,some b)
 | [],_=>rfl
 | c :: a,h=>by
  have h1:c ≠ 62:=fun z=>h (by simp [z])
  have h2:=Zgp (b:=b) (a:=a) fun z=>h (Jai _ z)
  rw [List.cons_append]
  show (if c = 62 then ([],some (a ++ 62 :: b)) else (c :: (Zf0 (a ++ 62 :: b)).1,(Zf0 (a ++ 62 :: b)).2)) = _
  rw [if_neg h1,h2]
def rdA (l:List Nat):Option Ar:=match Zf0 l with
 | (a,some b)=>if isW a = true/\isW b = true then some (((vW a:Nat):Int),((vW b:Nat):Int)) else none
 | (_,none)=>none
theorem Zo9 {l:List Nat} (h:62 ∉ l):rdA l = none:=by unfold rdA; rw [Zh3 h]
theorem Zhc {a b:List Nat} (h:62 ∉ a):rdA (a ++ 62 :: b) = if isW a = true/\isW b = true then some (((vW a:Nat):Int),((vW b:Nat):Int)) else none:=by unfold rdA; rw [Zgp h]
theorem isW_fig {l:List Nat} {c:Nat} (h:isW l = true) (hc:c ∈ l):48<=c/\c<=57:=(Zii h).2.2 c hc
theorem rdA_pos {l:List Nat} {q:Ar} (h:rdA l = some q):0<=q.1/\0<=q.2:=by
 unfold rdA at h
 split at h
 ·split at h
  ·cases h
   exact ⟨Int.natCast_nonneg _,Int.natCast_nonneg _⟩
  ·cases h
 ·cases h
def spRa (NT:Addr):Sp:=fun vs H Q E=>∃ l:List Nat,vs = [.str (mkS l)]/\Asc l/\l.length<=300/\(rdA l = none->∀ H',Same H H'->E (.ref NT) none H') /\
 ∀ q,rdA l = some q->∀ t H',Same H H'->H t = none->H' t = some (.tup [.int q.1,.int q.2])->Q (.ref t) H'
theorem ok_ra {f:Addr} {fd:FuncData} (F:Fun K "read_arrow" "read_arrow" Zbr f fd) (T:Txt K mg C Dg) (XT:Xt K mg base cc) (C_read_whole:CalE P w K mg base "read_whole" 2 (spRw cc.NoText)):FnOk P w K mg base (CXe P w) 3 f fd ["text"] (spRa cc.NoText):=by
 have nd:=Zeg.nd
 refine F.okE Zeg (fun vs H Q E h=>?_) (fun cdv A outer s H vs Q E hr h=>?_)
 ·obtain ⟨l,rfl,_⟩:=h
  rfl
 ·obtain ⟨l,rfl,asc,h300,hE,q⟩:=h
  refine ⟨_,((Zf9 (Zdp Jaz PySem.F.slot_str_partition PySem.F.type_str_partition mt_part (pv 0) (Zaf<&>Zaa)) (@Zh8 _ _ _ _ _ 3 rfl (@Zbg _ _ _ _ _ (@Zap _ _ 1 _ nd rfl (Or.inl rfl) (Or.inl rfl)) (@Zbg _ _ _ _ _ (@Zap _ _ 2 _ nd rfl (Or.inl rfl) (Or.inl rfl)) (@Zbg _ _ _ _ _ (@Zap _ _ 3 _ nd rfl (Or.inl rfl) (Or.inl rfl)) (@Zev _) (by rfl)) (by rfl)) (by rfl)) (by rfl) (by rfl)))<*>(~~~(@Zcg _ _ _ _ _ ((Zl4 C_read_whole (Zhf (E':=E) (fun _ _ _ h=>h)) hr.m rfl ((pv 1)<&>Zaa))<&>((Zl4 C_read_whole (Zhf (E':=E) (fun _ _ _ h=>h)) hr.m rfl ((pv 3)<&>Zaa))<&>Zaa))))),?_⟩
  walk_at "wp"
  have hsz:(mkS l).length<=sizeLine:=by rw [Zao]; exact slc (by omega)
  by_cases h62:62 ∈ l
  ·obtain ⟨a,b,rfl,na⟩:=List.eq_append_cons_of_mem h62
   rw [Zhc na] at hE q
   have aa:Asc a:=fun c hc=>asc c (by simp [hc])
   have ab:Asc b:=fun c hc=>asc c (by simp [hc])
   rw [Jab,Jap] at h300
   refine ⟨rfl,_,rfl,_,rfl,by decide,hsz,fun p hp=>?_⟩
   rw [Zn6 na]
   have s1:=Same.new (o:=.tup [V.str (mkS a),V.str (mkS [62]),V.str (mkS b)]) hp
   refine ⟨_,SqT.of Zac,rfl,_,_,rfl,_,_,rfl,_,_,rfl,rfl,a,rfl,aa,by omega,fun ea H1 s2=>hE (if_neg (by rw [ea]; exact fun z=>absurd z.1 (by decide))) H1 (s1.trans s2),fun ea H1 s2=>?_⟩
   refine ⟨b,rfl,ab,by omega,fun eb H2 s3=>hE (if_neg (by rw [eb]; exact fun z=>absurd z.2 (by decide))) H2 ((s1.trans s2).trans s3),fun eb H2 s3=>⟨by decide,fun t ht=>?_⟩⟩
   have s4:=(s1.trans s2).trans s3
   exact q _ (if_pos ⟨ea,eb⟩) t _ (s4.trans (Same.new ht)) (s4.free ht) Zac
  ·rw [Zo9 h62] at hE
   refine ⟨rfl,_,rfl,_,rfl,by decide,hsz,fun p hp=>?_⟩
   rw [part_no h62]
   have s1:=Same.new (o:=.tup [V.str (mkS l),V.str Str.empty,V.str Str.empty]) hp
   refine ⟨_,SqT.of Zac,rfl,_,_,rfl,_,_,rfl,_,_,rfl,rfl,l,rfl,asc,h300,fun ea H1 s2=>hE rfl H1 (s1.trans s2),fun ea H1 s2=>?_⟩
   exact ⟨[],rfl,fun c hc=>by simp at hc,by decide,fun eb H2 s3=>hE rfl H2 ((s1.trans s2).trans s3),fun eb=>absurd eb (by decide)⟩
def spLra:Sp:=fun vs H Q _=>∃ l:List Nat,vs = [.str (mkS l)]/\Asc l/\l.length<=300/\(rdA l = none->∀ H',Same H H'->Q .non H') /\
 ∀ q,rdA l = some q->∀ t H',Same H H'->H t = none->H' t = some (.tup [.int q.1,.int q.2])->Q (.ref t) H'
theorem ok_lra {f:Addr} {fd:FuncData} (F:Fun K "_law_arrow_read" "_law_arrow_read" Za3 f fd) (T:Txt K mg C Dg) (C_law_read_whole:Cal P w K mg base "_law_read_whole" 1 Znp):FnOk P w K mg base CX0 2 f fd ["_law_word"] spLra:=by
 have nd:=Zc5.nd
 refine F.ok Zc5 (fun vs H Q E h=>?_) (fun cdv A outer s H vs Q E hr h=>?_)
 ·obtain ⟨l,rfl,_⟩:=h
  rfl
 ·obtain ⟨l,rfl,asc,h300,hN,q⟩:=h
  refine ⟨_,((Zam (i:=1) nd rfl (Or.inl rfl) (Zdp Jaz Jcx Jcy Zhj (pv 0) (Zaf<&>Zaa)))<*>((@Za1 _ _ _ _ _ _ _ _ (PW.pt (Zd3 (Zae Zhg (Zbj Zcb rfl T.n_len Jb2 ((pv 1)<&>Zaa)) Zab (Zak _)) (Zd3 (Zae Zl8 (Zbb C_law_read_whole hr.m rfl ((Zaw<|>(pv 1)<||>Zab)<&>Zaa)) Zgb (Zak _)) (Zdc (Zae Zl8 (Zbb C_law_read_whole hr.m rfl ((Zaw<|>(pv 1)<||>Zab)<&>Zaa)) Zgb (Zak _)))))) (~~~Zgb) Zal)<*>(~~~(@Zcg _ _ _ _ _ ((Zbb C_law_read_whole hr.m rfl ((Zaw<|>(pv 1)<||>Zab)<&>Zaa))<&>((Zbb C_law_read_whole hr.m rfl ((Zaw<|>(pv 1)<||>Zab)<&>Zaa))<&>Zaa)))))),?_⟩
  walk_at "wp"
  obtain ⟨a,ps,rfl,hps⟩:=pcs 62 l
  have hsz:(mkS (Zaq [62] (a :: ps))).length<=sizeLine:=by rw [Zao]; exact slc (by omega)
  have spl:=Zfz (d:=62) (by decide) (List.cons_ne_nil a ps) asc hps
  obtain ⟨il,ip⟩:=Zd1 62 (a :: ps)
  have im:=Zd0 62 (a :: ps)
  have ab:∀ b ∈ a :: ps,Asc b:=fun b hb c hc=>asc c (im b hb c hc)
  refine ⟨rfl,_,rfl,_,rfl,by decide,hsz,?_,fun p hp=>?_⟩
  ·rw [gtS,spl,Jac]
   exact slc (by omega)
  rw [gtS,spl]
  have s1:=Same.new (o:=.lst (((a :: ps).map mkS).map V.str)) hp
  have e1:upd H p (.lst (((a :: ps).map mkS).map V.str)) p = some (.lst (((a :: ps).map mkS).map V.str)):=Zac
  generalize upd H p (.lst (((a :: ps).map mkS).map V.str)) = H1 at *
  have na:=hps a (by simp)
  refine ⟨_,.inl (SqL.of e1),?_⟩
  match ps,hps,ab,il,e1,hN,q with
  | [],hps,ab,il,e1,hN,q=>exact Zhn rfl (hN (Zo9 na) H1 s1)
  | b :: c :: r,hps,ab,il,e1,hN,q=>
   refine Zhn (by simp; omega) (hN ?_ H1 s1)
   have e:Zaq [62] (a :: b :: c :: r) = a ++ 62 :: Zaq [62] (b :: c :: r):=by
    show a ++ [62] ++ Zaq [62] (b :: c :: r) = _
    simp
   rw [e,Zhc na]
   refine if_neg fun z=>?_
   have:=isW_fig (c:=62) z.2 (by show 62 ∈ b ++ [62] ++ Zaq [62] (c :: r); simp)
   omega
  | [b],hps,ab,il,e1,hN,q=>
   have e:Zaq [62] [a,b] = a ++ 62 :: b:=by
    show a ++ [62] ++ b = _
    simp
   rw [e] at hN q il h300
   rw [Zhc na] at hN q
   have la:=il a (by simp)
   have lb:=il b (by simp)
   have aa:=ab a (by simp)
   have abb:=ab b (by simp)
   refine Ze0 (by simp) ⟨_,SqL.of e1,_,rfl,a,rfl,aa,by omega,fun H2 s2=>?_⟩
   by_cases wa:isW a = true
   ·rw [if_pos wa]
    refine Ze0 (by simp) ⟨_,SqL.of (s2 _ _ e1),_,rfl,b,rfl,abb,by omega,fun H3 s3=>?_⟩
    by_cases wb:isW b = true
    ·rw [if_pos wb]
     refine Ze0 (by simp) ⟨_,SqL.of (s3 _ _ (s2 _ _ e1)),_,rfl,a,rfl,aa,by omega,fun H4 s4=>⟨_,SqL.of (s4 _ _ (s3 _ _ (s2 _ _ e1))),_,rfl,b,rfl,abb,by omega,fun H5 s5=>⟨by decide,fun t ht=>?_⟩⟩⟩
     rw [if_pos wa,if_pos wb]
     have s6:=(((s1.trans s2).trans s3).trans s4).trans s5
     exact q _ (if_pos ⟨wa,wb⟩) t _ (s6.trans (Same.new ht)) (s6.free ht) Zac
    ·rw [if_neg wb]
     exact Zhn rfl (hN (if_neg fun z=>wb z.2) H3 ((s1.trans s2).trans s3))
   ·rw [if_neg wa]
    exact Zhn rfl (hN (if_neg fun z=>wa z.1) H2 (s1.trans s2))
theorem Zj9 (l:List Nat):Zjh (mkS l) none (some (-1)) = mkS l.dropLast:=by
 unfold Zjh
 rw [Zao]
 have e1:HT.sIx l.length l.length (some (-1)) = l.length - 1:=by
  simp only [HT.sIx]
  rw [if_pos (by decide)]
  omega
 have e0:HT.sIx l.length 0 none = 0:=rfl
 rw [e1,e0,Jd1,Nat.sub_zero]
 show mkS (l.take (l.length - 1)) = _
 rw [List.dropLast_eq_take]
theorem cut_end (l:List Nat):Zjh (mkS l) (some (-1)) none = mkS (l.drop (l.length - 1)):=by
 unfold Zjh
 rw [Zao]
 have e1:HT.sIx l.length 0 (some (-1)) = l.length - 1:=by
  simp only [HT.sIx]
  rw [if_pos (by decide)]
  omega
 have e0:HT.sIx l.length l.length none = l.length:=rfl
 rw [e1,e0]
 show mkS ((l.drop (l.length - 1)).take (l.length - (l.length - 1))) = _
 congr 1
 exact Jbt (by rw [Jbg]; exact Jae _)
def colB (l:List Nat):Bool:=decide (l.drop (l.length - 1) = [58])
theorem Zk0 (l:List Nat):Txt.endswith (mkS l) (Str.ofString ":") = colB l:=by
 unfold Txt.endswith colB
 rw [Zm4,StrLaws.subAt_eq]
 show (decide (0 + 1<=(mkS l).length) && (((l.drop ((mkS l).length - 1)).take 1) == [58])) = _
 rw [Zao]
 cases l with
 | nil=>rfl
 | cons a r=>
  have:decide (0 + 1<=(a :: r).length) = true:=Jag (by rw [Jap]; omega)
  rw [this,Jcc,Jbt (by rw [Jbg]; omega),Jbz,Ja7,decide_eq_true_iff]
def rdW (l:List Nat):Option Int:=if colB l = true/\isW l.dropLast = true then some ((vW l.dropLast:Nat):Int) else none
def BadT (w0:List Nat) (ws:List (List Nat)):Prop:=rdW w0 = none\/∃ w ∈ ws,rdA w = none
def Ze1 (m:Int) (q:Ar):Bool:=decide (q.1 < m) && decide (q.2 < m)
def Zep (m:Int) (ps:List Ar):Bool:=decide (1<=m) && decide (m<=8) && decide (ps.length<=9) && ps.all (Ze1 m)
def Zfi (ws:List (List Nat)) (ps:List Ar):Prop:=All2 (fun w q=>rdA w = some q) ws ps
theorem rd_pos {ws:List (List Nat)} {ps:List Ar} (h:Zfi ws ps):∀ q ∈ ps,0<=q.1/\0<=q.2:=fun q hq=>by
 obtain ⟨i,hi,rfl⟩:=Ja1.mp hq
 obtain ⟨w,hw,e⟩:=h.at (Jaa hi)
 exact rdA_pos e
theorem Zin {H:Hp} {m:Int} {a:Addr} {xs:List V} {ps:List Ar} (ha:H a = some (.lst xs)) (hp:Prs H xs ps) (h0:∀ q ∈ ps,0<=q.1/\0<=q.2):Zde H (.int m) (.ref a) = Zep m ps:=by
 unfold Zde Zep
 simp only [ha]
 have hl:=hp.1
 rw [hl]
 have e:xs.all (Zc0 m H) = ps.all (Ze1 m):=by
  have one:∀ i x q,xs[i]? = some x->ps[i]? = some q->Zc0 m H x = Ze1 m q:=fun i x q e1 e2=>by
   obtain ⟨t,rfl,ht⟩:=hp.2 i x q e1 e2
   have:=h0 q (Jal e2)
   unfold Zc0 Ze1
   simp only [ht]
   show (decide (2 = 2) && ((decide (0<=q.1) && decide (q.1 < m)) && ((decide (0<=q.2) && decide (q.2 < m)) && true))) = _
   rw [Jag this.1,Jag this.2]
   simp
  rw [Jbz,Ja0,Ja0]
  constructor
  ·intro h q hq
   obtain ⟨i,hi,rfl⟩:=Ja1.mp hq
   rw [<- one i xs[i] _ (Jaa (by omega)) (Jaa hi)]
   exact h _ (Jba _)
  ·intro h x hx
   obtain ⟨i,hi,rfl⟩:=Ja1.mp hx
   rw [one i _ ps[i] (Jaa hi) (Jaa (by omega))]
   exact h _ (Jba _)
 rw [e,Bool.and_assoc (decide (1<=m) && decide (m<=8))]
theorem Zo5 {H:Hp} {a:Addr} {xs:List V} {ps:List Ar} (ha:H a = some (.lst xs)) (hp:Prs H xs ps) (hl:xs.length<=1000):WfL H (.ref a):=by
 refine ⟨.lst ha hl,fun b ys e1 e2 y hy=>?_⟩
 cases e1
 rw [ha] at e2
 cases e2
 obtain ⟨i,hi,rfl⟩:=Ja1.mp hy
 obtain ⟨q,hq,t,e,ht⟩:=hp.at' (Jaa hi)
 rw [e]
 refine ⟨.tup ht (by show 2<=1000; decide),fun c zs e3 e4 z hz=>?_⟩
 cases e3
 rw [ht] at e4
 cases e4
 rcases Jav.mp hz with rfl | hz
 ·exact .int
 ·rw [Jar.mp hz]
  exact .int
theorem IsP.put {H:Hp} {y:V} {q:Ar} {D:Addr} {l:List V} {o:HO} (h:IsP H y q) (hD:H D = some (.lst l)):IsP (upd H D o) y q:=by
 obtain ⟨t,e,ht⟩:=h
 refine ⟨t,e,?_⟩
 rw [Zah (fun z=>by rw [z,hD] at ht; cases ht)]
 exact ht
theorem Zka (x:V) (xs:List V):Znh (x :: xs) (some 1) none = xs:=by
 unfold Znh
 have e1:HT.sIx (x :: xs).length 0 (some 1) = 1:=by
  simp only [HT.sIx]
  rw [if_neg (by decide),Jap]
  omega
 have e0:HT.sIx (x :: xs).length (x :: xs).length none = (x :: xs).length:=rfl
 rw [e1,e0]
 show xs.take _ = xs
 exact Jbt (by rw [Jap]; omega)
theorem Znb {ws:List (List Nat)} {ys:List V} {H:Hp} (hl:ys.length = ws.length) (h:∀ (i:Nat) y,ys[i]? = some y->∃ q,rdA (ws.getD i []) = some q/\IsP H y q):∃ ps,Zfi ws ps/\Prs H ys ps:=by
 have hw:∀ (i:Nat) w,ws[i]? = some w->∃ q,rdA w = some q/\∀ y,ys[i]? = some y->IsP H y q:=fun i w e=>by
  have hi:=(Jat.mp e).1
  obtain ⟨q,e1,e2⟩:=h i _ (Jaa (by omega))
  rw [Jau,e] at e1
  refine ⟨q,e1,fun y ey=>?_⟩
  rw [Jaa (by omega)] at ey
  cases ey
  exact e2
 have hm:∀ (i:Nat) w p,ws[i]? = some w->(ws.map fun w=>(rdA w).getD (0,0))[i]? = some p->rdA w = some p/\∀ y,ys[i]? = some y->IsP H y p:=fun i w p e1 e2=>by
  obtain ⟨q,a1,a2⟩:=hw i w e1
  rw [Jas,e1] at e2
  have:p = q:=by
   have:=Ja3 e2
   rw [<- this]
   show (rdA w).getD (0,0) = q
   rw [a1]
   rfl
  rw [this]
  exact ⟨a1,a2⟩
 refine ⟨ws.map fun w=>(rdA w).getD (0,0),⟨by rw [Jac],fun i w p e1 e2=>(hm i w p e1 e2).1⟩,by rw [Jac]; exact hl,fun i y p e1 e2=>?_⟩
 have hi:i < ws.length:=by have:=(Jat.mp e1).1; omega
 exact (hm i _ p (Jaa hi) e2).2 y e1
def spRdr (Dg NT ND:Addr):Sp:=fun vs H Q E=>∃ (w0:List Nat) (ws:List (List Nat)),vs = [.str (mkS (Zaq [32] (w0 :: ws)))]/\(∀ b ∈ w0 :: ws,32 ∉ b)/\Asc (Zaq [32] (w0 :: ws))/\(Zaq [32] (w0 :: ws)).length<=300 /\
 (BadT w0 ws->∀ H',Same H H'->E (.ref NT) none H') /\
 (∀ m ps,rdW w0 = some m->Zfi ws ps->Zep m ps = false->∀ H',Same H H'->E (.ref ND) none H') /\
 (∀ m ps,rdW w0 = some m->Zfi ws ps->Zep m ps = true->∀ d H',Same H H'->DrA Dg H' d m ps->Q (.ref d) H')
theorem ok_rdr {f:Addr} {fd:FuncData} (F:Fun K "read_drawing" "read_drawing" Zbe f fd) (T:Txt K mg C Dg) (XT:Xt K mg base cc) (C_read_whole:CalE P w K mg base "read_whole" 2 (spRw cc.NoText)) (C_Drawing:CalIE P w K mg base "Drawing" Dg 4 (Zg8 Dg cc.NoDrawing)) (C_read_arrow:CalE P w K mg base "read_arrow" 3 (spRa cc.NoText)):FnOk P w K mg base (CXe P w) 6 f fd ["text"] (spRdr Dg cc.NoText cc.NoDrawing):=by
 have nd:=Zdt.nd
 refine F.okE Zdt (fun vs H Q E h=>?_) (fun cdv A outer s H vs Q E hr h=>?_)
 ·obtain ⟨w0,ws,rfl,_⟩:=h
  rfl
 ·obtain ⟨w0,ws,rfl,h32,asc,h300,hT,hD,q⟩:=h
  refine ⟨_,((Zam (i:=1) nd rfl (Or.inl rfl) (Zdp Jaz Jcx Jcy Zhj (pv 0) (Zaf<&>Zaa)))<*>((@Za1 _ _ _ _ _ _ _ _ (Zcr (Zdd (Zdp Jaz PySem.F.slot_str_endswith PySem.F.type_str_endswith mt_ends (Zaw<|>(pv 1)<||>Zab) (Zaf<&>Zaa)))) (@Zav _ _ _ (Zlu XT.o_NoText rfl (Zaf<&>Zaa))) Zal)<*>((Zam (i:=2) nd rfl (Or.inl rfl) (Zl4 C_read_whole (Zhf (E':=E) (fun _ _ _ h=>h)) hr.m rfl ((@Za9 _ _ _ _ _ _ _ _ _ _ Zdm (Zaw<|>(pv 1)<||>Zab) Zb7 (@Zbi _ _ _ (Zgm Zd5 Zab)))<&>Zaa)))<*>(~~~(pe_nE C_Drawing (Zhf (E':=E) (fun _ _ _ h=>h)) hr.m rfl ((pv 2)<&>((Zn2 (own:=["word"]) (fr:=[]) rfl (Zet (by kernel_rfl)) (Zcc (@Za9 _ _ _ _ _ _ _ _ _ _ Zi4 (pv 1) (@Zbi _ _ _ Zab) Zb7)) (fun _ _ _ _=>⟨(@Zap _ _ 0 _ (show (["word"]:List Str).Nodup by decide +kernel) rfl (Or.inl rfl) (Or.inr rfl)),Zbw,fun _ hps=>(Zl4 C_read_arrow hps hr.m rfl ((pv 0)<&>Zaa))⟩))<&>Zaa))))))),?_⟩
  walk_at "wp"
  have hsz:(mkS (Zaq [32] (w0 :: ws))).length<=sizeLine:=by rw [Zao]; exact slc (by omega)
  have spl:=Zfz (d:=32) (by decide) (List.cons_ne_nil w0 ws) asc h32
  obtain ⟨il,ip⟩:=Zd1 32 (w0 :: ws)
  have im:=Zd0 32 (w0 :: ws)
  have ab:∀ b ∈ w0 :: ws,Asc b:=fun b hb c hc=>asc c (im b hb c hc)
  refine ⟨rfl,_,rfl,_,rfl,by decide,hsz,?_,fun p hp=>?_⟩
  ·rw [Zht,spl,Jac]
   exact slc (by omega)
  rw [Zht,spl]
  have s1:=Same.new (o:=.lst (((w0 :: ws).map mkS).map V.str)) hp
  have e1:upd H p (.lst (((w0 :: ws).map mkS).map V.str)) p = some (.lst (((w0 :: ws).map mkS).map V.str)):=Zac
  generalize upd H p (.lst (((w0 :: ws).map mkS).map V.str)) = H1 at *
  have hsz0:(mkS w0).length<=sizeLine:=by rw [Zao]; exact slc (by have:=il w0 (by simp); omega)
  have a0:atI (((w0 :: ws).map mkS).map V.str) 0 = some (V.str (mkS w0)):=Zeb (by decide) (by simp)
  refine ⟨_,SqL.of e1,V.str (mkS w0),a0,rfl,_,rfl,_,rfl,?_⟩
  rw [Zk0]
  cases ec:colB w0 with
  | false=>
   exact Zhn rfl ⟨by decide,hT (.inl (if_neg fun z=>by rw [ec] at z; cases z.1)) H1 s1⟩
  | true=>
   refine Ze0 (by decide) ⟨_,SqL.of e1,V.str (mkS w0),a0,_,rfl,hsz0,?_⟩
   rw [Zj9]
   have l0:=il w0 (by simp)
   refine ⟨w0.dropLast,rfl,fun c hc=>ab w0 (by simp) c (List.dropLast_subset _ hc),by rw [List.length_dropLast]; omega,fun ew H2 s2=>hT (.inl (if_neg fun z=>by rw [ew] at z; cases z.2)) H2 (s1.trans s2),fun ew H2 s2=>?_⟩
   have eW:rdW w0 = some ((vW w0.dropLast:Nat):Int):=if_pos ⟨ec,ew⟩
   generalize ((vW w0.dropLast:Nat):Int) = m at *
   have s02:=s1.trans s2
   refine ⟨_,rfl,1,rfl,p,_,rfl,SqL.of (s2 _ _ e1),fun p1 hp1=>?_⟩
   have ecut:Znh (((w0 :: ws).map mkS).map V.str) (some 1) none = (ws.map mkS).map V.str:=Zka _ _
   rw [ecut]
   have s3:=Same.new (o:=.lst ((ws.map mkS).map V.str)) hp1
   have s03:=s02.trans s3
   have e3:upd H2 p1 (.lst ((ws.map mkS).map V.str)) p1 = some (.lst ((ws.map mkS).map V.str)):=Zac
   generalize upd H2 p1 (.lst ((ws.map mkS).map V.str)) = H3 at *
   have lw:ws.length<=300:=by rw [Jap] at ip; omega
   refine ⟨p1,rfl,⟨_,SqL.of e3⟩,fun D hDn=>Zhr (fun i Hc y=>∃ q,rdA (ws.getD i []) = some q/\IsP Hc y q) (fun ⟨q,a,b⟩ s=>⟨q,a,let ⟨t,e,h⟩:=b; ⟨t,e,s _ _ h⟩⟩) (fun ⟨q,a,b⟩ h=>⟨q,a,b.put h⟩) e3 hDn (by rw [Jac,Jac]; omega) (fun i x Hc Qc hx sc _ qc=>?_) fun ys H4 s4 e4 hl hr=>?_⟩
   ·rw [Jas,Jas] at hx
    cases ew2:ws[i]? with
    | none=>rw [ew2] at hx; cases hx
    | some u=>
     rw [ew2] at hx
     cases hx
     have mu:u ∈ w0 :: ws:=Jai _ (Jal ew2)
     refine ⟨_,rfl,u,rfl,ab u mu,by have:=il u mu; omega,fun en H5 s5=>hT (.inr ⟨u,Jal ew2,en⟩) H5 ((s03.trans sc).trans s5),fun q' eq t H5 s5 _ ht=>qc (.ref t) H5 s5 ⟨q',?_,t,rfl,ht⟩⟩
     rw [Jau,ew2]
     exact eq
   ·rw [Jac,Jac] at hl
    obtain ⟨ps,rd,prs⟩:=Znb hl hr
    have pos:=rd_pos rd
    intro d dx hd hdx hne
    have sN:Same H4 (upd (upd H4 dx (.own d)) d (.ins Dg dx [])):=(Same.new hdx).trans (Same.new (by rw [Zah hne.symm]; exact hd))
    have hDr:=sN _ _ e4
    have prN:=prs.same sN
    have dB:Zde (upd (upd H4 dx (.own d)) d (.ins Dg dx [])) (.int m) (.ref D) = Zep m ps:=Zin hDr prN pos
    have s04:=s03.trans s4
    refine ⟨d,dx,.int m,.ref D,rfl,Zac,.int,Zo5 hDr prN (by omega),fun hb H5 s5=>hD m ps eW rd (dB ▸ hb) H5 ((s04.trans sN).trans s5),fun m' a' xs' ev eu ha hgood lp H5 ext5 hd5 hlp0 hlp5=>⟨rfl,?_⟩⟩
    cases ev
    cases eu
    rw [hDr] at ha
    cases ha
    have sX:Same H H5:=fun b o e=>ext5 b o (fun z=>by rw [z,s04.free hd] at e; cases e) (sN _ _ (s04 _ _ e))
    refine q m ps eW rd (dB ▸ hgood) d H5 sX ⟨dx,lp,_,hd5,hlp5,?_⟩
    refine prN.mono fun x p' ⟨t,e,ht⟩=>⟨t,e,ext5 t _ (fun z=>?_) ht⟩
    rw [z,Zac] at ht
    cases ht
def Zkp:Sp:=fun vs H Q _=>∃ (w0:List Nat) (ws:List (List Nat)),vs = [.str (mkS (Zaq [32] (w0 :: ws)))]/\(∀ b ∈ w0 :: ws,32 ∉ b)/\Asc (Zaq [32] (w0 :: ws))/\(Zaq [32] (w0 :: ws)).length<=300 /\
 (BadT w0 ws->∀ H',Same H H'->Q (.str "text") H') /\
 (∀ m ps,rdW w0 = some m->Zfi ws ps->Zep m ps = false->∀ H',Same H H'->Q (.str "drawing") H') /\
 (∀ m ps,rdW w0 = some m->Zfi ws ps->Zep m ps = true->∀ t L xs H',Same H H'->H' t = some (.tup [.int m,.ref L])->H' L = some (.lst xs)->Prs H' xs ps->Q (.ref t) H')
theorem ok_lrd {f:Addr} {fd:FuncData} (F:Fun K "_law_read" "_law_read" Zcl f fd) (T:Txt K mg C Dg) (C_law_read_whole:Cal P w K mg base "_law_read_whole" 1 Znp) (C_law_arrow_read:Cal P w K mg base "_law_arrow_read" 2 spLra):FnOk P w K mg base CX0 3 f fd ["_law_text"] Zkp:=by
 have nd:=Zf2.nd
 refine F.ok Zf2 (fun vs H Q E h=>?_) (fun cdv A outer s H vs Q E hr h=>?_)
 ·obtain ⟨w0,ws,rfl,_⟩:=h
  rfl
 ·obtain ⟨w0,ws,rfl,h32,asc,h300,qT,qD,q⟩:=h
  refine ⟨_,((Zam (i:=1) nd rfl (Or.inl rfl) (Zdp Jaz Jcx Jcy Zhj (pv 0) (Zaf<&>Zaa)))<*>((Zam (i:=2) nd rfl (Or.inl rfl) (Zbb C_law_read_whole hr.m rfl ((@Za9 _ _ _ _ _ _ _ _ _ _ Zdm (Zaw<|>(pv 1)<||>Zab) Zb7 (@Zbi _ _ _ (Zgm Zd5 Zab)))<&>Zaa)))<*>((ps_comp (i:=3) (own:=["_law_word"]) (fr:=[]) rfl (Zet (by kernel_rfl)) (Zcc (@Za9 _ _ _ _ _ _ _ _ _ _ Zi4 (pv 1) (@Zbi _ _ _ Zab) Zb7)) (fun _ _ _ _=>⟨(@Zap _ _ 0 _ (show (["_law_word"]:List Str).Nodup by decide +kernel) rfl (Or.inl rfl) (Or.inr rfl)),Zbw,(Zbb C_law_arrow_read hr.m rfl ((pv 0)<&>Zaa))⟩) nd rfl rfl rfl)<*>((@Za1 _ _ _ _ _ _ _ _ (PW.pt (Zd3 (Zae Zhg (@Za9 _ _ _ _ _ _ _ _ _ _ Zdm (Zaw<|>(pv 1)<||>Zab) (@Zbi _ _ _ (Zgm Zd5 Zab)) Zb7) Zaf (Zak _)) (Zd3 (Zae Zl8 (pv 2) Zgb (Zak _)) (Zdc (Zae (op_inN (room8 hr)) Zgb (pv 3) (by with_unfolding_all rfl)))))) (~~~Zaf) Zal)<*>((Zam (i:=4) nd rfl (Or.inl rfl) (Zdx (Zjx Zhh Zhh Zab (pv 2) Zab) (Zdw (Zcs Zfg (Zbj Zcb rfl T.n_len Jb2 ((pv 3)<&>Zaa)) Zab (Zak _)))))<*>((Zel Jbm rfl (Zcc (pv 3)) (@Zap _ _ 5 _ nd rfl (Or.inl rfl) (Or.inl rfl)) (@Zav _ _ _ (Zam (i:=4) nd rfl (Or.inl rfl) (Zdx (pv 4) (Zdx (Zcs Zfg (Zbx<|>(pv 5)<||>Zab) (pv 2) (Zak _)) (Zdw (Zcs Zfg (Zbx<|>(pv 5)<||>Zab) (pv 2) (Zak _))))))))<*>(~~~(Zaw<|>(@Zbm _ _ _ _ (Zaf<&>((@Zcg _ _ _ _ _ ((pv 2)<&>((pv 3)<&>Zaa)))<&>Zaa)))<||>(Zd4 Zes rfl T.n_int Jeb ((pv 4)<&>Zaa)))))))))),?_⟩
  refine Zg1 fun X hX=>?_
  walk_at "wp"
  have hsz:(mkS (Zaq [32] (w0 :: ws))).length<=sizeLine:=by rw [Zao]; exact slc (by omega)
  have spl:=Zfz (d:=32) (by decide) (List.cons_ne_nil w0 ws) asc h32
  obtain ⟨il,ip⟩:=Zd1 32 (w0 :: ws)
  have im:=Zd0 32 (w0 :: ws)
  have ab:∀ b ∈ w0 :: ws,Asc b:=fun b hb c hc=>asc c (im b hb c hc)
  have lw:ws.length<=300:=by rw [Jap] at ip; omega
  have l0:=il w0 (by simp)
  have hsz0:(mkS w0).length<=sizeLine:=by rw [Zao]; exact slc (by omega)
  refine ⟨rfl,_,rfl,_,rfl,by decide,hsz,?_,fun p hp=>?_⟩
  ·rw [Zht,spl,Jac]
   exact slc (by omega)
  rw [Zht,spl]
  have s1:=Same.new (o:=.lst (((w0 :: ws).map mkS).map V.str)) hp
  have e1:upd H p (.lst (((w0 :: ws).map mkS).map V.str)) p = some (.lst (((w0 :: ws).map mkS).map V.str)):=Zac
  generalize upd H p (.lst (((w0 :: ws).map mkS).map V.str)) = H1 at *
  have a0:atI (((w0 :: ws).map mkS).map V.str) 0 = some (V.str (mkS w0)):=Zeb (by decide) (by simp)
  subst hX
  refine Zg1 fun X hX=>?_
  walk_at "wp"
  refine ⟨_,SqL.of e1,V.str (mkS w0),a0,_,rfl,hsz0,?_⟩
  rw [Zj9]
  refine ⟨w0.dropLast,rfl,fun c hc=>ab w0 (by simp) c (List.dropLast_subset _ hc),by rw [List.length_dropLast]; omega,fun H2 s2=>?_⟩
  subst hX
  refine Zg1 fun X hX=>?_
  walk_at "wp"
  refine ⟨_,rfl,1,rfl,p,_,rfl,SqL.of (s2 _ _ e1),fun p1 hp1=>?_⟩
  have ecut:Znh (((w0 :: ws).map mkS).map V.str) (some 1) none = (ws.map mkS).map V.str:=Zka _ _
  rw [ecut]
  have s3:=Same.new (o:=.lst ((ws.map mkS).map V.str)) hp1
  have s13:=s2.trans s3
  have s03:=s1.trans s13
  have e3:upd H2 p1 (.lst ((ws.map mkS).map V.str)) p1 = some (.lst ((ws.map mkS).map V.str)):=Zac
  generalize upd H2 p1 (.lst ((ws.map mkS).map V.str)) = H3 at *
  refine ⟨p1,rfl,⟨_,SqL.of e3⟩,fun D hDn=>Zhr (fun i Hc y=>(rdA (ws.getD i []) = none/\y = .non)\/∃ q,rdA (ws.getD i []) = some q/\IsP Hc y q) (fun h s=>h.imp id fun ⟨q,a,b⟩=>⟨q,a,let ⟨t,e,h⟩:=b; ⟨t,e,s _ _ h⟩⟩) (fun h h'=>h.imp id fun ⟨q,a,b⟩=>⟨q,a,b.put h'⟩) e3 hDn (by rw [Jac,Jac]; omega) (fun i x Hc Qc hx sc _ qc=>?_) fun ys H4 s4 e4 hl hr=>?_⟩
  ·rw [Jas,Jas] at hx
   cases ew2:ws[i]? with
   | none=>rw [ew2] at hx; cases hx
   | some u=>
    rw [ew2] at hx
    cases hx
    have mu:u ∈ w0 :: ws:=Jai _ (Jal ew2)
    have eg:ws.getD i [] = u:=by rw [Jau,ew2]; rfl
    rw [eg] at qc
    exact ⟨_,rfl,u,rfl,ab u mu,by have:=il u mu; omega,fun en H5 s5=>qc .non H5 s5 (.inl ⟨en,rfl⟩),fun q' eq t H5 s5 _ ht=>qc (.ref t) H5 s5 (.inr ⟨q',eq,t,rfl,ht⟩)⟩
  rw [Jac,Jac] at hl
  have s04:=s03.trans s4
  have e14:=s4 _ _ (s13 _ _ e1)
  have noT:∀ z ∈ ys,NoT K H4 z:=fun z hz=>by
   obtain ⟨i,hi,rfl⟩:=Ja1.mp hz
   rcases hr i _ (Jaa hi) with ⟨_,e⟩ | ⟨q,_,t,e,ht⟩
   ·exact .inl e
   ·exact .inr ⟨t,_,e,SqT.of ht⟩
  subst hX
  refine Zg1 fun X hX=>?_
  walk_at "wp"
  refine ⟨_,SqL.of e14,V.str (mkS w0),a0,_,rfl,hsz0,?_⟩
  rw [cut_end,Zm4]
  by_cases ec:colB w0 = true
  rotate_left
  ·have nc:w0.drop (w0.length - 1) ≠ [58]:=fun z=>ec (Jag z)
   exact Zhn (by rw [Jak fun z=>nc (Zfy (V.str.inj z))]; rfl) (qT (.inl (if_neg fun z=>ec z.1)) H4 s04)
  have yc:w0.drop (w0.length - 1) = [58]:=Jah ec
  rw [yc]
  refine Ze0 (by simp) ?_
  by_cases ew:isW w0.dropLast = true
  rotate_left
  ·rw [if_neg ew]
   exact Zhn rfl (qT (.inl (if_neg fun z=>ew z.2)) H4 s04)
  rw [if_pos ew]
  have eW:rdW w0 = some ((vW w0.dropLast:Nat):Int):=if_pos ⟨ec,ew⟩
  generalize ((vW w0.dropLast:Nat):Int) = m at *
  refine Ze0 (by simp) ⟨ys,SqL.of e4,noT,?_⟩
  cases en:ys.any nonV with
  | true=>
   obtain ⟨y,hy,hy2⟩:=Jc7.mp en
   obtain ⟨i,hi,rfl⟩:=Ja1.mp hy
   rcases hr i _ (Jaa hi) with ⟨e,_⟩ | ⟨q',_,t,e,ht⟩
   ·refine Zhn rfl (qT (.inr ⟨ws[i]'(by omega),Jba _,?_⟩) H4 s04)
    rw [Jau,Jaa (by omega)] at e
    exact e
   ·rw [e] at hy2
    cases hy2
  | false=>
   obtain ⟨ps,rd,prs⟩:=Znb (H:=H4) hl fun i y ey=>by
    rcases hr i y ey with ⟨_,e⟩ | h
    ·have:=List.any_eq_false.mp en y (Jal ey)
     rw [e] at this
     exact absurd rfl this
    ·exact h
   have pl:=prs.1
   refine Ze0 (by decide) ?_
   subst hX
   refine Zg1 fun X hX=>?_
   walk_at "wp"
   have aft:∀ b:Bool,b = (decide (1<=m) && decide (m<=8) && decide (ps.length<=9))->X { nx:=fun x H'=>Q V.non H',rt:=Q } [some (V.str (mkS (Zaq [32] (w0 :: ws)))),some (V.ref p),some (V.int m),some (V.ref D),some (V.bl b),none] H4:=by
    intro b hb
    subst hX
    walk_at "wp"
    refine ⟨_,rfl,D,rfl,⟨_,SqL.of e4⟩,Zfq (xs:=ys) (fun i σ H5=>∃ v5:Option V,H5 = H4/\σ = [some (V.str (mkS (Zaq [32] (w0 :: ws)))),some (V.ref p),some (V.int m),some (V.ref D),some (V.bl (b && (ps.take i).all (Ze1 m))),v5]) ⟨none,rfl,by simp⟩ (fun i σ H5 _ ⟨_,e,_⟩=>by rw [e]; exact SqL.of e4) ?_ ?_⟩
    ·rintro i x σ H5 hx ⟨v5,rfl,rfl⟩
     have hi:i < ps.length:=by have:=(Jat.mp hx).1; omega
     have hq:ps[i]? = some ps[i]:=Jaa hi
     obtain ⟨t,rfl,ht⟩:=prs.2 i x _ hx hq
     have et:(ps.take (i + 1)).all (Ze1 m) = ((ps.take i).all (Ze1 m) && Ze1 m ps[i]):=by
      rw [Jc2,hq,List.all_append]
      simp
     walk_at "wp"
     rw [et]
     refine Zb9 (fun hc=>⟨_,SqT.of ht,_,rfl,_,rfl,Zb9 (fun h1=>⟨_,SqT.of ht,_,rfl,_,rfl,?_,_,rfl⟩) (fun h1=>⟨?_,_,rfl⟩)⟩) (fun hc=>⟨?_,_,rfl⟩)
     ·rw [<- Bool.and_assoc,hc,Jcc]
      unfold Ze1
      rw [h1,Jcc]
     ·unfold Ze1
      rw [show decide ((ps[i]).1 < m) = false by simpa using h1,Jcm,Jcd,Jcd]
     ·rw [<- Bool.and_assoc,show (b && (List.take i ps).all (Ze1 m)) = false by simpa using hc,Jcm]
    ·rintro σ H5 ⟨v5,rfl,rfl⟩
     rw [pl,Jco]
     have eg:(b && ps.all (Ze1 m)) = Zep m ps:=by rw [hb]; rfl
     rw [eg]
     walk_at "wp"
     refine ⟨by decide,fun t ht=>⟨by decide,fun l hl'=>?_⟩⟩
     have s5:=Same.new (o:=.tup [V.int m,V.ref D]) ht
     have s6:=Same.new (o:=.lst [V.str (Str.ofString "drawing"),V.ref t]) hl'
     have s46:=s5.trans s6
     refine ⟨_,SqL.of Zac,?_⟩
     cases gd:Zep m ps with
     | false=>exact ⟨_,rfl,qD m ps eW rd gd _ (s04.trans s46)⟩
     | true=>exact ⟨_,rfl,q m ps eW rd gd t D ys _ (s04.trans s46) (s6 _ _ Zac) (s46 _ _ e4) (prs.same s46)⟩
   refine Zb9 (fun h1=>Zb9 (fun h8=>⟨ys,.inl (SqL.of e4),aft _ ?_⟩) (fun h8=>aft _ ?_)) (fun h1=>aft _ ?_)
   ·rw [h1,h8]
    show decide _ = decide _
    rw [decide_eq_decide]
    omega
   ·rw [show decide (m<=8) = false by simpa using h8,Jcd]
    rfl
   ·rw [show decide (1<=m) = false by simpa using h1]
    rfl
theorem Zj5 {t:Value}:PySem.W.kitOne K t t = some true:=by unfold PySem.W.kitOne; rw [if_pos (by simp)]
theorem tyL {H:Hp} {p:Addr} {xs:List V} (h:H p = some (.lst xs)):tyV K "list" (.ref p) H:=.inl ⟨rfl,_,SqL.of h⟩
structure Ask (K:PySem.W.Frag) (cc:Cs) (cls:Addr) (b1 b2:Bool):Prop where
 z:ExcCls K cls
 i:(PySem.W.clsIn K cls).isSome = true
 q1:PySem.W.kitOne K (.ref cls) (.ref cc.NoText) = some b1
 q2:PySem.W.kitOne K (.ref cls) (.ref cc.NoDrawing) = some b2
 q3:PySem.W.kitOne K (.ref cls) (.ref cc.NoNumber) = some false
 q4:PySem.W.kitOne K (.ref cls) (.ref cc.NoTable) = some false
 q5:PySem.W.kitOne K (.ref cls) (.ref cc.NoStanding) = some false
 t1:PySem.W.kitAny K (.ref cls) [.ref cc.NoChange,.ref cc.NoGround,.ref cc.NoKind,.ref cc.NoMirror,.ref cc.NoName,.ref cc.NoRoot,.ref cc.NoRow] = some false
 v:PySem.W.kitOne K (.ref cls) (.type "ValueError") = some true
 x:b2 = !b1
theorem ask_t (XT:Xt K mg base cc):Ask K cc cc.NoText true false:=⟨XT.z,XT.i,Zj5,XT.q_NoDrawing,XT.q_NoNumber,XT.q_NoTable,XT.q_NoStanding,XT.t1,XT.v,rfl⟩
theorem ask_d (XT:Xt K mg base cc):Ask K cc cc.NoDrawing false true:=⟨XT.zz,XT.ii,XT.qq_NoText,Zj5,XT.qq_NoNumber,XT.qq_NoTable,XT.qq_NoStanding,XT.tt1,XT.vv,rfl⟩
def spAl (K:PySem.W.Frag) (cc:Cs):Sp:=fun vs H Q _=>∃ (a cls:Addr) (k:Int) (b1 b2:Bool),vs = [.ref a,.int k]/\(k = 0\/k = 1)/\Ask K cc cls b1 b2/\H a = some (Zeo a (.ref cls))/\∀ H',Same H H'->Q (.bl (if k = 0 then b1 else b2)) H'
theorem ok_al {f:Addr} {fd:FuncData} (F:Fun K "_law_alone" "_law_alone" Zb5 f fd) (T:Txt K mg C Dg) (XT:Xt K mg base cc):FnOkH P w K mg base CX0 1 f fd ["_law_e","_law_kind"] (spAl K cc):=by
 have nd:=Ze9.nd
 refine F.okH Ze9 (fun vs H Q E h=>?_) (fun cdv A outer s H vs Q E hr h=>?_)
 ·obtain ⟨a,cls,k,b1,b2,rfl,_⟩:=h
  rfl
 ·obtain ⟨a,cls,k,b1,b2,rfl,hk,ak,ha,q⟩:=h
  refine ⟨_,((Zam (i:=2) nd rfl (Or.inl rfl) (@Zbm _ _ _ _ ((Zbj (Zcu K rfl) rfl T.n_isinstance Ja2 ((pv 0)<&>((Zbn (v:=.ref cc.NoText) rfl XT.g_NoText rfl)<&>Zaa)))<&>((Zbj (Zcu K rfl) rfl T.n_isinstance Ja2 ((pv 0)<&>((Zbn (v:=.ref cc.NoDrawing) rfl XT.g_NoDrawing rfl)<&>Zaa)))<&>((Zbj (Zcu K rfl) rfl T.n_isinstance Ja2 ((pv 0)<&>((Zbn (v:=.ref cc.NoNumber) rfl XT.g_NoNumber rfl)<&>Zaa)))<&>((Zbj (Zcu K rfl) rfl T.n_isinstance Ja2 ((pv 0)<&>((Zbn (v:=.ref cc.NoTable) rfl XT.g_NoTable rfl)<&>Zaa)))<&>Zaa))))))<*>((Zf8 (Zdp Jb1 Jb4 Jb5 Zct (pv 2) ((Zbj (Zcu K rfl) rfl T.n_isinstance Ja2 ((pv 0)<&>((Zbn (v:=.ref cc.NoStanding) rfl XT.g_NoStanding rfl)<&>Zaa)))<&>Zaa)))<*>((Zam (i:=3) nd rfl (Or.inl rfl) (Zbj (Zk4 K rfl) rfl T.n_isinstance Ja2 ((pv 0)<&>((@Zcg _ _ _ _ _ ((Zbn (v:=.ref cc.NoChange) rfl XT.g_NoChange rfl)<&>((Zbn (v:=.ref cc.NoGround) rfl XT.g_NoGround rfl)<&>((Zbn (v:=.ref cc.NoKind) rfl XT.g_NoKind rfl)<&>((Zbn (v:=.ref cc.NoMirror) rfl XT.g_NoMirror rfl)<&>((Zbn (v:=.ref cc.NoName) rfl XT.g_NoName rfl)<&>((Zbn (v:=.ref cc.NoRoot) rfl XT.g_NoRoot rfl)<&>((Zbn (v:=.ref cc.NoRow) rfl XT.g_NoRow rfl)<&>Zaa))))))))<&>Zaa))))<*>(~~~(Zdx (Zcs Zdj (Zdp Jb1 PySem.F.slot_list_count PySem.F.type_list_count Zmi (pv 2) (Zgn<&>Zaa)) Zab (Zak _)) (Zdx (Zaw<|>(pv 2)<||>(pv 1)) (Zdx (Zbj (Zcu K rfl) rfl T.n_isinstance Ja2 ((pv 0)<&>((Zga rfl T.n_ValueError Zgi)<&>Zaa))) (Zdw (Zjw (pv 3)))))))))),?_⟩
  walk_at "wp"
  refine ⟨a,cls,_,⟨rfl,rfl⟩,.ref cc.NoText,rfl,ha,ak.z,ak.i,b1,ak.q1,a,cls,_,⟨rfl,rfl⟩,.ref cc.NoDrawing,rfl,ha,ak.z,ak.i,b2,ak.q2,a,cls,_,⟨rfl,rfl⟩,.ref cc.NoNumber,rfl,ha,ak.z,ak.i,false,ak.q3,a,cls,_,⟨rfl,rfl⟩,.ref cc.NoTable,rfl,ha,ak.z,ak.i,false,ak.q4,by decide,fun p1 hp1=>?_⟩
  have s1:=Same.new (o:=.lst [V.bl b1,V.bl b2,V.bl false,V.bl false]) hp1
  have h1:=s1 _ _ ha
  have e1:upd H p1 (.lst [V.bl b1,V.bl b2,V.bl false,V.bl false]) p1 = some (.lst [V.bl b1,V.bl b2,V.bl false,V.bl false]):=Zac
  generalize upd H p1 (.lst [V.bl b1,V.bl b2,V.bl false,V.bl false]) = H1 at *
  have n1:a ≠ p1:=Zai ha hp1
  refine ⟨tyL e1,a,cls,_,⟨rfl,rfl⟩,.ref cc.NoStanding,rfl,h1,ak.z,ak.i,false,ak.q5,_,e1,by show 4 < sizeLine; decide,by decide,fun p2 hp2=>?_⟩
  have h2:upd H1 p1 (.lst ([V.bl b1,V.bl b2,V.bl false,V.bl false] ++ [V.bl false])) a = some (Zeo a (.ref cls)):=by rw [Zah n1]; exact h1
  have s2:=s1.upd (o:=.lst ([V.bl b1,V.bl b2,V.bl false,V.bl false] ++ [V.bl false])) hp1
  have e2:upd H1 p1 (.lst ([V.bl b1,V.bl b2,V.bl false,V.bl false] ++ [V.bl false])) p1 = some (.lst ([V.bl b1,V.bl b2,V.bl false,V.bl false] ++ [V.bl false])):=Zac
  generalize upd H1 p1 (.lst ([V.bl b1,V.bl b2,V.bl false,V.bl false] ++ [V.bl false])) = H2 at *
  have s3:=Same.new (o:=.tup [V.ref cc.NoChange,V.ref cc.NoGround,V.ref cc.NoKind,V.ref cc.NoMirror,V.ref cc.NoName,V.ref cc.NoRoot,V.ref cc.NoRow]) hp2
  have h3:=s3 _ _ h2
  have e3:=s3 _ _ e2
  have x:=ak.x
  refine ⟨a,cls,p2,⟨rfl,rfl⟩,_,Zac,[.ref cc.NoChange,.ref cc.NoGround,.ref cc.NoKind,.ref cc.NoMirror,.ref cc.NoName,.ref cc.NoRoot,.ref cc.NoRow],rfl,h3,ak.z,ak.i,false,ak.t1,tyL e3,p1,[b1,b2,false,false,false],true,rfl,rfl,e3,rfl,?_⟩
  subst x
  have at':atI ([V.bl b1,V.bl (!b1),V.bl false,V.bl false] ++ [V.bl false]) k = some (V.bl (if k = 0 then b1 else !b1)):=by rcases hk with rfl | rfl <;> rfl
  refine Zhn (by cases b1 <;> decide) ⟨_,SqL.of e3,_,at',_,rfl,?_⟩
  have q0:=q _ (s2.trans s3)
  cases hc:(if k = 0 then b1 else !b1) with
  | false=>
   rw [hc] at q0
   exact Ze0 (by decide) q0
  | true=>
   rw [hc] at q0
   exact Zhn rfl ⟨a,cls,_,⟨rfl,rfl⟩,.type "ValueError",rfl,h3,ak.z,ak.i,true,ak.v,Zhn rfl q0⟩
theorem ok_ask {f:Addr} {fd:FuncData} (F:Fun K "_law_asked" "_law_asked" Zb4 f fd) (T:Txt K mg C Dg) (XT:Xt K mg base cc) (C_read_drawing:CalE P w K mg base "read_drawing" 6 (spRdr Dg cc.NoText cc.NoDrawing)) (C_law_alone:CalH P w K mg base "_law_alone" 1 (spAl K cc)) (C_law_whole:Cal P w K mg base "_law_whole" 1 Zeu):FnOk P w K mg base CX0 7 f fd ["_law_text"] Zkp:=by
 have nd:=Ze8.nd
 refine F.ok Ze8 (fun vs H Q E h=>?_) (fun cdv A outer s H vs Q E hr h=>?_)
 ·obtain ⟨w0,ws,rfl,_⟩:=h
  rfl
 ·obtain ⟨w0,ws,rfl,h32,asc,h300,qT,qD,q⟩:=h
  refine ⟨_,((ps_try (E':=(fun c _ H'=>Same H H'/\((c = .ref cc.NoText/\BadT w0 ws)\/(c = .ref cc.NoDrawing/\∃ m ps,rdW w0 = some m/\Zfi ws ps/\Zep m ps = false)))) (i:=2) rfl rfl rfl (fun pins xt hps=>(@Zav _ _ _ (Zam (i:=1) nd rfl (Or.inl rfl) (Zl4 C_read_drawing hps hr.m rfl ((pv 0)<&>Zaa))))) (fun pins a=>(~~~((Zj6 K rfl)<|>(@Zbm _ _ _ _ (Zaf<&>(((Zj6 K rfl)<|>(@Zbm _ _ _ _ (Zaf<&>(Zaf<&>Zaa)))<||>(Zd4 Zes rfl T.n_int Jeb ((Zbj (Zcu K rfl) rfl T.n_isinstance Ja2 ((pv 2)<&>((Zbn (v:=.ref cc.NoDrawing) rfl XT.g_NoDrawing rfl)<&>Zaa)))<&>Zaa)))<&>Zaa)))<||>(Zd4 Zes rfl T.n_int Jeb ((pe_or (pe_cH C_law_alone (hr.m.mark _) rfl ((pv 2)<&>(Zab<&>Zaa))) (Zdw (pe_cH C_law_alone (hr.m.mark _) rfl ((pv 2)<&>(Zab<&>Zaa)))))<&>Zaa))))) rfl XT.o_LimbError (by decide) (fun c H' h=>h.2.elim (fun z=>z.1 ▸ XT.u_NoText) (fun z=>z.1 ▸ XT.u_NoDrawing)) nd rfl rfl)<*>((@Za1 _ _ _ _ _ _ _ _ (PW.pt (Zd3 (Zcr (Zdd (Zbb C_law_whole hr.m rfl ((Zfb (pv 1) rfl)<&>Zaa)))) (Zdc (Zcr (Zdd (Zbj Za6 rfl T.n_isinstance Ja2 ((Zfb (pv 1) rfl)<&>((Zga rfl T.n_list boot_list)<&>Zaa)))))))) (~~~Zaf) Zal)<*>((Zel Jbm rfl (Zcc (Zfb (pv 1) rfl)) (@Zap _ _ 3 _ nd rfl (Or.inl rfl) (Or.inl rfl)) (@Zav _ _ _ (@Za1 _ _ _ _ _ _ _ _ (PW.pt (Zd3 (Zcr (Zdd (Zbj Za6 rfl T.n_isinstance Ja2 ((pv 3)<&>((Zga rfl T.n_tuple boot_tuple)<&>Zaa))))) (Zdc (Zcr (Zdd (Zbj (Zfu rfl) rfl T.n_all boot_all ((Zcd (own:=["_law_end"]) (fr:=[]) rfl (Zet (by kernel_rfl)) (Zpb (pv 3)) (fun _ _ _ _=>⟨(@Zap _ _ 0 _ (show (["_law_end"]:List Str).Nodup by decide +kernel) rfl (Or.inl rfl) (Or.inr rfl)),Zbw,(Zbb C_law_whole hr.m rfl ((pv 0)<&>Zaa))⟩))<&>Zaa))))))) (~~~Zaf) Zal)))<*>(~~~(@Zcg _ _ _ _ _ ((Zfb (pv 1) rfl)<&>((Zfb (pv 1) rfl)<&>Zaa))))))),?_⟩
  refine Zg1 fun X hX=>?_
  refine ⟨?_,fun cls H' a' σ' hE ha hl=>?_⟩
  ·walk_at "wp"
   refine ⟨w0,ws,rfl,h32,asc,h300,fun bt H' s'=>⟨s',.inl ⟨rfl,bt⟩⟩,fun m ps e1 e2 e3 H' s'=>⟨s',.inr ⟨rfl,m,e1,ps,e2,e3⟩⟩,fun m ps e1 e2 e3 d H1 s1 dr=>?_⟩
   obtain ⟨dx,lp,xs,hd,hlp,prs⟩:=dr
   have pl:=prs.1
   have p9:ps.length<=9:=by
    unfold Zep at e3
    rw [Jay,Jay] at e3
    exact Jah e3.1.2
   show X _ _ _
   subst hX
   refine Zg1 fun X hX=>?_
   walk_at "wp"
   refine ⟨Dg,dx,_,hd,T.cl_Drawing,T.nM,_,Ze3 m lp,m,rfl,true,rfl,Ze0 (by decide) ⟨Dg,dx,_,hd,T.cl_Drawing,T.nA,_,Zcy m lp,_,_,⟨rfl,rfl⟩,_,rfl,_,.lst hlp,true,Zgd K,Ze0 (by decide) ?_⟩⟩
   subst hX
   walk_at "wp"
   refine ⟨_,rfl,d,Dg,dx,_,_,rfl,hd,T.cl_Drawing,T.nA,Zcy m lp,lp,rfl,⟨_,SqL.of hlp⟩,Zfq (xs:=xs) (fun i σ H5=>∃ v3:Option V,Same H1 H5/\σ = [some (V.str (mkS (Zaq [32] (w0 :: ws)))),some (V.ref d),none,v3]) ⟨none,Same.refl _,rfl⟩ (fun i σ H5 _ ⟨_,e,_⟩=>SqL.of (e _ _ hlp)) ?_ ?_⟩
   ·rintro i x σ H5 hx ⟨v3,s5,rfl⟩
    have hi:i < ps.length:=by have:=(Jat.mp hx).1; omega
    obtain ⟨t,rfl,ht⟩:=prs.2 i x _ hx (Jaa hi)
    have ht5:=s5 _ _ ht
    walk_at "wp"
    refine ⟨_,_,⟨rfl,rfl⟩,_,rfl,_,.tup ht5,true,Zig K,Ze0 (by decide) ⟨_,rfl,t,rfl,⟨_,SqT.of ht5⟩,fun D hD=>Zip (fun _=>true) ht5 hD (by show 2<=1000; decide) (fun j y H' Q' hy s' q'=>?_) fun H6 s6 e6=>⟨D,rfl,_,SqL.of e6,?_⟩⟩⟩
    ·obtain ⟨z,rfl⟩:∃ z:Int,y = .int z:=by
      match j,hy with
      | 0,hy=>cases hy; exact ⟨_,rfl⟩
      | 1,hy=>cases hy; exact ⟨_,rfl⟩
      | j + 2,hy=>cases hy
     exact ⟨_,rfl,z,rfl,q' H' (Same.refl _)⟩
    ·rw [Zkj]
     exact Ze0 (by decide) ⟨s5.trans s6,_,rfl⟩
   ·rintro σ H5 ⟨v3,s5,rfl⟩
    walk_at "wp"
    refine ⟨Dg,dx,_,s5 _ _ hd,T.cl_Drawing,T.nM,_,Ze3 m lp,Dg,dx,_,s5 _ _ hd,T.cl_Drawing,T.nA,_,Zcy m lp,by decide,fun t ht=>?_⟩
    have s6:=Same.new (o:=.tup [V.int m,V.ref lp]) ht
    have s56:=s5.trans s6
    exact q m ps e1 e2 e3 t lp xs _ (s1.trans s56) Zac (s56 _ _ hlp) (prs.same s56)
  ·obtain ⟨v0,v1,v2,v3,rfl⟩:∃ v0 v1 v2 v3:Option V,σ' = [v0,v1,v2,v3]:=by
    match σ',hl with
    | [v0,v1,v2,v3],_=>exact ⟨v0,v1,v2,v3,rfl⟩
   obtain ⟨sH,hE⟩:=hE
   obtain ⟨cl,b1,b2,rfl,ak,fin⟩:∃ (cl:Addr) (b1 b2:Bool),cls = .ref cl/\Ask K cc cl b1 b2/\∀ H',Same H H'->Q (.str (if b2 = true then "drawing" else "text")) H':=by
    rcases hE with ⟨rfl,bt⟩ | ⟨rfl,m,ps,e1,e2,e3⟩
    ·exact ⟨_,true,false,rfl,ask_t XT,fun H' s'=>qT bt H' s'⟩
    ·exact ⟨_,false,true,rfl,ask_d XT,fun H' s'=>qD m ps e1 e2 e3 H' s'⟩
   have h1:upd H' a' (Zeo a' (.ref cl)) a' = some (Zeo a' (.ref cl)):=Zac
   have s1:=sH.trans (Same.new (o:=Zeo a' (.ref cl)) ha)
   generalize upd H' a' (Zeo a' (.ref cl)) = H1 at *
   walk_at "wp"
   refine ⟨by decide,fun p1 hp1=>?_⟩
   have sA:=Same.new (o:=.lst [V.str (Str.ofString "text"),V.str (Str.ofString "drawing")]) hp1
   refine ⟨a',cl,_,⟨rfl,rfl⟩,.ref cc.NoDrawing,rfl,sA _ _ h1,ak.z,ak.i,b2,ak.q2,_,SqL.of Zac,V.str (if b2 = true then "drawing" else "text"),by cases b2 <;> rfl,by decide,fun p2 hp2=>?_⟩
   have sB:=Same.new (o:=.lst [V.str (Str.ofString "other"),V.str (if b2 = true then "drawing" else "text")]) hp2
   have sAB:=sA.trans sB
   have h3:=sAB _ _ h1
   have x:=ak.x
   refine ⟨a',cl,0,b1,b2,rfl,.inl rfl,ak,h3,fun H2 s2=>⟨_,rfl,?_⟩⟩
   have fin':=fun H' s'=>fin H' ((s1.trans sAB).trans s')
   cases b1 with
   | true=>exact Zhn rfl ⟨_,SqL.of (s2 _ _ Zac),_,rfl,fin' H2 s2⟩
   | false=>
    have x:b2 = true:=x
    subst x
    exact Ze0 (by decide) ⟨a',cl,1,false,true,rfl,.inr rfl,ak,s2 _ _ h3,fun H3 s3=>.inr ⟨_,rfl,_,SqL.of (s3 _ _ (s2 _ _ Zac)),_,rfl,fin' H3 (s2.trans s3)⟩⟩
def spOdd:Sp:=fun vs H Q _=>∃ (b:Addr),vs = [.ref b]/\Bag H b/\∀ (l':List Nat) (H':Hp),Ext b H H'->Bag H' b->Asc l'->l'.length<=200->Q (.str (mkS l')) H'
theorem ok_odd {f:Addr} {fd:FuncData} (F:Fun K "_law_odd" "_law_odd" Zc6 f fd) (T:Txt K mg C Dg) (C_law_draw:Cal P w K mg base "_law_draw" 1 Zdl):FnOk P w K mg base CX0 2 f fd ["_law_bag_here"] spOdd:=by
 have nd:=Zgr.nd
 refine F.ok Zgr (fun vs H Q E h=>?_) (fun cdv A outer s H vs Q E hr h=>?_)
 ·obtain ⟨b,rfl,_⟩:=h
  rfl
 ·obtain ⟨b,rfl,hb,q⟩:=h
  refine ⟨_,((@Zam _ _ 1 _ _ _ _ nd rfl (Or.inl rfl) (@Zbm _ _ _ _ (Zaf<&>(Zaf<&>(Zaf<&>(Zaf<&>(Zaf<&>(Zaf<&>(Zaf<&>(Zaf<&>(Zaf<&>(Zaf<&>(Zaf<&>(Zaf<&>(Zaf<&>(Zaf<&>(Zaf<&>Zaa)))))))))))))))) (by kernel_rfl) (Or.inr rfl))<*>((Zam (i:=1) nd rfl (Or.inl rfl) (Zib<|>(pv 1)<&&>(@Zbm _ _ _ _ (Zaf<&>(Zaf<&>(Zaf<&>(Zaf<&>(Zaf<&>(Zaf<&>(Zaf<&>(Zaf<&>(Zaf<&>(Zaf<&>Zaa)))))))))))))<*>((Zam (i:=1) nd rfl (Or.inl rfl) (Zib<|>(pv 1)<&&>(@Zbm _ _ _ _ (Zaf<&>(Zaf<&>(Zaf<&>(Zaf<&>((Zan<|>Zaf<&&>(op_mulS<|>Zaf<&&>Zab))<&>Zaa))))))))<*>(~~~(Zaw<|>(pv 1)<||>(Zbb C_law_draw hr.m rfl ((pv 0)<&>(Zab<&>Zaa)))))))),?_⟩
  walk_at "wp"
  refine ⟨by decide,fun p1 h1=>⟨by decide,fun p2 h2=>?_⟩⟩
  generalize hA:[V.str (Str.ofString ""),V.str (Str.ofString ":"),V.str (Str.ofString "1"),V.str (Str.ofString "1:"),V.str (Str.ofString "1: "),V.str (Str.ofString " 1:"),V.str (Str.ofString "1 :"),V.str (Str.ofString "0:"),V.str (Str.ofString "8:"),V.str (Str.ofString "9:"),V.str (Str.ofString "01:"),V.str (Str.ofString "2:0>1"),V.str (Str.ofString "2: 0>1 "),V.str (Str.ofString "2:  0>1"),V.str (Str.ofString "2: 0>2")] = LA at *
  generalize hB:[V.str (Str.ofString "2: 0<1"),V.str (Str.ofString "2: 01"),V.str (Str.ofString "2: 0>"),V.str (Str.ofString "2: >1"),V.str (Str.ofString "2: 0>1>0"),V.str (Str.ofString "2: 0> 1"),V.str (Str.ofString "2: 0>1,1>0"),V.str (Str.ofString "2: -1>0"),V.str (Str.ofString "-2: 0>1"),V.str (Str.ofString "a:")] = LB at *
  have gA:LA.all gtB = true/\LA.length = 15:=by rw [<- hA]; exact ⟨by decide +kernel,rfl⟩
  have gB:LB.all gtB = true/\LB.length = 10:=by rw [<- hB]; exact ⟨by decide +kernel,rfl⟩
  have lA:=gA.2
  have lB:=gB.2
  have s1:=Same.new (o:=.lst LA) h1
  have s2:=Same.new (o:=.lst LB) h2
  have ea:upd (upd H p1 (.lst LA)) p2 (.lst LB) p1 = some (.lst LA):=s2 _ _ Zac
  have eb:upd (upd H p1 (.lst LA)) p2 (.lst LB) p2 = some (.lst LB):=Zac
  have s12:=s1.trans s2
  generalize upd (upd H p1 (.lst LA)) p2 (.lst LB) = H2 at *
  refine ⟨_,ea,_,eb,slc (by omega),fun p3 h3=>?_⟩
  have s3:=Same.new (o:=.lst (LA ++ LB)) h3
  have s13:=s12.trans s3
  have eA:upd H2 p3 (.lst (LA ++ LB)) p3 = some (.lst (LA ++ LB)):=Zac
  generalize upd H2 p3 (.lst (LA ++ LB)) = H3 at *
  refine ⟨_,rfl,by decide,by decide,by decide,by decide,by decide +kernel,by decide +kernel,_,rfl,_,rfl,by decide +kernel,by decide,fun p4 h4=>?_⟩
  generalize hC:[V.str (Str.ofString "2: 00>1"),V.str (Str.ofString "2:: 0>1"),V.str (Str.ofString "1: 0>0"),V.str (Str.ofString "3: 0>1 2>1"),V.str (Str.ofString "1:" ++ repT (Str.ofString " 0>0") 10)] = LC at *
  have gC:LC.all gtB = true/\LC.length = 5:=by rw [<- hC]; exact ⟨by decide +kernel,rfl⟩
  have lC:=gC.2
  have s4:=Same.new (o:=.lst LC) h4
  refine ⟨_,s4 _ _ eA,_,Zac,slc (by rw [Jab]; omega),fun p5 h5=>?_⟩
  have s5:=Same.new (o:=.lst (LA ++ LB ++ LC)) h5
  have s15:=(s13.trans s4).trans s5
  have n5:p5 ≠ b:=(hb.same (s13.trans s4)).ne h5
  refine (hb.same s15).draw (by decide) (by decide) fun y H5 y0 y1 e5 b5=>?_
  have hi:y.toNat < (LA ++ LB ++ LC).length:=by rw [Jab,Jab]; omega
  have ga:(LA ++ LB ++ LC).all gtB = true:=by rw [List.all_append,List.all_append,gA.1,gB.1,gC.1]; rfl
  obtain ⟨l',el,al,ll⟩:=gtB_ok (Ja0.mp ga _ (Jba hi))
  refine ⟨_,y,rfl,SqL.of (e5 _ _ n5 Zac),_,Zeb y0 (Jaa hi),?_⟩
  rw [el]
  exact q l' H5 (s15.ext.trans e5) b5 al ll
theorem Prs.ext {H H':Hp} {b:Addr} {xs:List V} {ps:List Ar} (h:Prs H xs ps) (hb:Bag H b) (e:Ext b H H'):Prs H' xs ps:=h.mono fun _ _ ⟨t,e1,ht⟩=>⟨t,e1,e t _ (fun z=>by
 obtain ⟨a1,a2,h1,_⟩:=hb
 rw [z,h1] at ht
 cases ht) ht⟩
theorem Zjm {e:Int} (h:Dig e):Asc (tI e):=fun c hc=>by
 rw [Zc3 h] at hc
 have:=h.1
 have:=h.2
 rw [Jar.mp hc]
 omega
theorem Zkh {m:Int} {ps:List Ar} (hm:Dig m) (hd:Zk6 ps):Asc (Zlh m ps):=fun c hc=>by
 rw [Zfw] at hc
 rcases Ja4.mp hc with hc | hc
 ·rcases Ja4.mp hc with hc | hc
  ·exact Zjm hm c hc
  ·rw [Jar.mp hc]
   decide
 ·obtain ⟨l,hl,hc⟩:=List.mem_flatten.mp hc
  obtain ⟨q,hq,rfl⟩:=Jbq.mp hl
  rcases Jav.mp hc with rfl | hc
  ·decide
  ·rcases Ja4.mp hc with hc | hc
   ·exact Zjm (hd q hq).1 c hc
   ·rcases Jav.mp hc with rfl | hc
    ·decide
    ·exact Zjm (hd q hq).2 c hc
def spSpt:Sp:=fun vs H Q _=>∃ (b a:Addr) (xs:List V) (m:Int) (ps:List Ar),vs = [.ref b,.int m,.ref a]/\Bag H b/\H a = some (.lst xs)/\a ≠ b/\Prs H xs ps/\Dig m/\Zk6 ps/\ps.length<=9/\∀ (l':List Nat) (H':Hp),Ext b H H'->Bag H' b->Asc l'->l'.length<=200->Q (.str (mkS l')) H'
theorem ok_spt {f:Addr} {fd:FuncData} (F:Fun K "_law_spoilt" "_law_spoilt" Zbs f fd) (T:Txt K mg C Dg) (C_law_draw:Cal P w K mg base "_law_draw" 1 Zdl) (C_law_odd:Cal P w K mg base "_law_odd" 2 spOdd) (C_law_drawing_shown:Cal P w K mg base "_law_drawing_shown" 1 Znq) (C_law_sign_spoilt:Cal P w K mg base "_law_sign_spoilt" 2 spSpo):FnOk P w K mg base CX0 3 f fd ["_law_bag_here","_law_many","_law_arrows"] spSpt:=by
 have nd:=Zeh.nd
 refine F.ok Zeh (fun vs H Q E h=>?_) (fun cdv A outer s H vs Q E hr h=>?_)
 ·obtain ⟨b,a,xs,m,ps,rfl,_⟩:=h
  rfl
 ·obtain ⟨b,a,xs,m,ps,rfl,hb,ha,nab,prs,hm,hd,h9,q⟩:=h
  refine ⟨_,((Zam (i:=3) nd rfl (Or.inl rfl) (Zbb C_law_draw hr.m rfl ((pv 0)<&>(Zab<&>Zaa))))<*>((@Za1 _ _ _ _ _ _ _ _ (Zae Zdj (pv 3) Zab (Zak _)) (~~~(Zbb C_law_odd hr.m rfl ((pv 0)<&>Zaa))) Zal)<*>((@Za1 _ _ _ _ _ _ _ _ (Zae Zdj (pv 3) Zab (Zak _)) (~~~(Zbb C_law_drawing_shown hr.m rfl ((Zbb C_law_draw hr.m rfl ((pv 0)<&>(Zab<&>Zaa)))<&>((pv 2)<&>Zaa)))) Zal)<*>((@Za1 _ _ _ _ _ _ _ _ (Zae Zdj (pv 3) Zab (Zak _)) ((Zam (i:=4) nd rfl (Or.inl rfl) (@Zbm _ _ _ _ ((@Zcg _ _ _ _ _ ((Zbb C_law_draw hr.m rfl ((pv 0)<&>(Zab<&>Zaa)))<&>((Zbb C_law_draw hr.m rfl ((pv 0)<&>(Zab<&>Zaa)))<&>Zaa)))<&>((@Zcg _ _ _ _ _ (Zab<&>(Zab<&>Zaa)))<&>Zaa))))<*>(~~~(Zbb C_law_drawing_shown hr.m rfl ((pv 1)<&>((Zib<|>(pv 2)<&&>(pv 4))<&>Zaa))))) Zal)<*>(~~~(Zbb C_law_sign_spoilt hr.m rfl ((Zbb C_law_drawing_shown hr.m rfl ((pv 1)<&>((pv 2)<&>Zaa)))<&>((pv 0)<&>Zaa)))))))),?_⟩
  walk_at "wp"
  have tl:∀ {m':Int} {ps':List Ar},Dig m'->Zk6 ps'->ps'.length<=11->Asc (Zlh m' ps')/\(Zlh m' ps').length<=100:=fun {m' ps'} h1 h2 h3=>⟨Zkh h1 h2,by rw [Zjq h1 h2]; omega⟩
  refine hb.draw (by decide) (by decide) fun z H1 z0 z1 e1 b1=>⟨rfl,Zb9 (fun _=>⟨b,rfl,b1,fun l' H' e2 b2 al ll=>q l' H' (e1.trans e2) b2 al ll⟩) (fun _=>⟨rfl,Zb9 (fun _=>?_) (fun _=>⟨rfl,Zb9 (fun _=>?_) (fun _=>?_)⟩)⟩)⟩
  ·refine b1.draw (by decide) (by decide) fun y H2 y0 y1 e2 b2=>?_
   have e02:=e1.trans e2
   obtain ⟨a1,a2⟩:=tl (m':=y) ⟨y0,y1⟩ hd (by omega)
   exact ⟨a,xs,y,ps,rfl,e02 _ _ nab ha,prs.ext hb e02,⟨y0,y1⟩,hd,by omega,q _ H2 e02 b2 a1 (by omega)⟩
  ·refine b1.draw (by decide) (by decide) fun x H2 x0 x1 e2 b2=>b2.draw (by decide) (by decide) fun y H3 y0 y1 e3 b3=>⟨by decide,fun p hp=>⟨by decide,fun p2 hp2=>⟨by decide,fun p3 hp3=>?_⟩⟩⟩
   have e03:=(e1.trans e2).trans e3
   have s1:=Same.new (o:=.tup [V.int x,V.int y]) hp
   have s2:=Same.new (o:=.tup [V.int 0,V.int 0]) hp2
   have s3:=Same.new (o:=.lst [V.ref p,V.ref p2]) hp3
   have s13:=(s1.trans s2).trans s3
   have ha3:=s13 _ _ (e03 _ _ nab ha)
   have pr3:=(prs.ext hb e03).same s13
   have hx:upd (upd (upd H3 p (.tup [V.int x,V.int y])) p2 (.tup [V.int 0,V.int 0])) p3 (.lst [V.ref p,V.ref p2]) p = some (.tup [V.int x,V.int y]):=s3 _ _ (s2 _ _ Zac)
   have hy:upd (upd (upd H3 p (.tup [V.int x,V.int y])) p2 (.tup [V.int 0,V.int 0])) p3 (.lst [V.ref p,V.ref p2]) p2 = some (.tup [V.int 0,V.int 0]):=s3 _ _ Zac
   have hz:upd (upd (upd H3 p (.tup [V.int x,V.int y])) p2 (.tup [V.int 0,V.int 0])) p3 (.lst [V.ref p,V.ref p2]) p3 = some (.lst [V.ref p,V.ref p2]):=Zac
   generalize upd (upd (upd H3 p (.tup [V.int x,V.int y])) p2 (.tup [V.int 0,V.int 0])) p3 (.lst [V.ref p,V.ref p2]) = H4 at *
   have pl:=prs.1
   refine ⟨_,ha3,_,hz,slc (by rw [pl]; show ps.length + 2<=1000; omega),fun p4 hp4=>?_⟩
   have s4:=Same.new (o:=.lst (xs ++ [V.ref p,V.ref p2])) hp4
   have pr4:Prs (upd H4 p4 (.lst (xs ++ [V.ref p,V.ref p2]))) (xs ++ [V.ref p,V.ref p2]) (ps ++ [(x,y),(0,0)]):=by
    refine Prs.same (All2.app pr3 (xs':=[V.ref p,V.ref p2]) (ys':=[(x,y),(0,0)]) ⟨rfl,fun i v q' ev eq=>?_⟩) s4
    match i,ev,eq with
    | 0,ev,eq=>cases ev; cases eq; exact ⟨p,rfl,hx⟩
    | 1,ev,eq=>cases ev; cases eq; exact ⟨p2,rfl,hy⟩
    | i + 2,ev,_=>cases ev
   have hd':Zk6 (ps ++ [(x,y),(0,0)]):=fun q' hq=>by
    rcases Ja4.mp hq with h | h
    ·exact hd q' h
    ·rcases Jav.mp h with rfl | h
     ·exact ⟨⟨x0,x1⟩,⟨y0,y1⟩⟩
     ·rw [Jar.mp h]
      exact ⟨⟨by decide,by decide⟩,⟨by decide,by decide⟩⟩
   have hl':(ps ++ [(x,y),(0,0)]).length<=11:=by rw [Jab]; show ps.length + 2<=11; omega
   obtain ⟨a1,a2⟩:=tl hm hd' hl'
   have s14:=s13.trans s4
   exact ⟨p4,_,m,_,rfl,Zac,pr4,hm,hd',hl',q _ _ (e03.trans s14.ext) (b3.same s14) a1 (by omega)⟩
  ·obtain ⟨a1,a2⟩:=tl hm hd (by omega)
   refine ⟨a,xs,m,ps,rfl,e1 _ _ nab ha,prs.ext hb e1,hm,hd,by omega,?_⟩
   exact ⟨_,b,rfl,a1,by omega,b1,fun l' H' e2 b2 al ll=>q l' H' (e1.trans e2) b2 al (by omega)⟩
theorem Same.thru {l:Addr} {H H1 H2:Hp} (s:Same H H1) (h:H l = none) (e:Ext l H1 H2):Same H H2:=fun b o eb=>e b o (Zai eb h) (s b o eb)
theorem Zov (ns:List Int) (lo hi:Option Int):∃ ms:List Int,Znh (ns.map V.int) lo hi = ms.map V.int/\ms.length<=ns.length:=by
 refine ⟨(ns.drop (HT.sIx (ns.map V.int).length 0 lo)).take (HT.sIx (ns.map V.int).length (ns.map V.int).length hi - HT.sIx (ns.map V.int).length 0 lo),?_,?_⟩
 ·unfold Znh
  rw [List.map_take,List.map_drop]
 ·rw [Jbv,Jbg]
  omega
theorem Znv {R:It->Hp->Prop} {l:Addr} {σ:L2.St} {H:Hp} {k:Int} {i:Nat} (hi:σ[i]? = some (some (.ref l))) (b:Bag H l) (h0:0 < k) (h1:k < 1000000000) (q:∀ (n:Int) (H3:Hp),0<=n->n < k->Ext l H H3->Bag H3 l->R (Itr 0 n.toNat) H3):
  Zom (Zh0 (Zh1 Zdl [] E0 (Zh0 (tVar i) (Zh0 (tC (.int k)) tNil))) tNil) σ H R:=by
 refine ⟨_,hi,?_⟩
 simp only [Zh0,tC,tNil,List.append_nil]
 exact b.draw h0 h1 fun n H3 n0 n1 e3 b3=>⟨n,rfl,by omega,by omega,q n H3 n0 n1 e3 b3⟩
theorem dig_all:((List.range 10).all fun n=>isW [48 + n] && vW [48 + n] == n) = true:=by decide +kernel
theorem Zjf {e:Int} (h:Dig e):isW (tI e) = true/\((vW (tI e):Nat):Int) = e:=by
 have h0:=h.1
 have h1:=h.2
 have:=Ja0.mp dig_all e.toNat (Jbn.mpr (by omega))
 rw [Jay] at this
 rw [Zc3 h]
 refine ⟨this.1,?_⟩
 have:vW [48 + e.toNat] = e.toNat:=by simpa using this.2
 rw [this]
 omega
theorem Zlp {q:Ar} (h:Dig q.1/\Dig q.2):rdA (Zfx q) = some q:=by
 have n62:62 ∉ tI q.1:=fun z=>by
  rw [Zc3 h.1] at z
  have:=Jar.mp z
  have:=h.1.1
  have:=h.1.2
  omega
 obtain ⟨a1,a2⟩:=Zjf h.1
 obtain ⟨b1,b2⟩:=Zjf h.2
 unfold Zfx
 rw [Zhc n62,if_pos ⟨a1,b1⟩,a2,b2]
theorem Zi7 {m:Int} (h:Dig m):rdW (tI m ++ [58]) = some m:=by
 obtain ⟨a1,a2⟩:=Zjf h
 have e:(tI m ++ [58]).dropLast = tI m:=by simp
 have c:colB (tI m ++ [58]) = true:=by
  unfold colB
  rw [decide_eq_true_iff,Jab]
  show (tI m ++ [58]).drop ((tI m).length + 1 - 1) = [58]
  rw [Nat.add_sub_cancel,List.drop_left]
 unfold rdW
 rw [e,if_pos ⟨c,a1⟩,a2]
theorem no32 {m:Int} {ps:List Ar} (hm:Dig m) (hd:Zk6 ps):∀ b ∈ (tI m ++ [58]) :: ps.map Zfx,32 ∉ b:=fun b hb z=>by
 have one:∀ {e:Int},Dig e->32 ∉ tI e:=fun {e} h y=>by
  rw [Zc3 h] at y
  have:=Jar.mp y
  have:=h.1
  omega
 rcases Jav.mp hb with rfl | hb
 ·rcases Ja4.mp z with z | z
  ·exact one hm z
  ·simp at z
 ·obtain ⟨q,hq,rfl⟩:=Jbq.mp hb
  rcases Ja4.mp z with z | z
  ·exact one (hd q hq).1 z
  ·rcases Jav.mp z with z | z
   ·exact absurd z (by decide)
   ·exact one (hd q hq).2 z
theorem Zo8 {ps:List Ar} (hd:Zk6 ps):Zfi (ps.map Zfx) ps:=⟨by rw [Jac],fun i w q e1 e2=>by
 rw [Jas,e2] at e1
 cases e1
 exact Zlp (hd q (Jal e2))⟩
theorem Zf7 {ws:List (List Nat)} {ps qs:List Ar} (h:Zfi ws ps) (h':Zfi ws qs):ps = qs:=by
 apply Jcz
 intro i
 have l1:=h.1
 have l2:=h'.1
 by_cases hi:i < ws.length
 ·have e:=Jaa hi
  have a:=h.2 i _ _ e (Jaa (by omega))
  have b:=h'.2 i _ _ e (Jaa (by omega))
  rw [Jaa (by omega),Jaa (by omega)]
  exact Eq.trans (Eq.symm a) b
 ·rw [Jbf (by omega),Jbf (by omega)]
theorem prs_eq {H:Hp} {n:Nat} {a c:Addr} {xs ys:List V} {ps:List Ar} (ha:H a = some (.lst xs)) (hc:H c = some (.lst ys)) (hx:Prs H xs ps) (hy:Prs H ys ps):EqD K H (n + 2) (.ref a) (.ref c) true:=by
 obtain ⟨f1,f2⟩:=all2_eq (K:=K) (H:=H) (n:=n + 1) hx hy fun v u q ⟨t,e,ht⟩ ⟨t',e',ht'⟩=>by
  subst e
  subst e'
  exact tup_eq ht ht' rfl fun j x y e1 e2=>by
   match j,e1,e2 with
   | 0,e1,e2=>cases e1; cases e2; exact Zho
   | 1,e1,e2=>cases e1; cases e2; exact Zho
   | j + 2,e1,_=>cases e1
 exact list_eq ha hc f1 f2
theorem Zhy {H:Hp} {n:Nat} {m:Int} {a c:Addr} {xs ys:List V} {ps:List Ar} (ha:H a = some (.lst xs)) (hc:H c = some (.lst ys)) (hx:Prs H xs ps) (hy:Prs H ys ps):Zhv K H (n + 2) [V.int m,V.ref a] [V.int m,V.ref c] (List.replicate 2 true):=
 Zoj rfl fun j x y e1 e2=>by
  match j,e1,e2 with
  | 0,e1,e2=>cases e1; cases e2; exact Zho
  | 1,e1,e2=>cases e1; cases e2; exact prs_eq ha hc hx hy
  | j + 2,e1,_=>cases e1
theorem Znj (l:List Nat):∃ w0 ws,l = Zaq [32] (w0 :: ws)/\(∀ b ∈ w0 :: ws,32 ∉ b)/\(BadT w0 ws\/∃ m ps,rdW w0 = some m/\Zfi ws ps):=by
 obtain ⟨w0,ws,e,h⟩:=pcs 32 l
 refine ⟨w0,ws,e,h,?_⟩
 cases ew:rdW w0 with
 | none=>exact .inl (.inl ew)
 | some m=>
  by_cases hb:∃ u ∈ ws,rdA u = none
  ·exact .inl (.inr hb)
  ·refine .inr ⟨m,ws.map fun u=>(rdA u).getD (0,0),rfl,by rw [Jac],fun i u q e1 e2=>?_⟩
   rw [Jas,e1] at e2
   cases eu:rdA u with
   | none=>exact absurd ⟨u,Jal e1,eu⟩ hb
   | some q'=>
    have:=Ja3 e2
    rw [<- this]
    show some q' = some ((rdA u).getD (0,0))
    rw [eu]
    rfl
theorem Zhu {w0:List Nat} {ws:List (List Nat)} {m:Int} {ps:List Ar} (h:BadT w0 ws) (e1:rdW w0 = some m) (e2:Zfi ws ps):False:=by
 rcases h with z | ⟨u,hu,z⟩
 ·rw [e1] at z
  cases z
 ·obtain ⟨i,hi,rfl⟩:=Ja1.mp hu
  obtain ⟨q,_,hq⟩:=e2.at' (Jaa hi)
  rw [z] at hq
  cases hq
def Znr (K:PySem.W.Frag):Sp:=fun vs H Q _=>∃ (a:Addr) (ns:List Int),vs = [.ref a]/\SqL K H a (ns.map V.int)/\ns.length<=63/\∀ H',Q (.bl true) H'
theorem ok_law {f:Addr} {fd:FuncData} (F:Fun K "law" "law" Zha f fd) (T:Txt K mg C Dg) (C_law_cell:Cal P w K mg base "_law_cell" 1 (Zln K)) (C_law_bag:Cal P w K mg base "_law_bag" 1 spBag) (C_law_prime:Cal P w K mg base "_law_prime" 2 spPr) (C_law_draw:Cal P w K mg base "_law_draw" 1 Zdl) (C_law_table:Cal P w K mg base "_law_table" 5 spTb)
  (C_Ground:CalI P w K mg base "Ground" C 3 (Zlm C)) (C_show_table:Cal P w K mg base "show_table" 4 (spShT C)) (C_law_table_shown:Cal P w K mg base "_law_table_shown" 2 spLts) (C_law_drawing_shown:Cal P w K mg base "_law_drawing_shown" 1 Znq) (C_Drawing:CalIE P w K mg base "Drawing" Dg 4 (Zg8 Dg cc.NoDrawing))
  (C_show_drawing:Cal P w K mg base "show_drawing" 1 (spShD Dg)) (C_law_asked:Cal P w K mg base "_law_asked" 7 Zkp) (C_law_spoilt:Cal P w K mg base "_law_spoilt" 3 spSpt) (C_law_read:Cal P w K mg base "_law_read" 3 Zkp):FnOk P w K mg base CX0 8 f fd ["_law_script"] (Znr K):=by
 have nd:=Zo7.nd
 refine F.ok Zo7 (fun vs H Q E h=>?_) (fun cdv A outer s H vs Q E hr h=>?_)
 ·obtain ⟨a,ns,rfl,_⟩:=h
  rfl
 ·obtain ⟨a,ns,rfl,hS,hl,q⟩:=h
  refine ⟨_,((Zel Jbm rfl (Zcc (Zib<|>(@Zbm _ _ _ _ ((Zbb C_law_cell hr.m rfl ((pv 0)<&>(Zab<&>Zaa)))<&>(Zab<&>Zaa)))<&&>(@Za9 _ _ _ _ _ _ _ _ _ _ Zi4 (pv 0) (@Zbi _ _ _ Zab) (@Zbi _ _ _ Zab)))) (@Zap _ _ 1 _ nd rfl (Or.inl rfl) (Or.inl rfl)) ((Zam (i:=2) nd rfl (Or.inl rfl) (Zbb C_law_bag hr.m rfl ((pv 1)<&>Zaa)))<*>((Zam (i:=3) nd rfl (Or.inl rfl) (Zbb C_law_prime hr.m rfl ((pv 2)<&>Zaa)))<*>((Zam (i:=4) nd rfl (Or.inl rfl) (Zaw<|>(@Zbm _ _ _ _ (Zab<&>(Zab<&>Zaa)))<||>(Zd4 Zes rfl T.n_int Jeb ((Zcs Zem (pv 3) Zab (Zak _))<&>Zaa))))<*>((Zam (i:=5) nd rfl (Or.inl rfl) (Zbb C_law_draw hr.m rfl ((pv 2)<&>((Zch<|>(pv 4)<&&>Zab)<&>Zaa))))<*>((Zam (i:=6) nd rfl (Or.inl rfl) (Zbb C_law_table hr.m rfl ((pv 2)<&>((pv 3)<&>((pv 5)<&>((Zbb C_law_draw hr.m rfl ((pv 2)<&>((Zch<|>(pv 4)<&&>Zab)<&>Zaa)))<&>Zaa))))))<*>((@Za1 _ _ _ _ _ _ _ _ (Zae Zhg (Zbb C_show_table hr.m rfl ((pe_n C_Ground hr.m rfl ((pv 3)<&>Zaa))<&>((pv 6)<&>Zaa))) (Zbb C_law_table_shown hr.m rfl ((pv 3)<&>((pv 6)<&>Zaa))) (Zak _)) (~~~Zgn) Zal)<*>((Zam (i:=7) nd rfl (Or.inl rfl) (Zch<|>Zab<&&>(Zbb C_law_draw hr.m rfl ((pv 2)<&>(Zab<&>Zaa)))))<*>((Zam (i:=8) nd rfl (Or.inl rfl) (@Zbm _ _ _ _ Zaa))<*>((Zel Jbm rfl (Znz rfl T.n_range ((Zbb C_law_draw hr.m rfl ((pv 2)<&>(Zab<&>Zaa)))<&>Zaa)) (@Zap _ _ 9 _ nd rfl (Or.inl rfl) (Or.inl rfl)) ((Zam (i:=10) nd rfl (Or.inl rfl) (Zbb C_law_draw hr.m rfl ((pv 2)<&>((pv 7)<&>Zaa))))<*>(@Zav _ _ _ (Zf8 (Zdp Jb1 Jb4 Jb5 Zct (pv 8) ((@Zcg _ _ _ _ _ ((pv 10)<&>((Zbb C_law_draw hr.m rfl ((pv 2)<&>((pv 7)<&>Zaa)))<&>Zaa)))<&>Zaa))))))<*>((Zam (i:=11) nd rfl (Or.inl rfl) (Zbb C_law_drawing_shown hr.m rfl ((pv 7)<&>((pv 8)<&>Zaa))))<*>((@Za1 _ _ _ _ _ _ _ _ (PW.pt (Zd3 (Zae Zhg (Zbb C_show_drawing hr.m rfl ((pe_nE C_Drawing pass_no hr.m rfl ((pv 7)<&>((Zd4 Zfe rfl T.n_list boot_list ((pv 8)<&>Zaa))<&>Zaa)))<&>Zaa)) (pv 11) (Zak _)) (Zdc (Zae (Zl7 (room8 hr)) (Zbb C_law_asked hr.m rfl ((pv 11)<&>Zaa)) (@Zcg _ _ _ _ _ ((pv 7)<&>((pv 8)<&>Zaa))) (Zak _))))) (~~~Zgn) Zal)<*>(@Zav _ _ _ (Zel Jbm rfl (Znz rfl T.n_range (Zab<&>Zaa)) (@Zap _ _ 12 _ nd rfl (Or.inl rfl) (Or.inl rfl)) ((Zam (i:=13) nd rfl (Or.inl rfl) (Zbb C_law_spoilt hr.m rfl ((pv 2)<&>((pv 7)<&>((pv 8)<&>Zaa)))))<*>(@Zav _ _ _ (@Za1 _ _ _ _ _ _ _ _ (Zae (Zl7 (room8 hr)) (Zbb C_law_asked hr.m rfl ((pv 13)<&>Zaa)) (Zbb C_law_read hr.m rfl ((pv 13)<&>Zaa)) (Zak _)) (~~~Zgn) Zal)))))))))))))))))<*>(~~~Zgn)),?_⟩
  obtain ⟨ms,hms,hml⟩:=Zov ns (some 1) (some 10)
  refine ⟨_,rfl,a,ns,0,rfl,hS,hl,by decide,fun c0=>⟨by show 2<=sizeLine; decide,fun p1 hp1=>⟨_,rfl,_,rfl,_,rfl,a,_,rfl,(Same.new hp1).seq hS,fun p2 hp2=>?_⟩⟩⟩
  rw [hms] at *
  refine ⟨p1,p2,_,_,rfl,rfl,by rw [Zah (Zai Zac hp2)]; exact Zac,Zac,Jcb (Za4 (by rw [Jac]; show 2 + ms.length<=1000; omega)),fun p3 hp3=>?_⟩
  have hz:[V.int c0,V.int 3] ++ ms.map V.int = (c0 :: 3 :: ms).map V.int:=rfl
  rw [hz]
  have e3:upd (upd (upd H p1 (.lst [V.int c0,V.int 3])) p2 (.lst (ms.map V.int))) p3 (.lst ((c0 :: 3 :: ms).map V.int)) p3 = some (.lst ((c0 :: 3 :: ms).map V.int)):=Zac
  generalize upd (upd (upd H p1 (.lst [V.int c0,V.int 3])) p2 (.lst (ms.map V.int))) p3 (.lst ((c0 :: 3 :: ms).map V.int)) = H0 at *
  refine ⟨p3,rfl,⟨_,SqL.of e3⟩,Zfq (xs:=(c0 :: 3 :: ms).map V.int) (fun i σ H2=>∃ v1 v2 v3 v4 v5 v6 v7 v8 v9 v10 v11 v12 v13:Option V,σ = [some (.ref a),v1,v2,v3,v4,v5,v6,v7,v8,v9,v10,v11,v12,v13]/\Same H0 H2)
   ⟨none,none,none,none,none,none,none,none,none,none,none,none,none,rfl,Same.refl _⟩ (fun i σ H2 _ ⟨_,_,_,_,_,_,_,_,_,_,_,_,_,_,sH⟩=>SqL.of (sH _ _ e3)) ?_ ?_⟩
  ·rintro i x σ H2 hi ⟨v1,v2,v3,v4,v5,v6,v7,v8,v9,v10,v11,v12,v13,rfl,s2⟩
   obtain ⟨c,rfl⟩:∃ c:Int,x = .int c:=by
    rw [Jas] at hi
    cases e:(c0 :: 3 :: ms)[i]? with
    | none=>rw [e] at hi; cases hi
    | some c=>rw [e] at hi; cases hi; exact ⟨c,rfl⟩
   refine Zg1 fun X hX=>?_
   walk_at "wp"
   refine ⟨c,rfl,fun l xa xb hl0 xb0 xb1=>?_⟩
   have b3:Bag (upd H2 l (Zpk xa xb)) l:=Bag.set xb0 xb1
   have fl:=s2.free hl0
   have s3:=s2.trans (Same.new (o:=Zpk xa xb) hl0)
   generalize upd H2 l (Zpk xa xb) = H3 at *
   subst hX
   refine Zg1 fun X hX=>?_
   walk_at "wp"
   refine ⟨l,rfl,b3,fun p H4 e4 b4 hp=>?_⟩
   have s4:=Same.thru s3 fl e4
   subst hX
   refine Zg1 fun X hX=>?_
   walk_at "wp"
   refine ⟨by decide,fun p4 hp4=>?_⟩
   have s5':=Same.new (o:=.lst [V.int 4,V.int 6]) hp4
   obtain ⟨mo,emo,mo4,mo6⟩:∃ mo:Int,atI [V.int 4,V.int 6] (if decide (0 < p) = true then 1 else 0) = some (V.int mo)/\4<=mo/\mo<=6:=by
    by_cases h:decide (0 < p) = true
    ·rw [if_pos h]; exact ⟨6,rfl,by decide,by decide⟩
    ·rw [if_neg h]; exact ⟨4,rfl,by decide,by decide⟩
   refine ⟨_,SqL.of Zac,_,emo,?_⟩
   have b5:=b4.same s5'
   have s5:=s4.trans s5'
   generalize upd H4 p4 (.lst [V.int 4,V.int 6]) = H5 at *
   subst hX
   refine Zg1 fun X hX=>?_
   walk_at "wp"
   refine b5.draw (by omega) (by omega) fun hh H6 hh0 hh1 e6 b6=>?_
   have s6:=Same.thru s5 fl e6
   subst hX
   refine Zg1 fun X hX=>?_
   walk_at "wp"
   refine b6.draw (by omega) (by omega) fun wd H7 wd0 wd1 e7 b7=>⟨l,p,hh,wd,rfl,b7,hp,hh0,by omega,wd0,by omega,fun t r rs H8 e8 b8 _ _ _ tb=>?_⟩
   have s8:=Same.thru (Same.thru s6 fl e7) fl e8
   obtain ⟨M,tv,shp,gdm⟩:=tb.byV
   subst hX
   refine Zg1 fun X hX=>?_
   walk_at "wp"
   intro g dx hg hdx ndx
   have fx1:(upd H8 dx (.own g)) g = none:=by rw [Zah ndx.symm]; exact hg
   have s89:Same H8 (upd (upd H8 dx (.own g)) g (.ins C dx [])):=(Same.new hdx).trans (Same.new fx1)
   refine ⟨g,dx,p,rfl,Zac,hp,fun H9 ex9 hg9=>⟨rfl,?_⟩⟩
   have s9:Same H8 H9:=Same.thru s89 hg ex9
   refine ⟨g,t,r,p,hh,wd,rs,M,rfl,⟨dx,hg9⟩,tv.same s9,shp,gdm,by omega,by omega,fun H10 s10=>⟨t,r,p,hh,wd,rs,M,rfl,hp,(tv.same s9).same s10,shp,gdm,by omega,by omega,fun H11 s11=>⟨rfl,Ze0 (by simp) ?_⟩⟩⟩
   have s811:=(s9.trans s10).trans s11
   have b11:=b8.same s811
   have s11':=s8.trans s811
   subst hX
   refine Zg1 fun X hX=>?_
   walk_at "wp"
   refine b11.draw (by decide) (by decide) fun m1 H12 m10 m11 e12 b12=>⟨m1,rfl,?_⟩
   have s12:=Same.thru s11' fl e12
   generalize hm:(1:Int) + m1 = m at *
   have hmd:1<=m/\m<=8:=by omega
   have dm:Dig m:=⟨by omega,by omega⟩
   subst hX
   refine Zg1 fun X hX=>?_
   walk_at "wp"
   refine ⟨by decide,fun L hL=>?_⟩
   have sL:=Same.new (o:=.lst []) hL
   have b13:=b12.same sL
   have s13:=s12.trans sL
   have nLl:L ≠ l:=b12.ne hL
   have fL:=s12.free hL
   have eL:upd H12 L (.lst []) L = some (.lst []):=Zac
   generalize upd H12 L (.lst []) = H13 at *
   subst hX
   refine Zg1 fun X hX=>?_
   walk_at "wp"
   refine Znv (k:=10) (i:=2) rfl b13 (by decide) (by decide) fun n H14 n0 n1 e14 b14=>?_
   have s14:=Same.thru s13 fl e14
   refine (Zer (fun i σ H3=>∃ (xs:List V) (ps:List Ar) (v9 v10:Option V),σ = [some (V.ref a),some (V.int c),some (V.ref l),some (V.int p),some (V.int mo),some (V.int hh),some (V.ref t),some (V.int m),some (V.ref L),v9,v10,v11,v12,v13]/\Same H0 H3/\Bag H3 l/\H3 L = some (.lst xs)/\Prs H3 xs ps/\ps.length<=i/\∀ q ∈ ps,(0<=q.1/\q.1 < m)/\(0<=q.2/\q.2 < m))
    ⟨[],[],v9,v10,rfl,s14,b14,e14 _ _ nLl eL,All2.nil,Jae _,by simp⟩ ?_ ?_)
   ·rintro i σ H15 hi ⟨xs,ps,u9,u10,rfl,s15,b15,hL15,pr15,pl15,hq15⟩
    walk_at "wp"
    have xl:=pr15.1
    refine b15.draw (by omega) (by omega) fun r1 H16 r10 r11 e16 b16=>?_
    refine ⟨.inl ⟨rfl,_,SqL.of (e16 _ _ nLl hL15)⟩,b16.draw (by omega) (by omega) fun r2 H17 r20 r21 e17 b17=>⟨by decide,fun t' ht=>?_⟩⟩
    have e157:=e16.trans e17
    have hL17:=e157 _ _ nLl hL15
    have sT:=Same.new (o:=.tup [V.int r1,V.int r2]) ht
    have hL18:=sT _ _ hL17
    have pr18:Prs (upd H17 t' (.tup [V.int r1,V.int r2])) (xs ++ [V.ref t']) (ps ++ [(r1,r2)]):=All2.app ((pr15.ext b15 e157).same sT) (All2.one ⟨t',rfl,Zac⟩)
    have b18:=b17.same sT
    have s18:=(Same.thru s15 fl e157).trans sT
    generalize upd H17 t' (.tup [V.int r1,V.int r2]) = H18 at *
    refine ⟨_,hL18,Za4 (by omega),xs ++ [V.ref t'],ps ++ [(r1,r2)],_,_,⟨rfl,rfl⟩,s18.upd fL,b18.new nLl,Zac,pr18.mono fun _ _ h=>h.put hL18,by rw [Jab]; show _ + 1<=_; omega,fun q hq=>?_⟩
    rcases Ja4.mp hq with h | h
    ·exact hq15 q h
    ·rw [Jar.mp h]
     exact ⟨⟨r10,r11⟩,⟨r20,r21⟩⟩
   rintro σ H15 ⟨xs,ps,u9,u10,rfl,s15,b15,hL15,pr15,pl15,hq15⟩
   have dp:Zk6 ps:=fun q hq=>by
    have:=hq15 q hq
    exact ⟨⟨by omega,by omega⟩,⟨by omega,by omega⟩⟩
   have p9:ps.length<=9:=by omega
   show X _ _ _
   subst hX
   refine Zg1 fun X hX=>?_
   walk_at "wp"
   refine ⟨L,xs,m,ps,rfl,hL15,pr15,dm,dp,by omega,?_⟩
   subst hX
   refine Zg1 fun X hX=>?_
   walk_at "wp"
   have gd:Zep m ps = true:=by
    unfold Zep
    rw [Jag hmd.1,Jag hmd.2,Jag p9,Jcc,Jcc,Jcc,Ja0]
    intro q hq
    have:=hq15 q hq
    unfold Ze1
    rw [Jag this.1.2,Jag this.2.2]
    rfl
   have xl:=pr15.1
   refine ⟨xs,.inl (SqL.of hL15),fun LL hL2 d dx' hd hdx' hne=>?_⟩
   have sA:=Same.new (o:=.lst xs) hL2
   have hA:upd H15 LL (.lst xs) LL = some (.lst xs):=Zac
   generalize upd H15 LL (.lst xs) = H16 at *
   have sN:Same H16 (upd (upd H16 dx' (.own d)) d (.ins Dg dx' [])):=(Same.new hdx').trans (Same.new (by rw [Zah hne.symm]; exact hd))
   have hDr:=sN _ _ hA
   have sAN:=sA.trans sN
   have prN:=pr15.same sAN
   have dB:Zde (upd (upd H16 dx' (.own d)) d (.ins Dg dx' [])) (.int m) (.ref LL) = Zep m ps:=Zin hDr prN fun q hq=>⟨(hq15 q hq).1.1,(hq15 q hq).2.1⟩
   refine ⟨d,dx',.int m,.ref LL,rfl,Zac,.int,Zo5 hDr prN (by omega),fun hb=>absurd hb (by rw [dB,gd]; decide),fun m' a' xs' ev eu ha hgood lp H17 ext17 hd17 hlp0 hlp17=>⟨rfl,?_⟩⟩
   cases ev
   cases eu
   rw [hDr] at ha
   cases ha
   have s17:Same H15 H17:=fun b o e=>ext17 b o (fun z=>by rw [z,sA.free hd] at e; cases e) (sAN _ _ e)
   have dr17:DrA Dg H17 d m ps:=⟨dx',lp,_,hd17,hlp17,prN.mono fun x' p' ⟨t',e,ht⟩=>⟨t',e,ext17 t' _ (fun z=>by rw [z,Zac] at ht; cases ht) ht⟩⟩
   refine ⟨d,m,ps,rfl,dr17,dm,dp,by omega,fun H18 s18=>⟨rfl,Ze0 (by simp) ?_⟩⟩
   have tl:=Zjq dm dp
   refine ⟨tI m ++ [58],ps.map Zfx,rfl,no32 dm dp,Zkh dm dp,by show (Zlh m ps).length<=300; omega,fun bt=>?_,fun m' ps' e1 e2 e3=>?_,fun m' ps' e1 e2 e3 t1 L1 ys H19 s19 ht1 hL1 pr1=>⟨by decide,fun t2 ht2=>?_⟩⟩
   ·rcases bt with z | ⟨u,hu,z⟩
    ·rw [Zi7 dm] at z
     cases z
    ·obtain ⟨q',hq',rfl⟩:=Jbq.mp hu
     rw [Zlp (dp q' hq')] at z
     cases z
   ·rw [Zi7 dm] at e1
    cases e1
    rw [<- Zf7 (Zo8 dp) e2,gd] at e3
    cases e3
   rw [Zi7 dm] at e1
   cases e1
   rw [<- Zf7 (Zo8 dp) e2] at pr1
   have s2':=Same.new (o:=.tup [V.int m,V.ref L]) ht2
   have s19':=(s17.trans s18).trans s19
   have sE:=s19'.trans s2'
   refine .inr ⟨t1,t2,_,_,_,rfl,rfl,SqT.of (s2' _ _ ht1),SqT.of Zac,Zhy (s2' _ _ hL1) (sE _ _ hL15) (pr1.same s2') (pr15.same sE),⟨_,rfl,Ze0 (by rw [Zhb]; decide) ?_⟩⟩
   have sF:=s15.trans sE
   have bF:=b15.same sE
   have hLF:=sE _ _ hL15
   have prF:=pr15.same sE
   generalize upd H19 t2 (.tup [V.int m,V.ref L]) = HF at *
   subst hX
   walk_at "wp"
   refine ⟨4,rfl,by decide,by decide,Zer (n:=4) (fun i σ H3=>∃ (w12 w13:Option V),σ = [some (V.ref a),some (V.int c),some (V.ref l),some (V.int p),some (V.int mo),some (V.int hh),some (V.ref t),some (V.int m),some (V.ref L),u9,u10,some (V.str (mkS (Zlh m ps))),w12,w13]/\Same H0 H3/\Bag H3 l/\H3 L = some (.lst xs)/\Prs H3 xs ps)
    ⟨v12,v13,rfl,sF,bF,hLF,prF⟩ ?_ ?_⟩
   ·rintro i σ H20 hi ⟨w12,w13,rfl,s20,b20,hL20,pr20⟩
    refine Zg1 fun X hX=>?_
    walk_at "wp"
    refine ⟨l,L,xs,m,ps,rfl,b20,hL20,nLl,pr20,dm,dp,p9,fun l' H21 e21 b21 al ll=>?_⟩
    have s21:=Same.thru s20 fl e21
    have hL21:=e21 _ _ nLl hL20
    have pr21:=pr20.ext b20 e21
    obtain ⟨w0,ws,rfl,n32,_⟩:=Znj l'
    subst hX
    walk_at "wp"
    have l3:(Zaq [32] (w0 :: ws)).length<=300:=by omega
    refine ⟨w0,ws,rfl,n32,al,l3,fun bt H22 s22=>?_,fun m' ps' e1 e2 e3 H22 s22=>?_,fun m' ps' e1 e2 e3 t1 L1 ys H22 s22 ht1 hL1 pr1=>?_⟩
    ·refine ⟨w0,ws,rfl,n32,al,l3,fun _ H23 s23=>?_,fun m'' ps'' f1 f2=>(Zhu bt f1 f2).elim,fun m'' ps'' f1 f2=>(Zhu bt f1 f2).elim⟩
     have s3':=s22.trans s23
     exact .inl ⟨rfl,_,rfl,Ze0 (by simp) ⟨_,_,⟨rfl,rfl⟩,s21.trans s3',b21.same s3',s3' _ _ hL21,pr21.same s3'⟩⟩
    ·refine ⟨w0,ws,rfl,n32,al,l3,fun bt=>(Zhu bt e1 e2).elim,fun m'' ps'' f1 f2 f3 H23 s23=>?_,fun m'' ps'' f1 f2 f3=>?_⟩
     ·have s3':=s22.trans s23
      exact .inl ⟨rfl,_,rfl,Ze0 (by simp) ⟨_,_,⟨rfl,rfl⟩,s21.trans s3',b21.same s3',s3' _ _ hL21,pr21.same s3'⟩⟩
     ·rw [e1] at f1
      cases f1
      rw [<- Zf7 e2 f2,e3] at f3
      cases f3
    ·refine ⟨w0,ws,rfl,n32,al,l3,fun bt=>(Zhu bt e1 e2).elim,fun m'' ps'' f1 f2 f3=>?_,fun m'' ps'' f1 f2 f3 t2 L2' zs H23 s23 ht2 hL2 pr2=>?_⟩
     ·rw [e1] at f1
      cases f1
      rw [<- Zf7 e2 f2,e3] at f3
      cases f3
     ·rw [e1] at f1
      cases f1
      rw [<- Zf7 e2 f2] at pr2
      have s3':=s22.trans s23
      exact .inr ⟨t1,t2,_,_,_,rfl,rfl,SqT.of (s23 _ _ ht1),SqT.of ht2,Zhy (s23 _ _ hL1) hL2 (pr1.same s23) pr2,⟨_,rfl,Ze0 (by rw [Zhb]; decide) ⟨_,_,⟨rfl,rfl⟩,s21.trans s3',b21.same s3',s3' _ _ hL21,pr21.same s3'⟩⟩⟩
   ·rintro σ H20 ⟨w12,w13,rfl,s20,b20,hL20,pr20⟩
    exact ⟨_,_,_,_,_,_,_,_,_,_,_,_,_,rfl,s20⟩
  ·rintro σ H2 ⟨v1,v2,v3,v4,v5,v6,v7,v8,v9,v10,v11,v12,v13,rfl,s2⟩
   exact q H2
end
end Pf
set_option maxHeartbeats 4000000
namespace Pf
open PySem L2 PyProof.Rows
open PySem.W (nsIn codeIn keepIn fnOf findIn isFn mg_of mg_none_of plainGet hasDictIn plainOver makesIn)
theorem ex1 {us:List Value} (hl:us.length = 1):∃ a0,us = [a0]:=match us,hl with | [a0],_=>⟨a0,rfl⟩
theorem ex2 {us:List Value} (hl:us.length = 2):∃ a0 a1,us = [a0,a1]:=match us,hl with | [a0,a1],_=>⟨a0,a1,rfl⟩
theorem ex3 {us:List Value} (hl:us.length = 3):∃ a0 a1 a2,us = [a0,a1,a2]:=match us,hl with | [a0,a1,a2],_=>⟨a0,a1,a2,rfl⟩
theorem ex4 {us:List Value} (hl:us.length = 4):∃ a0 a1 a2 a3,us = [a0,a1,a2,a3]:=match us,hl with | [a0,a1,a2,a3],_=>⟨a0,a1,a2,a3,rfl⟩
theorem all_mk {l:PySem.W.OpenLaw} {w:World} {K:PySem.W.Frag} {h:Heap} {mg:Str->Option Value} {fa C Cd:Addr} {t1 t2 t3 t4 t5 t6:Tok} (X:K.In h) (G:h.Ns mainGlobals mg) (hfa:mg "law" = some (.ref fa))
  {f1 f2 f3 f4 f5 f6 f7 f8 f9 f10 f11 f12 f13 f14 f15 f16 f17 f18 f19 f20 f21 f22 f23 f24 f25 f26 f27 f28 f29 f30 f31 f32 f33 f34 f35 f36 f37 f38 f39 f40:Addr} {od1 an1 od2 an2 od3 an3 od4 an4 od5 an5 od6 an6 od7 an7 od8 an8 od9 an9 od10 an10 od11 an11 od12 an12 od13 an13 od14 an14 od15 an15 od16 an16 od17 an17 od18 an18 od19 an19 od20 an20 od21 an21 od22 an22 od23 an23 od24 an24 od25 an25 od26 an26 od27 an27 od28 an28 od29 an29 od30 an30 od31 an31 od32 an32 od33 an33 od34 an34 od35 an35 od36 an36 od37 an37 od38 an38 od39 an39 od40 an40:Option Addr} {sl1 sl2 sl3 sl4 sl5 sl6 sl7 sl8 sl9 sl10 sl11 sl12 sl13 sl14 sl15 sl16 sl17 sl18 sl19 sl20 sl21 sl22 sl23 sl24 sl25 sl26 sl27 sl28 sl29 sl30 sl31 sl32 sl33 sl34 sl35 sl36 sl37 sl38 sl39 sl40:Array (Option Value)} {oc1 kV1 dc1 pm1 ct1 cd1 oc2 kV2 dc2 pm2 ct2 cd2 oc3 kV3 dc3 pm3 ct3 cd3 oc4 kV4 dc4 pm4 ct4 cd4 oc5 kV5 dc5 pm5 ct5 cd5 oc6 kV6 dc6 pm6 ct6 cd6 oc7 kV7 dc7 pm7 ct7 cd7 oc8 kV8 dc8 pm8 ct8 cd8 oc9 kV9 dc9 pm9 ct9 cd9 oc10 kV10 dc10 pm10 ct10 cd10 oc11 kV11 dc11 pm11 ct11 cd11 oc12 kV12 dc12 pm12 ct12 cd12 oc13 kV13 dc13 pm13 ct13 cd13 oc14 kV14 dc14 pm14 ct14 cd14 oc15 kV15 dc15 pm15 ct15 cd15 oc16 kV16 dc16 pm16 ct16 cd16 oc17 kV17 dc17 pm17 ct17 cd17 oc18 kV18 dc18 pm18 ct18 cd18 oc19 kV19 dc19 pm19 ct19 cd19 oc20 kV20 dc20 pm20 ct20 cd20 oc21 kV21 dc21 pm21 ct21 cd21 oc22 kV22 dc22 pm22 ct22 cd22 oc23 kV23 dc23 pm23 ct23 cd23 oc24 kV24 dc24 pm24 ct24 cd24 oc25 kV25 dc25 pm25 ct25 cd25 oc26 kV26 dc26 pm26 ct26 cd26 oc27 kV27 dc27 pm27 ct27 cd27 oc28 kV28 dc28 pm28 ct28 cd28 oc29 kV29 dc29 pm29 ct29 cd29 oc30 kV30 dc30 pm30 ct30 cd30 oc31 kV31 dc31 pm31 ct31 cd31 oc32 kV32 dc32 pm32 ct32 cd32 oc33 kV33 dc33 pm33 ct33 cd33 oc34 kV34 dc34 pm34 ct34 cd34 oc35 kV35 dc35 pm35 ct35 cd35 oc36 kV36 dc36 pm36 ct36 cd36 oc37 kV37 dc37 pm37 ct37 cd37 oc38 kV38 dc38 pm38 ct38 cd38 oc39 kV39 dc39 pm39 ct39 cd39 oc40 kV40 dc40 pm40 ct40 cd40:Value}
  {x_LimbError x_NoGround x_NoNumber x_NoTable x_NoDrawing x_NoKind x_NoStanding x_NoChange x_NoMirror x_NoRoot x_NoText x_NoRow x_NoName:Addr}
  (a1:nsIn K mainGlobals "is_whole" = some (some (.ref f1)))
  (l1:K.lookup f1 = some ⟨oc1,od1,.func (fnOf "is_whole" "is_whole" (Zaj Zb6) (Zag Zb6) (Zad Zb6) .none kV1 dc1 pm1 an1 cd1 ct1),sl1⟩)
  (c1:codeIn K cd1 "is_whole" = true)
  (k1:keepIn K (.ref f1) = true)
  (a2:nsIn K mainGlobals "makes_drawing" = some (some (.ref f2)))
  (l2:K.lookup f2 = some ⟨oc2,od2,.func (fnOf "makes_drawing" "makes_drawing" (Zaj Za7) (Zag Za7) (Zad Za7) .none kV2 dc2 pm2 an2 cd2 ct2),sl2⟩)
  (c2:codeIn K cd2 "makes_drawing" = true)
  (k2:keepIn K (.ref f2) = true)
  (a3:nsIn K mainGlobals "is_arrow" = some (some (.ref f3)))
  (l3:K.lookup f3 = some ⟨oc3,od3,.func (fnOf "is_arrow" "is_arrow" (Zaj Zcp) (Zag Zcp) (Zad Zcp) .none kV3 dc3 pm3 an3 cd3 ct3),sl3⟩)
  (c3:codeIn K cd3 "is_arrow" = true)
  (k3:keepIn K (.ref f3) = true)
  (a4:nsIn K mainGlobals "show_whole" = some (some (.ref f4)))
  (l4:K.lookup f4 = some ⟨oc4,od4,.func (fnOf "show_whole" "show_whole" (Zaj Zbh) (Zag Zbh) (Zad Zbh) .none kV4 dc4 pm4 an4 cd4 ct4),sl4⟩)
  (c4:codeIn K cd4 "show_whole" = true)
  (k4:keepIn K (.ref f4) = true)
  (a5:nsIn K mainGlobals "show_number" = some (some (.ref f5)))
  (l5:K.lookup f5 = some ⟨oc5,od5,.func (fnOf "show_number" "show_number" (Zaj Zbk) (Zag Zbk) (Zad Zbk) .none kV5 dc5 pm5 an5 cd5 ct5),sl5⟩)
  (c5:codeIn K cd5 "show_number" = true)
  (k5:keepIn K (.ref f5) = true)
  (a6:nsIn K mainGlobals "show_table" = some (some (.ref f6)))
  (l6:K.lookup f6 = some ⟨oc6,od6,.func (fnOf "show_table" "show_table" (Zaj Zbp) (Zag Zbp) (Zad Zbp) .none kV6 dc6 pm6 an6 cd6 ct6),sl6⟩)
  (c6:codeIn K cd6 "show_table" = true)
  (k6:keepIn K (.ref f6) = true)
  (a7:nsIn K mainGlobals "show_drawing" = some (some (.ref f7)))
  (l7:K.lookup f7 = some ⟨oc7,od7,.func (fnOf "show_drawing" "show_drawing" (Zaj Zbd) (Zag Zbd) (Zad Zbd) .none kV7 dc7 pm7 an7 cd7 ct7),sl7⟩)
  (c7:codeIn K cd7 "show_drawing" = true)
  (k7:keepIn K (.ref f7) = true)
  (a8:nsIn K mainGlobals "is_written" = some (some (.ref f8)))
  (l8:K.lookup f8 = some ⟨oc8,od8,.func (fnOf "is_written" "is_written" (Zaj Zbv) (Zag Zbv) (Zad Zbv) .none kV8 dc8 pm8 an8 cd8 ct8),sl8⟩)
  (c8:codeIn K cd8 "is_written" = true)
  (k8:keepIn K (.ref f8) = true)
  (a9:nsIn K mainGlobals "read_whole" = some (some (.ref f9)))
  (l9:K.lookup f9 = some ⟨oc9,od9,.func (fnOf "read_whole" "read_whole" (Zaj Zbq) (Zag Zbq) (Zad Zbq) .none kV9 dc9 pm9 an9 cd9 ct9),sl9⟩)
  (c9:codeIn K cd9 "read_whole" = true)
  (k9:keepIn K (.ref f9) = true)
  (a10:nsIn K mainGlobals "read_arrow" = some (some (.ref f10)))
  (l10:K.lookup f10 = some ⟨oc10,od10,.func (fnOf "read_arrow" "read_arrow" (Zaj Zbr) (Zag Zbr) (Zad Zbr) .none kV10 dc10 pm10 an10 cd10 ct10),sl10⟩)
  (c10:codeIn K cd10 "read_arrow" = true)
  (k10:keepIn K (.ref f10) = true)
  (a11:nsIn K mainGlobals "read_drawing" = some (some (.ref f11)))
  (l11:K.lookup f11 = some ⟨oc11,od11,.func (fnOf "read_drawing" "read_drawing" (Zaj Zbe) (Zag Zbe) (Zad Zbe) .none kV11 dc11 pm11 an11 cd11 ct11),sl11⟩)
  (c11:codeIn K cd11 "read_drawing" = true)
  (k11:keepIn K (.ref f11) = true)
  (a12:nsIn K mainGlobals "is_prime" = some (some (.ref f12)))
  (l12:K.lookup f12 = some ⟨oc12,od12,.func (fnOf "is_prime" "is_prime" (Zaj Zco) (Zag Zco) (Zad Zco) .none kV12 dc12 pm12 an12 cd12 ct12),sl12⟩)
  (c12:codeIn K cd12 "is_prime" = true)
  (k12:keepIn K (.ref f12) = true)
  (a13:nsIn K mainGlobals "tells_ground" = some (some (.ref f13)))
  (l13:K.lookup f13 = some ⟨oc13,od13,.func (fnOf "tells_ground" "tells_ground" (Zaj Zbc) (Zag Zbc) (Zad Zbc) .none kV13 dc13 pm13 an13 cd13 ct13),sl13⟩)
  (c13:codeIn K cd13 "tells_ground" = true)
  (k13:keepIn K (.ref f13) = true)
  (a14:nsIn K mainGlobals "_law_cell" = some (some (.ref f14)))
  (l14:K.lookup f14 = some ⟨oc14,od14,.func (fnOf "_law_cell" "_law_cell" (Zaj Zcn) (Zag Zcn) (Zad Zcn) .none kV14 dc14 pm14 an14 cd14 ct14),sl14⟩)
  (c14:codeIn K cd14 "_law_cell" = true)
  (k14:keepIn K (.ref f14) = true)
  (a15:nsIn K mainGlobals "_law_bag" = some (some (.ref f15)))
  (l15:K.lookup f15 = some ⟨oc15,od15,.func (fnOf "_law_bag" "_law_bag" (Zaj Zda) (Zag Zda) (Zad Zda) .none kV15 dc15 pm15 an15 cd15 ct15),sl15⟩)
  (c15:codeIn K cd15 "_law_bag" = true)
  (k15:keepIn K (.ref f15) = true)
  (a16:nsIn K mainGlobals "_law_draw" = some (some (.ref f16)))
  (l16:K.lookup f16 = some ⟨oc16,od16,.func (fnOf "_law_draw" "_law_draw" (Zaj Zcm) (Zag Zcm) (Zad Zcm) .none kV16 dc16 pm16 an16 cd16 ct16),sl16⟩)
  (c16:codeIn K cd16 "_law_draw" = true)
  (k16:keepIn K (.ref f16) = true)
  (a17:nsIn K mainGlobals "_law_gcd" = some (some (.ref f17)))
  (l17:K.lookup f17 = some ⟨oc17,od17,.func (fnOf "_law_gcd" "_law_gcd" (Zaj Zc9) (Zag Zc9) (Zad Zc9) .none kV17 dc17 pm17 an17 cd17 ct17),sl17⟩)
  (c17:codeIn K cd17 "_law_gcd" = true)
  (k17:keepIn K (.ref f17) = true)
  (a18:nsIn K mainGlobals "_law_lowest" = some (some (.ref f18)))
  (l18:K.lookup f18 = some ⟨oc18,od18,.func (fnOf "_law_lowest" "_law_lowest" (Zaj Zbu) (Zag Zbu) (Zad Zbu) .none kV18 dc18 pm18 an18 cd18 ct18),sl18⟩)
  (c18:codeIn K cd18 "_law_lowest" = true)
  (k18:keepIn K (.ref f18) = true)
  (a19:nsIn K mainGlobals "_law_whole" = some (some (.ref f19)))
  (l19:K.lookup f19 = some ⟨oc19,od19,.func (fnOf "_law_whole" "_law_whole" (Zaj Zb0) (Zag Zb0) (Zad Zb0) .none kV19 dc19 pm19 an19 cd19 ct19),sl19⟩)
  (c19:codeIn K cd19 "_law_whole" = true)
  (k19:keepIn K (.ref f19) = true)
  (a20:nsIn K mainGlobals "_law_prime" = some (some (.ref f20)))
  (l20:K.lookup f20 = some ⟨oc20,od20,.func (fnOf "_law_prime" "_law_prime" (Zaj Zb3) (Zag Zb3) (Zad Zb3) .none kV20 dc20 pm20 an20 cd20 ct20),sl20⟩)
  (c20:codeIn K cd20 "_law_prime" = true)
  (k20:keepIn K (.ref f20) = true)
  (a21:nsIn K mainGlobals "_law_number" = some (some (.ref f21)))
  (l21:K.lookup f21 = some ⟨oc21,od21,.func (fnOf "_law_number" "_law_number" (Zaj Zbt) (Zag Zbt) (Zad Zbt) .none kV21 dc21 pm21 an21 cd21 ct21),sl21⟩)
  (c21:codeIn K cd21 "_law_number" = true)
  (k21:keepIn K (.ref f21) = true)
  (a22:nsIn K mainGlobals "_law_add" = some (some (.ref f22)))
  (l22:K.lookup f22 = some ⟨oc22,od22,.func (fnOf "_law_add" "_law_add" (Zaj Zdb) (Zag Zdb) (Zad Zdb) .none kV22 dc22 pm22 an22 cd22 ct22),sl22⟩)
  (c22:codeIn K cd22 "_law_add" = true)
  (k22:keepIn K (.ref f22) = true)
  (a23:nsIn K mainGlobals "_law_mul" = some (some (.ref f23)))
  (l23:K.lookup f23 = some ⟨oc23,od23,.func (fnOf "_law_mul" "_law_mul" (Zaj Zc7) (Zag Zc7) (Zad Zc7) .none kV23 dc23 pm23 an23 cd23 ct23),sl23⟩)
  (c23:codeIn K cd23 "_law_mul" = true)
  (k23:keepIn K (.ref f23) = true)
  (a24:nsIn K mainGlobals "_law_int" = some (some (.ref f24)))
  (l24:K.lookup f24 = some ⟨oc24,od24,.func (fnOf "_law_int" "_law_int" (Zaj Zc8) (Zag Zc8) (Zad Zc8) .none kV24 dc24 pm24 an24 cd24 ct24),sl24⟩)
  (c24:codeIn K cd24 "_law_int" = true)
  (k24:keepIn K (.ref f24) = true)
  (a25:nsIn K mainGlobals "_law_rows" = some (some (.ref f25)))
  (l25:K.lookup f25 = some ⟨oc25,od25,.func (fnOf "_law_rows" "_law_rows" (Zaj Zck) (Zag Zck) (Zad Zck) .none kV25 dc25 pm25 an25 cd25 ct25),sl25⟩)
  (c25:codeIn K cd25 "_law_rows" = true)
  (k25:keepIn K (.ref f25) = true)
  (a26:nsIn K mainGlobals "_law_table" = some (some (.ref f26)))
  (l26:K.lookup f26 = some ⟨oc26,od26,.func (fnOf "_law_table" "_law_table" (Zaj Zb1) (Zag Zb1) (Zad Zb1) .none kV26 dc26 pm26 an26 cd26 ct26),sl26⟩)
  (c26:codeIn K cd26 "_law_table" = true)
  (k26:keepIn K (.ref f26) = true)
  (a27:nsIn K mainGlobals "_law_shown" = some (some (.ref f27)))
  (l27:K.lookup f27 = some ⟨oc27,od27,.func (fnOf "_law_shown" "_law_shown" (Zaj Zb2) (Zag Zb2) (Zad Zb2) .none kV27 dc27 pm27 an27 cd27 ct27),sl27⟩)
  (c27:codeIn K cd27 "_law_shown" = true)
  (k27:keepIn K (.ref f27) = true)
  (a28:nsIn K mainGlobals "_law_read_whole" = some (some (.ref f28)))
  (l28:K.lookup f28 = some ⟨oc28,od28,.func (fnOf "_law_read_whole" "_law_read_whole" (Zaj Za2) (Zag Za2) (Zad Za2) .none kV28 dc28 pm28 an28 cd28 ct28),sl28⟩)
  (c28:codeIn K cd28 "_law_read_whole" = true)
  (k28:keepIn K (.ref f28) = true)
  (a29:nsIn K mainGlobals "_law_alone" = some (some (.ref f29)))
  (l29:K.lookup f29 = some ⟨oc29,od29,.func (fnOf "_law_alone" "_law_alone" (Zaj Zb5) (Zag Zb5) (Zad Zb5) .none kV29 dc29 pm29 an29 cd29 ct29),sl29⟩)
  (c29:codeIn K cd29 "_law_alone" = true)
  (k29:keepIn K (.ref f29) = true)
  (a30:nsIn K mainGlobals "_law_sign_spoilt" = some (some (.ref f30)))
  (l30:K.lookup f30 = some ⟨oc30,od30,.func (fnOf "_law_sign_spoilt" "_law_sign_spoilt" (Zaj Za0) (Zag Za0) (Zad Za0) .none kV30 dc30 pm30 an30 cd30 ct30),sl30⟩)
  (c30:codeIn K cd30 "_law_sign_spoilt" = true)
  (k30:keepIn K (.ref f30) = true)
  (a31:nsIn K mainGlobals "_law_table_shown" = some (some (.ref f31)))
  (l31:K.lookup f31 = some ⟨oc31,od31,.func (fnOf "_law_table_shown" "_law_table_shown" (Zaj Zaz) (Zag Zaz) (Zad Zaz) .none kV31 dc31 pm31 an31 cd31 ct31),sl31⟩)
  (c31:codeIn K cd31 "_law_table_shown" = true)
  (k31:keepIn K (.ref f31) = true)
  (a32:nsIn K mainGlobals "_law_drawing_shown" = some (some (.ref f32)))
  (l32:K.lookup f32 = some ⟨oc32,od32,.func (fnOf "_law_drawing_shown" "_law_drawing_shown" (Zaj Zat) (Zag Zat) (Zad Zat) .none kV32 dc32 pm32 an32 cd32 ct32),sl32⟩)
  (c32:codeIn K cd32 "_law_drawing_shown" = true)
  (k32:keepIn K (.ref f32) = true)
  (a33:nsIn K mainGlobals "_law_arrow_read" = some (some (.ref f33)))
  (l33:K.lookup f33 = some ⟨oc33,od33,.func (fnOf "_law_arrow_read" "_law_arrow_read" (Zaj Za3) (Zag Za3) (Zad Za3) .none kV33 dc33 pm33 an33 cd33 ct33),sl33⟩)
  (c33:codeIn K cd33 "_law_arrow_read" = true)
  (k33:keepIn K (.ref f33) = true)
  (a34:nsIn K mainGlobals "_law_read" = some (some (.ref f34)))
  (l34:K.lookup f34 = some ⟨oc34,od34,.func (fnOf "_law_read" "_law_read" (Zaj Zcl) (Zag Zcl) (Zad Zcl) .none kV34 dc34 pm34 an34 cd34 ct34),sl34⟩)
  (c34:codeIn K cd34 "_law_read" = true)
  (k34:keepIn K (.ref f34) = true)
  (a35:nsIn K mainGlobals "_law_asked" = some (some (.ref f35)))
  (l35:K.lookup f35 = some ⟨oc35,od35,.func (fnOf "_law_asked" "_law_asked" (Zaj Zb4) (Zag Zb4) (Zad Zb4) .none kV35 dc35 pm35 an35 cd35 ct35),sl35⟩)
  (c35:codeIn K cd35 "_law_asked" = true)
  (k35:keepIn K (.ref f35) = true)
  (a36:nsIn K mainGlobals "_law_odd" = some (some (.ref f36)))
  (l36:K.lookup f36 = some ⟨oc36,od36,.func (fnOf "_law_odd" "_law_odd" (Zaj Zc6) (Zag Zc6) (Zad Zc6) .none kV36 dc36 pm36 an36 cd36 ct36),sl36⟩)
  (c36:codeIn K cd36 "_law_odd" = true)
  (k36:keepIn K (.ref f36) = true)
  (a37:nsIn K mainGlobals "_law_spoilt" = some (some (.ref f37)))
  (l37:K.lookup f37 = some ⟨oc37,od37,.func (fnOf "_law_spoilt" "_law_spoilt" (Zaj Zbs) (Zag Zbs) (Zad Zbs) .none kV37 dc37 pm37 an37 cd37 ct37),sl37⟩)
  (c37:codeIn K cd37 "_law_spoilt" = true)
  (k37:keepIn K (.ref f37) = true)
  (a38:nsIn K mainGlobals "law" = some (some (.ref f38)))
  (l38:K.lookup f38 = some ⟨oc38,od38,.func (fnOf "law" "law" (Zaj Zha) (Zag Zha) (Zad Zha) .none kV38 dc38 pm38 an38 cd38 ct38),sl38⟩)
  (c38:codeIn K cd38 "law" = true)
  (k38:keepIn K (.ref f38) = true)
  (aC:nsIn K mainGlobals "Ground" = some (some (.ref C)))
  (a39:findIn K (.ref C) "__init__" = some (some (.ref f39)))
  (i39:isFn K (.ref f39) = true)
  (l39:K.lookup f39 = some ⟨oc39,od39,.func (fnOf "__init__" "Ground.__init__" (Zaj Zbl) (Zag Zbl) (Zad Zbl) .none kV39 dc39 pm39 an39 cd39 ct39),sl39⟩)
  (c39:codeIn K cd39 "Ground.__init__" = true)
  (k39:keepIn K (.ref f39) = true)
  (pg:plainGet K C Str.empty = true)
  (hd:hasDictIn K C = true)
  (po:plainOver K C = true)
  (sa:findIn K (.ref C) "__setattr__" = some (some (.builtin "object.__setattr__")))
  (mk:makesIn K C = true)
  (kc:keepIn K (.ref C) = true)
  (nP:findIn K (.ref C) "prime" = some none)
  (aCd:nsIn K mainGlobals "Drawing" = some (some (.ref Cd)))
  (a40:findIn K (.ref Cd) "__init__" = some (some (.ref f40)))
  (i40:isFn K (.ref f40) = true)
  (l40:K.lookup f40 = some ⟨oc40,od40,.func (fnOf "__init__" "Drawing.__init__" (Zaj Zbf) (Zag Zbf) (Zad Zbf) .none kV40 dc40 pm40 an40 cd40 ct40),sl40⟩)
  (c40:codeIn K cd40 "Drawing.__init__" = true)
  (k40:keepIn K (.ref f40) = true)
  (pg_Cd:plainGet K Cd Str.empty = true)
  (hd_Cd:hasDictIn K Cd = true)
  (po_Cd:plainOver K Cd = true)
  (sa_Cd:findIn K (.ref Cd) "__setattr__" = some (some (.builtin "object.__setattr__")))
  (mk_Cd:makesIn K Cd = true)
  (kc_Cd:keepIn K (.ref Cd) = true)
  (nM:findIn K (.ref Cd) "many" = some none)
  (nA:findIn K (.ref Cd) "arrows" = some none)
  (g1:nsIn K mainGlobals "LARGEST_PRIME" = some (some (.int 97 t1)))
  (g2:nsIn K mainGlobals "LONG" = some (some (.int 4000 t2)))
  (g3:nsIn K mainGlobals "MOST_POINTS" = some (some (.int 8 t3)))
  (g4:nsIn K mainGlobals "MOST_ARROWS" = some (some (.int 9 t4)))
  (g5:nsIn K mainGlobals "MOST_FIGURES" = some (some (.int 30 t5)))
  (g6:nsIn K mainGlobals "FIGURES" = some (some (.str "0123456789" t6)))
  (z0:nsIn K mainGlobals "abs" = some none)
  (z1:nsIn K mainGlobals "all" = some none)
  (z2:nsIn K mainGlobals "isinstance" = some none)
  (z3:nsIn K mainGlobals "int" = some none)
  (z4:nsIn K mainGlobals "bool" = some none)
  (z5:nsIn K mainGlobals "tuple" = some none)
  (z6:nsIn K mainGlobals "range" = some none)
  (z7:nsIn K mainGlobals "len" = some none)
  (z8:nsIn K mainGlobals "ValueError" = some none)
  (z9:nsIn K mainGlobals "str" = some none)
  (z10:nsIn K mainGlobals "any" = some none)
  (z11:nsIn K mainGlobals "list" = some none)
  (z12:nsIn K mainGlobals "zip" = some none)
  (a_LimbError:nsIn K mainGlobals "LimbError" = some (some (.ref x_LimbError)))
  (a_NoGround:nsIn K mainGlobals "NoGround" = some (some (.ref x_NoGround)))
  (a_NoNumber:nsIn K mainGlobals "NoNumber" = some (some (.ref x_NoNumber)))
  (a_NoTable:nsIn K mainGlobals "NoTable" = some (some (.ref x_NoTable)))
  (a_NoDrawing:nsIn K mainGlobals "NoDrawing" = some (some (.ref x_NoDrawing)))
  (a_NoKind:nsIn K mainGlobals "NoKind" = some (some (.ref x_NoKind)))
  (a_NoStanding:nsIn K mainGlobals "NoStanding" = some (some (.ref x_NoStanding)))
  (a_NoChange:nsIn K mainGlobals "NoChange" = some (some (.ref x_NoChange)))
  (a_NoMirror:nsIn K mainGlobals "NoMirror" = some (some (.ref x_NoMirror)))
  (a_NoRoot:nsIn K mainGlobals "NoRoot" = some (some (.ref x_NoRoot)))
  (a_NoText:nsIn K mainGlobals "NoText" = some (some (.ref x_NoText)))
  (a_NoRow:nsIn K mainGlobals "NoRow" = some (some (.ref x_NoRow)))
  (a_NoName:nsIn K mainGlobals "NoName" = some (some (.ref x_NoName)))
  (e_LimbError:PySem.W.excIn K x_LimbError [.type "ValueError",.type "Exception",.type "BaseException",.type "object"] "ValueError.__new__" = true)
  (e_NoDrawing:PySem.W.excIn K x_NoDrawing [.type "ValueError",.type "Exception",.type "BaseException",.type "object"] "ValueError.__new__" = true)
  (e_NoText:PySem.W.excIn K x_NoText [.type "ValueError",.type "Exception",.type "BaseException",.type "object"] "ValueError.__new__" = true)
  (m_R:PySem.W.mroIn K x_NoText (.ref x_LimbError) = some true)
  (n_R:x_NoText ≠ x_LimbError)
  (y_ga:findIn K (.ref x_NoText) "__getattribute__" = some (some (.builtin "BaseException.__getattribute__")))
  (y_gt:findIn K (.ref x_NoText) "__getattr__" = some none)
  (y_cl:findIn K (.ref x_NoText) "__class__" = some (some (.builtin "object.__class__")))
  (y_so:PySem.W.mroIn K x_NoText (.type "object") = some true)
  (y_sb:PySem.W.mroIn K x_NoText (.type "BaseException") = some true)
  (y_t1:PySem.W.kitAny K (.ref x_NoText) [.ref x_NoChange,.ref x_NoGround,.ref x_NoKind,.ref x_NoMirror,.ref x_NoName,.ref x_NoRoot,.ref x_NoRow] = some false)
  (y_qNoDrawing:PySem.W.kitOne K (.ref x_NoText) (.ref x_NoDrawing) = some false)
  (y_qNoNumber:PySem.W.kitOne K (.ref x_NoText) (.ref x_NoNumber) = some false)
  (y_qNoTable:PySem.W.kitOne K (.ref x_NoText) (.ref x_NoTable) = some false)
  (y_qNoStanding:PySem.W.kitOne K (.ref x_NoText) (.ref x_NoStanding) = some false)
  (y_v:PySem.W.kitOne K (.ref x_NoText) (.type "ValueError") = some true)
  (m_R2:PySem.W.mroIn K x_NoDrawing (.ref x_LimbError) = some true)
  (n_R2:x_NoDrawing ≠ x_LimbError)
  (yy_ga:findIn K (.ref x_NoDrawing) "__getattribute__" = some (some (.builtin "BaseException.__getattribute__")))
  (yy_gt:findIn K (.ref x_NoDrawing) "__getattr__" = some none)
  (yy_cl:findIn K (.ref x_NoDrawing) "__class__" = some (some (.builtin "object.__class__")))
  (yy_so:PySem.W.mroIn K x_NoDrawing (.type "object") = some true)
  (yy_sb:PySem.W.mroIn K x_NoDrawing (.type "BaseException") = some true)
  (yy_t1:PySem.W.kitAny K (.ref x_NoDrawing) [.ref x_NoChange,.ref x_NoGround,.ref x_NoKind,.ref x_NoMirror,.ref x_NoName,.ref x_NoRoot,.ref x_NoRow] = some false)
  (yy_qNoText:PySem.W.kitOne K (.ref x_NoDrawing) (.ref x_NoText) = some false)
  (yy_qNoNumber:PySem.W.kitOne K (.ref x_NoDrawing) (.ref x_NoNumber) = some false)
  (yy_qNoTable:PySem.W.kitOne K (.ref x_NoDrawing) (.ref x_NoTable) = some false)
  (yy_qNoStanding:PySem.W.kitOne K (.ref x_NoDrawing) (.ref x_NoStanding) = some false)
  (yy_v:PySem.W.kitOne K (.ref x_NoDrawing) (.type "ValueError") = some true):
  ∃ fd:FuncData,(∀ (s:Shared) (v:Value),BindsTo s fd ⟨[v],[]⟩ [("_law_script",v)])/\∀ base:Heap,K.In base->base.Ns mainGlobals mg->FnOk l.prog w K mg base CX0 8 fa fd ["_law_script"] (Znr K):=by
 have e:=hfa.symm.trans (mg_of X G a38)
 cases e
 have T:Txt K mg C Cd:=⟨⟨pg,hd,po,sa⟩,nP,⟨pg_Cd,hd_Cd,po_Cd,sa_Cd⟩,nM,nA,mg_none_of X G z0,mg_none_of X G z1,mg_none_of X G z2,mg_none_of X G z3,mg_none_of X G z4,mg_none_of X G z5,mg_none_of X G z6,mg_none_of X G z7,mg_none_of X G z8,mg_none_of X G z9,mg_none_of X G z10,mg_none_of X G z11,mg_none_of X G z12,⟨t1,mg_of X G g1⟩,⟨t2,mg_of X G g2⟩,⟨t3,mg_of X G g3⟩,⟨t4,mg_of X G g4⟩,⟨t5,mg_of X G g5⟩,⟨t6,mg_of X G g6⟩⟩
 have F1:=Zar (st:=Zb6) l1 c1 k1
 have b1:=F1.binds (ps:=["thing"]) fun _ _ _ _ _ _ us hl=>by obtain ⟨_,rfl⟩:=ex1 hl; rfl
 have F2:=Zar (st:=Za7) l2 c2 k2
 have b2:=F2.binds (ps:=["many","arrows"]) fun _ _ _ _ _ _ us hl=>by obtain ⟨_,_,rfl⟩:=ex2 hl; rfl
 have F3:=Zar (st:=Zcp) l3 c3 k3
 have b3:=F3.binds (ps:=["many","thing"]) fun _ _ _ _ _ _ us hl=>by obtain ⟨_,_,rfl⟩:=ex2 hl; rfl
 have F4:=Zar (st:=Zbh) l4 c4 k4
 have b4:=F4.binds (ps:=["number"]) fun _ _ _ _ _ _ us hl=>by obtain ⟨_,rfl⟩:=ex1 hl; rfl
 have F5:=Zar (st:=Zbk) l5 c5 k5
 have b5:=F5.binds (ps:=["ground","number"]) fun _ _ _ _ _ _ us hl=>by obtain ⟨_,_,rfl⟩:=ex2 hl; rfl
 have F6:=Zar (st:=Zbp) l6 c6 k6
 have b6:=F6.binds (ps:=["ground","table"]) fun _ _ _ _ _ _ us hl=>by obtain ⟨_,_,rfl⟩:=ex2 hl; rfl
 have F7:=Zar (st:=Zbd) l7 c7 k7
 have b7:=F7.binds (ps:=["drawing"]) fun _ _ _ _ _ _ us hl=>by obtain ⟨_,rfl⟩:=ex1 hl; rfl
 have F8:=Zar (st:=Zbv) l8 c8 k8
 have b8:=F8.binds (ps:=["most","text"]) fun _ _ _ _ _ _ us hl=>by obtain ⟨_,_,rfl⟩:=ex2 hl; rfl
 have F9:=Zar (st:=Zbq) l9 c9 k9
 have b9:=F9.binds (ps:=["text"]) fun _ _ _ _ _ _ us hl=>by obtain ⟨_,rfl⟩:=ex1 hl; rfl
 have F10:=Zar (st:=Zbr) l10 c10 k10
 have b10:=F10.binds (ps:=["text"]) fun _ _ _ _ _ _ us hl=>by obtain ⟨_,rfl⟩:=ex1 hl; rfl
 have F11:=Zar (st:=Zbe) l11 c11 k11
 have b11:=F11.binds (ps:=["text"]) fun _ _ _ _ _ _ us hl=>by obtain ⟨_,rfl⟩:=ex1 hl; rfl
 have F12:=Zar (st:=Zco) l12 c12 k12
 have b12:=F12.binds (ps:=["number"]) fun _ _ _ _ _ _ us hl=>by obtain ⟨_,rfl⟩:=ex1 hl; rfl
 have F13:=Zar (st:=Zbc) l13 c13 k13
 have b13:=F13.binds (ps:=["thing"]) fun _ _ _ _ _ _ us hl=>by obtain ⟨_,rfl⟩:=ex1 hl; rfl
 have F14:=Zar (st:=Zcn) l14 c14 k14
 have b14:=F14.binds (ps:=["_law_script","_law_k"]) fun _ _ _ _ _ _ us hl=>by obtain ⟨_,_,rfl⟩:=ex2 hl; rfl
 have F15:=Zar (st:=Zda) l15 c15 k15
 have b15:=F15.binds (ps:=["_law_cell_here"]) fun _ _ _ _ _ _ us hl=>by obtain ⟨_,rfl⟩:=ex1 hl; rfl
 have F16:=Zar (st:=Zcm) l16 c16 k16
 have b16:=F16.binds (ps:=["_law_bag_here","_law_many"]) fun _ _ _ _ _ _ us hl=>by obtain ⟨_,_,rfl⟩:=ex2 hl; rfl
 have F17:=Zar (st:=Zc9) l17 c17 k17
 have b17:=F17.binds (ps:=["_law_one","_law_two"]) fun _ _ _ _ _ _ us hl=>by obtain ⟨_,_,rfl⟩:=ex2 hl; rfl
 have F18:=Zar (st:=Zbu) l18 c18 k18
 have b18:=F18.binds (ps:=["_law_top","_law_bottom"]) fun _ _ _ _ _ _ us hl=>by obtain ⟨_,_,rfl⟩:=ex2 hl; rfl
 have F19:=Zar (st:=Zb0) l19 c19 k19
 have b19:=F19.binds (ps:=["_law_found"]) fun _ _ _ _ _ _ us hl=>by obtain ⟨_,rfl⟩:=ex1 hl; rfl
 have F20:=Zar (st:=Zb3) l20 c20 k20
 have b20:=F20.binds (ps:=["_law_bag_here"]) fun _ _ _ _ _ _ us hl=>by obtain ⟨_,rfl⟩:=ex1 hl; rfl
 have F21:=Zar (st:=Zbt) l21 c21 k21
 have b21:=F21.binds (ps:=["_law_bag_here","_law_p"]) fun _ _ _ _ _ _ us hl=>by obtain ⟨_,_,rfl⟩:=ex2 hl; rfl
 have F22:=Zar (st:=Zdb) l22 c22 k22
 have b22:=F22.binds (ps:=["_law_p","_law_a","_law_b"]) fun _ _ _ _ _ _ us hl=>by obtain ⟨_,_,_,rfl⟩:=ex3 hl; rfl
 have F23:=Zar (st:=Zc7) l23 c23 k23
 have b23:=F23.binds (ps:=["_law_p","_law_a","_law_b"]) fun _ _ _ _ _ _ us hl=>by obtain ⟨_,_,_,rfl⟩:=ex3 hl; rfl
 have F24:=Zar (st:=Zc8) l24 c24 k24
 have b24:=F24.binds (ps:=["_law_p","_law_k"]) fun _ _ _ _ _ _ us hl=>by obtain ⟨_,_,rfl⟩:=ex2 hl; rfl
 have F25:=Zar (st:=Zck) l25 c25 k25
 have b25:=F25.binds (ps:=["_law_bag_here","_law_p","_law_high","_law_wide"]) fun _ _ _ _ _ _ us hl=>by obtain ⟨_,_,_,_,rfl⟩:=ex4 hl; rfl
 have F26:=Zar (st:=Zb1) l26 c26 k26
 have b26:=F26.binds (ps:=["_law_bag_here","_law_p","_law_high","_law_wide"]) fun _ _ _ _ _ _ us hl=>by obtain ⟨_,_,_,_,rfl⟩:=ex4 hl; rfl
 have F27:=Zar (st:=Zb2) l27 c27 k27
 have b27:=F27.binds (ps:=["_law_p","_law_number_here"]) fun _ _ _ _ _ _ us hl=>by obtain ⟨_,_,rfl⟩:=ex2 hl; rfl
 have F28:=Zar (st:=Za2) l28 c28 k28
 have b28:=F28.binds (ps:=["_law_text"]) fun _ _ _ _ _ _ us hl=>by obtain ⟨_,rfl⟩:=ex1 hl; rfl
 have F29:=Zar (st:=Zb5) l29 c29 k29
 have b29:=F29.binds (ps:=["_law_e","_law_kind"]) fun _ _ _ _ _ _ us hl=>by obtain ⟨_,_,rfl⟩:=ex2 hl; rfl
 have F30:=Zar (st:=Za0) l30 c30 k30
 have b30:=F30.binds (ps:=["_law_text","_law_bag_here"]) fun _ _ _ _ _ _ us hl=>by obtain ⟨_,_,rfl⟩:=ex2 hl; rfl
 have F31:=Zar (st:=Zaz) l31 c31 k31
 have b31:=F31.binds (ps:=["_law_p","_law_table_here"]) fun _ _ _ _ _ _ us hl=>by obtain ⟨_,_,rfl⟩:=ex2 hl; rfl
 have F32:=Zar (st:=Zat) l32 c32 k32
 have b32:=F32.binds (ps:=["_law_many","_law_arrows"]) fun _ _ _ _ _ _ us hl=>by obtain ⟨_,_,rfl⟩:=ex2 hl; rfl
 have F33:=Zar (st:=Za3) l33 c33 k33
 have b33:=F33.binds (ps:=["_law_word"]) fun _ _ _ _ _ _ us hl=>by obtain ⟨_,rfl⟩:=ex1 hl; rfl
 have F34:=Zar (st:=Zcl) l34 c34 k34
 have b34:=F34.binds (ps:=["_law_text"]) fun _ _ _ _ _ _ us hl=>by obtain ⟨_,rfl⟩:=ex1 hl; rfl
 have F35:=Zar (st:=Zb4) l35 c35 k35
 have b35:=F35.binds (ps:=["_law_text"]) fun _ _ _ _ _ _ us hl=>by obtain ⟨_,rfl⟩:=ex1 hl; rfl
 have F36:=Zar (st:=Zc6) l36 c36 k36
 have b36:=F36.binds (ps:=["_law_bag_here"]) fun _ _ _ _ _ _ us hl=>by obtain ⟨_,rfl⟩:=ex1 hl; rfl
 have F37:=Zar (st:=Zbs) l37 c37 k37
 have b37:=F37.binds (ps:=["_law_bag_here","_law_many","_law_arrows"]) fun _ _ _ _ _ _ us hl=>by obtain ⟨_,_,_,rfl⟩:=ex3 hl; rfl
 have F38:=Zar (st:=Zha) l38 c38 k38
 have F39:=Zar (st:=Zbl) l39 c39 k39
 have b39:=F39.binds (ps:=["self","prime"]) fun _ _ _ _ _ _ us hl=>by obtain ⟨_,_,rfl⟩:=ex2 hl; rfl
 have F40:=Zar (st:=Zbf) l40 c40 k40
 have b40:=F40.binds (ps:=["self","many","arrows"]) fun _ _ _ _ _ _ us hl=>by obtain ⟨_,_,_,rfl⟩:=ex3 hl; rfl
 refine ⟨fnOf "law" "law" (Zaj Zha) (Zag Zha) (Zad Zha) .none kV38 dc38 pm38 an38 cd38 ct38,fun s v=>.of_eq rfl,fun base KB _=>?_⟩
 have XT:Xt K mg base ⟨x_LimbError,x_NoGround,x_NoNumber,x_NoTable,x_NoDrawing,x_NoKind,x_NoStanding,x_NoChange,x_NoMirror,x_NoRoot,x_NoText,x_NoRow,x_NoName⟩:=⟨mg_of X G a_LimbError,mg_of X G a_NoGround,mg_of X G a_NoNumber,mg_of X G a_NoTable,mg_of X G a_NoDrawing,mg_of X G a_NoKind,mg_of X G a_NoStanding,mg_of X G a_NoChange,mg_of X G a_NoMirror,mg_of X G a_NoRoot,mg_of X G a_NoText,mg_of X G a_NoRow,mg_of X G a_NoName,Zi9 KB (mg_of X G a_LimbError) e_LimbError,Zi9 KB (mg_of X G a_NoDrawing) e_NoDrawing,Zi9 KB (mg_of X G a_NoText) e_NoText,Zia KB e_NoText m_R n_R,⟨y_ga,y_gt,y_cl,y_so,y_sb⟩,Zg2 y_so,y_t1,y_qNoDrawing,y_qNoNumber,y_qNoTable,y_qNoStanding,y_v,Zia KB e_NoDrawing m_R2 n_R2,⟨yy_ga,yy_gt,yy_cl,yy_so,yy_sb⟩,Zg2 yy_so,yy_t1,yy_qNoText,yy_qNoNumber,yy_qNoTable,yy_qNoStanding,yy_v⟩
 have C1:Cal l.prog w K mg base "is_whole" 1 Zeu:=⟨_,_,_,Zn7 F1 T ,mg_of X G a1,k1,b1⟩
 have C1A:Cal l.prog w K mg base "is_whole" 1 Zfl:=⟨_,_,_,Zma F1 T ,mg_of X G a1,k1,b1⟩
 have C12:Cal l.prog w K mg base "is_prime" 1 Zi1:=⟨_,_,_,Zoa F12 T ,mg_of X G a12,k12,b12⟩
 have C13:Cal l.prog w K mg base "tells_ground" 2 Zi0:=⟨_,_,_,Zn8 F13 T C1 C12,mg_of X G a13,k13,b13⟩
 have C39:CalI l.prog w K mg base "Ground" C 3 (Zlm C):=⟨_,_,_,ok_init F39 T C13,⟨mk,a39,i39,kc⟩,mg_of X G aC,b39⟩
 have C3:Cal l.prog w K mg base "is_arrow" 2 Zi3:=⟨_,_,_,Zod F3 T C1A,mg_of X G a3,k3,b3⟩
 have C2:Cal l.prog w K mg base "makes_drawing" 3 Zi2:=⟨_,_,_,Zob F2 T C1A C3,mg_of X G a2,k2,b2⟩
 have C40:CalIE l.prog w K mg base "Drawing" Cd 4 (Zg8 Cd (⟨x_LimbError,x_NoGround,x_NoNumber,x_NoTable,x_NoDrawing,x_NoKind,x_NoStanding,x_NoChange,x_NoMirror,x_NoRoot,x_NoText,x_NoRow,x_NoName⟩:Pf.Cs).NoDrawing):=⟨_,_,_,Zoc F40 T XT C2,⟨mk_Cd,a40,i40,kc_Cd⟩,mg_of X G aCd,b40⟩
 have C4P:Cal l.prog w K mg base "show_whole" 1 spShP:=⟨_,_,_,Zn9 F4 T ,mg_of X G a4,k4,b4⟩
 have C4:Cal l.prog w K mg base "show_whole" 2 spSh:=⟨_,_,_,ok_show F4 T C4P,mg_of X G a4,k4,b4⟩
 have C5:Cal l.prog w K mg base "show_number" 3 (spShN C):=⟨_,_,_,ok_shn F5 T C4,mg_of X G a5,k5,b5⟩
 have C6:Cal l.prog w K mg base "show_table" 4 (spShT C):=⟨_,_,_,ok_sht F6 T C5,mg_of X G a6,k6,b6⟩
 have C7:Cal l.prog w K mg base "show_drawing" 1 (spShD Cd):=⟨_,_,_,ok_shd F7 T ,mg_of X G a7,k7,b7⟩
 have C8:Cal l.prog w K mg base "is_written" 1 (spWt (⟨x_LimbError,x_NoGround,x_NoNumber,x_NoTable,x_NoDrawing,x_NoKind,x_NoStanding,x_NoChange,x_NoMirror,x_NoRoot,x_NoText,x_NoRow,x_NoName⟩:Pf.Cs).NoText):=⟨_,_,_,ok_wt F8 T ,mg_of X G a8,k8,b8⟩
 have C9:CalE l.prog w K mg base "read_whole" 2 (spRw (⟨x_LimbError,x_NoGround,x_NoNumber,x_NoTable,x_NoDrawing,x_NoKind,x_NoStanding,x_NoChange,x_NoMirror,x_NoRoot,x_NoText,x_NoRow,x_NoName⟩:Pf.Cs).NoText):=⟨_,_,_,ok_rw F9 T XT C8,mg_of X G a9,k9,b9⟩
 have C10:CalE l.prog w K mg base "read_arrow" 3 (spRa (⟨x_LimbError,x_NoGround,x_NoNumber,x_NoTable,x_NoDrawing,x_NoKind,x_NoStanding,x_NoChange,x_NoMirror,x_NoRoot,x_NoText,x_NoRow,x_NoName⟩:Pf.Cs).NoText):=⟨_,_,_,ok_ra F10 T XT C9,mg_of X G a10,k10,b10⟩
 have C11:CalE l.prog w K mg base "read_drawing" 6 (spRdr Cd (⟨x_LimbError,x_NoGround,x_NoNumber,x_NoTable,x_NoDrawing,x_NoKind,x_NoStanding,x_NoChange,x_NoMirror,x_NoRoot,x_NoText,x_NoRow,x_NoName⟩:Pf.Cs).NoText (⟨x_LimbError,x_NoGround,x_NoNumber,x_NoTable,x_NoDrawing,x_NoKind,x_NoStanding,x_NoChange,x_NoMirror,x_NoRoot,x_NoText,x_NoRow,x_NoName⟩:Pf.Cs).NoDrawing):=⟨_,_,_,ok_rdr F11 T XT C9 C40 C10,mg_of X G a11,k11,b11⟩
 have C14:Cal l.prog w K mg base "_law_cell" 1 (Zln K):=⟨_,_,_,ok_cell F14 T ,mg_of X G a14,k14,b14⟩
 have C15:Cal l.prog w K mg base "_law_bag" 1 spBag:=⟨_,_,_,ok_bag F15 T ,mg_of X G a15,k15,b15⟩
 have C16:Cal l.prog w K mg base "_law_draw" 1 Zdl:=⟨_,_,_,ok_draw F16 T ,mg_of X G a16,k16,b16⟩
 have C17:Cal l.prog w K mg base "_law_gcd" 1 spGcd:=⟨_,_,_,ok_gcd F17 T ,mg_of X G a17,k17,b17⟩
 have C18:Cal l.prog w K mg base "_law_lowest" 2 Zgq:=⟨_,_,_,Zmd F18 T C17,mg_of X G a18,k18,b18⟩
 have C19:Cal l.prog w K mg base "_law_whole" 1 Zeu:=⟨_,_,_,Zmb F19 T ,mg_of X G a19,k19,b19⟩
 have C20:Cal l.prog w K mg base "_law_prime" 2 spPr:=⟨_,_,_,Zmc F20 T C16,mg_of X G a20,k20,b20⟩
 have C21:Cal l.prog w K mg base "_law_number" 3 Zno:=⟨_,_,_,ok_lnum F21 T C16 C18,mg_of X G a21,k21,b21⟩
 have C22:Cal l.prog w K mg base "_law_add" 3 (spOp Zgl):=⟨_,_,_,ok_add F22 T C18,mg_of X G a22,k22,b22⟩
 have C23:Cal l.prog w K mg base "_law_mul" 3 (spOp Zd6):=⟨_,_,_,ok_mul F23 T C18,mg_of X G a23,k23,b23⟩
 have C24:Cal l.prog w K mg base "_law_int" 1 spInt:=⟨_,_,_,ok_int F24 T ,mg_of X G a24,k24,b24⟩
 have C25:Cal l.prog w K mg base "_law_rows" 4 Zll:=⟨_,_,_,ok_rows F25 T C16 C21 C24,mg_of X G a25,k25,b25⟩
 have C26:Cal l.prog w K mg base "_law_table" 5 spTb:=⟨_,_,_,ok_tb F26 T C25 C16 C21 C23 C22,mg_of X G a26,k26,b26⟩
 have C27:Cal l.prog w K mg base "_law_shown" 1 spLsh:=⟨_,_,_,ok_lsh F27 T ,mg_of X G a27,k27,b27⟩
 have C31:Cal l.prog w K mg base "_law_table_shown" 2 spLts:=⟨_,_,_,ok_lts F31 T C27,mg_of X G a31,k31,b31⟩
 have C28:Cal l.prog w K mg base "_law_read_whole" 1 Znp:=⟨_,_,_,ok_lrw F28 T ,mg_of X G a28,k28,b28⟩
 have C29:CalH l.prog w K mg base "_law_alone" 1 (spAl K _):=⟨_,_,_,ok_al F29 T XT,mg_of X G a29,k29,b29⟩
 have C30:Cal l.prog w K mg base "_law_sign_spoilt" 2 spSpo:=⟨_,_,_,ok_spo F30 T C16,mg_of X G a30,k30,b30⟩
 have C32:Cal l.prog w K mg base "_law_drawing_shown" 1 Znq:=⟨_,_,_,ok_lds F32 T ,mg_of X G a32,k32,b32⟩
 have C33:Cal l.prog w K mg base "_law_arrow_read" 2 spLra:=⟨_,_,_,ok_lra F33 T C28,mg_of X G a33,k33,b33⟩
 have C34:Cal l.prog w K mg base "_law_read" 3 Zkp:=⟨_,_,_,ok_lrd F34 T C28 C33,mg_of X G a34,k34,b34⟩
 have C35:Cal l.prog w K mg base "_law_asked" 7 Zkp:=⟨_,_,_,ok_ask F35 T XT C11 C29 C19,mg_of X G a35,k35,b35⟩
 have C36:Cal l.prog w K mg base "_law_odd" 2 spOdd:=⟨_,_,_,ok_odd F36 T C16,mg_of X G a36,k36,b36⟩
 have C37:Cal l.prog w K mg base "_law_spoilt" 3 spSpt:=⟨_,_,_,ok_spt F37 T C16 C36 C32 C30,mg_of X G a37,k37,b37⟩
 exact ok_law F38 T C14 C15 C20 C16 C26 C39 C6 C31 C32 C40 C7 C35 C37 C34
theorem walk {l:PySem.W.OpenLaw} {q:Program} {loose:List Str} {XP:(Str->Option Value)->Heap->Prop} {YP:World->Heap->Prop} {d:DefRec} {K:Params->PySem.W.Frag} (hq:importsNone q = true) (hn:l.most = some 63) (hdf:d.params.defaults = [])
  (hY:∀ (w:World) (h:Heap),YP w h->(K w.params).In h)
  (F:∀ (w:World) (mg:Str->Option Value) (fa:Addr) (h:Heap),(K w.params).In h->h.Ns mainGlobals mg->mg d.name = some (.ref fa)->
   ∃ fd:FuncData,(∀ (s:Shared) (u:Value),BindsTo s fd ⟨[u],[]⟩ [("_law_script",u)])/\∀ base:Heap,(K w.params).In base->base.Ns mainGlobals mg->FnOk l.prog w (K w.params) mg base CX0 8 fa fd ["_law_script"] (Znr (K w.params))):
  PySem.W.WalkO q loose XP YP l.row.toRowW d [] (fun f vs=>PySem.call f vs):=
 L2.walk_of (n:=63) (k:=8) (x:="_law_script") (CX:=fun _=>CX0) (sp:=fun w=>Znr (K w.params)) hq hn (by decide) hdf ⟨rfl,by decide,by decide⟩ hY F (fun _ _ a ns hl _ hS=>⟨a,ns,rfl,hS,hl,fun _=>rfl⟩) (fun _ _ _ _ _ h=>h)
end Pf
def PySem.W.Fast.tw6241699226920398953:Nat:=0
def PySem.W.Fast.tw6853899867644222540:Nat:=0
def PySem.W.Fast.tw7094687400551936539:Nat:=0
def PySem.W.Fast.tw13271125756301577538:Nat:=0
def PySem.W.Fast.tw11001909954078767044:Nat:=0
def PySem.W.Fast.tw14424091637188039217:Nat:=0
def PySem.W.Fast.tw335200834563871130:Nat:=0
def PySem.W.Fast.tw7695978105642768768:Nat:=0
def PySem.W.Fast.tw2910220045608576967:Nat:=0
def PySem.W.Fast.tw13869427667552478961:Nat:=0
def PySem.W.Fast.tw16061259755959569872:Nat:=0
def PySem.W.Fast.tw5898011328062360197:Nat:=0
def PySem.W.Fast.tw3657610828045472855:Nat:=0
def PySem.W.Fast.tw8239497053768833437:Nat:=0
def PySem.W.Fast.tw14982657729582022156:Nat:=0
def PySem.W.Fast.tw15315734458146343912:Nat:=0
def PySem.W.Fast.tw11592244810607756032:Nat:=0
def PySem.W.Fast.tw6085705768031116921:Nat:=0
def PySem.W.Fast.tw5849005607824044396:Nat:=0
def PySem.W.Fast.tw15684962057889629402:Nat:=0
def PySem.W.Fast.tw11620610375361130033:Nat:=0
def PySem.W.Fast.tw1134031390092185149:Nat:=0
def PySem.W.Fast.tw15152960798433514765:Nat:=0
def PySem.W.Fast.tw3674273730987560225:Nat:=0
def PySem.W.Fast.tw3306199832927422561:Nat:=0
def PySem.W.Fast.tw1965491601235326412:Nat:=0
def PySem.W.Fast.tw17107780864633159011:Nat:=0
def PySem.W.Fast.tw13625000800921190901:Nat:=0
def PySem.W.Fast.tw1885506691607004988:Nat:=0
def PySem.W.Fast.tw16234643638798799461:Nat:=0
def PySem.W.Fast.tw4069789296914310710:Nat:=0
def PySem.W.Fast.tw1910227084018713429:Nat:=0
def PySem.W.Fast.tw11153314242031209142:Nat:=0
def PySem.W.Fast.tw14410784502209490042:Nat:=0
def PySem.W.Fast.tw7165660162264554106:Nat:=0
def PySem.W.Fast.tw4632384512545533283:Nat:=0
def PySem.W.Fast.tw13539595633113580225:Nat:=0
def PySem.W.Fast.tw17231319190525620373:Nat:=0
def PySem.W.Fast.tw17998953845855312374:Nat:=0
def PySem.W.Fast.tw10863388001221564774:Nat:=0
def PySem.W.Fast.tw18357751917409024802:Nat:=0
def PySem.W.Fast.tw4122174369466622510:Nat:=0
def PySem.W.Fast.tw4110368535924100717:Nat:=0
def PySem.W.Fast.tw2486501349747102935:Nat:=0
def PySem.W.Fast.tw8693347797584961963:Nat:=0
def PySem.W.Fast.tw10527343832892712406:Nat:=0
def PySem.W.Fast.tw12900125683274083902:Nat:=0
def PySem.W.Fast.tw17976038869126914594:Nat:=0
def PySem.W.Fast.tw14069472710826134334:Nat:=0
def PySem.W.Fast.tw17489428622438066372:Nat:=0
def PySem.W.Fast.tw1445337154136564856:Nat:=0
def PySem.W.Fast.tw17288850158021211253:Nat:=0
def PySem.W.Fast.tw7301445199963742995:Nat:=0
def PySem.W.Fast.tw196538378782977997:Nat:=0
def PySem.W.Fast.tw13971731362942919587:Nat:=0
def PySem.W.Fast.tw10445592362112394822:Nat:=0
def PySem.W.Fast.tw2020261412052887019:Nat:=0
def PySem.W.Fast.tw880826048461053754:Nat:=0
def PySem.W.Fast.tw9272331580654385184:Nat:=0
def PySem.W.Fast.tw8318367739508365894:Nat:=0
def PySem.W.Fast.tw607756032783921587:Nat:=0
def PySem.W.Fast.tw12347894940862844227:Nat:=0
def PySem.W.Fast.tw3450979743493984098:Nat:=0
def PySem.W.Fast.tw7241274212501825343:Nat:=0
def PySem.W.Fast.tw441435636157646834:Nat:=0
def PySem.W.Fast.tw16464838179837435358:Nat:=0
def PySem.W.Fast.tw538526142705414781:Nat:=0
def PySem.W.Fast.tw9063538640540891070:Nat:=0
def PySem.W.Fast.tw1655819025968793919:Nat:=0
def PySem.W.Fast.tw13802087322749834102:Nat:=0
def PySem.W.Fast.tw3231006553097427097:Nat:=0
def PySem.W.Fast.tw1436257186652359184:Nat:=0
def PySem.W.Fast.tw440309423912988724:Nat:=0
def PySem.W.Fast.tw7693983069126574569:Nat:=0
def PySem.W.Fast.tw9107209468207413964:Nat:=0
def PySem.W.Fast.tw6290701839212699204:Nat:=0
def PySem.W.Fast.tw9675432580002327039:Nat:=0
def PySem.W.Fast.tw503697970843472852:Nat:=0
def PySem.W.Fast.tw8119564378952947840:Nat:=0
def PySem.W.Fast.tw9931211862900362055:Nat:=0
def PySem.W.Fast.tw6882408350477229992:Nat:=0
def PySem.W.Fast.tw15649545031854431043:Nat:=0
def PySem.W.Fast.tw10391050526315938419:Nat:=0
def PySem.W.Fast.tw4964381143099451800:Nat:=0
def PySem.W.Fast.tw1209388852398967284:Nat:=0
def PySem.W.Fast.tw16387214795694687394:Nat:=0
def PySem.W.Fast.tw57195442492715147:Nat:=0
def PySem.W.Fast.tw16201010156867778871:Nat:=0
def PySem.W.Fast.tw16098454407744385139:Nat:=0
def PySem.W.Fast.tw15528024134529997364:Nat:=0
def PySem.W.Fast.tw5387652037632768567:Nat:=0
def PySem.W.Fast.tw15491449541957482277:Nat:=0
def PySem.W.Fast.tw13406193046868638650:Nat:=0
def PySem.W.Fast.tw6282342931462604287:Nat:=0
def PySem.W.Fast.tw13873547000615393368:Nat:=0
def PySem.W.Fast.tw16672850449843149473:Nat:=0
def PySem.W.Fast.tw11273995075280513127:Nat:=0
def PySem.W.Fast.tw270724834009107384:Nat:=0
def PySem.W.Fast.tw17808024415189348661:Nat:=0
def PySem.W.Fast.tw2969922361750439283:Nat:=0
def PySem.W.Fast.tw716237202401897801:Nat:=0
def PySem.W.Fast.tw1773888203849865574:Nat:=0
def PySem.W.Fast.tw7722791135206360291:Nat:=0
def PySem.W.Fast.tw17389078211301018930:Nat:=0
def PySem.W.Fast.tw16884443518822510305:Nat:=0
def PySem.W.Fast.tw8254202221603589844:Nat:=0
def PySem.W.Fast.tw815040115707934376:Nat:=0
def PySem.W.Fast.tw12014308701432107003:Nat:=0
def PySem.W.Fast.tw10624265495677449809:Nat:=0
def PySem.W.Fast.tw10949626072714912108:Nat:=0
def PySem.W.Fast.tw2706166672320652810:Nat:=0
def PySem.W.Fast.tw14841331803269687868:Nat:=0
def PySem.W.Fast.tw7107986647646798817:Nat:=0
def PySem.W.Fast.tw5978781293416417765:Nat:=0
def PySem.W.Fast.tw16449676322910631836:Nat:=0
def PySem.W.Fast.tw16457130780975946666:Nat:=0
def PySem.W.Fast.tw14854783549452451845:Nat:=0
def PySem.W.Fast.tw11782107852803588136:Nat:=0
def PySem.W.Fast.tw5889954563856339433:Nat:=0
def PySem.W.Fast.tw11976129439453161257:Nat:=0
def PySem.W.Fast.tw3005986510435423424:Nat:=0
def PySem.W.Fast.tw15553326713809191955:Nat:=0
def PySem.W.Fast.tw18211321749781361199:Nat:=0
def PySem.W.Fast.tw7282269300183795759:Nat:=0
def PySem.W.Fast.tw6008482398828284499:Nat:=0
def PySem.W.Fast.tw3954092917139360100:Nat:=0
def PySem.W.Fast.tw12875151109853996782:Nat:=0
def PySem.W.Fast.tw7095649760738925421:Nat:=0
def PySem.W.Fast.tw16413658092140567498:Nat:=0
def PySem.W.Fast.tw17713914837958630973:Nat:=0
open PySem PySem.W PyProof.Rows
set_option maxRecDepth 100000 in
set_option maxHeartbeats 0 in
theorem PySem.Challenge.cw_limbtables_k71_tables_and_drawings_writt_holds : PySem.Challenge.rw_limbtables_k71_tables_and_drawings_writt.Holds := by
 w_on; o_law; k_head; (case hw=>w_witness2)
 k_fill
 refine Pf.walk (l:=PySem.Challenge.rw_limbtables_k71_tables_and_drawings_writt) (by decide +kernel) rfl rfl (fun w h Y=>by first | exact PySem.W.kIn_of Y | exact PySem.W.km_in_of Y) ?F
 case F=>
  intro w mg fa h KX G hmg
  refine' Pf.all_mk KX G hmg ?a1 ?l1 ?c1 ?k1 ?a2 ?l2 ?c2 ?k2 ?a3 ?l3 ?c3 ?k3 ?a4 ?l4 ?c4 ?k4 ?a5 ?l5 ?c5 ?k5 ?a6 ?l6 ?c6 ?k6 ?a7 ?l7 ?c7 ?k7 ?a8 ?l8 ?c8 ?k8 ?a9 ?l9 ?c9 ?k9 ?a10 ?l10 ?c10 ?k10 ?a11 ?l11 ?c11 ?k11 ?a12 ?l12 ?c12 ?k12 ?a13 ?l13 ?c13 ?k13 ?a14 ?l14 ?c14 ?k14 ?a15 ?l15 ?c15 ?k15 ?a16 ?l16 ?c16 ?k16 ?a17 ?l17 ?c17 ?k17 ?a18 ?l18 ?c18 ?k18 ?a19 ?l19 ?c19 ?k19 ?a20 ?l20 ?c20 ?k20 ?a21 ?l21 ?c21 ?k21 ?a22 ?l22 ?c22 ?k22 ?a23 ?l23 ?c23 ?k23 ?a24 ?l24 ?c24 ?k24 ?a25 ?l25 ?c25 ?k25 ?a26 ?l26 ?c26 ?k26 ?a27 ?l27 ?c27 ?k27 ?a28 ?l28 ?c28 ?k28 ?a29 ?l29 ?c29 ?k29 ?a30 ?l30 ?c30 ?k30 ?a31 ?l31 ?c31 ?k31 ?a32 ?l32 ?c32 ?k32 ?a33 ?l33 ?c33 ?k33 ?a34 ?l34 ?c34 ?k34 ?a35 ?l35 ?c35 ?k35 ?a36 ?l36 ?c36 ?k36 ?a37 ?l37 ?c37 ?k37 ?a38 ?l38 ?c38 ?k38 ?aC ?a39 ?i39 ?l39 ?c39 ?k39 ?pg ?hd ?po ?sa ?mk ?kc ?nP ?aCd ?a40 ?i40 ?l40 ?c40 ?k40 ?pg_Cd ?hd_Cd ?po_Cd ?sa_Cd ?mk_Cd ?kc_Cd ?nM ?nA ?g1 ?g2 ?g3 ?g4 ?g5 ?g6 ?z0 ?z1 ?z2 ?z3 ?z4 ?z5 ?z6 ?z7 ?z8 ?z9 ?z10 ?z11 ?z12 ?a_LimbError ?a_NoGround ?a_NoNumber ?a_NoTable ?a_NoDrawing ?a_NoKind ?a_NoStanding ?a_NoChange ?a_NoMirror ?a_NoRoot ?a_NoText ?a_NoRow ?a_NoName ?e_LimbError ?e_NoDrawing ?e_NoText ?m_R ?n_R ?y_ga ?y_gt ?y_cl ?y_so ?y_sb ?y_t1 ?y_qNoDrawing ?y_qNoNumber ?y_qNoTable ?y_qNoStanding ?y_v ?m_R2 ?n_R2 ?yy_ga ?yy_gt ?yy_cl ?yy_so ?yy_sb ?yy_t1 ?yy_qNoText ?yy_qNoNumber ?yy_qNoTable ?yy_qNoStanding ?yy_v
  (case a1=>k_is)
  (case l1=>k_is)
  (case c1=>k_is)
  (case k1=>k_is)
  (case a2=>k_is)
  (case l2=>k_is)
  (case c2=>k_is)
  (case k2=>k_is)
  (case a3=>k_is)
  (case l3=>k_is)
  (case c3=>k_is)
  (case k3=>k_is)
  (case a4=>k_is)
  (case l4=>k_is)
  (case c4=>k_is)
  (case k4=>k_is)
  (case a5=>k_is)
  (case l5=>k_is)
  (case c5=>k_is)
  (case k5=>k_is)
  (case a6=>k_is)
  (case l6=>k_is)
  (case c6=>k_is)
  (case k6=>k_is)
  (case a7=>k_is)
  (case l7=>k_is)
  (case c7=>k_is)
  (case k7=>k_is)
  (case a8=>k_is)
  (case l8=>k_is)
  (case c8=>k_is)
  (case k8=>k_is)
  (case a9=>k_is)
  (case l9=>k_is)
  (case c9=>k_is)
  (case k9=>k_is)
  (case a10=>k_is)
  (case l10=>k_is)
  (case c10=>k_is)
  (case k10=>k_is)
  (case a11=>k_is)
  (case l11=>k_is)
  (case c11=>k_is)
  (case k11=>k_is)
  (case a12=>k_is)
  (case l12=>k_is)
  (case c12=>k_is)
  (case k12=>k_is)
  (case a13=>k_is)
  (case l13=>k_is)
  (case c13=>k_is)
  (case k13=>k_is)
  (case a14=>k_is)
  (case l14=>k_is)
  (case c14=>k_is)
  (case k14=>k_is)
  (case a15=>k_is)
  (case l15=>k_is)
  (case c15=>k_is)
  (case k15=>k_is)
  (case a16=>k_is)
  (case l16=>k_is)
  (case c16=>k_is)
  (case k16=>k_is)
  (case a17=>k_is)
  (case l17=>k_is)
  (case c17=>k_is)
  (case k17=>k_is)
  (case a18=>k_is)
  (case l18=>k_is)
  (case c18=>k_is)
  (case k18=>k_is)
  (case a19=>k_is)
  (case l19=>k_is)
  (case c19=>k_is)
  (case k19=>k_is)
  (case a20=>k_is)
  (case l20=>k_is)
  (case c20=>k_is)
  (case k20=>k_is)
  (case a21=>k_is)
  (case l21=>k_is)
  (case c21=>k_is)
  (case k21=>k_is)
  (case a22=>k_is)
  (case l22=>k_is)
  (case c22=>k_is)
  (case k22=>k_is)
  (case a23=>k_is)
  (case l23=>k_is)
  (case c23=>k_is)
  (case k23=>k_is)
  (case a24=>k_is)
  (case l24=>k_is)
  (case c24=>k_is)
  (case k24=>k_is)
  (case a25=>k_is)
  (case l25=>k_is)
  (case c25=>k_is)
  (case k25=>k_is)
  (case a26=>k_is)
  (case l26=>k_is)
  (case c26=>k_is)
  (case k26=>k_is)
  (case a27=>k_is)
  (case l27=>k_is)
  (case c27=>k_is)
  (case k27=>k_is)
  (case a28=>k_is)
  (case l28=>k_is)
  (case c28=>k_is)
  (case k28=>k_is)
  (case a29=>k_is)
  (case l29=>k_is)
  (case c29=>k_is)
  (case k29=>k_is)
  (case a30=>k_is)
  (case l30=>k_is)
  (case c30=>k_is)
  (case k30=>k_is)
  (case a31=>k_is)
  (case l31=>k_is)
  (case c31=>k_is)
  (case k31=>k_is)
  (case a32=>k_is)
  (case l32=>k_is)
  (case c32=>k_is)
  (case k32=>k_is)
  (case a33=>k_is)
  (case l33=>k_is)
  (case c33=>k_is)
  (case k33=>k_is)
  (case a34=>k_is)
  (case l34=>k_is)
  (case c34=>k_is)
  (case k34=>k_is)
  (case a35=>k_is)
  (case l35=>k_is)
  (case c35=>k_is)
  (case k35=>k_is)
  (case a36=>k_is)
  (case l36=>k_is)
  (case c36=>k_is)
  (case k36=>k_is)
  (case a37=>k_is)
  (case l37=>k_is)
  (case c37=>k_is)
  (case k37=>k_is)
  (case a38=>k_is)
  (case l38=>k_is)
  (case c38=>k_is)
  (case k38=>k_is)
  (case aC=>k_is)
  (case a39=>k_is)
  (case i39=>k_is)
  (case l39=>k_is)
  (case c39=>k_is)
  (case k39=>k_is)
  (case pg=>k_is)
  (case hd=>k_is)
  (case po=>k_is)
  (case sa=>k_is)
  (case mk=>k_is)
  (case kc=>k_is)
  (case nP=>k_is)
  (case aCd=>k_is)
  (case a40=>k_is)
  (case i40=>k_is)
  (case l40=>k_is)
  (case c40=>k_is)
  (case k40=>k_is)
  (case pg_Cd=>k_is)
  (case hd_Cd=>k_is)
  (case po_Cd=>k_is)
  (case sa_Cd=>k_is)
  (case mk_Cd=>k_is)
  (case kc_Cd=>k_is)
  (case nM=>k_is)
  (case nA=>k_is)
  (case g1=>k_is)
  (case g2=>k_is)
  (case g3=>k_is)
  (case g4=>k_is)
  (case g5=>k_is)
  (case g6=>k_is)
  (case z0=>k_is)
  (case z1=>k_is)
  (case z2=>k_is)
  (case z3=>k_is)
  (case z4=>k_is)
  (case z5=>k_is)
  (case z6=>k_is)
  (case z7=>k_is)
  (case z8=>k_is)
  (case z9=>k_is)
  (case z10=>k_is)
  (case z11=>k_is)
  (case z12=>k_is)
  (case a_LimbError=>k_is)
  (case a_NoGround=>k_is)
  (case a_NoNumber=>k_is)
  (case a_NoTable=>k_is)
  (case a_NoDrawing=>k_is)
  (case a_NoKind=>k_is)
  (case a_NoStanding=>k_is)
  (case a_NoChange=>k_is)
  (case a_NoMirror=>k_is)
  (case a_NoRoot=>k_is)
  (case a_NoText=>k_is)
  (case a_NoRow=>k_is)
  (case a_NoName=>k_is)
  (case e_LimbError=>k_exc)
  (case e_NoDrawing=>k_exc)
  (case e_NoText=>k_exc)
  (case m_R=>k_is)
  (case n_R=>decide)
  (case y_ga=>k_is)
  (case y_gt=>k_is)
  (case y_cl=>k_is)
  (case y_so=>k_is)
  (case y_sb=>k_is)
  (case y_t1=>kit_is)
  (case y_qNoDrawing=>kit_is)
  (case y_qNoNumber=>kit_is)
  (case y_qNoTable=>kit_is)
  (case y_qNoStanding=>kit_is)
  (case y_v=>kit_is)
  (case m_R2=>k_is)
  (case n_R2=>decide)
  (case yy_ga=>k_is)
  (case yy_gt=>k_is)
  (case yy_cl=>k_is)
  (case yy_so=>k_is)
  (case yy_sb=>k_is)
  (case yy_t1=>kit_is)
  (case yy_qNoText=>kit_is)
  (case yy_qNoNumber=>kit_is)
  (case yy_qNoTable=>kit_is)
  (case yy_qNoStanding=>kit_is)
  (case yy_v=>kit_is)
#print axioms PySem.Challenge.cw_limbtables_k71_tables_and_drawings_writt_holds