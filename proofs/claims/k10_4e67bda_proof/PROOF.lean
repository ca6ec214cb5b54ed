import PyProof.Rows.All
import Wide.All
import OpenK.AllK
import Wide.FinOn
import Lean
import PyProof.EqAt
import PyProof.EqKinds
import PyProof.TupleCall
import PyProof.ZipIter
import PyProof.Rows.ZipGen
import PyProof.SumWalkG
import PyProof.EnumMake
import PyProof.EnumFor
import PyProof.FactsAll.int_6
import PyProof.AutoIntG2
import PyProof.RulesAs
import PyProof.Rows.TopTwo
import PyProof.ExcArgsOwn
import PyProof.ExcBaseAll.ValueError
import OpenK.KDescr
import KE.RegKIsAll
import PyProof.EqKinds
import KE.KRevIter
import PyProof.ListNew
import KE.KItemsList
import KE.KLam
import KE.KMinKey
import PyProof.NeKinds
import PySem.Challenge.RW_limbtables_k10_nought_made_and_left
-- CHANGE: your row's module here,as the last of these rows
set_option Elab.async false
set_option linter.all false
set_option maxRecDepth 100000
namespace L2
open PySem PySem.Spec PyProof.Rows
abbrev Key:=Sum Int Str
def keyIs:Key->Value->Bool
 | .inl k,v=>Value.isInt k v
 | .inr x,v=>Value.isStrOf x v
def keyH (w:World):Key->Int
 | .inl k=>hashInt k
 | .inr x=>hashStr w x
theorem Zbv:∀ {k:Key} {v:Value},keyIs k v = true->(∃ i t,k = Sum.inl i/\v = Value.int i t)\/(∃ x t,k = Sum.inr x/\v = Value.str x t)
 | .inl i,v,h=>by
  obtain ⟨t,e⟩:=Value.isInt_shape (k:=i) (v:=v) h
  exact .inl ⟨i,t,rfl,e⟩
 | .inr x,v,h=>by
  obtain ⟨t,e⟩:=Value.isStrOf_shape (x:=x) (v:=v) h
  exact .inr ⟨x,t,rfl,e⟩
theorem key_ll (a b:Int):decide ((Sum.inl a:Key) = Sum.inl b) = (a == b):=by
 by_cases e:a = b
 ·subst e; simp
 ·have h:¬ (Sum.inl a:Key) = Sum.inl b:=fun q=>e (Sum.inl.inj q)
  rw [decide_eq_false h]
  exact (beq_eq_false_iff_ne.mpr e).symm
theorem key_rr (a b:Str):decide ((Sum.inr a:Key) = Sum.inr b) = decide (a = b):=by
 by_cases e:a = b
 ·subst e; simp
 ·have h:¬ (Sum.inr a:Key) = Sum.inr b:=fun q=>e (Sum.inr.inj q)
  rw [decide_eq_false h,decide_eq_false e]
theorem key_lr (a:Int) (b:Str):decide ((Sum.inl a:Key) = Sum.inr b) = false:=decide_eq_false (fun q=>nomatch q)
theorem key_rl (a:Str) (b:Int):decide ((Sum.inr a:Key) = Sum.inl b) = false:=decide_eq_false (fun q=>nomatch q)
def Zor (prog:Program) (w:World):PySem.KeyKind prog w Key where
 is:=keyIs
 hash:=keyH w
 inj:=fun v a b ha hb=>by
  rcases Zbv ha with ⟨i,t,rfl,rfl⟩ | ⟨x,t,rfl,rfl⟩
  ·rcases Zbv hb with ⟨j,u,rfl,e⟩ | ⟨y,u,rfl,e⟩
   ·injection e with e1 _; rw [e1]
   ·exact nomatch e
  ·rcases Zbv hb with ⟨j,u,rfl,e⟩ | ⟨y,u,rfl,e⟩
   ·exact nomatch e
   ·injection e with e1 _; rw [e1]
 byValue:=fun k v h=>by
  rcases Zbv h with ⟨i,t,rfl,rfl⟩ | ⟨x,t,rfl,rfl⟩ <;> rfl
 pyHash:=fun hv h=>by
  rcases Zbv hv with ⟨i,t,rfl,rfl⟩ | ⟨x,t,rfl,rfl⟩
  ·exact wpAny_pyHash_int h
  ·exact wpAny_pyHash_str h
 eqBool:=fun hu hv h=>by
  rcases Zbv hu with ⟨i,t,rfl,rfl⟩ | ⟨x,t,rfl,rfl⟩
  ·rcases Zbv hv with ⟨j,u,rfl,rfl⟩ | ⟨y,u,rfl,rfl⟩
   ·rw [key_ll] at h; exact wpAny_eqBool_int h
   ·rw [key_lr] at h; exact SeqAt.EqAt.int_str i t y u _ _ _ _ h
  ·rcases Zbv hv with ⟨j,u,rfl,rfl⟩ | ⟨y,u,rfl,rfl⟩
   ·rw [key_rl] at h; exact SeqAt.EqAt.str_int x t j u _ _ _ _ h
   ·rw [key_rr] at h; exact wpAny_eqBool_str h
 «strs»:=fun k x t v h=>by
  rcases Zbv h with ⟨i,u,rfl,e⟩ | ⟨y,u,rfl,e⟩
  ·exact nomatch e
  ·injection e with e1 _
   subst e1
   cases v <;> rfl
inductive V where
 | non | bl (b:Bool) | int (i:Int) | str (x:Str) | byt (b:Array UInt8) | flt (b:UInt64) | ref (a:Addr) | ty (n:String)
 deriving DecidableEq
def RelV:V->Value->Prop
 | .non,u=>u = Value.none
 | .bl b,u=>u = Value.bool b
 | .int i,u=>∃ t,u = Value.int i t
 | .str x,u=>∃ t,u = Value.str x t
 | .byt b,u=>∃ t,u = Value.bytes b t
 | .flt b,u=>∃ t,u = Value.float b t
 | .ref a,u=>u = Value.ref a
 | .ty n,u=>u = Value.type n
abbrev Vals:List V->List Value->Prop:=Paired RelV
theorem Vals.length {xs:List V} {us:List Value} (r:Vals xs us):xs.length = us.length:=Paired.length r
theorem Vals.get:∀ {xs:List V} {us:List Value} {i:Nat} {x:V},Vals xs us->xs[i]? = some x->∃ u,us[i]? = some u/\RelV x u
 | _,_,_,_,.nil,e=>by simp at e
 | _,_,0,_,.cons r _,e=>by simp at e; subst e; exact ⟨_,rfl,r⟩
 | _,_,i + 1,x,.cons _ t,e=>by
  obtain ⟨u,h1,h2⟩:=Vals.get (i:=i) (x:=x) t (by simpa using e)
  exact ⟨u,by simpa using h1,h2⟩
theorem Vals.set {x:V} {u:Value} (r:RelV x u):∀ {xs:List V} {us:List Value} (i:Nat),Vals xs us->Vals (xs.set i x) (us.set i u)
 | _,_,_,.nil=>.nil
 | _,_,0,.cons _ t=>.cons r t
 | _,_,i + 1,.cons q t=>.cons q (Vals.set r i t)
theorem Vals.append:∀ {xs ys:List V} {us ws:List Value},Vals xs us->Vals ys ws->Vals (xs ++ ys) (us ++ ws)
 | _,_,_,_,.nil,s=>s
 | _,_,_,_,.cons r t,s=>.cons r (Vals.append t s)
theorem Vals.take:∀ {xs:List V} {us:List Value} (n:Nat),Vals xs us->Vals (xs.take n) (us.take n)
 | _,_,0,_=>.nil
 | _,_,_ + 1,.nil=>.nil
 | _,_,n + 1,.cons r t=>.cons r (Vals.take n t)
theorem Vals.drop:∀ {xs:List V} {us:List Value} (n:Nat),Vals xs us->Vals (xs.drop n) (us.drop n)
 | _,_,0,r=>r
 | _,_,_ + 1,.nil=>.nil
 | _,_,n + 1,.cons _ t=>Vals.drop n t
def RelO:Option V->Option Value->Prop
 | some v,some u=>RelV v u
 | none,none=>True
 | _,_=>False
def KV {κ:Type}:List (κ × V)->List (κ × Value)->Prop:=Paired fun (p:κ × V) (q:κ × Value)=>p.1 = q.1/\RelV p.2 q.2
def kV:Key->V
 | .inl i=>.int i
 | .inr x=>.str x
inductive HO where
  | lst (xs:List V)
  | tup (xs:List V)
  | dK (kvs:List (Key × V)) | dT (kvs:List (List Key × V))
  | set (S:Int->Bool) (n:Nat)
  | ins (C dx:Addr) (fs:List (Str × V))
  | own (x:Addr)
  | xd (fs:List (Str × V))
  | met (f x:Addr)
  | rng (lo hi:Int)
  | frz (o:Obj) (u:HO)
  | tbl (ps:Array Value)
  | ext (φ:Heap->Prop)
  | tab (l c:Int) (q:Str)
abbrev Hp:=Addr->Option HO
def upd (H:Hp) (a:Addr) (o:HO):Hp:=fun b=>if b = a then some o else H b
theorem Zad {H:Hp} {a:Addr} {o:HO}:upd H a o a = some o:=by unfold upd; rw [if_pos rfl]
theorem Zap {H:Hp} {a b:Addr} {o:HO} (h:b ≠ a):upd H a o b = H b:=by unfold upd; rw [if_neg h]
theorem Zrb {H:Hp} {a b:Addr} {o u:HO} (h:H a = some o) (h':H b = some u) (d:o ≠ u):a ≠ b:=by
 intro e; subst e; rw [h] at h'; exact d (Option.some.inj h')
theorem Zan {H:Hp} {a b:Addr} {o:HO} (h:H a = some o) (h':H b = none):a ≠ b:=by
 intro e; subst e; rw [h] at h'; cases h'
section
variable (P:Program) (w:World)
def ObjOk (H:Hp) (h:Heap) (a:Addr):HO->Prop
 | .lst xs=>xs.length<=sizeLine/\∃ (its:List Value) (n:Nat),Vals xs its/\h.get? a = some { cls:=.type "list",data:=.seq its.toArray n }
 | .tup xs=>xs.length<=sizeLine/\∃ its:List Value,Vals xs its/\IsTup h a its.toArray
 | .dK kvs=>kvs.length<=sizeLine/\(a == sysModules) = false/\∃ vs,KV kvs vs/\h.DictOf (Zor P w) a vs
 | .dT kvs=>kvs.length<=sizeLine/\(a == sysModules) = false/\∃ xs:List (List Key × Addr × Value),
   Paired (fun (p:List Key × V) (q:List Key × Addr × Value)=>p.1 = q.1/\H q.2.1 = some (.tup (p.1.map kV))/\RelV p.2 q.2.2) kvs xs /\
   ∃ o es ep,h.get? a = some o/\o.ExactDict/\o.data = .dict es ep/\es.toList = xs.map (entryOfKey (tupleKind (Zor P w)))/\(xs.map (·.1)).Nodup
 | .set S n=>h.SetOf (intKind P w) a S n
 | .ins C dx fs=>H dx = some (.own a)/\fs.length<=1000/\dx ≠ a/\h.get? a = some (PySem.W.instObj C dx) /\
   ∃ mA,h.Ns1 dx mA/\(∀ f,RelO (fs.lookup f) (mA f))/\PySem.Within mA (fs.map (·.1))
 | .own _=>∃ o,h.get? a = some o
 | .xd fs=>∃ mA,h.Ns1 a mA/\∀ f,RelO (fs.lookup f) (mA f)
 | .rng lo hi=>∃ t u v,h.get? a = some { cls:=.type "range",data:=.fields #[.int lo t,.int hi u,.int 1 v] }
 | .frz o u=>h.get? a = some o/\ObjOk H h a u
 | .tbl ps=>h.get? a = some { cls:=.none,data:=.fields ps }
 | .met f x=>h.get? a = some (PySem.W.methodObj (.ref f) (.ref x))
 | .ext φ=>φ h/\(∃ o,h.get? a = some o)/\∀ h1 h2:Heap,φ h1->(∀ o,h1.get? a = some o->h2.get? a = some o)->φ h2
 | .tab l c q=>h.get? a = some { cls:=.none,data:=.fields #[] }\/∃ c' oc vs t,h.get? a = some { cls:=.none,data:=.fields #[rawInt l,rawInt c,.ref c'] }/\c' ≠ a/\H c' = some (.frz oc (.own a))/\oc.data = .fields vs/\vs[1]? = some (.str q t)
def HOk (H:Hp) (h:Heap):Prop:=∀ a o,H a = some o->ObjOk P w H h a o
end
section
variable {P:Program} {w:World} {H H':Hp} {h h':Heap} {a:Addr} {o:HO}
theorem ObjOk.lt (x:ObjOk P w H h a o):a < h.objs.size:=by
 cases o with
 | lst xs=>obtain ⟨_,_,_,_,e⟩:=x; exact Heap.lt_size e
 | tup xs=>obtain ⟨_,_,_,p⟩:=x; exact p.lt
 | dK kvs=>obtain ⟨_,_,_,_,o,_,_,e,_⟩:=x; exact Heap.lt_size e
 | dT kvs=>obtain ⟨_,_,_,_,o,_,_,e,_⟩:=x; exact Heap.lt_size e
 | set S n=>obtain ⟨o,_,_,_,e,_⟩:=x; exact Heap.lt_size e
 | ins C dx fs=>obtain ⟨_,_,_,e,_⟩:=x; exact Heap.lt_size e
 | own y=>obtain ⟨_,e⟩:=x; exact Heap.lt_size e
 | xd fs=>obtain ⟨_,⟨_,_,_,e,_⟩,_⟩:=x; exact Heap.lt_size e
 | rng lo hi=>obtain ⟨_,_,_,e⟩:=x; exact Heap.lt_size e
 | frz ob u=>obtain ⟨e,_⟩:=x; exact Heap.lt_size e
 | tbl ps=>exact Heap.lt_size (show h.get? a = some _ from x)
 | met f y=>exact Heap.lt_size (show h.get? a = some _ from x)
 | ext φ=>obtain ⟨_,⟨_,e⟩,_⟩:=x; exact Heap.lt_size e
 | tab l c q=>
  rcases x with e | ⟨_,_,_,_,e,_⟩
  ·exact Heap.lt_size e
  ·exact Heap.lt_size e
theorem Paired.mapP {α β:Type} {F G:α->β->Prop}:∀ {l₁:List α} {l₂:List β},Paired F l₁ l₂->(∀ a b,F a b->G a b)->Paired G l₁ l₂
 | _,_,.nil,_=>.nil
 | _,_,.cons r t,f=>.cons (f _ _ r) (Paired.mapP t f)
theorem ObjOk.stay (x:ObjOk P w H h a o) (k:∀ b u,(b = a\/H b = some (.own a))->h.get? b = some u->h'.get? b = some u)
  (ho:∀ b,H b = some (.own a)->H' b = some (.own a)) (ht:∀ b xs,H b = some (.tup xs)->H' b = some (.tup xs)) (hz:∀ b o' u,H b = some (.frz o' u)->H' b = some (.frz o' u)):ObjOk P w H' h' a o:=by
 induction o with
 | lst xs=>obtain ⟨z,its,n,r,e⟩:=x; exact ⟨z,its,n,r,k _ _ (.inl rfl) e⟩
 | tup xs=>obtain ⟨z,its,r,ob,e,c⟩:=x; exact ⟨z,its,r,ob,k _ _ (.inl rfl) e,c⟩
 | dK kvs=>obtain ⟨z,y,vs,r,ob,es,ep,e,c⟩:=x; exact ⟨z,y,vs,r,ob,es,ep,k _ _ (.inl rfl) e,c⟩
 | dT kvs=>
  obtain ⟨z,y,xs,r,ob,es,ep,e,c⟩:=x
  exact ⟨z,y,xs,Paired.mapP r fun p q z=>⟨z.1,ht _ _ z.2.1,z.2.2⟩,ob,es,ep,k _ _ (.inl rfl) e,c⟩
 | set S n=>obtain ⟨ob,es,ep,t,e,c⟩:=x; exact ⟨ob,es,ep,t,k _ _ (.inl rfl) e,c⟩
 | ins C dx fs=>
  obtain ⟨d,z,ne,e,mA,⟨od,es,ep,e2,c⟩,r⟩:=x
  exact ⟨ho _ d,z,ne,k _ _ (.inl rfl) e,mA,⟨od,es,ep,k _ _ (.inr d) e2,c⟩,r⟩
 | own y=>obtain ⟨ob,e⟩:=x; exact ⟨ob,k _ _ (.inl rfl) e⟩
 | xd fs=>obtain ⟨mA,⟨od,es,ep,e,c⟩,r⟩:=x; exact ⟨mA,⟨od,es,ep,k _ _ (.inl rfl) e,c⟩,r⟩
 | rng lo hi=>obtain ⟨t,u,v,e⟩:=x; exact ⟨t,u,v,k _ _ (.inl rfl) e⟩
 | frz ob u ih=>obtain ⟨e,q⟩:=x; exact ⟨k _ _ (.inl rfl) e,ih q⟩
 | tbl ps=>
  have e:h.get? a = some { cls:=.none,data:=.fields ps }:=x
  show h'.get? a = some { cls:=.none,data:=.fields ps }
  exact k a _ (.inl rfl) e
 | met f y=>
  have e:h.get? a = some (PySem.W.methodObj (.ref f) (.ref y)):=x
  show h'.get? a = some (PySem.W.methodObj (.ref f) (.ref y))
  exact k a _ (.inl rfl) e
 | ext φ=>obtain ⟨p,⟨o,e⟩,st⟩:=x; exact ⟨st _ _ p fun o q=>k _ _ (.inl rfl) q,⟨o,k _ _ (.inl rfl) e⟩,st⟩
 | tab l c q=>
  rcases x with e | ⟨c',oc,vs,t,e,ne,e2,r⟩
  ·exact .inl (k _ _ (.inl rfl) e)
  ·exact .inr ⟨c',oc,vs,t,k _ _ (.inl rfl) e,ne,hz _ _ _ e2,r⟩
theorem HOk.lt (x:HOk P w H h) (e:H a = some o):a < h.objs.size:=(x a o e).lt
theorem HOk.fresh (x:HOk P w H h) (e:h.objs.size<=a):H a = none:=by
 cases q:H a with
 | none=>rfl
 | some u=>exact absurd (Nat.lt_of_lt_of_le (x.lt q) e) (Nat.lt_irrefl _)
theorem HOk.kept (x:HOk P w H h) (k:∀ b u,h.get? b = some u->h'.get? b = some u):HOk P w H h':=fun a o e=>
 (x a o e).stay (fun b u _ q=>k b u q) (fun _ q=>q) (fun _ _ q=>q) fun _ _ _ q=>q
theorem HOk.laid (x:HOk P w H h) (k:∀ b u,h.get? b = some u->h'.get? b = some u) (hp:h.objs.size<=a) (new:ObjOk P w (upd H a o) h' a o):HOk P w (upd H a o) h':=fun b u e=>by
 have hn:=x.fresh hp
 by_cases hb:b = a
 ·subst hb; rw [Zad] at e; cases e; exact new
 ·rw [Zap hb] at e
  exact (x b u e).stay (fun c v _ q=>k c v q) (fun c q=>by rw [Zap (Zan q hn)]; exact q) (fun c xs q=>by rw [Zap (Zan q hn)]; exact q) fun c _ _ q=>by rw [Zap (Zan q hn)]; exact q
end
def Rd (H:Hp) (a:Addr) (u:HO):Prop:=H a = some u\/∃ o,H a = some (.frz o u)
theorem Rd.ok {P:Program} {w:World} {H:Hp} {h:Heap} {a:Addr} {u:HO} (r:Rd H a u) (x:HOk P w H h):ObjOk P w H h a u:=by
 rcases r with r | ⟨o,r⟩
 ·exact x a u r
 ·obtain ⟨_,q⟩:=x a _ r
  exact q
def Mut:Option HO->Prop
 | some (.lst _)=>True
 | some (.dK _)=>True
 | some (.dT _)=>True
 | some (.set _ _)=>True
 | some (.ins _ _ _)=>True
 | some (.ext _)=>True
 | some (.tab _ _ _)=>True
 | _=>False
section
variable {P:Program} {w:World} {H:Hp} {h h':Heap} {x e:Addr} {o':HO}
theorem HOk.write (ok:HOk P w H h) (mu:Mut (H x)) (he:e = x\/H e = some (.own x)) (k:∀ b u,b ≠ e->h.get? b = some u->h'.get? b = some u) (heo:∃ u,h'.get? e = some u)
  (new:ObjOk P w (upd H x o') h' x o'):HOk P w (upd H x o') h':=fun b u q=>by
 have nown:∀ c y,H c = some (.own y)->c ≠ x:=fun c y r z=>by subst z; rw [r] at mu; exact mu
 have ntup:∀ c xs,H c = some (.tup xs)->c ≠ x:=fun c xs r z=>by subst z; rw [r] at mu; exact mu
 have nfrz:∀ c o' u',H c = some (.frz o' u')->c ≠ x:=fun c o' u' r z=>by subst z; rw [r] at mu; exact mu
 by_cases hb:b = x
 ·subst hb; rw [Zad] at q; cases q; exact new
 ·rw [Zap hb] at q
  by_cases hbe:b = e
  ·have q':H b = some (.own x):=by
    rcases he with z | z
    ·exact absurd (hbe.trans z) hb
    ·rw [hbe]; exact z
   rw [q] at q'; cases q'
   obtain ⟨v,hv⟩:=heo
   exact ⟨v,by rw [hbe]; exact hv⟩
  ·refine (ok b u q).stay (fun c v hc r=>k c v ?_ r) (fun c r=>by rw [Zap (nown c b r)]; exact r) (fun c xs r=>by rw [Zap (ntup c xs r)]; exact r) fun c o' u' r=>by rw [Zap (nfrz c o' u' r)]; exact r
   rcases hc with rfl | hc
   ·exact hbe
   ·rintro rfl
    rcases he with z | z
    ·exact nown c b hc z
    ·rw [hc] at z; cases z; exact hb rfl
end
structure Un (fs ex:List Addr) (H H':Hp) (h h':Heap):Prop where
 keep:∀ b o,h.get? b = some o->H b = none->b ∉ fs->b ∉ ex->h'.get? b = some o
 slot:∀ b o,h.get? b = some o->H b = none->b ∈ fs->b ∉ ex->∃ sl,h'.get? b = some { o with slots:=sl }
 free:∀ b o,h.get? b = some o->H b = none->b ∉ ex->H' b = none
 there:∀ b o,h.get? b = some o->b ∉ ex->∃ o',h'.get? b = some o'
 tups:∀ b xs,H b = some (.tup xs)->H' b = some (.tup xs)
 frzs:∀ b o u,H b = some (.frz o u)->H' b = some (.frz o u)
 tbls:∀ b ps,H b = some (.tbl ps)->∃ more,H' b = some (.tbl (ps ++ more))
section
variable {fs fs' ex ex':List Addr} {H H1 H2:Hp} {h h1 h2 h':Heap} {a x e:Addr} {o:HO}
theorem Un.any (u:Un fs ex H H1 h h1) {b:Addr} {ob:Obj} (q:h.get? b = some ob) (n:H b = none) (hx:b ∉ ex):∃ sl,h1.get? b = some { ob with slots:=sl }:=by
 by_cases hb:b ∈ fs
 ·exact u.slot b ob q n hb hx
 ·exact ⟨ob.slots,u.keep b ob q n hb hx⟩
theorem Un.kept (k:∀ b u,h.get? b = some u->h'.get? b = some u):Un fs ex H H h h':=
 ⟨fun b ob q _ _ _=>k b ob q,fun b ob q _ _ _=>⟨ob.slots,k b ob q⟩,fun _ _ _ n _=>n,fun b ob q _=>⟨ob,k b ob q⟩,fun _ _ q=>q,fun _ _ _ q=>q,fun _ ps q=>⟨#[],by rw [q]; simp⟩⟩
theorem Un.refl:Un fs ex H H h h:=Un.kept fun _ _ q=>q
theorem Un.laid (k:∀ b u,h.get? b = some u->h'.get? b = some u) (hp:h.objs.size<=a) (hn:H a = none):Un fs ex H (upd H a o) h h' where
 keep:=fun b u q _ _ _=>k b u q
 slot:=fun b u q _ _ _=>⟨u.slots,k b u q⟩
 free:=fun b u q n _=>by rw [Zap (Nat.ne_of_lt (Nat.lt_of_lt_of_le (Heap.lt_size q) hp))]; exact n
 there:=fun b u q _=>⟨u,k b u q⟩
 tups:=fun b xs q=>by rw [Zap (Zan q hn)]; exact q
 frzs:=fun b u xs q=>by rw [Zap (Zan q hn)]; exact q
 tbls:=fun b ps q=>⟨#[],by rw [Zap (Zan q hn),q]; simp⟩
theorem Un.write (mu:Mut (H x)) (he:e = x\/H e = some (.own x)) (k:∀ b u,b ≠ e->h.get? b = some u->h'.get? b = some u) (heo:∃ u,h'.get? e = some u):Un fs ex H (upd H x o) h h':=by
 have hx:∀ b,H b = none->b ≠ x:=fun b n z=>by subst z; rw [n] at mu; exact mu
 have hb:∀ b,H b = none->b ≠ e:=fun b n z=>by
  subst z
  rcases he with r | r
  ·exact hx b n r
  ·rw [n] at r; cases r
 have hm:∀ b u,H b = some u->¬ Mut (some u)->b ≠ x:=fun b u q nm z=>by subst z; rw [q] at mu; exact nm mu
 refine ⟨fun b u q n _ _=>k b u (hb b n) q,fun b u q n _ _=>⟨u.slots,k b u (hb b n) q⟩,fun b u q n _=>by rw [Zap (hx b n)]; exact n,fun b u q _=>?_,
  fun b xs q=>by rw [Zap (hm b _ q fun z=>z)]; exact q,fun b u xs q=>by rw [Zap (hm b _ q fun z=>z)]; exact q,fun b ps q=>⟨#[],by rw [Zap (hm b _ q fun z=>z),q]; simp⟩⟩
 by_cases hbe:b = e
 ·subst hbe; exact heo
 ·exact ⟨u,k b u hbe q⟩
end
def trk (h:Heap) (H:Hp):List Addr:=(List.range h.objs.size).filter fun a=>(H a).isSome
def Zp5 (h:Heap) (H:Hp):Heap:=PySem.W.hideAll h (trk h H)
theorem Zpe (h:Heap) (H:Hp):(Zp5 h H).objs.size = h.objs.size:=PySem.W.hideAll_size _ _
theorem Zrj {h:Heap} {H:Hp} {b:Addr} {o:Obj} (e:h.get? b = some o) (n:H b = none):(Zp5 h H).get? b = some o:=
 PySem.W.hideAll_get _ e fun hm=>by
  have q:(H b).isSome = true:=(List.mem_filter.mp hm).2
  rw [n] at q; simp at q
theorem of_hidT {h:Heap} {H:Hp} {b:Addr} {o:Obj} (e:(Zp5 h H).get? b = some o):h.get? b = some o/\H b = none:=by
 have e':h.get? b = some o:=PySem.W.of_hideAll (trk h H) e
 refine ⟨e',?_⟩
 cases q:H b with
 | none=>rfl
 | some x=>
  have hm:b ∈ trk h H:=List.mem_filter.mpr ⟨List.mem_range.mpr (Heap.lt_size e'),by simp [q]⟩
  have z:(Zp5 h H).get? b = none:=PySem.W.hideAll_none (trk h H) hm
  rw [z] at e; cases e
def allNews (g h:Heap) (L:Addr):List (Addr × Obj):=(List.range h.objs.size).filterMap fun a=>if a = L\/(g.get? a).isSome = true then none else (h.get? a).map fun o=>(a,o)
def rest (g h:Heap) (L d:Addr):List (Addr × Obj):=(allNews g h L).filter fun p=>decide (p.1 ≠ d)
structure Mod (K:PySem.W.Frag) (mg:Str->Option Value) (base:Heap):Prop where
 kin:K.In base
 glob:base.Ns mainGlobals mg
 blt:∃ mb,base.Ns builtinsNs mb/\∀ x:Str,x ≠ "__name__" -> mb x = bootBuiltins x
 nolimit:base.NoLimit
 seer:base.NoSeer
 bmain:∃ bm ob,mg "__builtins__" = some (.ref bm)/\bm ≠ builtinsNs/\base.get? bm = some ob/\ob.cls = .type "module" /\ ob.dict = some builtinsNs/\ob.data = .plain
def Seen (l:List Env):Prop:=∃ e r,l = e :: r/\e.scope.isGenerator = false/\e.scope.isCoroutine = false/\e.builtins = builtinsNs/\e.globals = mainGlobals
structure Cx where
 prog:Program
 w:World
 K:PySem.W.Frag
 mg:Str->Option Value
 base:Heap
 A:Around
 N:List Str
 s₀:Shared
 H₀:Hp
 env:Env
 outer:List Env
 stack:List Env
 ex:List Addr
 fn:Str->Bool
 calm:Bool
 pn:List (Addr × Obj)
 xe:Value->Shared->Prop
def frs (l:List Env):List Addr:=l.filterMap (·.frame)
abbrev Cx.fs (X:Cx):List Addr:=frs X.outer
def Vis (sc:Scope) (x:Str):Prop:=sc.names.lookup x = some .local\/sc.names.lookup x = some .cell\/sc.names.lookup x = some .free
def Loc (sc:Scope) (x:Str):Prop:=sc.names.lookup x = some .local\/sc.names.lookup x = some .cell
def Look (env:Env) (h:Heap) (m:Str->Option Value) (x:Str) (u:Value):Prop:=
 (env.kindOf x = some .local/\m x = some u)\/((env.kindOf x = some .cell\/env.kindOf x = some .free)/\∃ c,env.cells.lookup x = some c/\h.IsCell c (some u))
structure Cx.Ok (X:Cx):Prop where
 mod:Mod X.K X.mg X.base
 kind:X.env.scope.kind = .function
 glob:X.env.globals = mainGlobals
 blt:X.env.builtins = builtinsNs
 above:X.s₀.heap.objs.size<=X.env.locals
 inj:∀ x y c,X.env.cells.lookup x = some c->X.env.cells.lookup y = some c->x = y
 has:∀ x,(X.env.kindOf x = some .cell\/X.env.kindOf x = some .free)->∃ c,X.env.cells.lookup x = some c
 cab:∀ x c,X.fn x = true->X.env.cells.lookup x = some c->X.s₀.heap.objs.size<=c
 hd:X.calm = true->X.A.handled = none
 frames:X.A.frames = some X.stack
 stk:X.stack = X.outer\/(X.stack = X.env :: X.outer/\X.env.frame = some X.env.locals)
 exf:∀ b ∈ X.ex,b ≠ X.env.locals/\∀ x c,X.env.cells.lookup x = some c->c ≠ b
 bs:∀ b o,X.base.get? b = some o->X.s₀.heap.get? b = some o/\X.H₀ b = none
 bsz:X.base.objs.size<=X.s₀.heap.objs.size
 noex:∀ b o,X.base.get? b = some o->b ∉ X.ex
 exfs:∀ b ∈ X.ex,b ∉ X.fs
 funs:X.s₀.heap.FunFrames X.base X.outer
 frf:∀ b ∈ X.fs,X.H₀ b = none
 top:Seen X.stack
structure Inv (X:Cx) (pins:List (Addr × Obj)) (σ:List (Option V)) (H:Hp) (s:Shared):Prop where
 ok:X.Ok
 os:s.os = X.s₀.os
 bare:AllBare s.gens
 base:Un X.fs X.ex X.H₀ H X.s₀.heap s.heap
 loc:∃ m,s.heap.Ns X.env.locals m/\∀ (i:Nat) (x:Str) (v:V),X.N[i]? = some x->σ[i]? = some (some v)->Vis X.env.scope x->∃ u,RelV v u/\Look X.env s.heap m x u
 cell:∀ x c,X.env.cells.lookup x = some c->∃ v,s.heap.IsCell c v
 free:H X.env.locals = none
 freeC:∀ x c,X.env.cells.lookup x = some c->H c = none
 pin:∀ p ∈ X.pn ++ pins,s.heap.get? p.1 = some p.2/\H p.1 = none/\p.1 ≠ X.env.locals/\p.1 ∉ X.fs/\∀ v,p.2.data ≠ .cell v
 hok:HOk X.prog X.w H s.heap
 len:σ.length = X.N.length
section
variable {X:Cx} {pins:List (Addr × Obj)} {σ:List (Option V)} {H H':Hp} {s:Shared} {h':Heap}
theorem Cx.Ok.nofr (ok:X.Ok) {b:Addr} {o:Obj} (e:X.base.get? b = some o):b ∉ X.fs:=fun hb=>by
 have:=(ok.funs.mem hb).1
 rw [e] at this; cases this
theorem Inv.bs (I:Inv X pins σ H s):∀ b o,X.base.get? b = some o->s.heap.get? b = some o/\H b = none:=fun b o e=>
 ⟨I.base.keep b o (I.ok.bs b o e).1 (I.ok.bs b o e).2 (I.ok.nofr e) (I.ok.noex b o e),I.base.free b o (I.ok.bs b o e).1 (I.ok.bs b o e).2 (I.ok.noex b o e)⟩
theorem Inv.bk (I:Inv X pins σ H s):∀ b o,X.base.get? b = some o->s.heap.get? b = some o:=fun b o e=>(I.bs b o e).1
theorem Inv.mod (I:Inv X pins σ H s):Mod X.K X.mg X.base:=I.ok.mod
theorem Inv.kIn (I:Inv X pins σ H s):X.K.In s.heap:=I.ok.mod.kin.keeps I.bk
theorem Inv.nolimit (I:Inv X pins σ H s):s.heap.NoLimit:=I.ok.mod.nolimit.keeps I.bk
theorem Inv.long (I:Inv X pins σ H s) (ht:X.prog.given.tree = none) (hd:X.A.depth + Builtin.pylongFrames < recursionLimit):PySem.PylongRoom (model X.prog X.w) X.A s:=by
 obtain ⟨e,r,hs,h1,h2,h3,h4⟩:=I.ok.top
 exact PySem.PylongRoom.of I.nolimit hd (PySem.SeerAt.of (I.ok.mod.seer.keeps I.bk) ht (by rw [I.ok.frames,hs]) h1 h2 h3 h4)
theorem Inv.lt (I:Inv X pins σ H s):X.env.locals < s.heap.objs.size:=let ⟨_,hn,_⟩:=I.loc; hn.lt
theorem Inv.sz (I:Inv X pins σ H s):X.s₀.heap.objs.size<=s.heap.objs.size:=Nat.le_trans I.ok.above (Nat.le_of_lt I.lt)
theorem Inv.nofs (I:Inv X pins σ H s) {a:Addr} (h:s.heap.objs.size<=a):a ∉ X.fs:=fun hb=>by
 obtain ⟨_,o,ho,_⟩:=I.ok.funs.mem hb
 exact absurd (Nat.lt_of_lt_of_le (Heap.lt_size ho) (Nat.le_trans I.sz h)) (Nat.lt_irrefl _)
theorem Inv.cne (I:Inv X pins σ H s):∀ x c,X.env.cells.lookup x = some c->c ≠ X.env.locals:=fun x c e z=>by
 obtain ⟨v,o,ho,hd⟩:=I.cell x c e
 obtain ⟨m,⟨o',es,ep,ho',hd',_⟩,_⟩:=I.loc
 rw [z,ho'] at ho; cases ho; rw [hd'] at hd; cases hd
theorem Inv.funs (I:Inv X pins σ H s):s.heap.FunFrames X.base X.outer:=by
 have all:∀ (l:List Env),(∀ b ∈ frs l,b ∈ X.fs)->X.s₀.heap.FunFrames X.base l->s.heap.FunFrames X.base l:=by
  intro l
  induction l with
  | nil=>intro _ _; trivial
  | cons env r ih=>
   intro hs hl
   obtain ⟨hk,⟨L,o,hf,hn,ho,hd⟩,hr⟩:=hl
   have hL:L ∈ X.fs:=hs L (by unfold frs; rw [List.filterMap_cons,hf]; exact List.mem_cons_self)
   obtain ⟨sl,e⟩:=I.base.slot L o ho (I.ok.frf L hL) hL fun z=>I.ok.exfs L z hL
   exact ⟨hk,⟨L,_,hf,hn,e,hd⟩,ih (fun b hb=>hs b (by unfold frs; rw [List.filterMap_cons,hf]; exact List.mem_cons_of_mem _ hb)) hr⟩
 exact all X.outer (fun _ hb=>hb) I.ok.funs
theorem Inv.stack (I:Inv X pins σ H s):s.heap.FunFrames X.base X.stack:=by
 rcases I.ok.stk with e | ⟨e,hf⟩
 ·rw [e]; exact I.funs
 ·rw [e]
  obtain ⟨m,hn,_⟩:=I.loc
  refine .cons (by rw [I.ok.kind]; decide) hf hn ?_ I.funs
  exact Heap.get?_none_of_le (Nat.le_trans I.ok.bsz I.ok.above)
theorem Inv.stkSub (I:Inv X pins σ H s):∀ b ∈ frs X.stack,b ∈ X.env.locals :: X.fs:=fun b hb=>by
 rcases I.ok.stk with e | ⟨e,hf⟩
 ·rw [e] at hb; exact List.mem_cons_of_mem _ hb
 ·rw [e] at hb
  unfold frs at hb
  rw [List.filterMap_cons,hf] at hb
  exact hb
theorem Inv.stkFree (I:Inv X pins σ H s):∀ b ∈ frs X.stack,H b = none:=fun b hb=>by
 rcases List.mem_cons.mp (I.stkSub b hb) with e | hb
 ·rw [e]; exact I.free
 ·obtain ⟨_,o,ho,_⟩:=I.ok.funs.mem hb
  exact I.base.free b o ho (I.ok.frf b hb) fun z=>I.ok.exfs b z hb
theorem Inv.step {g':Array GenState} {t':Nat} {d':Drawn} {ch:List Addr} (I:Inv X pins σ H s)
  (hch:∀ b ∈ ch,(b ∈ X.ex\/X.s₀.heap.objs.size<=b)/\b ≠ X.env.locals/\(∀ x c,X.env.cells.lookup x = some c->c ≠ b)/\∀ p ∈ X.pn ++ pins,p.1 ≠ b)
  (keep:∀ b o,b ≠ X.env.locals->b ∉ X.fs->b ∉ ch->s.heap.get? b = some o->H b = none->h'.get? b = some o)
  (slot:∀ b o,b ≠ X.env.locals->b ∈ X.fs->b ∉ ch->s.heap.get? b = some o->H b = none->∃ sl,h'.get? b = some { o with slots:=sl }) (free:∀ b o,b ∉ ch->s.heap.get? b = some o->H b = none->H' b = none)
  (there:∀ b o,b ∉ ch->s.heap.get? b = some o->∃ o',h'.get? b = some o')
  (tups:∀ b xs,H b = some (.tup xs)->H' b = some (.tup xs)) (frzs:∀ b o u,H b = some (.frz o u)->H' b = some (.frz o u)) (tbls:∀ b ps,H b = some (.tbl ps)->∃ more,H' b = some (.tbl (ps ++ more)))
  (ns:∀ m,s.heap.Ns X.env.locals m->h'.Ns X.env.locals m) (hok:HOk X.prog X.w H' h') (hg:AllBare g'):
  Inv X pins σ H' { s with heap:=h',gens:=g',drawn:=d',toks:=t' }:=by
 have neL:∀ b o,X.s₀.heap.get? b = some o->b ≠ X.env.locals:=fun b o e=>Nat.ne_of_lt (Nat.lt_of_lt_of_le (Heap.lt_size e) I.ok.above)
 have neC:∀ b o,X.s₀.heap.get? b = some o->b ∉ X.ex->b ∉ ch:=fun b o e hx hb=>by
  rcases (hch b hb).1 with z | z
  ·exact hx z
  ·exact absurd (Nat.lt_of_lt_of_le (Heap.lt_size e) z) (Nat.lt_irrefl _)
 have cellK:∀ x c,X.env.cells.lookup x = some c->∀ v,s.heap.IsCell c v->h'.IsCell c v:=fun x c e v ⟨o,ho,hd⟩=>by
  have nch:c ∉ ch:=fun z=>(hch c z).2.2.1 x c e rfl
  by_cases hc:c ∈ X.fs
  ·obtain ⟨sl,q⟩:=slot c o (I.cne x c e) hc nch ho (I.freeC x c e)
   exact ⟨_,q,hd⟩
  ·exact ⟨o,keep c o (I.cne x c e) hc nch ho (I.freeC x c e),hd⟩
 refine ⟨I.ok,I.os,hg,⟨fun b o e n hb hx=>?_,fun b o e n hb hx=>?_,fun b o e n hx=>?_,fun b o e hx=>?_,fun b xs e=>tups b xs (I.base.tups b xs e),fun b o xs e=>frzs b o xs (I.base.frzs b o xs e),fun b ps e=>?_⟩,?_,fun x c e=>?_,?_,fun x c e=>?_,fun p hp=>?_,hok,I.len⟩
 ·exact keep b o (neL b o e) hb (neC b o e hx) (I.base.keep b o e n hb hx) (I.base.free b o e n hx)
 ·obtain ⟨sl,e1⟩:=I.base.slot b o e n hb hx
  obtain ⟨sl',e2⟩:=slot b _ (neL b o e) hb (neC b o e hx) e1 (I.base.free b o e n hx)
  exact ⟨sl',e2⟩
 ·obtain ⟨o',e1⟩:=I.base.there b o e hx
  exact free b o' (neC b o e hx) e1 (I.base.free b o e n hx)
 ·obtain ⟨o',e1⟩:=I.base.there b o e hx
  exact there b o' (neC b o e hx) e1
 ·obtain ⟨m1,e1⟩:=I.base.tbls b ps e
  obtain ⟨m2,e2⟩:=tbls b _ e1
  exact ⟨m1 ++ m2,by rw [e2,Array.append_assoc]⟩
 ·obtain ⟨m,hn,hl⟩:=I.loc
  refine ⟨m,ns m hn,fun i x v e1 e2 e3=>?_⟩
  obtain ⟨u,r,l⟩:=hl i x v e1 e2 e3
  refine ⟨u,r,?_⟩
  rcases l with l | ⟨k,c,e,z⟩
  ·exact .inl l
  ·exact .inr ⟨k,c,e,cellK x c e _ z⟩
 ·obtain ⟨v,z⟩:=I.cell x c e
  exact ⟨v,cellK x c e v z⟩
 ·obtain ⟨m,⟨o,_,_,ho,_⟩,_⟩:=I.loc
  exact free _ o (fun z=>(hch _ z).2.1 rfl) ho I.free
 ·obtain ⟨v,o,ho,hd⟩:=I.cell x c e
  exact free c o (fun z=>(hch c z).2.2.1 x c e rfl) ho (I.freeC x c e)
 ·obtain ⟨e,n,ne,nf,d⟩:=I.pin p hp
  have nch:p.1 ∉ ch:=fun z=>(hch p.1 z).2.2.2 p hp rfl
  exact ⟨keep p.1 p.2 ne nf nch e n,free p.1 p.2 nch e n,ne,nf,d⟩
theorem Inv.un {t':Nat} (I:Inv X pins σ H s) (u:Un X.fs [] H H' s.heap h') (hok:HOk X.prog X.w H' h'):Inv X pins σ H' { s with heap:=h',toks:=t' }:=by
 obtain ⟨m,⟨o,es,ep,ho,r⟩,_⟩:=id I.loc
 obtain ⟨sl,hL⟩:=u.any ho I.free (by simp)
 exact I.step (g':=s.gens) (d':=s.drawn) (ch:=[]) (fun _ z=>nomatch z) (fun b o _ hb _ e n=>u.keep b o e n hb (by simp)) (fun b o _ hb _ e n=>u.slot b o e n hb (by simp)) (fun b o _ e n=>u.free b o e n (by simp)) (fun b o _ e=>u.there b o e (by simp)) u.tups u.frzs u.tbls (fun m' hm=>by
  obtain ⟨o',es',ep',ho',r'⟩:=hm
  rw [ho] at ho'; cases ho'
  exact ⟨_,es',ep',hL,r'⟩) hok I.bare
theorem Inv.call {g':Array GenState} {t':Nat} {d':Drawn} {ch:List Addr} (I:Inv X pins σ H s) (u:Un (frs X.stack) ch H H' s.heap h') (hok:HOk X.prog X.w H' h') (hg:AllBare g')
  (hch:∀ b ∈ ch,(b ∈ X.ex\/X.s₀.heap.objs.size<=b)/\b ≠ X.env.locals/\(∀ x c,X.env.cells.lookup x = some c->c ≠ b)/\∀ p ∈ X.pn ++ pins,p.1 ≠ b):
  Inv X pins σ H' { s with heap:=h',gens:=g',drawn:=d',toks:=t' }:=by
 obtain ⟨m,⟨o,es,ep,ho,r⟩,_⟩:=id I.loc
 obtain ⟨sl,hL⟩:=u.any ho I.free fun z=>(hch _ z).2.1 rfl
 exact I.step (ch:=ch) hch (fun b o hL hb hc e n=>u.keep b o e n (fun z=>(List.mem_cons.mp (I.stkSub b z)).elim hL hb) hc) (fun b o _ _ hc e n=>u.any e n hc) (fun b o hc e n=>u.free b o e n hc) (fun b o hc e=>u.there b o e hc) u.tups u.frzs u.tbls (fun m' hm=>by
  obtain ⟨o',es',ep',ho',r'⟩:=hm
  rw [ho] at ho'; cases ho'
  exact ⟨_,es',ep',hL,r'⟩) hok hg
theorem Inv.turned {t':Nat} {it:Addr} (I:Inv X pins σ H s) (k:∀ b o,b ≠ it->s.heap.get? b = some o->h'.get? b = some o) (hn:H it = none) (hL:it ≠ X.env.locals)
  (h1:it ∈ X.ex\/X.s₀.heap.objs.size<=it) (h2:∀ x c,X.env.cells.lookup x = some c->c ≠ it) (h3:∀ p ∈ X.pn ++ pins,p.1 ≠ it):Inv X pins σ H { s with heap:=h',toks:=t' }:=by
 have nit:∀ b u,H b = some u->b ≠ it:=fun b u e z=>by rw [z,hn] at e; cases e
 refine I.step (g':=s.gens) (d':=s.drawn) (ch:=[it]) (fun b hb=>?_) (fun b o _ _ hc e _=>k b o (fun z=>hc (by simp [z])) e) (fun b o _ _ hc e _=>⟨o.slots,k b o (fun z=>hc (by simp [z])) e⟩) (fun _ _ _ _ n=>n)
  (fun b o hc e=>⟨o,k b o (fun z=>hc (by simp [z])) e⟩) (fun _ _ e=>e) (fun _ _ _ e=>e) (fun b ps e=>⟨#[],by rw [e]; simp⟩) (fun m hm=>?_) (fun b u e=>?_) I.bare
 ·have e:b = it:=by simpa using hb
  subst e
  exact ⟨h1,hL,h2,h3⟩
 ·obtain ⟨o,es,ep,ho,r⟩:=hm
  exact ⟨o,es,ep,k _ o (Ne.symm hL) ho,r⟩
 ·refine (I.hok b u e).stay (fun c v hc q=>k c v ?_ q) (fun _ q=>q) (fun _ _ q=>q) fun _ _ _ q=>q
  rcases hc with z | z
  ·rw [z]; exact nit b u e
  ·exact nit c _ z
theorem Inv.tok (I:Inv X pins σ H s) (t:Nat):Inv X pins σ H { s with toks:=t }:=I.un (h':=s.heap) (t':=t) Un.refl I.hok
theorem Inv.kept {t':Nat} (I:Inv X pins σ H s) (k:∀ b u,s.heap.get? b = some u->h'.get? b = some u):Inv X pins σ H { s with heap:=h',toks:=t' }:=I.un (Un.kept k) (I.hok.kept k)
theorem Inv.laid {a:Addr} {o:HO} {t':Nat} (I:Inv X pins σ H s) (k:∀ b u,s.heap.get? b = some u->h'.get? b = some u) (hp:s.heap.objs.size<=a) (new:ObjOk X.prog X.w (upd H a o) h' a o):
  Inv X pins σ (upd H a o) { s with heap:=h',toks:=t' }:=I.un (Un.laid k hp (I.hok.fresh hp)) (I.hok.laid k hp new)
theorem Inv.write {x e:Addr} {o:HO} {t':Nat} (I:Inv X pins σ H s) (mu:Mut (H x)) (he:e = x\/H e = some (.own x)) (k:∀ b u,b ≠ e->s.heap.get? b = some u->h'.get? b = some u) (heo:∃ u,h'.get? e = some u)
  (new:ObjOk X.prog X.w (upd H x o) h' x o):Inv X pins σ (upd H x o) { s with heap:=h',toks:=t' }:=I.un (Un.write mu he k heo) (I.hok.write mu he k heo new)
theorem Inv.pins_of {pins':List (Addr × Obj)} (I:Inv X pins σ H s) (h:∀ p ∈ pins',s.heap.get? p.1 = some p.2/\H p.1 = none/\p.1 ≠ X.env.locals/\p.1 ∉ X.fs/\∀ v,p.2.data ≠ .cell v):Inv X pins' σ H s:=
 ⟨I.ok,I.os,I.bare,I.base,I.loc,I.cell,I.free,I.freeC,fun p hp=>(List.mem_append.mp hp).elim (fun z=>I.pin p (List.mem_append_left _ z)) (h p),I.hok,I.len⟩
theorem Zl9 {N:List Str} (hN:N.Nodup) {i j:Nat} {x:Str} (a:N[i]? = some x) (b:N[j]? = some x):i = j:=by
 obtain ⟨h1,e1⟩:=List.getElem?_eq_some_iff.mp a
 obtain ⟨h2,e2⟩:=List.getElem?_eq_some_iff.mp b
 exact (List.getElem_inj hN).mp (e1.trans e2.symm)
theorem Zjm {M:Model} {A:Around} {E:Value->Shared->Prop} {i:Nat} {x:Str} {v:V} {u:Value} {Q:Unit->Shared->Prop} (I:Inv X pins σ H s) (hN:X.N.Nodup) (hi:X.N[i]? = some x) (hx:Loc X.env.scope x) (r:RelV v u)
  (h:∀ s',Inv X pins (σ.set i (some v)) H s'->(∃ a,Heap.SameBut a s.heap s'.heap/\(a = X.env.locals\/X.env.cells.lookup x = some a))->Q () s') (hf:X.fn x = true\/X.env.scope.names.lookup x = some .local:=by first | exact .inl rfl | exact .inr rfl | assumption):wpAny M A (storeName X.env x u) Q E s:=by
 obtain ⟨m,hn,hl⟩:=id I.loc
 have hcls:(X.env.scope.kind == .class || (X.env.scope.kind == .module && X.env.locals != X.env.globals)) = false:=by rw [I.ok.kind]; rfl
 have hiσ:i < σ.length:=by rw [I.len]; exact (List.getElem?_eq_some_iff.mp hi).1
 have cne:=I.cne
 have tracked:∀ {a:Addr} {h':Heap},(∃ o,s.heap.get? a = some o/\H a = none)->Heap.SameBut a s.heap h'->HOk X.prog X.w H h':=fun {a h'} ha hs b ob e=>by
  obtain ⟨_,_,hfree⟩:=ha
  refine (I.hok b ob e).stay (fun c w' hc q=>(hs.2 c ?_).trans q) (fun _ q=>q) (fun _ _ q=>q) fun _ _ _ q=>q
  rintro rfl
  rcases hc with rfl | hc
  ·rw [hfree] at e; cases e
  ·rw [hfree] at hc; cases hc
 rcases hx with hk | hk
 ·refine wpAny_storeName_local hk hn (fun h' hn' hs=>?_) hcls
  obtain ⟨oL,_,_,hoL,_⟩:=id hn
  refine h _ ⟨I.ok,I.os,I.bare,⟨fun b o e n hb hx=>?_,fun b o e n hb hx=>?_,I.base.free,fun b o e hx=>?_,I.base.tups,I.base.frzs,I.base.tbls⟩,⟨_,hn',fun j y v' e1 e2 e3=>?_⟩,fun y c e=>?_,I.free,I.freeC,fun p hp=>?_,tracked ⟨oL,hoL,I.free⟩ hs,by simpa using I.len⟩ ⟨_,hs,.inl rfl⟩
  ·exact (hs.2 b (Nat.ne_of_lt (Nat.lt_of_lt_of_le (Heap.lt_size e) I.ok.above))).trans (I.base.keep b o e n hb hx)
  ·obtain ⟨sl,e1⟩:=I.base.slot b o e n hb hx
   exact ⟨sl,(hs.2 b (Nat.ne_of_lt (Nat.lt_of_lt_of_le (Heap.lt_size e) I.ok.above))).trans e1⟩
  ·obtain ⟨o',e1⟩:=I.base.there b o e hx
   exact ⟨o',(hs.2 b (Nat.ne_of_lt (Nat.lt_of_lt_of_le (Heap.lt_size e) I.ok.above))).trans e1⟩
  ·by_cases hj:j = i
   ·subst hj
    rw [hi] at e1; cases e1
    rw [List.getElem?_set_self hiσ] at e2
    cases e2
    exact ⟨u,r,.inl ⟨hk,by simp⟩⟩
   ·rw [List.getElem?_set_ne (Ne.symm hj)] at e2
    obtain ⟨u',r',q⟩:=hl j y v' e1 e2 e3
    refine ⟨u',r',?_⟩
    rcases q with ⟨k,e⟩ | ⟨k,c,e,z⟩
    ·refine .inl ⟨k,?_⟩
     have:y ≠ x:=fun e=>hj (Zl9 hN e1 (e ▸ hi))
     simp [this,e]
    ·exact .inr ⟨k,c,e,z.sameBut hs (cne y c e)⟩
  ·obtain ⟨w',z⟩:=I.cell y c e
   exact ⟨w',z.sameBut hs (cne y c e)⟩
  ·obtain ⟨e,n,ne,nf,d⟩:=I.pin p hp
   exact ⟨(hs.2 p.1 ne).trans e,n,ne,nf,d⟩
 ·have hfn:X.fn x = true:=by
   rcases hf with z | z
   ·exact z
   ·rw [z] at hk; cases hk
  obtain ⟨c,hc⟩:=I.ok.has x (.inl hk)
  obtain ⟨w',z⟩:=I.cell x c hc
  refine wpAny_storeName_cell I.ok.kind hk hc z (fun h' hc' hs=>?_)
  obtain ⟨oc,hoc,hocd⟩:=id z
  refine h { s with heap:=h' } ⟨I.ok,I.os,I.bare,⟨fun b o e n hb hx=>?_,fun b o e n hb hx=>?_,I.base.free,fun b o e hx=>?_,I.base.tups,I.base.frzs,I.base.tbls⟩,⟨m,hn.sameBut hs (Ne.symm (cne x c hc)),fun j y v' e1 e2 e3=>?_⟩,fun y c' e=>?_,I.free,I.freeC,fun p hp=>?_,tracked ⟨oc,hoc,I.freeC x c hc⟩ hs,by simpa using I.len⟩ ⟨c,hs,.inr hc⟩
  ·exact (hs.2 b (Nat.ne_of_lt (Nat.lt_of_lt_of_le (Heap.lt_size e) (I.ok.cab x c hfn hc)))).trans (I.base.keep b o e n hb hx)
  ·obtain ⟨sl,e1⟩:=I.base.slot b o e n hb hx
   exact ⟨sl,(hs.2 b (Nat.ne_of_lt (Nat.lt_of_lt_of_le (Heap.lt_size e) (I.ok.cab x c hfn hc)))).trans e1⟩
  ·obtain ⟨o',e1⟩:=I.base.there b o e hx
   exact ⟨o',(hs.2 b (Nat.ne_of_lt (Nat.lt_of_lt_of_le (Heap.lt_size e) (I.ok.cab x c hfn hc)))).trans e1⟩
  ·by_cases hj:j = i
   ·subst hj
    rw [hi] at e1; cases e1
    rw [List.getElem?_set_self hiσ] at e2
    cases e2
    exact ⟨u,r,.inr ⟨.inl hk,c,hc,hc'⟩⟩
   ·rw [List.getElem?_set_ne (Ne.symm hj)] at e2
    obtain ⟨u',r',q⟩:=hl j y v' e1 e2 e3
    refine ⟨u',r',?_⟩
    rcases q with q | ⟨k,c',e,z'⟩
    ·exact .inl q
    ·refine .inr ⟨k,c',e,z'.sameBut hs ?_⟩
     rintro rfl
     exact hj (Zl9 hN e1 (I.ok.inj _ _ _ e hc ▸ hi))
  ·by_cases hcc:c' = c
   ·subst hcc; exact ⟨_,hc'⟩
   ·obtain ⟨w2,z2⟩:=I.cell y c' e
    exact ⟨w2,z2.sameBut hs hcc⟩
  ·obtain ⟨e,n,ne,nf,d⟩:=I.pin p hp
   refine ⟨(hs.2 p.1 ?_).trans e,n,ne,nf,d⟩
   intro q
   rw [q,hoc] at e
   have q':oc = p.2:=Option.some.inj e
   exact d w' (by rw [<- q']; exact hocd)
theorem Zgm {M:Model} {A:Around} {E:Value->Shared->Prop} {i:Nat} {x:Str} {v:V} {u:Value} {Q:Unit->Shared->Prop} (I:Inv X pins σ H s) (hN:X.N.Nodup) (hi:X.N[i]? = some x) (hx:Loc X.env.scope x) (r:RelV v u)
  (h:∀ s',Inv X pins (σ.set i (some v)) H s'->Q () s') (hf:X.fn x = true\/X.env.scope.names.lookup x = some .local:=by first | exact .inl rfl | exact .inr rfl | assumption):wpAny M A (storeName X.env x u) Q E s:=
 Zjm I hN hi hx r (fun s' I' _=>h s' I') hf
theorem Inv.call' {s':Shared} {ch:List Addr} (I:Inv X pins σ H s) (ho:s'.os = s.os) (u:Un (frs X.stack) ch H H' s.heap s'.heap) (hok:HOk X.prog X.w H' s'.heap) (hg:AllBare s'.gens)
  (hch:∀ b ∈ ch,(b ∈ X.ex\/X.s₀.heap.objs.size<=b)/\b ≠ X.env.locals/\(∀ x c,X.env.cells.lookup x = some c->c ≠ b)/\∀ p ∈ X.pn ++ pins,p.1 ≠ b):Inv X pins σ H' s':=by
 obtain ⟨h',g',d',t',o'⟩:=s'
 have e:o' = s.os:=ho
 subst e
 exact I.call (g':=g') (t':=t') (d':=d') u hok hg hch
end
abbrev XK:=Value->Option Addr->Hp->Prop
abbrev St:=List (Option V)
abbrev VK:=V->Hp->Prop
abbrev TE:=St->Hp->VK->Prop
abbrev TT:=St->Hp->(Bool->Hp->Prop)->Prop
abbrev TA:=St->Hp->(List V->Hp->Prop)->Prop
structure Ends where
 nx:St->Hp->Prop
 rt:VK
 bk:St->Hp->Prop:=fun _ _=>False
 ct:St->Hp->Prop:=fun _ _=>False
abbrev TS:=Ends->St->Hp->Prop
def EP (X:Cx) (pins:List (Addr × Obj)) (σ:St) (Q:VK) (u:Value) (s':Shared):Prop:=∃ v H',Inv X pins σ H' s'/\RelV v u/\Q v H'
def TP (X:Cx) (pins:List (Addr × Obj)) (σ:St) (Q:Bool->Hp->Prop) (b:Bool) (s':Shared):Prop:=∃ H',Inv X pins σ H' s'/\Q b H'
def AP (X:Cx) (pins:List (Addr × Obj)) (σ:St) (Q:List V->Hp->Prop) (us:List Value) (s':Shared):Prop:=∃ vs H',Inv X pins σ H' s'/\Vals vs us/\Q vs H'
def SP (X:Cx) (pins:List (Addr × Obj)) (D:Ends) (f:Flow) (s':Shared):Prop:=
 match f with
 | .next=>∃ σ' H',Inv X pins σ' H' s'/\D.nx σ' H'
 | .brk=>∃ σ' H',Inv X pins σ' H' s'/\D.bk σ' H'
 | .cont=>∃ σ' H',Inv X pins σ' H' s'/\D.ct σ' H'
 | .ret u=>∃ v σ' H',Inv X pins σ' H' s'/\RelV v u/\D.rt v H'
def PE (X:Cx) (e:Expr) (t:TE):Prop:=
 ∀ (pins:List (Addr × Obj)) (s:Shared) (σ:St) (H:Hp) (Q:VK),Inv X pins σ H s->t σ H Q->wpAny (model X.prog X.w) X.A (eval e X.env) (EP X pins σ Q) X.xe s
def PT (X:Cx) (e:Expr) (t:TT):Prop:=
 ∀ (pins:List (Addr × Obj)) (s:Shared) (σ:St) (H:Hp) (Q:Bool->Hp->Prop),Inv X pins σ H s->t σ H Q->wpAny (model X.prog X.w) X.A (isTrue e X.env (eval e X.env)) (TP X pins σ Q) X.xe s
def PW (X:Cx) (e:Expr) (t:TT):Prop:=
 ∀ (whole:Sem Value) (pins:List (Addr × Obj)) (s:Shared) (σ:St) (H:Hp) (Q:Bool->Hp->Prop),Inv X pins σ H s->t σ H Q->wpAny (model X.prog X.w) X.A (isTrue e X.env whole) (TP X pins σ Q) X.xe s
theorem PW.pt {X:Cx} {e:Expr} {t:TT} (h:PW X e t):PT X e t:=h _
def PA (X:Cx) (es:List Expr) (t:TA):Prop:=
 ∀ (pos:Pos) (pins:List (Addr × Obj)) (s:Shared) (σ:St) (H:Hp) (Q:List V->Hp->Prop),Inv X pins σ H s->t σ H Q->wpAny (model X.prog X.w) X.A (spliced (backTo pos (starEach es X.env))) (AP X pins σ Q) X.xe s
def PS (X:Cx) (st:Stmt) (t:TS):Prop:=
 ∀ (pins:List (Addr × Obj)) (s:Shared) (σ:St) (H:Hp) (D:Ends),Inv X pins σ H s->t D σ H->wpAny (model X.prog X.w) X.A (exec st X.env) (SP X pins D) X.xe s
def PSs (X:Cx) (st:List Stmt) (t:TS):Prop:=
 ∀ (pins:List (Addr × Obj)) (s:Shared) (σ:St) (H:Hp) (D:Ends),Inv X pins σ H s->t D σ H->wpAny (model X.prog X.w) X.A (execs st X.env) (SP X pins D) X.xe s
theorem thn {α:Type} {t:Sem α} {Q Q':α->Shared->Prop} {M:Model} {A:Around} {E:Value->Shared->Prop} {s:Shared} (h:wpAny M A t Q E s) (hQ:∀ a s,Q a s->Q' a s):wpAny M A t Q' E s:=wpAny_mono h hQ fun _ _ x=>x
section
variable {X:Cx}
theorem bin {a b:Expr} {ta tb:TE} (ha:PE X a ta) (hb:PE X b tb) {pins:List (Addr × Obj)} {s:Shared} {σ:St} {H:Hp} {R:V->V->Hp->Prop} (I:Inv X pins σ H s) (h:ta σ H fun x H1=>tb σ H1 fun y H2=>R x y H2)
  {α:Type} {Q:α->Shared->Prop} {f:Value->Value->Sem α}
  (hf:∀ v u s2 x y H2,Inv X pins σ H2 s2->RelV x v->RelV y u->R x y H2->wpAny (model X.prog X.w) X.A (f v u) Q X.xe s2):
  wpAny (model X.prog X.w) X.A (eval a X.env) (fun v s₁=>wpAny (model X.prog X.w) X.A (eval b X.env) (fun u s₂=>wpAny (model X.prog X.w) X.A (f v u) Q X.xe s₂) X.xe s₁) X.xe s:=by
 refine thn (ha pins s σ H _ I h) fun v s1 ⟨x,H1,I1,r1,q1⟩=>?_
 refine thn (hb pins s1 σ H1 _ I1 q1) fun u s2 ⟨y,H2,I2,r2,q2⟩=>?_
 exact hf v u s2 x y H2 I2 r1 r2 q2
def tVar (i:Nat):TE:=fun σ H Q=>∃ v,σ[i]? = some (some v)/\Q v H
def tC (v:V):TE:=fun _ H Q=>Q v H
theorem pe_var {i:Nat} {x:Str} {pos:Pos} (hN:X.N[i]? = some x) (hv:Vis X.env.scope x) (hd:(x == ("__debug__" : Str)) = false:=by decide) (hcd:(x == ("__classdict__" : Str)) = false:=by decide):PE X (.Name x pos) (tVar i):=by
 intro pins s σ H Q I h
 obtain ⟨v,e,h⟩:=h
 obtain ⟨m,hn,hl⟩:=I.loc
 obtain ⟨u,r,l⟩:=hl i x v hN e hv
 have fin:EP X pins σ Q u s:=⟨v,H,I,r,h⟩
 rcases l with ⟨hk,hm⟩ | ⟨hk,c,hc,hcell⟩
 ·exact wpAny_Name (wpAny_loadName_local I.ok.kind hk hn hm fin) hd
 ·rcases hk with hk | hk
  ·exact wpAny_Name (wpAny_loadName_cell I.ok.kind hk hc hcell fin) hd
  ·exact wpAny_Name (wpAny_loadName_free I.ok.kind hk hc hcell fin hcd) hd
theorem Zac {i j pos}:PE X (.Constant (.int i) j pos) (tC (.int i)):=fun _ _ _ H _ I h=>wpAny_Constant_int ⟨.int i,H,I.tok _,⟨_,rfl⟩,h⟩
theorem Ze5 {b j pos}:PE X (.Constant (.bool b) j pos) (tC (.bl b)):=fun _ _ _ H _ I h=>Constant_bool ⟨.bl b,H,I,rfl,h⟩
theorem Zsb {j pos}:PE X (.Constant .none j pos) (tC .non):=fun _ _ _ H _ I h=>Constant_none ⟨.non,H,I,rfl,h⟩
def Gl (X:Cx) (x:Str):Prop:=X.env.kindOf x = some .globalImplicit
theorem Zlg {E:Value->Shared->Prop} {pins:List (Addr × Obj)} {s:Shared} {σ:St} {H:Hp} {x:Str} {u:Value} {pos:Pos} {Q:Value->Shared->Prop} (I:Inv X pins σ H s) (hg:Gl X x) (hm:X.mg x = some u) (h:Q u s)
  (hd:(x == ("__debug__" : Str)) = false:=by decide):wpAny (model X.prog X.w) X.A (eval (.Name x pos) X.env) Q E s:=
 Calls.Name_function_global I.ok.kind hg (Calls.loadGlobal_global (by rw [I.ok.glob]; exact I.mod.glob.keeps I.bk) hm h) hd
theorem Zew {E:Value->Shared->Prop} {pins:List (Addr × Obj)} {s:Shared} {σ:St} {H:Hp} {x:Str} {u:Value} {pos:Pos} {Q:Value->Shared->Prop} (I:Inv X pins σ H s) (hg:Gl X x) (hm:X.mg x = none) (hv:bootBuiltins x = some u) (h:Q u s)
  (hn:x ≠ "__name__" := by decide) (hd:(x == ("__debug__" : Str)) = false:=by decide):wpAny (model X.prog X.w) X.A (eval (.Name x pos) X.env) Q E s:=by
 obtain ⟨mb,h1,h2⟩:=I.mod.blt
 exact Calls.Name_function_global I.ok.kind hg (Calls.loadGlobal_builtin (by rw [I.ok.glob]; exact I.mod.glob.keeps I.bk) hm (by rw [I.ok.blt]; exact h1.keeps I.bk) ((h2 x hn).trans hv) h) hd
theorem pe_glob {x:Str} {v:V} {u:Value} {pos:Pos} (hg:Gl X x) (hm:X.mg x = some u) (r:RelV v u) (hd:(x == ("__debug__" : Str)) = false:=by decide):PE X (.Name x pos) (tC v):=
 fun _ _ _ H _ I h=>Zlg I hg hm ⟨v,H,I,r,h⟩ hd
theorem pe_bltn {x:Str} {v:V} {u:Value} {pos:Pos} (hg:Gl X x) (hm:X.mg x = none) (hv:bootBuiltins x = some u) (r:RelV v u) (hn:x ≠ "__name__" := by decide) (hd:(x == ("__debug__" : Str)) = false:=by decide):PE X (.Name x pos) (tC v):=
 fun _ _ _ H _ I h=>Zew I hg hm hv ⟨v,H,I,r,h⟩ hn hd
variable {a b:Expr} {ta tb:TE} {pos:Pos}
def PC (X:Cx) (op:CmpOp) (a b:Expr) (t:TE):Prop:=
 ∀ (pins:List (Addr × Obj)) (s:Shared) (σ:St) (H:Hp) (Q:VK),Inv X pins σ H s->t σ H Q->
  wpAny (model X.prog X.w) X.A (eval a X.env) (fun v s₁=>wpAny (model X.prog X.w) X.A (eval b X.env) (fun u s₂=>wpAny (model X.prog X.w) X.A (compareOp op v u) (EP X pins σ Q) X.xe s₂) X.xe s₁) X.xe s
theorem Zra (b:Expr) {op:CmpOp} (h:op ≠ .In) (h2:op ≠ .NotIn):behindInMarks op b = false:=by
 have e1:(op == CmpOp.In) = false:=by cases op <;> first | rfl | exact absurd rfl h
 have e2:(op == CmpOp.NotIn) = false:=by cases op <;> first | rfl | exact absurd rfl h2
 cases b <;> simp [behindInMarks,e1,e2]
def tB (t:TE):TT:=fun σ H Q=>t σ H fun x H1=>∃ c,x = .bl c/\Q c H1
theorem pt_cmp {op:CmpOp} {t:TE} (h:PC X op a b t) (h1:behindInMarks op b = false:=by first | exact Zra _ (by decide) (by decide) | rfl):PT X (.Compare a [op] [b] pos) (tB t):=by
 intro pins s σ H Q I hw
 refine wpAny_isTrue_Compare1 (thn (h pins s σ H _ I hw) fun v s1 h1=>thn h1 fun u s2 h2=>thn h2 fun c s3 ⟨x,H1,I1,r1,q1⟩=>?_) h1
 obtain ⟨d,rfl,q⟩:=q1
 cases r1
 exact wpAny_truthy_bool ⟨H1,I1,q⟩
theorem Zdw {e:Expr} {t:TE} (h:PE X e t) (he:∀ whole,isTrue e X.env whole = (do let v <- whole; standAt e.pos; holding [v] (truthy v)):=by intro _; rfl):PT X e (tB t):=by
 intro pins s σ H Q I hw
 refine isTrue_plain (thn (h pins s σ H _ I hw) fun v s1 ⟨x,H1,I1,r1,q1⟩=>?_) (he _)
 obtain ⟨d,rfl,q⟩:=q1
 cases r1
 exact wpAny_truthy_bool ⟨H1,I1,q⟩
variable {tA tB':TT} {rest:List Expr}
def tAnd (t u:TT):TT:=fun σ H Q=>t σ H fun c H1=>if c = true then u σ H1 Q else Q false H1
def tOr (t u:TT):TT:=fun σ H Q=>t σ H fun c H1=>if c = true then Q true H1 else u σ H1 Q
def tNot (t:TT):TT:=fun σ H Q=>t σ H fun c H1=>Q (!c) H1
theorem Ziv (ha:PT X a tA):PW X (.BoolOp .And [a] pos) tA:=by
 intro wh pins s σ H Q I h
 refine isTrue_and (thn (ha pins s σ H Q I h) fun c s1 e=>?_)
 cases c with
 | true=>exact isTrue_and_nil e
 | false=>exact e
theorem Zfc (ha:PT X a tA):PW X (.BoolOp .Or [a] pos) tA:=by
 intro wh pins s σ H Q I h
 refine isTrue_or (thn (ha pins s σ H Q I h) fun c s1 e=>?_)
 cases c with
 | false=>exact isTrue_or_nil e
 | true=>exact e
theorem Zju (ha:PT X a tA) (hb:PW X (.BoolOp .And (b :: rest) pos) tB'):PW X (.BoolOp .And (a :: b :: rest) pos) (tAnd tA tB'):=by
 intro wh pins s σ H Q I h
 refine isTrue_and (thn (ha pins s σ H _ I h) fun c s1 ⟨H1,I1,q1⟩=>?_)
 cases c with
 | true=>exact hb wh pins s1 σ H1 Q I1 q1
 | false=>exact ⟨H1,I1,q1⟩
theorem Zf2 (ha:PT X a tA) (hb:PW X (.BoolOp .Or (b :: rest) pos) tB'):PW X (.BoolOp .Or (a :: b :: rest) pos) (tOr tA tB'):=by
 intro wh pins s σ H Q I h
 refine isTrue_or (thn (ha pins s σ H _ I h) fun c s1 ⟨H1,I1,q1⟩=>?_)
 cases c with
 | true=>exact ⟨H1,I1,q1⟩
 | false=>exact hb wh pins s1 σ H1 Q I1 q1
theorem Zdr (ha:PT X a tA):PT X (.UnaryOp .Not a pos) (tNot tA):=by
 intro pins s σ H Q I h
 exact isTrue_not (ha pins s σ H (fun c H1=>Q (!c) H1) I h)
def tAndV (ta tb:TE):TE:=fun σ H Q=>ta σ H fun x H1=>∃ c,x = .bl c/\if c = true then tb σ H1 Q else Q (.bl false) H1
def tOrV (ta tb:TE):TE:=fun σ H Q=>ta σ H fun x H1=>∃ c,x = .bl c/\if c = true then Q (.bl true) H1 else tb σ H1 Q
def tNotV (ta:TE):TE:=fun σ H Q=>ta σ H fun x H1=>∃ c,x = .bl c/\Q (.bl (!c)) H1
theorem Zid {op} {t:TE} (h:PE X a t):PE X (.BoolOp op [a] pos) t:=fun pins s σ H Q I hw=>BoolOp_one (h pins s σ H Q I hw)
theorem Zie (ha:PE X a ta) (hb:PE X (.BoolOp .And (b :: rest) pos) tb):PE X (.BoolOp .And (a :: b :: rest) pos) (tAndV ta tb):=by
 intro pins s σ H Q I h
 refine BoolOp_and (thn (ha pins s σ H _ I h) fun v s1 ⟨x,H1,I1,r1,q1⟩=>?_)
 obtain ⟨c,rfl,q1⟩:=q1
 cases r1
 refine wpAny_truthy_bool ?_
 cases c with
 | true=>exact hb pins s1 σ H1 Q I1 q1
 | false=>exact ⟨.bl false,H1,I1,rfl,q1⟩
theorem pe_or (ha:PE X a ta) (hb:PE X (.BoolOp .Or (b :: rest) pos) tb):PE X (.BoolOp .Or (a :: b :: rest) pos) (tOrV ta tb):=by
 intro pins s σ H Q I h
 refine BoolOp_or (thn (ha pins s σ H _ I h) fun v s1 ⟨x,H1,I1,r1,q1⟩=>?_)
 obtain ⟨c,rfl,q1⟩:=q1
 cases r1
 refine wpAny_truthy_bool ?_
 cases c with
 | false=>exact hb pins s1 σ H1 Q I1 q1
 | true=>exact ⟨.bl true,H1,I1,rfl,q1⟩
theorem Zsa (ha:PE X a ta):PE X (.UnaryOp .Not a pos) (tNotV ta):=by
 intro pins s σ H Q I h
 refine UnaryOp_ (thn (ha pins s σ H _ I h) fun v s1 ⟨x,H1,I1,r1,q1⟩=>?_)
 obtain ⟨c,rfl,q1⟩:=q1
 cases r1
 exact not_of (wpAny_truthy_bool ⟨.bl (!c),H1,I1,rfl,q1⟩)
def tIf (t:TT) (ta tb:TE):TE:=fun σ H Q=>t σ H fun c H1=>if c = true then ta σ H1 Q else tb σ H1 Q
theorem Zqu {c:Expr} (hc:PT X c tA) (ha:PE X a ta) (hb:PE X b tb):PE X (.IfExp c a b pos) (tIf tA ta tb):=by
 intro pins s σ H Q I h
 refine wpAny_IfExp (thn (hc pins s σ H _ I h) fun d s1 ⟨H1,I1,q1⟩=>?_)
 cases d with
 | true=>exact ha pins s1 σ H1 Q I1 q1
 | false=>exact hb pins s1 σ H1 Q I1 q1
end
def SqL (K:PySem.W.Frag) (H:Hp) (a:Addr) (xs:List V):Prop:=
 Rd H a (.lst xs) \/
  ∃ (o:Obj) (its:Array Value) (n:Nat),K.lookup a = some o/\o.cls = .type "list" /\ o.dict = none/\o.data = .seq its n/\its.size<=sizeLine/\Vals xs its.toList
def SqT (K:PySem.W.Frag) (H:Hp) (a:Addr) (xs:List V):Prop:=
 Rd H a (.tup xs) \/
  ∃ (o:Obj) (its:Array Value) (n:Nat),K.lookup a = some o/\o.cls = .type "tuple" /\ o.data = .seq its n/\its.size<=sizeLine/\Vals xs its.toList
def absV:Value->Option V
 | .none=>some .non
 | .bool b=>some (.bl b)
 | .int i _=>some (.int i)
 | .str x _=>some (.str x)
 | .bytes b _=>some (.byt b)
 | .float b _=>some (.flt b)
 | .ref a=>some (.ref a)
 | .type n=>some (.ty n)
 | _=>none
theorem RelV.abs {x:V} {u:Value} (r:RelV x u):absV u = some x:=by
 cases x with
 | non=>cases r; rfl
 | bl _=>cases r; rfl
 | int _=>obtain ⟨t,rfl⟩:=r; rfl
 | str _=>obtain ⟨t,rfl⟩:=r; rfl
 | byt _=>obtain ⟨t,rfl⟩:=r; rfl
 | flt _=>obtain ⟨t,rfl⟩:=r; rfl
 | ref _=>cases r; rfl
 | ty _=>cases r; rfl
theorem RelV.inj {x y:V} {u:Value} (r:RelV x u) (q:RelV y u):x = y:=Option.some.inj (r.abs.symm.trans q.abs)
theorem Vals.inj:∀ {xs ys:List V} {us:List Value},Vals xs us->Vals ys us->xs = ys
 | _,_,_,.nil,.nil=>rfl
 | _,_,_,.cons r t,.cons r' t'=>by rw [r.inj r',Vals.inj t t']
section
variable {X:Cx} {pins:List (Addr × Obj)} {σ:St} {H:Hp} {s:Shared} {a:Addr} {xs ys:List V}
theorem SqL.of {K:PySem.W.Frag} (h:H a = some (.lst xs)):SqL K H a xs:=.inl (.inl h)
theorem SqT.of {K:PySem.W.Frag} (h:H a = some (.tup xs)):SqT K H a xs:=.inl (.inl h)
theorem Inv.list (I:Inv X pins σ H s) (h:SqL X.K H a xs):∃ its:List Value,Vals xs its/\PlainL s.heap a its.toArray/\xs.length<=sizeLine:=by
 rcases h with h | ⟨o,its,n,hk,hc,hd,hs,hz,r⟩
 ·obtain ⟨z,its,n,r,e⟩:=h.ok I.hok
  exact ⟨its,r,⟨_,n,e,rfl,rfl,rfl⟩,z⟩
 ·refine ⟨its.toList,r,⟨o,n,I.kIn a o hk,hc,hd,by simpa using hs⟩,?_⟩
  have e:=r.length
  simp only [Array.length_toList] at e
  omega
theorem Inv.tuple (I:Inv X pins σ H s) (h:SqT X.K H a xs):∃ its:List Value,Vals xs its/\IsTup s.heap a its.toArray/\xs.length<=sizeLine:=by
 rcases h with h | ⟨o,its,n,hk,hc,hs,hz,r⟩
 ·obtain ⟨z,its,r,p⟩:=h.ok I.hok
  exact ⟨its,r,p,z⟩
 ·refine ⟨its.toList,r,⟨o,I.kIn a o hk,hc,n,by simpa using hs⟩,?_⟩
  have e:=r.length
  simp only [Array.length_toList] at e
  omega
theorem Inv.list_inj (I:Inv X pins σ H s) (h:SqL X.K H a xs) (h':SqL X.K H a ys):xs = ys:=by
 obtain ⟨its,r,⟨o,n,e,_,_,d⟩,_⟩:=I.list h
 obtain ⟨its',r',⟨o',n',e',_,_,d'⟩,_⟩:=I.list h'
 rw [e] at e'; cases e'
 rw [d] at d'
 injection d' with d1 _
 have:its = its':=by simpa using congrArg Array.toList d1
 subst this
 exact r.inj r'
end
abbrev Cx.wish (X:Cx) (E:Value->Shared->Prop):Cx:={ X with xe:=E }
abbrev Cx.nox (X:Cx):Cx:=X.wish fun _ _=>False
theorem Cx.Ok.wish {X:Cx} (ok:X.Ok) (E:Value->Shared->Prop):(X.wish E).Ok:=
 ⟨ok.mod,ok.kind,ok.glob,ok.blt,ok.above,ok.inj,ok.has,ok.cab,ok.hd,ok.frames,ok.stk,ok.exf,ok.bs,ok.bsz,ok.noex,ok.exfs,ok.funs,ok.frf,ok.top⟩
theorem Cx.Ok.unwish {X:Cx} {E:Value->Shared->Prop} (ok:(X.wish E).Ok):X.Ok:=
 ⟨ok.mod,ok.kind,ok.glob,ok.blt,ok.above,ok.inj,ok.has,ok.cab,ok.hd,ok.frames,ok.stk,ok.exf,ok.bs,ok.bsz,ok.noex,ok.exfs,ok.funs,ok.frf,ok.top⟩
section
variable {X:Cx} {pins:List (Addr × Obj)} {σ:St} {H:Hp} {s:Shared} {E:Value->Shared->Prop}
theorem Inv.wish (I:Inv X pins σ H s) (E:Value->Shared->Prop):Inv (X.wish E) pins σ H s:=⟨I.ok.wish E,I.os,I.bare,I.base,I.loc,I.cell,I.free,I.freeC,I.pin,I.hok,I.len⟩
theorem Inv.unwish (I:Inv (X.wish E) pins σ H s):Inv X pins σ H s:=⟨I.ok.unwish,I.os,I.bare,I.base,I.loc,I.cell,I.free,I.freeC,I.pin,I.hok,I.len⟩
theorem SP.unwish {D:Ends} {f:Flow} {s':Shared} (h:SP (X.wish E) pins D f s'):SP X pins D f s':=by
 cases f with
 | next=>obtain ⟨σ',H',I,q⟩:=h; exact ⟨σ',H',I.unwish,q⟩
 | brk=>obtain ⟨σ',H',I,q⟩:=h; exact ⟨σ',H',I.unwish,q⟩
 | cont=>obtain ⟨σ',H',I,q⟩:=h; exact ⟨σ',H',I.unwish,q⟩
 | ret u=>obtain ⟨v,σ',H',I,r,q⟩:=h; exact ⟨v,σ',H',I.unwish,r,q⟩
theorem PSs.nox {st:List Stmt} {t:TS} (h:PSs X.nox st t):PSs X st t:=fun pins s σ H D I hw=>
 wpAny_mono (h pins s σ H D (I.wish _) hw) (fun _ _ q=>q.unwish) fun _ _ z=>False.elim z
end
section
variable {X:Cx} {st:Stmt} {rest:List Stmt} {t u:TS} {e:Expr} {te:TE} {pos:Pos}
def tNext:TS:=fun D σ H=>D.nx σ H
def Zkt (t u:TS):TS:=fun D σ H=>t { D with nx:=u D } σ H
theorem Zav:PSs X [] tNext:=fun _ _ σ H _ I h=>wpAny_execs_nil ⟨σ,H,I,h⟩
theorem Zab (h1:PS X st t) (h2:PSs X rest u):PSs X (st :: rest) (Zkt t u):=by
 intro pins s σ H D I h
 refine wpAny_execs_cons (thn (h1 pins s σ H { D with nx:=u D } I h) fun f s1 q=>?_)
 cases f with
 | next=>
  obtain ⟨σ',H',I',q⟩:=q
  exact h2 pins s1 σ' H' D I' q
 | ret v=>exact q
 | brk=>exact q
 | cont=>exact q
theorem Zaf (h1:PS X st t):PSs X [st] t:=by
 intro pins s σ H D I h
 refine wpAny_execs_cons (thn (h1 pins s σ H D I h) fun f s1 q=>?_)
 cases f with
 | next=>exact wpAny_execs_nil q
 | ret v=>exact q
 | brk=>exact q
 | cont=>exact q
def tCont:TS:=fun D σ H=>D.ct σ H
theorem Zk6:PS X (.Continue pos) tCont:=fun _ _ σ H _ I h=>wpAny_Continue ⟨σ,H,I,h⟩
theorem Inv.quiet {pins:List (Addr × Obj)} {σ:St} {H:Hp} {s:Shared} (I:Inv X pins σ H s):interactive X.env = false:=by simp [interactive,I.ok.kind]
def tDrop (te:TE):TS:=fun D σ H=>te σ H fun _ H1=>D.nx σ H1
theorem Zeg (he:PE X e te) (hs:swapsWith e none pos.line X.env = pure false:=by rfl):PS X (.Expr e pos) (tDrop te):=by
 intro pins s σ H D I h
 exact wpAny_Expr_any (thn (he pins s σ H _ I h) fun v s1 ⟨x,H1,I1,r1,q1⟩=>⟨σ,H1,I1,q1⟩) I.quiet hs
def tRet (te:TE):TS:=fun D σ H=>te σ H D.rt
theorem Zaj (he:PE X e te):PS X (.Return (some e) pos) (tRet te):=by
 intro pins s σ H D I h
 exact wpAny_Return_some (thn (he pins s σ H _ I h) fun v s1 ⟨x,H1,I1,r1,q1⟩=>⟨x,σ,H1,I1,r1,q1⟩)
def tRetN:TS:=fun D _ H=>D.rt .non H
def tIfS (c:TT) (t u:TS):TS:=fun D σ H=>c σ H fun b H1=>if b = true then t D σ H1 else u D σ H1
theorem Zbf {c:Expr} {a b:List Stmt} {tc:TT} (hc:PT X c tc) (ha:PSs X a t) (hb:PSs X b u):PS X (.If c a b pos) (tIfS tc t u):=by
 intro pins s σ H D I h
 refine wpAny_If (thn (hc pins s σ H _ I h) fun d s1 ⟨H1,I1,q1⟩=>?_)
 cases d with
 | true=>exact ha pins s1 σ H1 D I1 q1
 | false=>exact hb pins s1 σ H1 D I1 q1
def tNever:TS:=fun _ _ _=>False
theorem Zgn:PS X st tNever:=fun _ _ _ _ _ _ h=>h.elim
end
abbrev TG:=V->St->Hp->(St->Hp->Prop)->Prop
abbrev TGs:=List V->St->Hp->(St->Hp->Prop)->Prop
def PG (X:Cx) (target:Expr) (t:TG):Prop:=
 ∀ (pins:List (Addr × Obj)) (s:Shared) (σ:St) (H:Hp) (v:V) (u:Value) (Q:St->Hp->Prop),Inv X pins σ H s->RelV v u->t v σ H Q->
  wpAny (model X.prog X.w) X.A (assign target X.env u) (fun _ s'=>∃ σ' H',Inv X pins σ' H' s'/\Q σ' H') X.xe s
def PGs (X:Cx) (ts:List Expr) (t:TGs):Prop:=
 ∀ (pins:List (Addr × Obj)) (s:Shared) (σ:St) (H:Hp) (vs:List V) (us:List Value) (Q:St->Hp->Prop),Inv X pins σ H s->Vals vs us->t vs σ H Q->
  wpAny (model X.prog X.w) X.A (assignInOrder ((assignEach ts X.env).map (·.2)) us) (fun _ s'=>∃ σ' H',Inv X pins σ' H' s'/\Q σ' H') X.xe s
abbrev TSet:=V->V->V->Hp->(Hp->Prop)->Prop
def PSet (X:Cx) (t:TSet):Prop:=
 ∀ (pins:List (Addr × Obj)) (s:Shared) (σ:St) (H:Hp) (o i v:V) (ov iv u:Value) (Q:Hp->Prop),Inv X pins σ H s->RelV o ov->RelV i iv->RelV v u->t o i v H Q->
  wpAny (model X.prog X.w) X.A (setItem ov iv u) (fun _ s'=>∃ H',Inv X pins σ H' s'/\Q H') X.xe s
abbrev TIp:=V->V->Hp->VK->Prop
section
variable {X:Cx} {pos:Pos}
def Zc8 (i:Nat):TG:=fun v σ H Q=>Q (σ.set i (some v)) H
theorem Zah {i:Nat} {x:Str} (hN:X.N.Nodup) (hi:X.N[i]? = some x) (hx:Loc X.env.scope x) (hf:X.fn x = true\/X.env.scope.names.lookup x = some .local:=by first | exact .inl rfl | exact .inr rfl | assumption):PG X (.Name x pos) (Zc8 i):=by
 intro pins s σ H v u Q I r h
 exact wpAny_assign_Name (Zgm I hN hi hx r (fun s' I'=>⟨_,H,I',h⟩) hf)
def gNil:TGs:=fun vs σ H Q=>vs = []/\Q σ H
def Zkc (t:TG) (u:TGs):TGs:=fun vs σ H Q=>∃ v r,vs = v :: r/\t v σ H fun σ' H'=>u r σ' H' Q
theorem Zba:PGs X [] gNil:=by
 intro pins s σ H vs us Q I r h
 obtain ⟨e,h⟩:=h
 subst e
 cases r
 exact assignInOrder_nil ⟨σ,H,I,h⟩
theorem Zai {e:Expr} {es:List Expr} {t:TG} {u:TGs} (h1:PG X e t) (h2:PGs X es u)
  (hs:(assignEach (e :: es) X.env).map (·.2) = assign e X.env :: (assignEach es X.env).map (·.2):=by rfl):PGs X (e :: es) (Zkc t u):=by
 intro pins s σ H vs us Q I r h
 obtain ⟨v,vr,e1,h⟩:=h
 subst e1
 cases r with
 | cons r rr=>
  rw [hs]
  refine assignInOrder_cons (thn (h1 pins s σ H _ _ _ I r h) fun _ s1 ⟨σ1,H1,I1,q1⟩=>?_)
  exact h2 pins s1 σ1 H1 _ _ Q I1 rr q1
def gTup (K:PySem.W.Frag) (n:Nat) (t:TGs):TG:=fun v σ H Q=>∃ a xs,v = .ref a/\SqT K H a xs/\xs.length = n/\t xs σ H Q
theorem Zch {es:List Expr} {k:Nat} {t:TGs} {n:Nat} (hc:X.calm = true) (h:PGs X es t)
  (hn:(assignEach es X.env).length = n:=by rfl) (hst:(assignEach es X.env).findIdx? (·.1) = none:=by rfl):PG X (.Tuple es k pos) (gTup X.K n t):=by
 intro pins s σ H v u Q I r hw
 obtain ⟨a,xs,e1,hq,hl,hw⟩:=hw
 subst e1
 cases r
 obtain ⟨its,rv,ht,hz⟩:=I.tuple hq
 refine assign_Tuple_tuple (I.ok.hd hc) ht (by simp [hn,<- hl,rv.length]) hst fun h' hx=>?_
 have I1:Inv X pins σ H { s with heap:=h' }:=I.kept (t':=s.toks) fun b o e=>hx b o (Nat.ne_of_lt (Heap.lt_size e)) e
 exact h pins _ σ H xs _ Q I1 (by simpa using rv) hw
def gSub (to ti:TE) (t:TSet):TG:=fun v σ H Q=>to σ H fun o H1=>ti σ H1 fun i H2=>t o i v H2 fun H3=>Q σ H3
theorem Zfd {o i:Expr} {to ti:TE} {t:TSet} (ho:PE X o to) (hi:PE X i ti) (hs:PSet X t)
  (ha:∀ v,assign (.Subscript o i pos) X.env v = (do
   let ov <- holding [v] (eval o X.env)
   let iv <- holding [v,ov] (eval i X.env)
   standAt pos
   holding [v,ov,iv] (setItem ov iv v)
   release [v,ov,iv] []):=by intro _; rfl):PG X (.Subscript o i pos) (gSub to ti t):=by
 intro pins s σ H v u Q I r h
 rw [ha]
 refine wpAny_bind (wpAny_holding (thn (ho pins s σ H _ I h) fun ov s1 ⟨x,H1,I1,r1,q1⟩=>?_))
 refine wpAny_bind (wpAny_holding (thn (hi pins s1 σ H1 _ I1 q1) fun iv s2 ⟨y,H2,I2,r2,q2⟩=>?_))
 refine wpAny_bind (wpAny_standAt (wpAny_bind (wpAny_holding (thn (hs pins s2 σ H2 x y v ov iv u _ I2 r1 r2 r q2) fun _ s3 ⟨H3,I3,q3⟩=>?_))))
 exact wpAny_release ⟨σ,H3,I3,q3⟩
def tAsg (te:TE) (g:TG):TS:=fun D σ H=>te σ H fun x H1=>g x σ H1 D.nx
theorem Zb2 {tg e:Expr} {te:TE} {g:TG} (he:PE X e te) (hg:PG X tg g) (hs:swapsWithSole [tg] e pos.line X.env = pure false:=by rfl) (hw:swappedStores [tg] e X.env = pure none:=by rfl)
  (h1:(assignEach [tg] X.env).map (·.2) = [assign tg X.env]:=by rfl):PS X (.Assign [tg] e pos) (tAsg te g):=by
 intro pins s σ H D I h
 refine wpAny_Assign_stores (thn (he pins s σ H _ I h) fun v s1 ⟨x,H1,I1,r1,q1⟩=>?_) hs hw
 rw [h1]
 exact thn (hg pins s1 σ H1 x v _ I1 r1 q1) fun _ s2 q=>q
theorem Zax {i:Nat} {x:Str} {e:Expr} {te:TE} {pos':Pos} (hN:X.N.Nodup) (hi:X.N[i]? = some x) (hx:Loc X.env.scope x) (he:PE X e te) (hs:swapsWith e (some (.Name x pos')) pos.line X.env = pure false:=by rfl) (hf:X.fn x = true\/X.env.scope.names.lookup x = some .local:=by first | exact .inl rfl | exact .inr rfl | assumption):
  PS X (.Assign [.Name x pos'] e pos) (tAsg te (Zc8 i)):=by
 intro pins s σ H D I h
 refine wpAny_Assign_Name (thn (he pins s σ H _ I h) fun v s1 ⟨y,H1,I1,r1,q1⟩=>?_) hs
 exact Zgm I1 hN hi hx r1 (fun s2 I2=>⟨_,H1,I2,q1⟩) hf
def tPar (i j:Nat) (ta:TA):TS:=fun D σ H=>ta σ H fun vs H1=>∃ v w,vs = [v,w]/\D.nx ((σ.set i (some v)).set j (some w)) H1
theorem Zhd {i j:Nat} {x y:Str} {a b:Expr} {ta:TA} {px py pt:Pos} {kt k2 pt2} (hc:X.calm = true) (hN:X.N.Nodup) (hi:X.N[i]? = some x) (hj:X.N[j]? = some y) (hij:i ≠ j)
  (hx:X.env.scope.names.lookup x = some .local) (hy:X.env.scope.names.lookup y = some .local) (ha:PA X [a,b] ta)
  (hw:swappedStores [.Tuple [.Name x px,.Name y py] kt pt] (.Tuple [a,b] k2 pt2) X.env = pure (some [x,y]))
  (hs:swapsWithSole [.Tuple [.Name x px,.Name y py] kt pt] (.Tuple [a,b] k2 pt2) pos.line X.env = pure false:=by rfl):
  PS X (.Assign [.Tuple [.Name x px,.Name y py] kt pt] (.Tuple [a,b] k2 pt2) pos) (tPar i j ta):=by
 intro pins s σ H D I h
 rw [exec_Assign_arm]
 refine wpAny_bind (wpAny_standAt ?_)
 rw [hs]
 refine wpAny_bind (wpAny_pure ?_)
 rw [if_neg (by decide)]
 refine wpAny_bind (Tuple_ (thn (ha _ pins s σ H _ I h) fun us s1 ⟨vs,H1,I1,r1,q1⟩=>?_))
 obtain ⟨v,w,e1,q1⟩:=q1
 subst e1
 obtain ⟨u1,u2,rfl,rv,rw'⟩:∃ u1 u2,us = [u1,u2]/\RelV v u1/\RelV w u2:=by
  cases r1 with
  | cons p q=>
   cases q with
   | cons p' q'=>
    cases q'
    exact ⟨_,_,rfl,p,p'⟩
 refine wpAny_newObj_type ?_ (by show 2<=sizeLine; decide)
 have I2:Inv X pins σ H1 { s1 with heap:=s1.heap.push { cls:=.type "tuple",data:=.seq [u1,u2].toArray } }:=I1.kept (t':=s1.toks) fun b o e=>Heap.get?_push_of_some _ e
 rw [hw]
 refine wpAny_bind (wpAny_pure ?_)
 show wpAny (model X.prog X.w) X.A (do rule "assign.swapped-stores"; let items <- unpackItems (.ref s1.heap.objs.size) 2 none; assignInOrder [fun v=>bindName X.env y v,fun v=>bindName X.env x v] items.reverse; pure Flow.next) _ _ _
 refine wpAny_bind (wpAny_rule (wpAny_bind (unpackItems_tuple (items:=#[u1,u2]) (I.ok.hd hc) (IsTup.new s1.heap _) fun h' hx'=>?_)))
 have I3:=I2.kept (h':=h') (t':=s1.toks) fun b o e=>hx' b o (Nat.ne_of_lt (Heap.lt_size e)) e
 show wpAny _ _ (assignInOrder [fun v=>bindName X.env y v,fun v=>bindName X.env x v] [u2,u1] >>= fun _=>pure Flow.next) _ _ _
 refine wpAny_bind (assignInOrder_cons (wpAny_bindName (Zgm I3 hN hj (.inl hy) rw' (fun s2 I4=>?_) (.inr hy))))
 refine assignInOrder_cons (wpAny_bindName (Zgm I4 hN hi (.inl hx) rv (fun s3 I5=>assignInOrder_nil (wpAny_pure ?_)) (.inr hx)))
 rw [List.set_comm _ _ (Ne.symm hij)] at I5
 exact ⟨_,H1,I5,q1⟩
def tAug (i:Nat) (te:TE) (ti:TIp):TS:=fun D σ H=>∃ x,σ[i]? = some (some x)/\te σ H fun y H1=>ti x y H1 fun z H2=>D.nx (σ.set i (some z)) H2
def tAugS (to ti te:TE) (tget:V->V->Hp->VK->Prop) (tip:TIp) (tset:TSet):TS:=fun D σ H=>to σ H fun o H1=>ti σ H1 fun i H2=>tget o i H2 fun x H3=>te σ H3 fun y H4=>tip x y H4 fun z H5=>tset o i z H5 fun H6=>D.nx σ H6
def ipI (f:Int->Int->Int):TIp:=fun x y H Q=>∃ i j,x = .int i/\y = .int j/\Q (.int (f i j)) H
end
section
variable {X:Cx} {pos:Pos}
def tWhile (c:TT) (tb:TS):TS:=fun D σ H=>∃ W:Nat->St->Hp->Prop,(∃ m,W m σ H)/\∀ m σ H,W m σ H->
 c σ H fun b H1=>if b = true then ∃ N:St->Hp->Prop,(∀ σ' H',N σ' H'->∃ m',m' < m/\W m' σ' H')/\tb { D with nx:=N,ct:=N,bk:=D.nx } σ H1 else D.nx σ H1
theorem Zfs {c:Expr} {body:List Stmt} {tc:TT} {tb:TS} (hp:PassesOwn (model X.prog X.w) X.A X.env X.xe) (hc:PT X c tc) (hb:PSs X body tb):PS X (.While c body [] pos) (tWhile tc tb):=by
 intro pins s σ H D I h
 obtain ⟨W,⟨m0,w0⟩,turn⟩:=h
 refine wpAny_While (codeAny_whileLoop (fun n s'=>∃ σ' H',Inv X pins σ' H' s'/\W n σ' H') ?_ m0 ⟨σ,H,I,w0⟩)
 rintro n s1 ⟨σ1,H1,I1,w1⟩
 refine wpAny_passesOwn hp (thn (hc pins s1 σ1 H1 _ I1 (turn n σ1 H1 w1)) fun b s2 ⟨H2,I2,q2⟩=>?_)
 cases b with
 | true=>
  obtain ⟨N,hN,q2⟩:=q2
  rw [if_pos rfl]
  refine wpAny_passesOwn hp (thn (hb pins s2 σ1 H2 _ I2 q2) fun f s3 q3=>?_)
  cases f with
  | next=>
   obtain ⟨σ3,H3,I3,n3⟩:=q3
   obtain ⟨m',hm,w3⟩:=hN σ3 H3 n3
   exact ⟨m',hm,σ3,H3,I3,w3⟩
  | cont=>
   obtain ⟨σ3,H3,I3,n3⟩:=q3
   obtain ⟨m',hm,w3⟩:=hN σ3 H3 n3
   exact ⟨m',hm,σ3,H3,I3,w3⟩
  | brk=>exact q3
  | ret v=>exact q3
 | false=>
  rw [if_neg Bool.false_ne_true]
  exact wpAny_execs_nil ⟨σ1,H2,I2,q2⟩
end
structure It where
 go:Nat->Hp->Prop
 yld:Nat->Hp->V->Hp->Prop
 stop:Nat->Hp->Prop
def FpOk (X:Cx) (pins:List (Addr × Obj)) (H:Hp) (b:Addr):Prop:=
 H b = none/\b ≠ X.env.locals/\b ∉ X.fs/\(b ∈ X.ex\/X.s₀.heap.objs.size<=b)/\(∀ x c,X.env.cells.lookup x = some c->c ≠ b)/\∀ p ∈ X.pn ++ pins,p.1 ≠ b
theorem Inv.fpOk {X:Cx} {pins:List (Addr × Obj)} {σ:St} {H H':Hp} {s:Shared} {b:Addr} (I:Inv X pins σ H s) (hb:s.heap.objs.size<=b) (hn:H' b = none):FpOk X pins H' b:=by
 refine ⟨hn,Nat.ne_of_gt (Nat.lt_of_lt_of_le I.lt hb),I.nofs hb,.inr (Nat.le_trans I.sz hb),fun x c e z=>?_,fun p hp z=>?_⟩
 ·obtain ⟨v,q⟩:=I.cell x c e
  exact absurd (Nat.lt_of_lt_of_le q.lt (by rw [z]; exact hb)) (Nat.lt_irrefl _)
 ·exact absurd (Nat.lt_of_lt_of_le (Heap.lt_size (I.pin p hp).1) (by rw [z]; exact hb)) (Nat.lt_irrefl _)
structure Turn (P:Program) (w:World) (K:PySem.W.Frag) (tg:Expr) (J:It) (fp:List Addr) (it:Addr) (tn:Nat->Heap->Prop):Prop where
 mem:it ∈ fp
 obj:∀ i h,tn i h->∀ b ∈ fp,∃ o,h.get? b = some o/\∀ v,o.data ≠ .cell v
 keep:∀ i h h',tn i h->(∀ b ∈ fp,∀ o,h.get? b = some o->h'.get? b = some o)->tn i h'
 item:∀ (X:Cx),X.prog = P->X.w = w->X.K = K->X.calm = true->∀ (i:Nat) (pins:List (Addr × Obj)) (s:Shared) (σ:St) (H:Hp) (E:Value->Shared->Prop),Inv X pins σ H s->(∀ b ∈ fp,FpOk X pins H b)->tn i s.heap->J.go i H->
  wpAny (model P w) X.A (pyNext (.ref it)) (fun r s1=>∃ u,r = some u /\
   wpAny (model P w) X.A (letOwnedTupleGo tg (.ref it) u) (fun _ s2=>∃ x H',Inv X pins σ H' s2/\RelV x u/\J.yld i H x H'/\tn (i + 1) s2.heap/\∀ b ∈ fp,H' b = none) E s1) E s
 done:∀ (X:Cx),X.prog = P->X.w = w->X.K = K->X.calm = true->∀ (i:Nat) (pins:List (Addr × Obj)) (s:Shared) (σ:St) (H:Hp) (E:Value->Shared->Prop),Inv X pins σ H s->(∀ b ∈ fp,FpOk X pins H b)->tn i s.heap->J.stop i H->
  wpAny (model P w) X.A (pyNext (.ref it)) (fun r s1=>r = none/\Inv X pins σ H s1) E s
 self:∀ (A:Around) (i:Nat) (s:Shared) (Q:Value->Shared->Prop) (E:Value->Shared->Prop),tn i s.heap->Q (.ref it) s->wpAny (model P w) A (pyIter (.ref it)) Q E s
abbrev TI:=St->Hp->(It->Hp->Prop)->Prop
def PIE (X:Cx) (pins:List (Addr × Obj)) (σ:St) (tg:Expr) (R:It->Hp->Prop) (itv:Value) (s2:Shared):Prop:=
 ∃ (it:Addr) (fp:List Addr) (tn:Nat->Heap->Prop) (J:It) (H':Hp),itv = .ref it/\Inv X pins σ H' s2/\Turn X.prog X.w X.K tg J fp it tn/\tn 0 s2.heap/\(∀ b ∈ fp,FpOk X pins H' b)/\R J H'
def PI (X:Cx) (tg iter:Expr) (wi:TI):Prop:=
 ∀ (pins:List (Addr × Obj)) (s:Shared) (σ:St) (H:Hp) (R:It->Hp->Prop),Inv X pins σ H s->wi σ H R->
  wpAny (model X.prog X.w) X.A (eval iter X.env) (fun v s1=>wpAny (model X.prog X.w) X.A (pyIter v) (PIE X pins σ tg R) X.xe s1) X.xe s
theorem go_of {M:Model} {A:Around} {E:Value->Shared->Prop} {s:Shared} {tg:Expr} {it:Addr} {u:Value} {o:Obj} {n:String} {vs:Array Value} {Q:Unit->Shared->Prop} (ho:s.heap.get? it = some o) (hc:o.cls = .type n) (hd:o.data = .fields vs)
  (hn:["enumerate","zip","dict_itemiterator","dict_reverseitemiterator","odict_iterator","itertools.zip_longest","itertools.pairwise"].contains n = false) (hQ:Q () s):wpAny M A (letOwnedTupleGo tg (.ref it) u) Q E s:=by
 unfold letOwnedTupleGo
 cases tg <;> first
  | exact wpAny_pure hQ
  | (cases u <;> first
    | exact wpAny_pure hQ
    | (refine wpAny_bind (wpAny_load ho ?_); rw [hc,hd]; show wpAny M A (if (["enumerate","zip","dict_itemiterator","dict_reverseitemiterator","odict_iterator","itertools.zip_longest","itertools.pairwise"].contains n && vs[0]? == some (rawInt _)) = true then _ else _) Q E s; rw [if_neg (by intro h; rw [hn,Bool.false_and] at h; cases h)]; exact wpAny_pure hQ))
def Itl (K:PySem.W.Frag) (a:Addr):It:=
 ⟨fun i H=>∃ xs x,SqL K H a xs/\xs[i]? = some x,fun i H x H'=>H' = H/\∀ xs,SqL K H a xs->xs[i]? = some x,fun i H=>∃ xs,SqL K H a xs/\xs.length<=i⟩
def Itt (K:PySem.W.Frag) (a:Addr):It:=
 ⟨fun i H=>∃ xs x,SqT K H a xs/\xs[i]? = some x,fun i H x H'=>H' = H/\∀ xs,SqT K H a xs->xs[i]? = some x,fun i H=>∃ xs,SqT K H a xs/\xs.length<=i⟩
def Itr (lo:Int) (n:Nat):It:=⟨fun i _=>i < n,fun i H x H'=>H' = H/\x = .int (lo + i),fun i _=>n<=i⟩
theorem Znd {P:Program} {w:World} {K:PySem.W.Frag} {tg:Expr} (a it:Addr):Turn P w K tg (Itl K a) [it] it (fun i h=>h.IsListIter it a i) where
 mem:=by simp
 obj:=fun i h st b hb=>by
  have e:b = it:=by simpa using hb
  subst e
  obtain ⟨o,e,c,d⟩:=st
  exact ⟨o,e,fun v z=>by rw [d] at z; cases z⟩
 keep:=fun i h h' st k=>st.at fun o e=>k it (by simp) o e
 item:=by
  intro X hP hw hK hc i pins s σ H E I hf st hg
  subst hP hw hK
  obtain ⟨xs,x,hq,hx⟩:=hg
  obtain ⟨its,rv,p,hz⟩:=I.list hq
  obtain ⟨u,hu,ru⟩:=rv.get hx
  obtain ⟨f0,f1,f2,f3,f4,f5⟩:=hf it (by simp)
  refine wpAny_pyNext_list_item st p.isList (x:=u) (by simpa using hu) fun h' st' sb=>?_
  have I1:Inv X pins σ H { s with heap:=h' }:=I.turned (t':=s.toks) (fun b o hb e=>(sb.2 b hb).trans e) f0 f1 f3 f4 f5
  obtain ⟨o,e,c,d⟩:=id st'
  exact ⟨u,rfl,go_of (s:={ s with heap:=h' }) e c d (by decide) ⟨x,H,I1,ru,⟨rfl,fun ys hy=>by rw [I.list_inj hy hq]; exact hx⟩,st',fun b hb=>(hf b hb).1⟩⟩
 done:=by
  intro X hP hw hK hc i pins s σ H E I hf st hg
  subst hP hw hK
  obtain ⟨xs,hq,hx⟩:=hg
  obtain ⟨its,rv,p,hz⟩:=I.list hq
  obtain ⟨f0,f1,f2,f3,f4,f5⟩:=hf it (by simp)
  have hl:=rv.length
  exact wpAny_pyNext_list_end (I.ok.hd hc) st p.isList (by simp; omega) fun h' eb=>⟨rfl,I.turned (t':=s.toks) (fun b o hb e=>eb b o hb e) f0 f1 f3 f4 f5⟩
 self:=fun _ _ _ _ _ st h=>wpAny_pyIter_listiter st h
theorem Zmr {P:Program} {w:World} {K:PySem.W.Frag} {tg:Expr} (it:Addr) (lo:Int) (n:Nat):Turn P w K tg (Itr lo n) [it] it (fun i h=>IsRangeIter h it (lo + (i:Nat) * 1) ((n:Int) - (i:Nat)) 1) where
 mem:=by simp
 obj:=fun i h st b hb=>by
  have e:b = it:=by simpa using hb
  subst e
  exact ⟨_,st,fun v z=>by
   have z':Data.fields _ = Data.cell v:=z
   cases z'⟩
 keep:=fun i h h' st k=>k it (by simp) _ st
 item:=by
  intro X hP hw hK hc i pins s σ H E I hf st hg
  subst hP hw hK
  obtain ⟨f0,f1,f2,f3,f4,f5⟩:=hf it (by simp)
  have W:=Walks.range (prog:=X.prog) (w:=X.w) (I.ok.hd hc) it lo 1 n
  refine W.item i s _ _ hg st fun v h' tk hv st' kk=>?_
  obtain ⟨t,rfl⟩:=hv
  have I1:Inv X pins σ H { s with heap:=h',toks:=tk }:=I.turned (fun b o hb e=>kk b o (by simpa using hb) e) f0 f1 f3 f4 f5
  refine ⟨_,rfl,go_of (s:={ s with heap:=h',toks:=tk }) (n:="range_iterator") st' rfl rfl (by decide) ⟨.int (lo + i),H,I1,⟨t,?_⟩,⟨rfl,rfl⟩,st',fun b hb=>(hf b hb).1⟩⟩
  rw [Int.mul_one]
 done:=by
  intro X hP hw hK hc i pins s σ H E I hf st hg
  subst hP hw hK
  obtain ⟨f0,f1,f2,f3,f4,f5⟩:=hf it (by simp)
  exact wpAny_pyNext_range_end (I.ok.hd hc) st (by have:n<=i:=hg; omega) fun h' eb=>⟨rfl,I.turned (t':=s.toks) (fun b o hb e=>eb b o hb e) f0 f1 f3 f4 f5⟩
 self:=fun _ _ _ _ _ st h=>wpAny_pyIter_rangeiter st h
section
variable {X:Cx} {tg:Expr}
def iList (K:PySem.W.Frag) (tl:TE):TI:=fun σ H R=>tl σ H fun x H1=>∃ a,x = .ref a/\(∃ xs,SqL K H1 a xs)/\R (Itl K a) H1
def iTup (K:PySem.W.Frag) (tl:TE):TI:=fun σ H R=>tl σ H fun x H1=>∃ a,x = .ref a/\(∃ xs,SqT K H1 a xs)/\R (Itt K a) H1
theorem Zbt {l:Expr} {tl:TE} (hl:PE X l tl):PI X tg l (iList X.K tl):=by
 intro pins s σ H R I h
 refine thn (hl pins s σ H _ I h) fun v s1 ⟨x,H1,I1,r1,q1⟩=>?_
 obtain ⟨a,e,⟨xs,hq⟩,q⟩:=q1
 subst e
 cases r1
 obtain ⟨its,rv,p,hz⟩:=I1.list hq
 refine wpAny_pyIter_list p.isList ?_
 refine ⟨s1.heap.objs.size,[s1.heap.objs.size],_,_,H1,rfl,I1.kept (t':=s1.toks) fun b o e=>Heap.get?_push_of_some _ e,Znd a _,⟨_,Heap.get?_push_size _ rfl,rfl,rfl⟩,fun b hb=>?_,q⟩
 have e:b = s1.heap.objs.size:=by simpa using hb
 subst e
 exact I1.fpOk (Nat.le_refl _) (I1.hok.fresh (Nat.le_refl _))
theorem Zl7 {pins:List (Addr × Obj)} {σ:St} {H:Hp} {s:Shared} {R:It->Hp->Prop} {E:Value->Shared->Prop} {lo hi:Int} {t u v:Tok} {tk:Nat} (I:Inv X pins σ H s) (h1:-(2 ^ 62)<=lo) (h2:lo < 2 ^ 62) (h3:-(2 ^ 62)<=hi) (h4:hi < 2 ^ 62)
  (q:R (Itr lo (hi - lo).toNat) H):wpAny (model X.prog X.w) X.A (pyIter (.ref s.heap.objs.size)) (PIE X pins σ tg R) E { s with heap:=s.heap.push { cls:=.type "range",data:=.fields #[.int lo t,.int hi u,.int 1 v] },toks:=tk }:=by
 refine wpAny_pyIter_range (IsRange.new ..) (small_one h1 h2 h3 h4) ?_
 have I1:Inv X pins σ H { s with heap:=s.heap.push { cls:=.type "range",data:=.fields #[.int lo t,.int hi u,.int 1 v] },toks:=tk }:=I.kept fun b o e=>Heap.get?_push_of_some _ e
 refine ⟨(s.heap.push { cls:=.type "range",data:=.fields #[.int lo t,.int hi u,.int 1 v] }).objs.size,[(s.heap.push { cls:=.type "range",data:=.fields #[.int lo t,.int hi u,.int 1 v] }).objs.size],_,_,H,rfl,
  I1.kept (t':=tk) fun b o e=>Heap.get?_push_of_some _ e,Zmr _ lo (hi - lo).toNat,?_,fun b hb=>?_,q⟩
 ·have e1:lo + ((0:Nat):Int) * 1 = lo:=by simp
  have e2:(((hi - lo).toNat:Nat):Int) - ((0:Nat):Int) = Builtin.Range.rangeSize lo hi 1:=by rw [rangeSize_one]; split <;> omega
  show IsRangeIter _ _ (lo + ((0:Nat):Int) * 1) ((((hi - lo).toNat:Nat):Int) - ((0:Nat):Int)) 1
  rw [e1,e2]
  exact Heap.get?_push_size _ rfl
 ·have e:b = (s.heap.push { cls:=.type "range",data:=.fields #[.int lo t,.int hi u,.int 1 v] }).objs.size:=by simpa using hb
  subst e
  exact I1.fpOk (Nat.le_refl _) (I1.hok.fresh (Nat.le_refl _))
def iRng1 (ta:TA):TI:=fun σ H R=>ta σ H fun vs H1=>∃ j:Int,vs = [.int j]/\-(2 ^ 62)<=j/\j < 2 ^ 62/\R (Itr 0 j.toNat) H1
def iRng2 (ta:TA):TI:=fun σ H R=>ta σ H fun vs H1=>∃ i j:Int,vs = [.int i,.int j]/\(-(2 ^ 62)<=i/\i < 2 ^ 62/\-(2 ^ 62)<=j/\j < 2 ^ 62)/\R (Itr i (j - i).toNat) H1
theorem Zn3 {a:Expr} {ta:TA} {p pos:Pos} (hg:Gl X "range") (hm:X.mg "range" = none) (ha:PA X [a] ta) (hs:starEach [a] X.env = [(false,eval a X.env)]:=by rfl):PI X tg (.Call (.Name "range" p) [a] [] pos) (iRng1 ta):=by
 intro pins s σ H R I h
 refine Call_ (Zew I hg hm boot_range (PyProof.Rows.callWith_type1 (thn (ha pos pins s σ H _ I h) fun us s1 ⟨vs,H1,I1,r1,q1⟩=>?_) hs rfl))
 obtain ⟨j,e,q1,q2,q⟩:=q1
 subst e
 cases r1 with
 | cons r rr=>
  cases rr
  obtain ⟨t,rfl⟩:=r
  exact call_range_1 (Zl7 I1 (by omega) (by omega) q1 q2 (by simpa using q))
theorem Zn2 {a b:Expr} {ta:TA} {p pos:Pos} (hg:Gl X "range") (hm:X.mg "range" = none) (ha:PA X [a,b] ta) (hs:starEach [a,b] X.env = [(false,eval a X.env),(false,eval b X.env)]:=by rfl) (hs2:starEach [b] X.env = [(false,eval b X.env)]:=by rfl):
  PI X tg (.Call (.Name "range" p) [a,b] [] pos) (iRng2 ta):=by
 intro pins s σ H R I h
 refine Call_ (Zew I hg hm boot_range (PyProof.Rows.callWith_type1 (thn (ha pos pins s σ H _ I h) fun us s1 ⟨vs,H1,I1,r1,q1⟩=>?_) (by rw [hs,hs2]) (by rw [hs2]; rfl)))
 obtain ⟨i,j,e,⟨q1,q2,q3,q4⟩,q⟩:=q1
 subst e
 cases r1 with
 | cons r rr=>
  cases rr with
  | cons r' rr=>
   cases rr
   obtain ⟨t,rfl⟩:=r
   obtain ⟨t',rfl⟩:=r'
   exact call_range_2 (Zl7 I1 q1 q2 q3 q4 q)
def tFor (wi:TI) (g:TG) (tb:TS):TS:=fun D σ H=>wi σ H fun J H1=>∃ W:Nat->Nat->St->Hp->Prop,(∃ m,W 0 m σ H1)/\∀ i m σ H,W i m σ H->
 (J.stop i H/\D.nx σ H)\/(J.go i H/\∃ N:St->Hp->Prop,(∀ σ' H',N σ' H'->∃ m',m' < m/\W (i + 1) m' σ' H')/\∀ x H',J.yld i H x H'->g x σ H' fun σ2 H2=>tb { D with nx:=N,ct:=N,bk:=D.nx } σ2 H2)
def Zjx (fp:List Addr) (h:Heap):List (Addr × Obj):=fp.filterMap fun b=>(h.get? b).map fun o=>(b,o)
theorem Zec {fp:List Addr} {h:Heap} {b:Addr} {o:Obj} (hb:b ∈ fp) (e:h.get? b = some o):(b,o) ∈ Zjx fp h:=List.mem_filterMap.mpr ⟨b,hb,by rw [e]; rfl⟩
theorem Zoi {fp:List Addr} {h:Heap} {p:Addr × Obj} (hp:p ∈ Zjx fp h):p.1 ∈ fp/\h.get? p.1 = some p.2:=by
 obtain ⟨b,hb,e⟩:=List.mem_filterMap.mp hp
 cases q:h.get? b with
 | none=>rw [q] at e; cases e
 | some o=>
  rw [q] at e
  have e':(b,o) = p:=Option.some.inj e
  subst e'
  exact ⟨hb,q⟩
theorem Inv.pinned {pins:List (Addr × Obj)} {σ:St} {H:Hp} {s:Shared} {fp:List Addr} (I:Inv X pins σ H s) (hf:∀ b ∈ fp,FpOk X pins H b) (ho:∀ b ∈ fp,∃ o,s.heap.get? b = some o/\∀ v,o.data ≠ .cell v):Inv X (pins ++ Zjx fp s.heap) σ H s:=
 I.pins_of fun p hp=>(List.mem_append.mp hp).elim (fun z=>I.pin p (List.mem_append_right _ z)) fun z=>by
  obtain ⟨hb,e⟩:=Zoi z
  obtain ⟨f0,f1,f2,_⟩:=hf p.1 hb
  obtain ⟨o,e',d⟩:=ho p.1 hb
  rw [e] at e'; cases e'
  exact ⟨e,f0,f1,f2,d⟩
theorem Inv.unpinned {pins pl:List (Addr × Obj)} {σ:St} {H:Hp} {s:Shared} (I:Inv X (pins ++ pl) σ H s):Inv X pins σ H s:=I.pins_of fun p hp=>I.pin p (List.mem_append_right _ (List.mem_append_left _ hp))
theorem Zc3 {iter:Expr} {body:List Stmt} {wi:TI} {g:TG} {tb:TS} {pos:Pos} (hp:PassesOwn (model X.prog X.w) X.A X.env X.xe) (hc:X.calm = true) (hi:PI X tg iter wi) (hg:PG X tg g) (hb:PSs X body tb)
  (hs:∀ x,foldedSetIterable iter X.env x = pure x:=by intro _; rfl):PS X (.For tg iter body [] pos) (tFor wi g tb):=by
 intro pins s σ H D I h
 refine wpAny_For (thn (hi pins s σ H _ I h) fun v s1 h1=>thn h1 fun itv s2 h2=>?_) hs
 obtain ⟨it,fp,tn,J,H2,e,I2,T,st2,f2,W,⟨m0,w0⟩,turn⟩:=h2
 subst e
 -- what stays true of the iterator's objects Zin the loop
 have stat:∀ {H':Hp},(∀ b ∈ fp,H' b = none)->∀ b ∈ fp,FpOk X pins H' b:=fun hn b hb=>⟨hn b hb,(f2 b hb).2⟩
 refine codeAny_forLoop_any (fun n s'=>∃ i σ' H',Inv X pins σ' H' s'/\tn i s'.heap/\(∀ b ∈ fp,H' b = none)/\W i n σ' H') ?_ m0 ⟨0,σ,H2,I2,st2,fun b hb=>(f2 b hb).1,w0⟩
 rintro n s3 ⟨i,σ3,H3,I3,st3,fr3,w3⟩
 rcases turn i n σ3 H3 w3 with ⟨stop,qn⟩ | ⟨go,N,hN,step⟩
 ·refine wpAny_passesOwn hp (thn (T.done X rfl rfl rfl hc i pins s3 σ3 H3 X.xe I3 (stat fr3) st3 stop) fun r s4 ⟨hr,I4⟩=>?_)
  subst hr
  exact wpAny_execs_nil ⟨σ3,H3,I4,qn⟩
 ·refine wpAny_passesOwn hp (thn (T.item X rfl rfl rfl hc i pins s3 σ3 H3 X.xe I3 (stat fr3) st3 go) fun r s4 ⟨u,hr,h4⟩=>?_)
  subst hr
  refine wpAny_passesOwn hp (thn h4 fun _ s5 ⟨x,H5,I5,r5,y5,st5,fr5⟩=>?_)
  have I5':=I5.pinned (stat fr5) (T.obj _ _ st5)
  refine wpAny_passesOwn hp (thn (hg _ s5 σ3 H5 x u _ I5' r5 (step x H5 y5)) fun _ s6 ⟨σ6,H6,I6,q6⟩=>?_)
  refine wpAny_passesOwn hp (thn (hb _ s6 σ6 H6 _ I6 q6) fun f s7 q7=>?_)
  have again:∀ {σ7:St} {H7:Hp},Inv X (pins ++ Zjx fp s5.heap) σ7 H7 s7->N σ7 H7->∃ m,m < n/\∃ i σ' H',Inv X pins σ' H' s7/\tn i s7.heap/\(∀ b ∈ fp,H' b = none)/\W i m σ' H':=fun {σ7 H7} I7 n7=>by
   obtain ⟨m',hm,w7⟩:=hN σ7 H7 n7
   refine ⟨m',hm,i + 1,σ7,H7,I7.unpinned,T.keep _ _ _ st5 fun b hb o e=>(I7.pin (b,o) (List.mem_append_right _ (List.mem_append_right _ (Zec hb e)))).1,fun b hb=>?_,w7⟩
   obtain ⟨o,e,d⟩:=T.obj _ _ st5 b hb
   exact (I7.pin (b,o) (List.mem_append_right _ (List.mem_append_right _ (Zec hb e)))).2.1
  cases f with
  | next=>obtain ⟨σ7,H7,I7,n7⟩:=q7; exact again I7 n7
  | cont=>obtain ⟨σ7,H7,I7,n7⟩:=q7; exact again I7 n7
  | brk=>obtain ⟨σ7,H7,I7,q7⟩:=q7; exact ⟨σ7,H7,I7.unpinned,q7⟩
  | ret v=>obtain ⟨x7,σ7,H7,I7,r7,q7⟩:=q7; exact ⟨x7,σ7,H7,I7.unpinned,r7,q7⟩
end
theorem Zfu {K:PySem.W.Frag} {a:Addr} {xs:List V} {g:TG} {tb:TS} {D:Ends} {σ:St} {H:Hp} (Pv:Nat->St->Hp->Prop) (h0:Pv 0 σ H) (hl:∀ i σ H,i<=xs.length->Pv i σ H->SqL K H a xs)
  (hs:∀ i x σ H,xs[i]? = some x->Pv i σ H->g x σ H fun σ2 H2=>tb { D with nx:=Pv (i + 1),ct:=Pv (i + 1),bk:=D.nx } σ2 H2) (hd:∀ σ H,Pv xs.length σ H->D.nx σ H):
  ∃ W:Nat->Nat->St->Hp->Prop,(∃ m,W 0 m σ H)/\∀ i m σ H,W i m σ H->
   ((Itl K a).stop i H/\D.nx σ H)\/((Itl K a).go i H/\∃ N:St->Hp->Prop,(∀ σ' H',N σ' H'->∃ m',m' < m/\W (i + 1) m' σ' H')/\∀ x H',(Itl K a).yld i H x H'->g x σ H' fun σ2 H2=>tb { D with nx:=N,ct:=N,bk:=D.nx } σ2 H2):=by
 refine ⟨fun i m σ H=>m = xs.length - i/\i<=xs.length/\Pv i σ H,⟨xs.length,by simp,Nat.zero_le _,h0⟩,?_⟩
 rintro i m σ H ⟨rfl,hi,p⟩
 have q:=hl i σ H hi p
 by_cases hlt:i < xs.length
 ·refine .inr ⟨⟨xs,xs[i],q,by simp [hlt]⟩,Pv (i + 1),fun σ' H' p'=>⟨xs.length - (i + 1),by omega,rfl,hlt,p'⟩,fun x H' y=>?_⟩
  obtain ⟨e,y⟩:=y
  subst e
  exact hs i x σ _ (y xs q) p
 ·have e:i = xs.length:=by omega
  subst e
  exact .inl ⟨⟨xs,q,Nat.le_refl _⟩,hd σ H p⟩
theorem Zc9 {lo:Int} {n:Nat} {g:TG} {tb:TS} {D:Ends} {σ:St} {H:Hp} (Pv:Nat->St->Hp->Prop) (h0:Pv 0 σ H)
  (hs:∀ i σ H,i < n->Pv i σ H->g (.int (lo + i)) σ H fun σ2 H2=>tb { D with nx:=Pv (i + 1),ct:=Pv (i + 1),bk:=D.nx } σ2 H2) (hd:∀ σ H,Pv n σ H->D.nx σ H):
  ∃ W:Nat->Nat->St->Hp->Prop,(∃ m,W 0 m σ H)/\∀ i m σ H,W i m σ H->
   ((Itr lo n).stop i H/\D.nx σ H)\/((Itr lo n).go i H/\∃ N:St->Hp->Prop,(∀ σ' H',N σ' H'->∃ m',m' < m/\W (i + 1) m' σ' H')/\∀ x H',(Itr lo n).yld i H x H'->g x σ H' fun σ2 H2=>tb { D with nx:=N,ct:=N,bk:=D.nx } σ2 H2):=by
 refine ⟨fun i m σ H=>m = n - i/\i<=n/\Pv i σ H,⟨n,by simp,Nat.zero_le _,h0⟩,?_⟩
 rintro i m σ H ⟨rfl,hi,p⟩
 by_cases hlt:i < n
 ·refine .inr ⟨hlt,Pv (i + 1),fun σ' H' p'=>⟨n - (i + 1),by omega,rfl,hlt,p'⟩,fun x H' y=>?_⟩
  obtain ⟨e,y⟩:=y
  subst e y
  exact hs i σ _ hlt p
 ·have e:i = n:=by omega
  subst e
  exact .inl ⟨Nat.le_refl _,hd σ H p⟩
abbrev R2:=V->V->Hp->VK->Prop
def OpR (X:Cx) (f:Value->Value->Sem Value) (r:R2):Prop:=
 ∀ (pins:List (Addr × Obj)) (s:Shared) (σ:St) (H:Hp) (x y:V) (v u:Value) (Q:VK),Inv X pins σ H s->RelV x v->RelV y u->r x y H Q->
  wpAny (model X.prog X.w) X.A (f v u) (EP X pins σ Q) X.xe s
def UnR (X:Cx) (f:Value->Sem Value) (r:V->Hp->VK->Prop):Prop:=
 ∀ (pins:List (Addr × Obj)) (s:Shared) (σ:St) (H:Hp) (x:V) (v:Value) (Q:VK),Inv X pins σ H s->RelV x v->r x H Q->
  wpAny (model X.prog X.w) X.A (f v) (EP X pins σ Q) X.xe s
def Zf5 (X:Cx) (f:Value) (r:List V->Hp->VK->Prop):Prop:=
 ∀ (pins:List (Addr × Obj)) (s:Shared) (σ:St) (H:Hp) (xs:List V) (us:List Value) (Q:VK),Inv X pins σ H s->Vals xs us->r xs H Q->
  wpAny (model X.prog X.w) X.A (call f us) (EP X pins σ Q) X.xe s
def tOp (r:R2) (ta tb:TE):TE:=fun σ H Q=>ta σ H fun x H1=>tb σ H1 fun y H2=>r x y H2 Q
def tUn (r:V->Hp->VK->Prop) (ta:TE):TE:=fun σ H Q=>ta σ H fun x H1=>r x H1 Q
def rI (C:Int->Int->Prop) (g:Int->Int->V):R2:=fun x y H Q=>∃ i j,x = .int i/\y = .int j/\C i j/\Q (g i j) H
def rI0 (g:Int->Int->V):R2:=fun x y H Q=>∃ i j,x = .int i/\y = .int j/\Q (g i j) H
def rU (g:Int->V):V->Hp->VK->Prop:=fun x H Q=>∃ i,x = .int i/\Q (g i) H
section
variable {X:Cx} {a b c:Expr} {ta tb tc:TE} {pos:Pos}
theorem binT (ha:PE X a ta) (hb:PE X b tb) {pins:List (Addr × Obj)} {s:Shared} {σ:St} {H:Hp} {R:V->V->Hp->Prop} (I:Inv X pins σ H s)
  (h:ta σ H fun x H1=>tb σ H1 fun y H2=>R x y H2) {Q:Value->Shared->Prop} {f:Value->Value->Sem Value}
  (hf:∀ v u s2 x y H2,Inv X pins σ H2 s2->RelV x v->RelV y u->R x y H2->wpAny (model X.prog X.w) X.A (f v u) Q X.xe s2):
  wpAny (model X.prog X.w) X.A (eval a X.env) (fun v s₁=>wpAny (model X.prog X.w) X.A (eval b X.env) (fun u s₂=>wpAny (model X.prog X.w) X.A (f v u) Q X.xe s₂) X.xe s₁) X.xe s:=by
 refine thn (ha pins s σ H _ I h) fun v s1 ⟨x,H1,I1,r1,q1⟩=>?_
 refine thn (hb pins s1 σ H1 _ I1 q1) fun u s2 ⟨y,H2,I2,r2,q2⟩=>?_
 exact hf v u s2 x y H2 I2 r1 r2 q2
theorem Zar {op:Operator} {r:R2} (ho:OpR X (binaryOp op) r) (ha:PE X a ta) (hb:PE X b tb):PE X (.BinOp a op b pos) (tOp r ta tb):=by
 intro pins s σ H Q I h
 exact wpAny_BinOp (binT ha hb I h fun v u s2 x y H2 I2 rx ry q=>ho pins s2 σ H2 x y v u Q I2 rx ry q)
theorem Zgk {op:UnaryOp} {r:V->Hp->VK->Prop} (ho:UnR X (unaryOp op) r) (ha:PE X a ta):PE X (.UnaryOp op a pos) (tUn r ta):=by
 intro pins s σ H Q I h
 exact UnaryOp_ (thn (ha pins s σ H _ I h) fun v s1 ⟨x,H1,I1,r1,q1⟩=>ho pins s1 σ H1 x v Q I1 r1 q1)
theorem opI {f:Value->Value->Sem Value} {C:Int->Int->Prop} {g:Int->Int->Int}
  (rule:∀ (i j:Int) (t u:Tok) (s:Shared) (Q:Value->Shared->Prop) (E:Value->Shared->Prop),C i j->Q (.int (g i j) s.toks) { s with toks:=s.toks + 1 }->wpAny (model X.prog X.w) X.A (f (.int i t) (.int j u)) Q E s):
  OpR X f (rI C fun i j=>.int (g i j)):=by
 intro pins s σ H x y v u Q I rx ry h
 obtain ⟨i,j,rfl,rfl,hc,q⟩:=h
 obtain ⟨t,rfl⟩:=rx
 obtain ⟨t',rfl⟩:=ry
 exact rule i j t t' s _ _ hc ⟨.int (g i j),H,I.tok _,⟨_,rfl⟩,q⟩
theorem opI0 {f:Value->Value->Sem Value} {g:Int->Int->Int}
  (rule:∀ (i j:Int) (t u:Tok) (s:Shared) (Q:Value->Shared->Prop) (E:Value->Shared->Prop),Q (.int (g i j) s.toks) { s with toks:=s.toks + 1 }->wpAny (model X.prog X.w) X.A (f (.int i t) (.int j u)) Q E s):
  OpR X f (rI0 fun i j=>.int (g i j)):=by
 intro pins s σ H x y v u Q I rx ry h
 obtain ⟨i,j,rfl,rfl,q⟩:=h
 obtain ⟨t,rfl⟩:=rx
 obtain ⟨t',rfl⟩:=ry
 exact rule i j t t' s _ _ ⟨.int (g i j),H,I.tok _,⟨_,rfl⟩,q⟩
theorem opB0 {f:Value->Value->Sem Value} {g:Int->Int->Bool}
  (rule:∀ (i j:Int) (t u:Tok) (s:Shared) (Q:Value->Shared->Prop) (E:Value->Shared->Prop),Q (.bool (g i j)) s->wpAny (model X.prog X.w) X.A (f (.int i t) (.int j u)) Q E s):
  OpR X f (rI0 fun i j=>.bl (g i j)):=by
 intro pins s σ H x y v u Q I rx ry h
 obtain ⟨i,j,rfl,rfl,q⟩:=h
 obtain ⟨t,rfl⟩:=rx
 obtain ⟨t',rfl⟩:=ry
 exact rule i j t t' s _ _ ⟨.bl (g i j),H,I,rfl,q⟩
def CDiv (i j:Int):Prop:=0 < j/\j < 1073741824
def CPow (i j:Int):Prop:=0<=j/\j<=1000000/\i.natAbs < 2 ^ 64
def CMul (i j:Int):Prop:=(-(2 ^ 64) < i/\i < 2 ^ 64)\/(-(2 ^ 64) < j/\j < 2 ^ 64)
theorem CMul.ok {i j:Int} (h:CMul i j):IntMulOk i j:=by
 rcases h with ⟨h1,h2⟩ | ⟨h1,h2⟩
 ·exact .of_left (intBits_le_64 h1 h2)
 ·exact .of_right (intBits_le_64 h1 h2)
theorem two_pow_nn (k:Nat):(0:Int)<=2 ^ k:=by
 rw [two_pow_cast]
 exact Int.natCast_nonneg _
theorem Zc6:OpR X (binaryOp .Add) (rI0 fun i j=>.int (i + j)):=opI0 fun _ _ _ _ _ _ _ q=>add_int q
theorem Zc5:OpR X (binaryOp .Sub) (rI0 fun i j=>.int (i - j)):=opI0 fun _ _ _ _ _ _ _ q=>sub_int q
theorem Zig:OpR X (binaryOp .Mult) (rI CMul fun i j=>.int (i * j)):=opI fun _ _ _ _ _ _ _ hc q=>mul_int q hc.ok
theorem Zi0:OpR X (binaryOp .FloorDiv) (rI CDiv fun i j=>.int (i / j)):=opI fun i j _ _ _ _ _ hc q=>by
 have h1:(0:Int) < j:=hc.1
 have h2:j < 1073741824:=hc.2
 exact floordiv_int (by omega) (by rw [Int.fdiv_eq_ediv_of_nonneg i (by omega)]; exact q) (.inl (PyProof.noPylong_small (by omega)))
theorem Zci:OpR X (binaryOp .Mod) (rI (fun _ j=>0 < j) fun i j=>.int (i % j)):=opI fun i j _ _ _ _ _ hc q=>by
 have h1:(0:Int) < j:=hc
 exact mod_int' (by omega) (by rw [Int.fmod_eq_emod_of_nonneg i (by omega)]; exact q)
theorem Zob:OpR X (binaryOp .Mod) (rI (fun _ j=>j ≠ 0) fun i j=>.int (i.fmod j)):=opI fun _ _ _ _ _ _ _ hc q=>mod_int' hc q
theorem Zse:OpR X (binaryOp .Pow) (rI CPow fun i j=>.int (i ^ j.toNat)):=opI fun _ _ _ _ _ _ _ hc q=>pow_int_small hc.1 hc.2.1 hc.2.2 q
theorem Zsd:OpR X (binaryOp .RShift) (rI (fun _ j=>0<=j) fun i j=>.int (i / 2 ^ j.toNat)):=opI fun i j _ _ _ _ _ hc q=>
 rshift_int hc (by rw [Int.fdiv_eq_ediv_of_nonneg i (two_pow_nn _)]; exact q)
theorem unI {f:Value->Sem Value} {g:Int->Int}
  (rule:∀ (i:Int) (t:Tok) (s:Shared) (Q:Value->Shared->Prop) (E:Value->Shared->Prop),Q (.int (g i) s.toks) { s with toks:=s.toks + 1 }->wpAny (model X.prog X.w) X.A (f (.int i t)) Q E s):
  UnR X f (rU fun i=>.int (g i)):=by
 intro pins s σ H x v Q I rx h
 obtain ⟨i,rfl,q⟩:=h
 obtain ⟨t,rfl⟩:=rx
 exact rule i t s _ _ ⟨.int (g i),H,I.tok _,⟨_,rfl⟩,q⟩
theorem Zek:UnR X (unaryOp .USub) (rU fun i=>.int (-i)):=unI fun _ _ _ _ _ q=>neg_int q
end
def scal:V->V->Bool
 | .non,.non=>true | .non,.int _=>true | .int _,.non=>true | .non,.bl _=>true | .bl _,.non=>true | .non,.str _=>true | .str _,.non=>true
 | .int _,.int _=>true | .bl _,.bl _=>true | .str _,.str _=>true | .byt _,.byt _=>true
 | .int _,.str _=>true | .str _,.int _=>true | .bl _,.str _=>true | .str _,.bl _=>true
 | _,_=>false
def rEq:R2:=fun x y H Q=>scal x y = true/\Q (.bl (decide (x = y))) H
def rNe:R2:=fun x y H Q=>scal x y = true/\Q (.bl (!decide (x = y))) H
theorem Zpo {i j:Int}:decide (V.int i = V.int j) = (i == j):=by
 rw [Bool.eq_iff_iff]
 simp
theorem Zsp {i j:Bool}:decide (V.bl i = V.bl j) = (i == j):=by
 rw [Bool.eq_iff_iff]
 simp
theorem Zpn {i j:Str}:decide (V.str i = V.str j) = (i == j):=by
 rw [Bool.eq_iff_iff]
 simp
theorem Zpp {i j:Array UInt8}:decide (V.byt i = V.byt j) = (i.toList == j.toList):=by
 rw [Bool.eq_iff_iff]
 cases i
 cases j
 simp
section
variable {X:Cx} {a b c:Expr} {ta tb tc:TE} {pos:Pos}
theorem Zbk {pins:List (Addr × Obj)} {σ:St} {H:Hp} {s:Shared} {Q:VK} {k k':Bool} (I:Inv X pins σ H s) (q:Q (.bl k) H) (e:k = k'):EP X pins σ Q (.bool k') s:=by
 subst e
 exact ⟨.bl k,H,I,rfl,q⟩
theorem Zeh:OpR X (compareOp .Eq) rEq:=by
 intro pins s σ H x y v u Q I rx ry h
 obtain ⟨hs,q⟩:=h
 cases x with
 | non=>
  cases rx
  cases y with
  | non=>cases ry; exact PySem.EqNone.eq_none_none (Zbk I q (by simp))
  | bl j=>cases ry; exact PySem.EqNone.eq_none_bool (Zbk I q (by simp))
  | int j=>obtain ⟨t',rfl⟩:=ry; exact PySem.EqNone.eq_none_int (Zbk I q (by simp))
  | str j=>obtain ⟨t',rfl⟩:=ry; exact PySem.EqNone.eq_none_str (Zbk I q (by simp))
  | _=>exact absurd (show false = true from hs) Bool.false_ne_true
 | bl i=>
  cases rx
  cases y with
  | non=>cases ry; exact PySem.EqNone.eq_bool_none (Zbk I q (by simp))
  | bl j=>cases ry; exact eq_bool (Zbk I q Zsp)
  | str j=>obtain ⟨t',rfl⟩:=ry; exact PySem.EqMixed.eq_bool_str (Zbk I q (by simp))
  | _=>exact absurd (show false = true from hs) Bool.false_ne_true
 | int i=>
  obtain ⟨t,rfl⟩:=rx
  cases y with
  | non=>cases ry; exact PySem.EqNone.eq_int_none (Zbk I q (by simp))
  | int j=>obtain ⟨t',rfl⟩:=ry; exact eq_int (Zbk I q Zpo)
  | str j=>obtain ⟨t',rfl⟩:=ry; exact PySem.EqMixed.eq_int_str (Zbk I q (by simp))
  | _=>exact absurd (show false = true from hs) Bool.false_ne_true
 | str i=>
  obtain ⟨t,rfl⟩:=rx
  cases y with
  | non=>cases ry; exact PySem.EqNone.eq_str_none (Zbk I q (by simp))
  | bl j=>cases ry; exact PySem.EqMixed.eq_str_bool (Zbk I q (by simp))
  | int j=>obtain ⟨t',rfl⟩:=ry; exact PySem.EqMixed.eq_str_int (Zbk I q (by simp))
  | str j=>obtain ⟨t',rfl⟩:=ry; exact eq_str (Zbk I q Zpn)
  | _=>exact absurd (show false = true from hs) Bool.false_ne_true
 | byt i=>
  obtain ⟨t,rfl⟩:=rx
  cases y with
  | byt j=>obtain ⟨t',rfl⟩:=ry; exact PySem.W.eq_bytes (Zbk I q Zpp)
  | _=>exact absurd (show false = true from hs) Bool.false_ne_true
 | _=>cases y <;> exact absurd (show false = true from hs) Bool.false_ne_true
theorem Zfj:OpR X (compareOp .NotEq) rNe:=by
 intro pins s σ H x y v u Q I rx ry h
 obtain ⟨hs,q⟩:=h
 cases x with
 | non=>
  cases rx
  cases y with
  | non=>cases ry; exact PySem.EqNone.ne_none_none (Zbk I q (by simp))
  | bl j=>cases ry; exact PySem.EqNone.ne_none_bool (Zbk I q (by simp))
  | int j=>obtain ⟨t',rfl⟩:=ry; exact PySem.EqNone.ne_none_int (Zbk I q (by simp))
  | str j=>obtain ⟨t',rfl⟩:=ry; exact PySem.EqNone.ne_none_str (Zbk I q (by simp))
  | _=>exact absurd (show false = true from hs) Bool.false_ne_true
 | bl i=>
  cases rx
  cases y with
  | non=>cases ry; exact PySem.EqNone.ne_bool_none (Zbk I q (by simp))
  | bl j=>cases ry; exact ne_bool (Zbk I q (congrArg not Zsp))
  | str j=>obtain ⟨t',rfl⟩:=ry; exact PySem.EqMixed.ne_bool_str (Zbk I q (by simp))
  | _=>exact absurd (show false = true from hs) Bool.false_ne_true
 | int i=>
  obtain ⟨t,rfl⟩:=rx
  cases y with
  | non=>cases ry; exact PySem.EqNone.ne_int_none (Zbk I q (by simp))
  | int j=>obtain ⟨t',rfl⟩:=ry; exact ne_int (Zbk I q (congrArg not Zpo))
  | str j=>obtain ⟨t',rfl⟩:=ry; exact PySem.EqMixed.ne_int_str (Zbk I q (by simp))
  | _=>exact absurd (show false = true from hs) Bool.false_ne_true
 | str i=>
  obtain ⟨t,rfl⟩:=rx
  cases y with
  | non=>cases ry; exact PySem.EqNone.ne_str_none (Zbk I q (by simp))
  | bl j=>cases ry; exact PySem.EqMixed.ne_str_bool (Zbk I q (by simp))
  | int j=>obtain ⟨t',rfl⟩:=ry; exact PySem.EqMixed.ne_str_int (Zbk I q (by simp))
  | str j=>obtain ⟨t',rfl⟩:=ry; exact ne_str (Zbk I q (congrArg not Zpn))
  | _=>exact absurd (show false = true from hs) Bool.false_ne_true
 | byt i=>
  obtain ⟨t,rfl⟩:=rx
  cases y with
  | byt j=>obtain ⟨t',rfl⟩:=ry; exact PySem.W.ne_bytes (Zbk I q (congrArg not Zpp))
  | _=>exact absurd (show false = true from hs) Bool.false_ne_true
 | _=>cases y <;> exact absurd (show false = true from hs) Bool.false_ne_true
theorem Ziz:OpR X (compareOp .Lt) (rI0 fun i j=>.bl (decide (i < j))):=opB0 fun _ _ _ _ _ _ _ q=>lt_int q
theorem op_le:OpR X (compareOp .LtE) (rI0 fun i j=>.bl (decide (i<=j))):=opB0 fun _ _ _ _ _ _ _ q=>le_int q
theorem Zeu:OpR X (compareOp .Gt) (rI0 fun i j=>.bl (decide (j < i))):=opB0 fun _ _ _ _ _ _ _ q=>gt_int q
theorem op_ge:OpR X (compareOp .GtE) (rI0 fun i j=>.bl (decide (j<=i))):=opB0 fun _ _ _ _ _ _ _ q=>ge_int q
theorem op_notN:OpR X (compareOp .IsNot) (fun x y H Q=>y = .non/\Q (.bl (!decide (x = .non))) H):=by
 intro pins s σ H x y v u Q I rx ry h
 obtain ⟨rfl,q⟩:=h
 cases ry
 refine isnot_none_gen (Zbk I q ?_)
 cases x <;> first
  | (cases rx; rfl)
  | (obtain ⟨t,rfl⟩:=rx; rfl)
theorem OpR.or {f:Value->Value->Sem Value} {r r':R2} (h:OpR X f r) (h':OpR X f r'):OpR X f (fun x y H Q=>r x y H Q\/r' x y H Q):=by
 intro pins s σ H x y v u Q I rx ry q
 rcases q with q | q
 ·exact h pins s σ H x y v u Q I rx ry q
 ·exact h' pins s σ H x y v u Q I rx ry q
theorem Zau (b:Expr) {op:CmpOp} (h:op ≠ .In:=by decide) (h2:op ≠ .NotIn:=by decide):behindInMarks op b = false:=by
 have e1:(op == CmpOp.In) = false:=by cases op <;> first | rfl | exact absurd rfl h
 have e2:(op == CmpOp.NotIn) = false:=by cases op <;> first | rfl | exact absurd rfl h2
 cases b <;> simp [behindInMarks,e1,e2]
theorem Zet {op:CmpOp} {r:R2} (ho:OpR X (compareOp op) r) (ha:PE X a ta) (hb:PE X b tb) (hm:behindInMarks op b = false):PE X (.Compare a [op] [b] pos) (tOp r ta tb):=by
 intro pins s σ H Q I h
 exact wpAny_Compare1 (binT ha hb I h fun v u s2 x y H2 I2 rx ry q=>ho pins s2 σ H2 x y v u Q I2 rx ry q) hm
def tTest (t:TE):TT:=fun σ H Q=>t σ H fun x H'=>∃ k,x = .bl k/\Q k H'
theorem Zal {op:CmpOp} {r:R2} (ho:OpR X (compareOp op) r) (ha:PE X a ta) (hb:PE X b tb) (hm:behindInMarks op b = false):PT X (.Compare a [op] [b] pos) (tTest (tOp r ta tb)):=by
 intro pins s σ H Q I h
 refine wpAny_isTrue_Compare1 (thn (ha pins s σ H _ I h) fun v s1 ⟨x,H1,I1,r1,q1⟩=>thn (hb pins s1 σ H1 _ I1 q1) fun u s2 ⟨y,H2,I2,r2,q2⟩=>
  thn (ho pins s2 σ H2 x y v u _ I2 r1 r2 q2) fun c s3 ⟨z,H3,I3,r3,k,e,q3⟩=>?_) hm
 subst e
 cases r3
 exact wpAny_truthy_bool ⟨H3,I3,q3⟩
def Zr3 (r r':R2) (ta tb tc:TE):TE:=fun σ H Q=>ta σ H fun x H1=>tb σ H1 fun y H2=>r x y H2 fun z H3=>∃ k,z = .bl k /\
 (if k = true then tc σ H3 fun w' H4=>r' y w' H4 Q else Q (.bl false) H3)
theorem Zqq {op op':CmpOp} {r r':R2} (ho:OpR X (compareOp op) r) (ho':OpR X (compareOp op') r') (ha:PE X a ta) (hb:PE X b tb) (hc:PE X c tc)
  (hm:lastMarks [op,op'] [b,c] = false:=by with_unfolding_all rfl):PT X (.Compare a [op,op'] [b,c] pos) (tTest (Zr3 r r' ta tb tc)):=by
 intro pins s σ H Q I h
 refine isTrue_chain (thn (ha pins s σ H _ I h) fun v s1 ⟨x,H1,I1,r1,q1⟩=>test_link (thn (hb pins s1 σ H1 _ I1 q1) fun u s2 ⟨y,H2,I2,r2,q2⟩=>
  thn (ho pins s2 σ H2 x y v u _ I2 r1 r2 q2) fun d s3 ⟨z,H3,I3,r3,k,e,q3⟩=>?_)) hm
 subst e
 cases r3
 refine wpAny_truthy_bool ?_
 cases k with
 | false=>
  obtain ⟨k',e',q'⟩:=q3
  cases e'
  exact ite_ff ⟨H3,I3,q'⟩
 | true=>
  refine ite_tt (test_last (thn (hc pins s3 σ H3 _ I3 q3) fun w' s4 ⟨z',H4,I4,r4,q4⟩=>thn (ho' pins s4 σ H4 y z' u w' _ I4 r2 r4 q4) fun d' s5 ⟨z2,H5,I5,r5,k2,e2,q5⟩=>?_))
  subst e2
  cases r5
  exact wpAny_truthy_bool ⟨H5,I5,q5⟩
theorem Zmb:(sizeLine:Nat) < 2 ^ 63:=by rw [sizeLine_eq]; decide
theorem Zmq {x:V} {us:List Value} (r:Vals [x] us):∃ u,us = [u]/\RelV x u:=by
 cases r with
 | cons r1 r2=>cases r2; exact ⟨_,rfl,r1⟩
theorem vals2 {x y:V} {us:List Value} (r:Vals [x,y] us):∃ u w',us = [u,w']/\RelV x u/\RelV y w':=by
 cases r with
 | cons r1 r2=>
  cases r2 with
  | cons r3 r4=>cases r4; exact ⟨_,_,rfl,r1,r3⟩
theorem Zd0:Zf5 X (.builtin "abs") (fun xs H Q=>∃ i,xs = [.int i]/\Q (.int (if i < 0 then -i else i)) H):=by
 intro pins s σ H xs us Q I r h
 obtain ⟨i,rfl,q⟩:=h
 obtain ⟨u,rfl,t,rfl⟩:=Zmq r
 exact call_abs_int fun u tk=>⟨.int (if i < 0 then -i else i),H,I.tok _,⟨_,rfl⟩,q⟩
theorem Zpy (hc:X.calm = true):Zf5 X (.builtin "min") (fun xs H Q=>∃ i j,xs = [.int i,.int j]/\Q (.int (if j < i then j else i)) H):=by
 intro pins s σ H xs us Q I r h
 obtain ⟨i,j,rfl,q⟩:=h
 obtain ⟨u,w',rfl,⟨t,rfl⟩,⟨t',rfl⟩⟩:=vals2 r
 refine min_two_ints (I.ok.hd hc) fun h' tk k=>⟨_,H,I.kept k,?_,q⟩
 by_cases hj:j < i
 ·rw [if_pos hj,if_pos hj]; exact ⟨_,rfl⟩
 ·rw [if_neg hj,if_neg hj]; exact ⟨_,rfl⟩
theorem Zkl:Zf5 X (.type "int") (fun xs H Q=>(∃ i,xs = [.int i]/\Q (.int i) H)\/∃ k,xs = [.bl k]/\Q (.int (if k then 1 else 0)) H):=by
 intro pins s σ H xs us Q I r h
 rcases h with ⟨i,rfl,q⟩ | ⟨k,rfl,q⟩
 ·obtain ⟨u,rfl,t,rfl⟩:=Zmq r
  exact call_int_int ⟨.int i,H,I,⟨_,rfl⟩,q⟩
 ·obtain ⟨u,rfl,r1⟩:=Zmq r
  cases r1
  exact call_int_bool ⟨.int (if k then 1 else 0),H,I.tok _,⟨_,rfl⟩,q⟩
end
structure ObjM (h:Heap) (x dx C:Addr) (mA:Str->Option Value):Prop where
 obj:h.get? x = some (PySem.W.instObj C dx)
 ns:h.Ns1 dx mA
 ne:dx ≠ x
theorem Zou {h:Heap} {dx:Addr} {mA:Str->Option Value} (n:h.Ns1 dx mA):∃ od,h.get? dx = some od/\∀ name,PySem.W.lookIn name od = some (mA name):=by
 obtain ⟨o,es,ep,ho,hd,hk,_,hm⟩:=n
 refine ⟨o,ho,fun name=>?_⟩
 have e:=hm name
 unfold nsFind findBy at e
 rw [<- Array.find?_toList] at e
 unfold PySem.W.lookIn
 rw [hd]
 dsimp only
 split
 ·rename_i y q
  rw [q] at e
  exact congrArg some e
 ·rename_i q
  rw [q] at e
  have a:es.toList.any (·.refKey) = false:=by
   rw [List.any_eq_false]
   intro y hy
   obtain ⟨z,t,hkey⟩:=hk y (Array.mem_toList_iff.mp hy)
   simp [DictEntry.refKey,hkey]
  have a':¬ es.toList.any (·.refKey) = true:=by rw [a]; exact Bool.false_ne_true
  rw [if_neg a']
  exact congrArg some e
theorem ObjM.look {h:Heap} {x dx C:Addr} {mA:Str->Option Value} (I:ObjM h x dx C mA):∃ od,PySem.W.InstAt h x (PySem.W.instObj C dx) C (some od)/\∀ name,PySem.W.lookIn name od = some (mA name):=
 let ⟨od,ho,hl⟩:=Zou I.ns
 ⟨od,⟨I.obj,rfl,rfl,ho⟩,hl⟩
section
variable {prog:Program} {w:World} {A:Around} {E:Value->Shared->Prop} {s:Shared} {K:PySem.W.Frag} {x dx C f:Addr} {mA:Str->Option Value} {name:Str} {v:Value}
theorem get_map {expr:Bool} {Q:Value->Shared->Prop} (X:K.In s.heap) (I:ObjM s.heap x dx C mA) (hg:PySem.W.plainGet K C name = true) (hh:PySem.W.hasDictIn K C = true)
  (ha:PySem.W.findIn K (.ref C) name = some none) (hv:mA name = some v) (hv':PySem.W.handedIn v = true) (h:Q v { s with toks:=s.toks + 1 }):
  wpAny (model prog w) A (getAttr (.ref x) name expr) Q E s:=by
 obtain ⟨od,J,hl⟩:=I.look
 exact PySem.W.get_value X J (PySem.W.plainGet_of hg).1 (PySem.W.findObj_own hh ha rfl (by rw [hl,hv])) hv' h
theorem Zrl {pl:Sem Bool} {Q:Value × List Value->Shared->Prop} (X:K.In s.heap) (I:ObjM s.heap x dx C mA) (hg:PySem.W.plainGet K C name = true)
  (hf:PySem.W.findIn K (.ref C) name = some (some (.ref f))) (ht:PySem.W.isFn K (.ref f) = true) (hv:mA name = none) (h:Q (.ref f,[.ref x]) s):
  wpAny (model prog w) A (getMethod (.ref x) name pl) Q E s:=by
 obtain ⟨od,J,hl⟩:=I.look
 exact PySem.W.method_fn X J (PySem.W.plainGet_of hg).1 (PySem.W.plainGet_of hg).2 hf (beq_iff_eq.mp ht) (by show (PySem.W.lookIn name od).map (·.isSome) = some false; rw [hl,hv]; rfl) h
theorem set_map {ns:List Str} {Q:Unit->Shared->Prop} (X:K.In s.heap) (I:ObjM s.heap x dx C mA)
  (hs:PySem.W.findIn K (.ref C) "__setattr__" = some (some (.builtin "object.__setattr__"))) (hp:PySem.W.plainOver K C = true) (ht:PySem.W.takerIn K C name = some none) (hh:PySem.W.hasDictIn K C = true)
  (hw:PySem.Within mA ns) (hsz:ns.length<=sizeLine)
  (h:∀ h',ObjM h' x dx C (fun y=>if y = name then some v else mA y)->Heap.SameBut dx s.heap h'->Q () { s with heap:=h',toks:=s.toks + 2 }):
  wpAny (model prog w) A (setAttr (.ref x) name v) Q E s:=by
 obtain ⟨od,J,hl⟩:=I.look
 refine PySem.W.set_plain X J hs (PySem.W.osa_open (s:={ s with toks:=s.toks + 1 }) (r:=none) X J hp ht fun b=>?_)
 obtain ⟨cd,hc,hd'⟩:=PySem.W.any_some hh
 have hx:s.heap.get? x = some ⟨.ref C,some dx,.plain,#[]⟩:=I.obj
 refine wpAny_bind (wpAny_pure (wpAny_bind (wpAny_bind (wpAny_loadPart hx (wpAny_bind (PySem.W.Looks.here (s:={ s with toks:=s.toks + 1 }) (PySem.W.looks_clsIn X hc) ?_))))))
 rw [hd']
 refine wpAny_pure (a:=some dx) (wpAny_bind (wpAny_pure (wpAny_bind ?_)))
 refine wpAny_nsSet1 (s:={ s with toks:=s.toks + 1 }) I.ns fun h' hn2 hs2=>?_
 obtain ⟨oD,esD,epD,hoD,hdD,hcD⟩:=hn2.count (PySem.Within.cons name v hw)
 refine wpAny_bind (wpAny_lookBehind hoD (by rw [hdD]; exact pastItsLine_dict (Nat.le_trans hcD (by rw [List.length_cons]; omega))) ?_)
 exact wpAny_pure (h _ ⟨(hs2.2 _ (Ne.symm I.ne)).trans I.obj,hn2,I.ne⟩ hs2)
theorem Zrh {R:Result->Shared->Prop} {vs:List Value} {kw:List (Str × Value)} (X:K.In s.heap) (hm:PySem.W.makesIn K C = true)
  (hi:PySem.W.findIn K (.ref C) "__init__" = some (some (.ref f))) (hf:PySem.W.typeIn K (.ref f) = some (.type "function"))
  (h:codeAny (model prog w) (A.under (.builtin "type.__call__" ⟨.ref C :: vs,kw⟩)) (.call (.ref f) ⟨.ref (s.heap.objs.size + 1) :: vs,kw⟩) (PySem.W.InitBack (s.heap.objs.size + 1) R)
   { s with heap:=(s.heap.push PySem.W.emptyDict).push (PySem.W.instObj C s.heap.objs.size) }):
  codeAny (model prog w) A (.call (.ref C) ⟨vs,kw⟩) R s:=by
 obtain ⟨hh,g,d,t,os⟩:=s
 exact PySem.W.make_core (PySem.W.makes_of X hm) (PySem.W.looks_findIn X hi) (fun self=>PySem.W.bind_fn X self hf) (.inl rfl) h
end
def Zjv (f:Str) (v:V):List (Str × V)->List (Str × V)
 | []=>[(f,v)]
 | (g,x) :: r=>if g = f then (g,v) :: r else (g,x) :: Zjv f v r
theorem Zei (f g:Str) (v:V):∀ fs:List (Str × V),(Zjv f v fs).lookup g = if g = f then some v else fs.lookup g
 | []=>by
  show List.lookup g [(f,v)] = _
  by_cases h:g = f
  ·have hb:(g == f) = true:=beq_iff_eq.mpr h
   simp only [List.lookup,hb,if_pos h]
  ·have hb:(g == f) = false:=beq_eq_false_iff_ne.mpr h
   simp only [List.lookup,hb,if_neg h]
 | (k,x) :: r=>by
  have ih:=Zei f g v r
  rw [show Zjv f v ((k,x) :: r) = (if k = f then (k,v) :: r else (k,x) :: Zjv f v r) from rfl]
  by_cases hk:k = f
  ·rw [if_pos hk]
   by_cases h:g = k
   ·have hb:(g == k) = true:=beq_iff_eq.mpr h
    simp only [List.lookup,hb,if_pos (h.trans hk)]
   ·have hb:(g == k) = false:=beq_eq_false_iff_ne.mpr h
    simp only [List.lookup,hb,if_neg (fun e:g = f=>h (e.trans hk.symm))]
  ·rw [if_neg hk]
   by_cases h:g = k
   ·have hb:(g == k) = true:=beq_iff_eq.mpr h
    simp only [List.lookup,hb,if_neg (fun e:g = f=>hk (h.symm.trans e))]
   ·have hb:(g == k) = false:=beq_eq_false_iff_ne.mpr h
    simp only [List.lookup,hb]
    exact ih
theorem Zhj (f:Str) (v:V):∀ fs:List (Str × V),f ∈ (Zjv f v fs).map (·.1)/\∀ g,g ∈ fs.map (·.1)->g ∈ (Zjv f v fs).map (·.1)
 | []=>⟨by simp [Zjv],fun g h=>by simp at h⟩
 | (k,x) :: r=>by
  obtain ⟨i1,i2⟩:=Zhj f v r
  rw [show Zjv f v ((k,x) :: r) = (if k = f then (k,v) :: r else (k,x) :: Zjv f v r) from rfl]
  by_cases hk:k = f
  ·rw [if_pos hk]
   subst hk
   exact ⟨by simp,fun g h=>by simpa using h⟩
  ·rw [if_neg hk]
   refine ⟨?_,fun g h=>?_⟩
   ·rw [List.map_cons]
    exact List.mem_cons_of_mem _ i1
   ·rw [List.map_cons] at h ⊢
    rcases List.mem_cons.mp h with e | e
    ·exact List.mem_cons.mpr (.inl e)
    ·exact List.mem_cons_of_mem _ (i2 g e)
theorem Zhh (f:Str) (v:V):∀ fs:List (Str × V),(Zjv f v fs).length<=fs.length + 1
 | []=>by simp [Zjv]
 | (k,x) :: r=>by
  have ih:=Zhh f v r
  rw [show Zjv f v ((k,x) :: r) = (if k = f then (k,v) :: r else (k,x) :: Zjv f v r) from rfl]
  by_cases hk:k = f
  ·rw [if_pos hk,List.length_cons,List.length_cons]; omega
  ·rw [if_neg hk,List.length_cons,List.length_cons]; omega
theorem RelO.some_of {v:V} {o:Option Value} (r:RelO (some v) o):∃ u,o = some u/\RelV v u:=by
 cases o with
 | none=>exact (show False from r).elim
 | some u=>exact ⟨u,rfl,r⟩
theorem RelO.none_of {o:Option Value} (r:RelO none o):o = none:=by
 cases o with
 | none=>rfl
 | some u=>exact (show False from r).elim
theorem Zpf {v:V} {u:Value} (r:RelV v u):PySem.W.handedIn u = true:=by
 cases v with
 | non=>cases (show u = Value.none from r); rfl
 | bl b=>cases (show u = Value.bool b from r); rfl
 | int i=>obtain ⟨t,e⟩:=(show ∃ t,u = Value.int i t from r); cases e; rfl
 | str x=>obtain ⟨t,e⟩:=(show ∃ t,u = Value.str x t from r); cases e; rfl
 | byt b=>obtain ⟨t,e⟩:=(show ∃ t,u = Value.bytes b t from r); cases e; rfl
 | flt b=>obtain ⟨t,e⟩:=(show ∃ t,u = Value.float b t from r); cases e; rfl
 | ref a=>cases (show u = Value.ref a from r); rfl
 | ty n=>cases (show u = Value.type n from r); rfl
section
variable {P:Program} {w:World} {H H':Hp} {h h':Heap} {a C dx:Addr} {fs fs':List (Str × V)}
theorem Zi3 (hok:HOk P w H h) (e:H a = some (.ins C dx fs)):∃ mA,ObjM h a dx C mA/\(∀ f,RelO (fs.lookup f) (mA f))/\PySem.Within mA (fs.map (·.1))/\fs.length<=1000/\H dx = some (.own a):=by
 obtain ⟨d,z,ne,ob,mA,n,r,q⟩:=(show ObjOk P w H h a (.ins C dx fs) from hok a _ e)
 exact ⟨mA,⟨ob,n,ne⟩,r,q,z,d⟩
end
structure Cls (K:PySem.W.Frag) (C:Addr):Prop where
 pg:PySem.W.plainGet K C Str.empty = true
 hd:PySem.W.hasDictIn K C = true
 po:PySem.W.plainOver K C = true
 sa:PySem.W.findIn K (.ref C) "__setattr__" = some (some (.builtin "object.__setattr__"))
theorem Cls.get {K:PySem.W.Frag} {C:Addr} (c:Cls K C) (f:Str):PySem.W.plainGet K C f = true:=c.pg
def NoAttr (K:PySem.W.Frag) (C:Addr) (f:Str):Prop:=PySem.W.findIn K (.ref C) f = some none
theorem NoAttr.taker {K:PySem.W.Frag} {C:Addr} {f:Str} (n:NoAttr K C f):PySem.W.takerIn K C f = some none:=by
 unfold PySem.W.takerIn
 rw [show PySem.W.findIn K (.ref C) f = some none from n]
 rfl
structure Con (K:PySem.W.Frag) (C:Addr) (f:Str) (v:V) (u:Value):Prop where
 at_:PySem.W.findIn K (.ref C) f = some (some u)
 rel:RelV v u
 get:PySem.W.specialIn K u "__get__" = some none
 cp:PySem.W.copiedNames.contains f = false
structure Meth (K:PySem.W.Frag) (C:Addr) (m:Str) (f:Addr):Prop where
 at_:PySem.W.findIn K (.ref C) m = some (some (.ref f))
 fn:PySem.W.isFn K (.ref f) = true
 kp:PySem.W.keepIn K (.ref f) = true
section
variable {X:Cx} {pins:List (Addr × Obj)} {σ:St} {H:Hp} {s:Shared} {a C dx:Addr} {fs:List (Str × V)} {f:Str} {v:V} {A:Around} {E:Value->Shared->Prop}
theorem Zm4 {b:Bool} {Q:Value->Shared->Prop} (I:Inv X pins σ H s) (e:H a = some (.ins C dx fs)) (c:Cls X.K C) (n:NoAttr X.K C f) (l:fs.lookup f = some v)
  (h:∀ u s',Inv X pins σ H s'->RelV v u->Q u s'):wpAny (model X.prog X.w) A (getAttr (.ref a) f b) Q E s:=by
 obtain ⟨mA,O,r,_,_,_⟩:=Zi3 I.hok e
 obtain ⟨u,hu,ru⟩:=RelO.some_of (v:=v) (o:=mA f) (by rw [<- l]; exact r f)
 exact get_map I.kIn O (c.get f) c.hd n hu (Zpf ru) (h u _ (I.tok _) ru)
theorem Zij {m:Str} {g:Addr} {pl:Sem Bool} {Q:Value × List Value->Shared->Prop} (I:Inv X pins σ H s) (e:H a = some (.ins C dx fs)) (c:Cls X.K C) (k:Meth X.K C m g) (l:fs.lookup m = none)
  (h:Q (.ref g,[.ref a]) s):wpAny (model X.prog X.w) A (getMethod (.ref a) m pl) Q E s:=by
 obtain ⟨mA,O,r,_,_,_⟩:=Zi3 I.hok e
 have hn:mA m = none:=RelO.none_of (by rw [<- l]; exact r m)
 exact Zrl I.kIn O (c.get m) k.at_ k.fn hn h
theorem Zmw {y:V} {u:Value} {Q:Unit->Shared->Prop} (I:Inv X pins σ H s) (e:H a = some (.ins C dx fs)) (c:Cls X.K C) (n:NoAttr X.K C f) (hl:fs.length < 1000) (ry:RelV y u)
  (h:∀ s',Inv X pins σ (upd H a (.ins C dx (Zjv f y fs))) s'->Q () s'):wpAny (model X.prog X.w) A (setAttr (.ref a) f u) Q E s:=by
 obtain ⟨mA,O,r,wi,_,ho⟩:=Zi3 I.hok e
 have hz:(fs.map (·.1)).length<=sizeLine:=by rw [List.length_map,sizeLine_eq]; omega
 refine set_map I.kIn O c.sa c.po n.taker c.hd wi hz fun h' O' sb=>h _ ?_
 have hd:∃ o,h'.get? dx = some o:=let ⟨o,_,_,e',_⟩:=O'.ns; ⟨o,e'⟩
 refine I.write (x:=a) (e:=dx) (by rw [e]; exact True.intro) (.inr ho) (fun b q hb z=>(sb.2 b hb).trans z) hd ?_
 refine ⟨by rw [Zap O.ne]; exact ho,?_,O.ne,O'.obj,_,O'.ns,fun g=>?_,fun g hg=>?_⟩
 ·have:=Zhh f y fs; omega
 ·show RelO ((Zjv f y fs).lookup g) (if g = f then some u else mA g)
  rw [Zei]
  by_cases q:g = f
  ·rw [if_pos q,if_pos q]; exact ry
  ·rw [if_neg q,if_neg q]; exact r g
 ·by_cases q:g = f
  ·rw [q]; exact (Zhj f y fs).1
  ·refine (Zhj f y fs).2 g (wi g fun z=>hg ?_)
   show (if g = f then some u else mA g) = none
   rw [if_neg q]; exact z
theorem Inv.made (I:Inv X pins σ H s):Inv X pins σ (upd (upd H s.heap.objs.size (.own (s.heap.objs.size + 1))) (s.heap.objs.size + 1) (.ins C s.heap.objs.size []))
  { s with heap:=(s.heap.push PySem.W.emptyDict).push (PySem.W.instObj C s.heap.objs.size) }:=by
 have e1:(s.heap.push PySem.W.emptyDict).get? s.heap.objs.size = some PySem.W.emptyDict:=Heap.get?_push_size s.heap rfl
 have e2:((s.heap.push PySem.W.emptyDict).push (PySem.W.instObj C s.heap.objs.size)).get? (s.heap.objs.size + 1) = some (PySem.W.instObj C s.heap.objs.size):=by
  have:=Heap.get?_push_size (s.heap.push PySem.W.emptyDict) (o:=PySem.W.instObj C s.heap.objs.size) rfl
  rwa [Heap.size_push] at this
 have e3:(s.heap.push PySem.W.emptyDict).Ns s.heap.objs.size (fun _=>none):=⟨PySem.W.emptyDict,#[],_,e1,rfl,(fun e he=>absurd he (by simp)),fun _=>rfl⟩
 have I1:=I.laid (a:=s.heap.objs.size) (o:=.own (s.heap.objs.size + 1)) (h':=s.heap.push PySem.W.emptyDict) (t':=s.toks) (fun b u q=>Heap.get?_push_of_some _ q) (Nat.le_refl _) ⟨_,e1⟩
 refine I1.laid (a:=s.heap.objs.size + 1) (o:=.ins C s.heap.objs.size []) (t':=s.toks) (fun b u q=>Heap.get?_push_of_some _ q) (Nat.le_of_eq (Heap.size_push _ _)) ?_
 have ne:s.heap.objs.size ≠ s.heap.objs.size + 1:=Nat.ne_of_lt (Nat.lt_succ_self _)
 refine ⟨by rw [Zap ne,Zad],Nat.zero_le _,ne,e2,fun _=>none,(Heap.Ns1.of_empty e3).at fun o q=>Heap.get?_push_of_some _ q,fun _=>True.intro,fun y hy=>absurd rfl hy⟩
theorem attr_of {prog:Program} {w:World} {env:Env} {e:Expr} {f:Str} {pos:Pos} {s:Shared} {Q:Value->Shared->Prop} (hb:attributeBase e f env (eval e env) = eval e env)
  (h:wpAny (model prog w) A (eval e env) (fun o s₁=>wpAny (model prog w) A (getAttr o f true) Q E s₁) E s):wpAny (model prog w) A (eval (.Attribute e f pos) env) Q E s:=
 Attribute_any_ h (by rw [arm_eval_Attribute,hb])
end
def tFld (K:PySem.W.Frag) (ta:TE) (f:Str):TE:=fun σ H Q=>ta σ H fun x H1=>∃ a C dx fs v,x = .ref a/\H1 a = some (.ins C dx fs)/\Cls K C/\NoAttr K C f/\fs.lookup f = some v/\Q v H1
def sFld (K:PySem.W.Frag) (ta tv:TE) (f:Str):TS:=fun D σ H=>tv σ H fun y H1=>ta σ H1 fun x H2=>∃ a C dx fs,x = .ref a/\H2 a = some (.ins C dx fs)/\Cls K C/\NoAttr K C f/\fs.length < 1000 /\
 D.nx σ (upd H2 a (.ins C dx (Zjv f y fs)))
section
variable {X:Cx} {o e value:Expr} {f:Str} {pos pos' tpos:Pos} {ta tv:TE}
theorem Zhf (he:PE X e ta) (hb:attributeBase e f X.env (eval e X.env) = eval e X.env):PE X (.Attribute e f pos) (tFld X.K ta f):=by
 intro pins s σ H Q I h
 refine attr_of hb (thn (he pins s σ H _ I h) fun u s1 ⟨x,H1,I1,rx,a,C,dx,fs,v,ex,ea,c,n,l,q⟩=>?_)
 subst ex
 obtain rfl:u = Value.ref a:=rx
 exact Zm4 I1 ea c n l fun u' s2 I2 ru=>⟨v,H1,I2,ru,q⟩
theorem ps_fld (ha:PE X o ta) (hv:PE X value tv) (hs:swapsWith value (some (.Attribute o f pos')) pos.line X.env = pure false):PS X (.Assign [.Attribute o f pos'] value pos) (sFld X.K ta tv f):=by
 intro pins s σ H D I h
 refine plainObj_wpAny_Assign_Attribute (thn (hv pins s σ H _ I h) fun u s1 ⟨y,H1,I1,ry,q⟩=>thn (ha pins s1 σ H1 _ I1 q) fun ov s2 ⟨x,H2,I2,rx,a,C,dx,fs,ex,ea,c,n,l,q2⟩=>?_) hs
 subst ex
 obtain rfl:ov = Value.ref a:=rx
 exact Zmw I2 ea c n l ry fun s3 I3=>⟨σ,_,I3,q2⟩
theorem methcall_of {pl:Sem Bool} {m:Str} {apos:Pos} {args:List Expr} {pins:List (Addr × Obj)} {s:Shared} {σ:St} {H:Hp} {Q:Value->Shared->Prop} {te:TE} (he:PE X e te) (I:Inv X pins σ H s)
  (h:te σ H fun x H1=>∃ a C dx fs g,x = .ref a/\H1 a = some (.ins C dx fs)/\Cls X.K C/\Meth X.K C m g/\fs.lookup m = none /\
   ∀ s1,Inv X pins σ H1 s1->wpAny (model X.prog X.w) X.A (callWith pos (.ref g) [.ref a] (backTo pos (starEach args X.env)) (backToKw pos (keywordEach [] X.env))) Q X.xe s1)
  (ht:eval (.Call (.Attribute e m apos) args [] pos) X.env = (do
   let ov <- eval e X.env
   standAt apos.atName
   let (f,first) <- holding [ov] (getMethod ov m pl)
   callWith pos f first (backTo pos (starEach args X.env)) (backToKw pos (keywordEach [] X.env)))):
  wpAny (model X.prog X.w) X.A (eval (.Call (.Attribute e m apos) args [] pos) X.env) Q X.xe s:=by
 refine PySem.W.methodCall_KW (pl:=pl) (thn (he pins s σ H _ I h) fun u s1 ⟨x,H1,I1,rx,a,C,dx,fs,g,ex,ea,c,k,l,q⟩=>?_) ht
 subst ex
 obtain rfl:u = Value.ref a:=rx
 exact Zij I1 ea c k l (q s1 I1)
end
section
variable {X:Cx} {pins:List (Addr × Obj)} {σ:St} {H:Hp} {s:Shared} {A:Around} {E:Value->Shared->Prop} {Q:Value->Shared->Prop} {c:Value} {b:Bool}
inductive TyOf (K:PySem.W.Frag) (H:Hp):V->Value->Prop where
 | non:TyOf K H .non (.type "NoneType")
 | bl (x:Bool):TyOf K H (.bl x) (.type "bool")
 | int (i:Int):TyOf K H (.int i) (.type "int")
 | str (x:Str):TyOf K H (.str x) (.type "str")
 | flt (x:UInt64):TyOf K H (.flt x) (.type "float")
 | lst {a:Addr} {xs:List V} (e:H a = some (.lst xs)):TyOf K H (.ref a) (.type "list")
 | frz {a:Addr} {o:Obj} {xs:List V} (e:H a = some (.frz o (.lst xs))):TyOf K H (.ref a) (.type "list")
 | tup {a:Addr} {xs:List V} (e:H a = some (.tup xs)):TyOf K H (.ref a) (.type "tuple")
 | dK {a:Addr} {kvs:List (Key × V)} (e:H a = some (.dK kvs)):TyOf K H (.ref a) (.type "dict")
 | dT {a:Addr} {kvs:List (List Key × V)} (e:H a = some (.dT kvs)):TyOf K H (.ref a) (.type "dict")
 | ins {a C dx:Addr} {fs:List (Str × V)} (e:H a = some (.ins C dx fs)) (cl:Cls K C) (ha:PySem.W.findIn K (.ref C) "__class__" = some (some (.builtin "object.__class__")))
   (hn:PySem.W.specialIn K (.builtin "object.__class__") "__get__" = some (some (.builtin "getset_descriptor.__get__"))) (htk:PySem.W.takesIn K (.builtin "object.__class__") = some true)
   (hm:PySem.W.mroIn K C (.type "object") = some true):TyOf K H (.ref a) (.ref C)
theorem Zo3 {x:V} {u t:Value} (I:Inv X pins σ H s) (rx:RelV x u) (ty:TyOf X.K H x t) (e:PySem.W.kitOne X.K t c = some b) (h:∀ tk,Q (.bool b) { s with toks:=tk }):
  wpAny (model X.prog X.w) A (call (.builtin "isinstance") [u,c]) Q E s:=by
 cases ty with
 | non=>cases (show u = Value.none from rx); exact PySem.W.kia_one PySem.W.kitx_none I.kIn True.intro e (fun z=>nomatch z) h
 | bl y=>cases (show u = Value.bool y from rx); exact PySem.W.kia_one PySem.W.kitx_bool I.kIn True.intro e (fun z=>nomatch z) h
 | int i=>obtain ⟨t,q⟩:=(show ∃ t,u = Value.int i t from rx); cases q; exact PySem.W.kia_one PySem.W.kitx_int I.kIn True.intro e (fun z=>nomatch z) h
 | str y=>obtain ⟨t,q⟩:=(show ∃ t,u = Value.str y t from rx); cases q; exact PySem.W.kia_one PySem.W.kitx_str I.kIn True.intro e (fun z=>nomatch z) h
 | flt y=>obtain ⟨t,q⟩:=(show ∃ t,u = Value.float y t from rx); cases q; exact PySem.W.kia_one PySem.W.kitx_float I.kIn True.intro e (fun z=>nomatch z) h
 | @lst a xs ea=>
  cases (show u = Value.ref a from rx)
  obtain ⟨_,_,n,_,h1⟩:=(show ObjOk X.prog X.w H s.heap a (.lst xs) from I.hok a _ ea)
  exact PySem.W.kia_one PySem.W.kitx_list I.kIn ⟨_,h1,rfl⟩ e (fun z=>nomatch z) h
 | @frz a ob xs ea=>
  cases (show u = Value.ref a from rx)
  obtain ⟨_,_,_,n,_,h1⟩:=(show ObjOk X.prog X.w H s.heap a (.frz ob (.lst xs)) from I.hok a _ ea)
  exact PySem.W.kia_one PySem.W.kitx_list I.kIn ⟨_,h1,rfl⟩ e (fun z=>nomatch z) h
 | @tup a xs ea=>
  cases (show u = Value.ref a from rx)
  obtain ⟨_,_,_,p⟩:=(show ObjOk X.prog X.w H s.heap a (.tup xs) from I.hok a _ ea)
  obtain ⟨o,h1,h2,_⟩:=p
  exact PySem.W.kia_one PySem.W.kitx_tuple I.kIn ⟨o,h1,h2⟩ e (fun z=>nomatch z) h
 | @dK a kvs ea=>
  cases (show u = Value.ref a from rx)
  obtain ⟨_,_,vs,_,p⟩:=(show ObjOk X.prog X.w H s.heap a (.dK kvs) from I.hok a _ ea)
  obtain ⟨o,es,ep,h1,h2,_⟩:=p
  exact PySem.W.kia_one PySem.W.kitx_dict I.kIn ⟨o,h1,h2.1⟩ e (fun z=>nomatch z) h
 | @dT a kvs ea=>
  cases (show u = Value.ref a from rx)
  obtain ⟨_,_,xs,_,o,es,ep,h1,h2,_⟩:=(show ObjOk X.prog X.w H s.heap a (.dT kvs) from I.hok a _ ea)
  exact PySem.W.kia_one PySem.W.kitx_dict I.kIn ⟨o,h1,h2.1⟩ e (fun z=>nomatch z) h
 | @ins a C dx fs ea cl ha hn htk hm=>
  cases (show u = Value.ref a from rx)
  obtain ⟨mA,O,_⟩:=Zi3 I.hok ea
  obtain ⟨od,J,_⟩:=O.look
  exact PySem.W.kia_one (PySem.W.kitx_own (cl.get _) cl.hd ha hn htk hm) I.kIn J e (fun z=>nomatch z) h
end
structure Room (k:Nat) (A:Around):Prop where
 hd:A.handled = none
 dp:A.depth + 3 * k + 205 < recursionLimit
 un:A.units + 16 * k + 200 < cLine
theorem Room.mono {j k:Nat} {A:Around} (r:Room k A) (h:j<=k):Room j A:=⟨r.hd,by have:=r.dp; omega,by have:=r.un; omega⟩
theorem Room.m {j k:Nat} {A:Around} (r:Room k A) (h:j<=k:=by decide):Room j A:=r.mono h
theorem Room.deeper {k:Nat} {A:Around} (r:Room (k + 1) A) (env:Env):Room k (A.deeper env):=
 ⟨r.hd,by have:=r.dp; show A.depth + 1 + 3 * k + 205 < _; omega,by have:=r.un; show A.units + 3 + 16 * k + 200 < _; omega⟩
theorem Zm1 {A:Around} {C:Addr} {us:List Value} {kw:List (Str × Value)}:(A.under (.builtin "type.__call__" ⟨.ref C :: us,kw⟩)).depth = A.depth + 1:=by
 first | rfl | simp [Around.under,Code.weight,Code.isCreation,Code.isGuard,Code.isCaller,Code.frames,Code.isFrame,guardIds]
theorem Zm0 {A:Around} {C:Addr} {us:List Value} {kw:List (Str × Value)}:(A.under (.builtin "type.__call__" ⟨.ref C :: us,kw⟩)).units = A.units + 1:=by
 first | rfl | simp [Around.under,Code.cUnits,Code.frames,Code.isFrame]
theorem Room.make {k:Nat} {A:Around} (r:Room (k + 1) A) (C:Addr) (us:List Value) (kw:List (Str × Value)):Room k (A.under (.builtin "type.__call__" ⟨.ref C :: us,kw⟩)):=
 ⟨r.hd,by have:=r.dp; rw [Zm1]; omega,by have:=r.un; rw [Zm0]; omega⟩
theorem Room.depth {k:Nat} {A:Around} (r:Room k A):A.depth < recursionLimit:=by have:=r.dp; omega
theorem Room.units {k:Nat} {A:Around} (r:Room k A):A.units + 64 < cLine:=by have:=r.un; omega
def tNil:TA:=fun _ H Q=>Q [] H
def tCons (ta:TE) (tr:TA):TA:=fun σ H Q=>ta σ H fun x H1=>tr σ H1 fun xs H2=>Q (x :: xs) H2
section
variable {X:Cx} {e:Expr} {es:List Expr} {te:TE} {t:TA} {pos:Pos}
theorem Zaa:PA X [] tNil:=fun _ _ _ _ H Q I h=>Calls.spliced_nil ⟨[],H,I,.nil,h⟩
theorem pa_cons (ha:PE X e te) (hr:PA X es t) (hs:starEach (e :: es) X.env = (false,eval e X.env) :: starEach es X.env:=by rfl):PA X (e :: es) (tCons te t):=by
 intro pos pins s σ H Q I h
 rw [hs]
 show wpAny _ _ (spliced ((false,eval e X.env) :: backTo pos (starEach es X.env))) _ _ s
 refine Calls.spliced_cons (thn (ha pins s σ H _ I h) fun u s1 ⟨x,H1,I1,r1,q1⟩=>?_)
 exact thn (hr pos pins s1 σ H1 _ I1 q1) fun us s2 ⟨xs,H2,I2,r2,q2⟩=>⟨x :: xs,H2,I2,.cons r1 r2,q2⟩
def tTup (t:TA):TE:=fun σ H Q=>t σ H fun xs H1=>xs.length<=sizeLine/\∀ p,H1 p = none->Q (.ref p) (upd H1 p (.tup xs))
def tLst (t:TA):TE:=fun σ H Q=>t σ H fun xs H1=>xs.length<=sizeLine/\∀ p,H1 p = none->Q (.ref p) (upd H1 p (.lst xs))
theorem Zbd {x1} (h:PA X es t):PE X (.Tuple es x1 pos) (tTup t):=by
 intro pins s σ H Q I hq
 refine wpAny_Tuple_spliced (thn (h pos pins s σ H _ I hq) fun us s1 ⟨xs,H1,I1,r,z,q⟩=>⟨by rw [<- r.length]; exact z,?_⟩)
 have hf:H1 s1.heap.objs.size = none:=I1.hok.fresh (Nat.le_refl _)
 refine ⟨.ref s1.heap.objs.size,upd H1 s1.heap.objs.size (.tup xs),I1.laid (t':=s1.toks) (fun b u e=>Heap.get?_push_of_some _ e) (Nat.le_refl _) ?_,rfl,q _ hf⟩
 exact ⟨z,us,r,⟨_,Heap.get?_push_size _ rfl,rfl,_,rfl⟩⟩
theorem Zc4 (h:PA X es t):PE X (.List es pos) (tLst t):=by
 intro pins s σ H Q I hq
 refine wpAny_List_spliced (thn (h pos pins s σ H _ I hq) fun us s1 ⟨xs,H1,I1,r,z,q⟩=>⟨by rw [<- r.length]; exact z,?_⟩)
 have hf:H1 s1.heap.objs.size = none:=I1.hok.fresh (Nat.le_refl _)
 refine ⟨.ref s1.heap.objs.size,upd H1 s1.heap.objs.size (.lst xs),I1.laid (t':=s1.toks) (fun b u e=>Heap.get?_push_of_some _ e) (Nat.le_refl _) ?_,rfl,q _ hf⟩
 exact ⟨z,us,0,r,Heap.get?_push_size _ rfl⟩
end
abbrev Sp:=List V->Hp->VK->XK->Prop
abbrev CXT:=List Env->Hp->Shared->XK->Value->Shared->Prop
structure Env0 (P:Program) (w:World) (K:PySem.W.Frag) (mg:Str->Option Value) (base:Heap) (A:Around) (outer:List Env) (s:Shared) (H:Hp):Prop where
 frames:A.frames = some outer
 mod:Mod K mg base
 bs:∀ b o,base.get? b = some o->s.heap.get? b = some o/\H b = none
 bsz:base.objs.size<=s.heap.objs.size
 funs:s.heap.FunFrames base outer
 frf:∀ b ∈ frs outer,H b = none
 hok:HOk P w H s.heap
 bare:AllBare s.gens
def CE (outer:List Env) (P:Program) (w:World) (H:Hp) (s:Shared) (Q:VK) (u:Value) (s':Shared):Prop:=
 ∃ v H',s'.os = s.os/\AllBare s'.gens/\Un (frs outer) [] H H' s.heap s'.heap/\HOk P w H' s'.heap/\RelV v u/\Q v H'
def CR (CX:CXT) (outer:List Env) (P:Program) (w:World) (H:Hp) (s:Shared) (Q:VK) (E:XK) (r:Result) (s':Shared):Prop:=
 match r with
 | .ok (.ret u)=>CE outer P w H s Q u s'
 | .ok _=>False
 | .error e=>CX outer H s E e s'
structure FnOk (P:Program) (w:World) (K:PySem.W.Frag) (mg:Str->Option Value) (base:Heap) (CX:CXT) (k:Nat) (f:Addr) (fd:FuncData) (ps:List Str) (sp:Sp):Prop where
 len:∀ vs H Q E,sp vs H Q E->vs.length = ps.length
 run:∀ (A:Around) (outer:List Env) (s:Shared) (H:Hp) (args:Args) (us:List Value) (vs:List V) (Q:VK) (E:XK),Room k A->Env0 P w K mg base A outer s H->BindsTo s fd args (ps.zip us)->Vals vs us->sp vs H Q E->
  codeAny (model P w) A (.call (.ref f) args) (CR CX outer P w H s Q E) s
theorem FnOk.imp {P:Program} {w:World} {K:PySem.W.Frag} {mg:Str->Option Value} {base:Heap} {CX:CXT} {k:Nat} {f:Addr} {fd:FuncData} {ps:List Str} {sp sp':Sp} (F:FnOk P w K mg base CX k f fd ps sp)
  (h:∀ vs H Q E,sp' vs H Q E->sp vs H Q E):FnOk P w K mg base CX k f fd ps sp':=
 ⟨fun vs H Q E q=>F.len vs H Q E (h _ _ _ _ q),fun A outer s H args us vs Q E hr he hb hv hs=>F.run A outer s H args us vs Q E hr he hb hv (h _ _ _ _ hs)⟩
theorem Env0.make {P:Program} {w:World} {K:PySem.W.Frag} {mg:Str->Option Value} {base:Heap} {A:Around} {outer:List Env} {s:Shared} {H:Hp} (e:Env0 P w K mg base A outer s H) (C:Addr) (us:List Value) (kw:List (Str × Value)):
  Env0 P w K mg base (A.under (.builtin "type.__call__" ⟨.ref C :: us,kw⟩)) outer s H:=⟨by first | exact e.frames | (simpa [Around.under,Code.envs,Code.isFrame,pushEnvs] using e.frames),e.mod,e.bs,e.bsz,e.funs,e.frf,e.hok,e.bare⟩
section
variable {X:Cx} {pins:List (Addr × Obj)} {σ:St} {H:Hp} {s s':Shared}
theorem Inv.env0 (I:Inv X pins σ H s):Env0 X.prog X.w X.K X.mg X.base X.A X.stack s H:=
 ⟨I.ok.frames,I.ok.mod,I.bs,Nat.le_trans I.ok.bsz I.sz,I.stack,I.stkFree,I.hok,I.bare⟩
theorem Inv.after {Q:VK} {u:Value} (I:Inv X pins σ H s) (h:CE X.stack X.prog X.w H s Q u s'):EP X pins σ Q u s':=by
 obtain ⟨v,H',os,bare,un,hok,r,q⟩:=h
 obtain ⟨hh,g,d,t,os'⟩:=s'
 obtain rfl:os' = s.os:=os
 exact ⟨v,H',I.call (h':=hh) (g':=g) (d':=d) (t':=t) (ch:=[]) un hok bare (fun b z=>absurd z (by simp)),r,q⟩
end
def Zqf (sp:Sp) (dvs:List V) (E:XK) (t:TA):TE:=fun σ H Q=>t σ H fun vs H1=>sp (vs ++ dvs) H1 Q E
def tMeth (C:Addr) (m:Str) (sp:Sp) (dvs:List V) (E:XK) (ta:TE) (t:TA):TE:=fun σ H Q=>ta σ H fun x H1=>∃ a dx fs,x = .ref a/\H1 a = some (.ins C dx fs)/\fs.lookup m = none /\
 t σ H1 fun vs H2=>sp (x :: (vs ++ dvs)) H2 Q E
def Zqe (C:Addr) (sp:Sp) (dvs:List V) (E:XK) (t:TA):TE:=fun σ H Q=>t σ H fun vs H1=>∀ x dx,H1 x = none->H1 dx = none->dx ≠ x->
 sp (.ref x :: (vs ++ dvs)) (upd (upd H1 dx (.own x)) x (.ins C dx [])) (fun v H2=>v = .non/\Q (.ref x) H2) E
def Binds (K:PySem.W.Frag) (fd:FuncData) (ps:List Str) (ds:List Value):Prop:=
 ∀ (s:Shared) (us:List Value),K.In s.heap->(us ++ ds).length = ps.length->BindsTo s fd ⟨us,[]⟩ (ps.zip (us ++ ds))
theorem Binds.all {K:PySem.W.Frag} {fd:FuncData} {ps:List Str} (h:∀ us:List Value,us.length = ps.length->bindArgs fd ⟨us,[]⟩ = pure (ps.zip us)):Binds K fd ps []:=fun s us _ hl=>by
 rw [List.append_nil] at hl ⊢
 exact .of_eq (h us hl)
def Zim (CX:CXT) (X:Cx) (E:XK):Prop:=∀ (pins:List (Addr × Obj)) (σ:St) (H:Hp) (s:Shared) (e:Value) (s':Shared),Inv X pins σ H s->CX X.stack H s E e s'->X.xe e s'
section
variable {X:Cx} {CX:CXT} {k:Nat} {f C:Addr} {fd:FuncData} {ps:List Str} {sp:Sp} {dvs:List V} {ds:List Value} {E:XK} {x m:Str} {p pos apos:Pos} {e o:Expr} {es:List Expr} {ta:TE} {t:TA}
theorem Zr7 {pins:List (Addr × Obj)} {σ:St} {H:Hp} {s:Shared} {Q:VK} {us:List Value} {vs:List V} (F:FnOk X.prog X.w X.K X.mg X.base CX k f fd ps sp) (hr:Room k X.A) (hb:Binds X.K fd ps ds) (hd:Vals dvs ds) (hx:Zim CX X E)
  (I:Inv X pins σ H s) (r:Vals vs us) (h:sp (vs ++ dvs) H Q E):wpAny (model X.prog X.w) X.A (call (.ref f) us) (EP X pins σ Q) X.xe s:=by
 have r2:Vals (vs ++ dvs) (us ++ ds):=r.append hd
 have hl:(us ++ ds).length = ps.length:=by rw [<- r2.length]; exact F.len _ _ _ _ h
 refine wpAny_call (codeAny_mono (F.run X.A X.stack s H ⟨us,[]⟩ (us ++ ds) (vs ++ dvs) Q E hr I.env0 (hb s us I.kIn hl) r2 h) fun r s' hq=>?_)
 cases r with
 | error e=>exact hx pins σ H s e s' I hq
 | ok fl=>
  cases fl with
  | ret u=>exact I.after hq
  | next=>exact False.elim hq
  | brk=>exact False.elim hq
  | cont=>exact False.elim hq
theorem pe_call (F:FnOk X.prog X.w X.K X.mg X.base CX k f fd ps sp) (hr:Room k X.A) (hg:Gl X x) (hm:X.mg x = some (.ref f)) (hk:PySem.W.keepIn X.K (.ref f) = true) (hb:Binds X.K fd ps ds) (hd:Vals dvs ds) (hx:Zim CX X E)
  (ha:PA X (e :: es) t) (hdb:(x == ("__debug__" : Str)) = false:=by decide) (he:starEach (e :: es) X.env = (false,eval e X.env) :: starEach es X.env:=by rfl) (hpl:(backTo pos (starEach es X.env)).any (·.1) = false:=by rfl):
  PE X (.Call (.Name x p) (e :: es) [] pos) (Zqf sp dvs E t):=by
 intro pins s σ H Q I h
 refine wpAny_Call_Name_kw (Zlg I hg hm ?_ hdb)
 refine PySem.W.callWith_K (h₀:=X.base) I.ok.mod.kin hk (thn (ha pos pins s σ H _ I h) fun us s1 ⟨vs,H1,I1,r,q⟩=>⟨I1.kIn,?_⟩) he hpl
 exact Zr7 F hr hb hd hx I1 r q
theorem pe_meth {pl:Sem Bool} (he:PE X o ta) (c:Cls X.K C) (hm:Meth X.K C m f) (F:FnOk X.prog X.w X.K X.mg X.base CX k f fd ps sp) (hr:Room k X.A) (hb:Binds X.K fd ps ds) (hd:Vals dvs ds) (hx:Zim CX X E) (ha:PA X (e :: es) t)
  (hst:starEach (e :: es) X.env = (false,eval e X.env) :: starEach es X.env:=by rfl) (hpl:(backTo pos (starEach es X.env)).any (·.1) = false:=by rfl)
  (ht:eval (.Call (.Attribute o m apos) (e :: es) [] pos) X.env = (do
   let ov <- eval o X.env
   standAt apos.atName
   let (f,first) <- holding [ov] (getMethod ov m pl)
   callWith pos f first (backTo pos (starEach (e :: es) X.env)) (backToKw pos (keywordEach [] X.env))):=by rfl):
  PE X (.Call (.Attribute o m apos) (e :: es) [] pos) (tMeth C m sp dvs E ta t):=by
 intro pins s σ H Q I h
 refine PySem.W.methodCall_KW (pl:=pl) (thn (he pins s σ H _ I h) fun u s1 ⟨x,H1,I1,rx,a,dx,fs,ex,ea,l,q⟩=>?_) ht
 subst ex
 obtain rfl:u = Value.ref a:=rx
 refine Zij I1 ea c hm l ?_
 refine PySem.W.callWith_K (first:=[.ref a]) (h₀:=X.base) I.ok.mod.kin hm.kp (thn (ha pos pins s1 σ H1 _ I1 q) fun us s2 ⟨vs,H2,I2,r,q2⟩=>⟨I2.kIn,?_⟩) hst hpl
 exact Zr7 (us:=.ref a :: us) (vs:=.ref a :: vs) F hr hb hd hx I2 (.cons rfl r) q2
structure Mk (K:PySem.W.Frag) (C f:Addr):Prop where
 makes:PySem.W.makesIn K C = true
 init:PySem.W.findIn K (.ref C) "__init__" = some (some (.ref f))
 fn:PySem.W.isFn K (.ref f) = true
 kp:PySem.W.keepIn K (.ref C) = true
theorem Zqn {pins:List (Addr × Obj)} {σ:St} {H:Hp} {s:Shared} {Q:VK} {us:List Value} {vs:List V} (M:Mk X.K C f) (F:FnOk X.prog X.w X.K X.mg X.base CX k f fd ps sp) (hr:Room (k + 1) X.A) (hb:Binds X.K fd ps ds) (hd:Vals dvs ds)
  (hx:Zim CX X E) (I:Inv X pins σ H s) (r:Vals vs us)
  (h:∀ x dx,H x = none->H dx = none->dx ≠ x->sp (.ref x :: (vs ++ dvs)) (upd (upd H dx (.own x)) x (.ins C dx [])) (fun v H2=>v = .non/\Q (.ref x) H2) E):
  wpAny (model X.prog X.w) X.A (call (.ref C) us) (EP X pins σ Q) X.xe s:=by
 have hq:=h (s.heap.objs.size + 1) s.heap.objs.size (I.hok.fresh (Nat.le_succ _)) (I.hok.fresh (Nat.le_refl _)) (Nat.ne_of_lt (Nat.lt_succ_self _))
 have I2:=Inv.made (C:=C) I
 have r2:Vals (V.ref (s.heap.objs.size + 1) :: (vs ++ dvs)) (Value.ref (s.heap.objs.size + 1) :: (us ++ ds)):=.cons rfl (r.append hd)
 have hl:(Value.ref (s.heap.objs.size + 1) :: us ++ ds).length = ps.length:=by
  have e:=r2.length
  rw [F.len _ _ _ _ hq] at e
  exact e.symm
 refine wpAny_call (Zrh (f:=f) I.kIn M.makes M.init (beq_iff_eq.mp M.fn) (codeAny_mono (F.run _ X.stack _ _ ⟨Value.ref (s.heap.objs.size + 1) :: us,[]⟩ (Value.ref (s.heap.objs.size + 1) :: (us ++ ds)) _ _ E (hr.make C us [])
  (I2.env0.make C us []) (hb _ (Value.ref (s.heap.objs.size + 1) :: us) I2.kIn hl) r2 hq) fun r s' hq'=>?_))
 cases r with
 | error e=>exact hx pins σ _ _ e s' I2 hq'
 | ok fl=>
  cases fl with
  | ret u=>
   obtain ⟨v,H',I3,rv,ev,q3⟩:=I2.after hq'
   subst ev
   exact ⟨rv,⟨V.ref (s.heap.objs.size + 1),H',I3,rfl,q3⟩⟩
  | next=>exact False.elim hq'
  | brk=>exact False.elim hq'
  | cont=>exact False.elim hq'
theorem pe_make (M:Mk X.K C f) (F:FnOk X.prog X.w X.K X.mg X.base CX k f fd ps sp) (hr:Room (k + 1) X.A) (hg:Gl X x) (hm:X.mg x = some (.ref C)) (hb:Binds X.K fd ps ds) (hd:Vals dvs ds) (hx:Zim CX X E)
  (ha:PA X (e :: es) t) (hdb:(x == ("__debug__" : Str)) = false:=by decide) (he:starEach (e :: es) X.env = (false,eval e X.env) :: starEach es X.env:=by rfl) (hpl:(backTo pos (starEach es X.env)).any (·.1) = false:=by rfl):
  PE X (.Call (.Name x p) (e :: es) [] pos) (Zqe C sp dvs E t):=by
 intro pins s σ H Q I h
 refine wpAny_Call_Name_kw (Zlg I hg hm ?_ hdb)
 refine PySem.W.callWith_K (h₀:=X.base) I.ok.mod.kin M.kp (thn (ha pos pins s σ H _ I h) fun us s1 ⟨vs,H1,I1,r,q⟩=>⟨I1.kIn,?_⟩) he hpl
 exact Zqn M F hr hb hd hx I1 r q
end
section
variable {X:Cx} {CX:CXT} {k:Nat} {f C:Addr} {fd:FuncData} {ps ks:List Str} {sp:Sp} {E:XK} {x m:Str} {p pos apos kpos:Pos} {e o:Expr} {es:List Expr} {kws:List Keyword} {te ta:TE} {t tk:TA} {nm:Option Str}
structure KBinds (K:PySem.W.Frag) (fd:FuncData) (ps ks:List Str) (g:List Value->List Value->List Value) (gV:List V->List V->List V):Prop where
 to:∀ (s:Shared) (us ws:List Value),K.In s.heap->(g us ws).length = ps.length->BindsTo s fd ⟨us,ks.zip ws⟩ (ps.zip (g us ws))
 rel:∀ {vs:List V} {us:List Value} {zs:List V} {ws:List Value},Vals vs us->Vals zs ws->Vals (gV vs zs) (g us ws)
variable {g:List Value->List Value->List Value} {gV:List V->List V->List V}
end
structure FnScope (N P:List Str) (sc:Scope):Prop where
 kind:sc.kind = .function
 co:sc.isCoroutine = false
 gen:sc.isGenerator = false
 nd:N.Nodup
 pre:N.take P.length = P
 par:∀ x ∈ P,sc.names.lookup x = some .local\/sc.names.lookup x = some .cell
 nofree:∀ y ∈ sc.names,y.2 ≠ .free
theorem Zkn {kindOf:Str->Option NameKind} {x:Str}:∀ {binds:List (Str × Value)} {m:Str->Option Value},(∀ v,(x,v) ∉ binds)->bindL kindOf binds m x = m x
 | [],_,_=>rfl
 | (n,v) :: r,m,h=>by
  unfold bindL
  rw [Zkn fun w hw=>h w (List.mem_cons_of_mem _ hw)]
  split
  ·have:x ≠ n:=by rintro rfl; exact h v List.mem_cons_self
   simp [this]
  ·rfl
theorem Zkp {kindOf:Str->Option NameKind} {x:Str}:∀ {binds:List (Str × Value)} {m:Str->Option Value},(∀ v,(x,v) ∉ binds)->bindC kindOf binds m x = m x
 | [],_,_=>rfl
 | (n,v) :: r,m,h=>by
  unfold bindC
  rw [Zkp fun w hw=>h w (List.mem_cons_of_mem _ hw)]
  split
  ·rfl
  ·have:x ≠ n:=by rintro rfl; exact h v List.mem_cons_self
   simp [this]
theorem Zko {kindOf:Str->Option NameKind} {x:Str} {v:Value}:∀ {P:List Str} {vs:List Value} {i:Nat} {m:Str->Option Value},P.Nodup->P[i]? = some x->vs[i]? = some v->kindOf x = some .local->
  bindL kindOf (P.zip vs) m x = some v
 | [],_,_,_,_,h,_,_=>by simp at h
 | _ :: _,[],_,_,_,_,h,_=>by simp at h
 | p :: P,w :: vs,0,m,nd,h1,h2,hk=>by
  simp at h1 h2; subst h1; subst h2
  show bindL kindOf ((p,w) :: P.zip vs) m p = _
  unfold bindL
  rw [Zkn fun v hv=>(List.nodup_cons.mp nd).1 (List.of_mem_zip hv).1,if_pos hk]
  simp
 | p :: P,w :: vs,i + 1,m,nd,h1,h2,hk=>by
  show bindL kindOf ((p,w) :: P.zip vs) m x = _
  unfold bindL
  exact Zko (i:=i) (List.nodup_cons.mp nd).2 (by simpa using h1) (by simpa using h2) hk
theorem Zkq {kindOf:Str->Option NameKind} {x:Str} {v:Value}:∀ {P:List Str} {vs:List Value} {i:Nat} {m:Str->Option Value},P.Nodup->P[i]? = some x->vs[i]? = some v->kindOf x ≠ some .local->
  bindC kindOf (P.zip vs) m x = some v
 | [],_,_,_,_,h,_,_=>by simp at h
 | _ :: _,[],_,_,_,_,h,_=>by simp at h
 | p :: P,w :: vs,0,m,nd,h1,h2,hk=>by
  simp at h1 h2; subst h1; subst h2
  show bindC kindOf ((p,w) :: P.zip vs) m p = _
  unfold bindC
  rw [Zkp fun v hv=>(List.nodup_cons.mp nd).1 (List.of_mem_zip hv).1,if_neg hk]
  simp
 | p :: P,w :: vs,i + 1,m,nd,h1,h2,hk=>by
  show bindC kindOf ((p,w) :: P.zip vs) m x = _
  unfold bindC
  exact Zkq (i:=i) (List.nodup_cons.mp nd).2 (by simpa using h1) (by simpa using h2) hk
def start (N:List Str) (vs:List V):St:=vs.map some ++ List.replicate (N.length - vs.length) none
def Zrs (CX:CXT) (P:Program) (w:World) (K:PySem.W.Frag) (mg:Str->Option Value) (base:Heap) (N:List Str) (qual:Str) (scope:Scope) (f:Addr) (cd:Value) (A:Around) (outer:List Env) (s:Shared) (H:Hp) (E:XK):Cx where
 prog:=P
 w:=w
 K:=K
 mg:=mg
 base:=base
 A:=A.deeper (envOfC qual scope s.heap.objs.size f cd)
 N:=N
 s₀:=s
 H₀:=H
 env:=envOfC qual scope s.heap.objs.size f cd
 outer:=outer
 stack:=envOfC qual scope s.heap.objs.size f cd :: outer
 ex:=[]
 calm:=true
 fn:=fun _=>true
 pn:=[]
 xe:=fun e s'=>wpAny (model P w) (A.deeper (envOfC qual scope s.heap.objs.size f cd)) (leaving (envOfC qual scope s.heap.objs.size f cd) e) (fun _ s''=>CX outer H s E e s'') (fun e' s''=>CX outer H s E e' s'') s'
theorem Zmn {sc:Scope} {n:Nat} {x:Str} (h:sc.names.lookup x = some .cell):∃ c,(cellsFrom n sc.names []).lookup x = some c:=by
 have q:=PySem.W.cellsFrom_some sc.names n [] (.inl h)
 exact Option.isSome_iff_exists.mp q
theorem Zo7 {CX:CXT} {P:Program} {w:World} {K:PySem.W.Frag} {mg:Str->Option Value} {base:Heap} {N ps:List Str} {qual:Str} {scope:Scope} {f:Addr} {cd:Value} {A:Around} {outer:List Env} {s s1:Shared} {H:Hp} {E:XK} {us:List Value} {vs:List V}
  (S:FnScope N ps scope) (hd:A.handled = none) (e0:Env0 P w K mg base A outer s H) (hl:vs.length = ps.length) (r:Vals vs us)
  (x:InCallC s s.heap.objs.size (bindL (envOfC qual scope s.heap.objs.size f cd).kindOf (ps.zip us) fun _=>none) (cellsFrom (s.heap.objs.size + 1) scope.names []) (bindC (envOfC qual scope s.heap.objs.size f cd).kindOf (ps.zip us) fun _=>none) s1):
  Inv (Zrs CX P w K mg base N qual scope f cd A outer s H E) [] (start N vs) H s1:=by
 have hpl:ps.length<=N.length:=by have:=congrArg List.length S.pre; rw [List.length_take] at this; omega
 obtain ⟨h1,tk,rfl,hk⟩:=x.done
 have noA:∀ b:Addr,b ∉ (Zrs CX P w K mg base N qual scope f cd A outer s H E).ex:=fun b z=>absurd (show b ∈ ([]:List Addr) from z) (by simp)
 refine ⟨⟨e0.mod,S.kind,rfl,rfl,Nat.le_refl _,fun y z c h1 h2=>?_,fun y hy=>?_,fun y c _ h=>?_,fun _=>hd,Around.frames_deeper e0.frames,.inr ⟨rfl,rfl⟩,fun b z=>absurd z (noA b),e0.bs,e0.bsz,fun b _ _=>noA b,fun b z=>absurd z (noA b),e0.funs,e0.frf,⟨_,_,rfl,S.gen,S.co,rfl,rfl⟩⟩,
  rfl,e0.bare,Un.kept hk,⟨_,x.toInCall.ns,fun i y v h1 h2 h3=>?_⟩,fun y c h=>⟨_,x.cell y c h⟩,e0.hok.fresh (Nat.le_refl _),fun y c h=>?_,fun p hp=>absurd (show p ∈ ([]:List (Addr × Obj)) from hp) (by simp),e0.hok.kept hk,?_⟩
 ·exact name_of_addr x.apart (PySem.mem_of_lookup h1) (PySem.mem_of_lookup h2)
 ·have hy:scope.names.lookup y = some .cell\/scope.names.lookup y = some .free:=hy
  rcases hy with hy | hy
  ·exact Zmn hy
  ·exact absurd rfl (S.nofree _ (PySem.mem_of_lookup hy))
 ·exact Nat.le_of_lt (x.above y c (PySem.mem_of_lookup h))
 ·have hi:i < vs.length:=by
   unfold start at h2
   by_cases hi:i < vs.length
   ·exact hi
   ·rw [List.getElem?_append_right (by simpa using hi)] at h2
    rw [List.getElem?_replicate] at h2
    split at h2 <;> cases h2
  have ha:vs[i]? = some v:=by
   unfold start at h2
   rw [List.getElem?_append_left (by simpa using hi),List.getElem?_map] at h2
   cases e:vs[i]? with
   | none=>rw [e] at h2; cases h2
   | some a=>rw [e] at h2; cases h2; rfl
  obtain ⟨u,hu,rv⟩:=r.get ha
  have hp:ps[i]? = some y:=by
   rw [<- S.pre,List.getElem?_take_of_lt (by omega)]; exact h1
  have ndP:ps.Nodup:=by rw [<- S.pre]; exact S.nd.sublist (List.take_sublist _ _)
  refine ⟨u,rv,?_⟩
  rcases S.par y (List.mem_of_getElem? hp) with k | k
  ·exact .inl ⟨k,Zko ndP hp hu k⟩
  ·obtain ⟨c,e⟩:=Zmn (n:=s.heap.objs.size + 1) k
   refine .inr ⟨.inl k,c,e,?_⟩
   have q:=x.cell y c e
   rw [Zkq ndP hp hu (by show scope.names.lookup y ≠ _; rw [k]; decide)] at q
   exact q
 ·exact e0.hok.fresh (Nat.le_of_lt (x.above y c (PySem.mem_of_lookup h)))
 ·unfold start
  show _ = N.length
  rw [List.length_append,List.length_map,List.length_replicate]
  omega
theorem fn_of {CX:CXT} {P:Program} {w:World} {K:PySem.W.Frag} {mg:Str->Option Value} {base:Heap} {k:Nat} {f:Addr} {name qual:Str} {params:Arguments} {body:List Stmt} {scope:Scope} {dV kV doc pm cdv ct oc:Value} {an od:Option Addr}
  {osl:Array (Option Value)} {N ps:List Str} {sp:Sp} (lk:K.lookup f = some ⟨oc,od,.func (PySem.W.fnOf name qual params body scope dV kV doc pm an cdv ct),osl⟩) (hcd:PySem.W.codeIn K cdv qual = true) (S:FnScope N ps scope)
  (len:∀ vs H Q E,sp vs H Q E->vs.length = ps.length)
  (hbody:∀ (A:Around) (outer:List Env) (s:Shared) (H:Hp) (vs:List V) (Q:VK) (E:XK),Room k (A.deeper (envOfC qual scope s.heap.objs.size f cdv))->sp vs H Q E->
   ∃ t,PSs (Zrs CX P w K mg base N qual scope f cdv A outer s H E) body t/\t { nx:=fun _ H'=>Q .non H',rt:=Q } (start N vs) H):
  FnOk P w K mg base CX (k + 1) f (PySem.W.fnOf name qual params body scope dV kV doc pm an cdv ct) ps sp:=by
 refine ⟨len,fun A outer s H args us vs Q E hr e0 hb r hsp=>?_⟩
 have hl:=len _ _ _ _ hsp
 have KX:K.In s.heap:=e0.mod.kin.keeps fun b o e=>(e0.bs b o e).1
 have lim:s.heap.NoLimit:=e0.mod.nolimit.keeps fun b o e=>(e0.bs b o e).1
 have hkind:∀ y ∈ ps.zip us,scope.names.lookup y.1 = some .local\/(scope.names.lookup y.1 = some .cell/\((cellsFrom (s.heap.objs.size + 1) scope.names []).lookup y.1).isSome = true):=fun ⟨n,v⟩ hy=>by
  rcases S.par n (List.of_mem_zip hy).1 with q | q
  ·exact .inl q
  ·exact .inr ⟨q,PySem.W.cellsFrom_some _ _ _ (.inl q)⟩
 refine codeAny_call_function hr.depth (KX _ _ lk) rfl S.co S.gen rfl (PySem.W.codeRec_of KX hcd) (hb _ _ _ _ ?_)
 refine wpAny_newFunctionEnv_cells S.kind hkind fun env he s1 x=>?_
 subst he
 refine ⟨lim.keeps x.toInCall.keep,codeAny_func ?_⟩
 obtain ⟨t,ht,hq⟩:=hbody A outer s H vs Q E (hr.deeper _) hsp
 have I:Inv (Zrs CX P w K mg base N qual scope f cdv A outer s H E) [] (start N vs) H s1:=Zo7 S hr.hd e0 hl r x
 refine wpAny_mono (ht [] s1 (start N vs) H _ I hq) (fun fl s' hs=>?_) fun e s' hs=>hs
 have fin:∀ {σ':St} {H':Hp} {v:V} {u:Value},Inv (Zrs CX P w K mg base N qual scope f cdv A outer s H E) [] σ' H' s'->RelV v u->Q v H'->CE outer P w H s Q u s':=
  fun {σ' H' v u} J rv q=>⟨v,H',J.os,J.bare,J.base,J.hok,rv,q⟩
 cases fl with
 | ret u=>
  obtain ⟨v,σ',H',J,rv,q⟩:=hs
  exact fin J rv q
 | next=>
  obtain ⟨σ',H',J,q⟩:=hs
  exact fin (v:=V.non) (u:=Value.none) J rfl q
 | brk=>
  obtain ⟨_,_,_,q⟩:=hs
  exact False.elim q
 | cont=>
  obtain ⟨_,_,_,q⟩:=hs
  exact False.elim q
section
variable {X:Cx} {x:Str} {p pos:Pos} {e:Expr} {es:List Expr} {t:TA} {id T:String} {r:List V->Hp->VK->Prop}
def tCB (r:List V->Hp->VK->Prop) (t:TA):TE:=fun σ H Q=>t σ H fun vs H1=>r vs H1 Q
theorem Zqv (hc:Zf5 X (.builtin id) r) (hg:Gl X x) (hm:X.mg x = none) (hv:bootBuiltins x = some (.builtin id)) (ha:PA X (e :: es) t) (hn:x ≠ "__name__" := by decide) (hdb:(x == ("__debug__" : Str)) = false:=by decide)
  (he:starEach (e :: es) X.env = (false,eval e X.env) :: starEach es X.env:=by rfl) (hpl:(backTo pos (starEach es X.env)).any (·.1) = false:=by rfl):PE X (.Call (.Name x p) (e :: es) [] pos) (tCB r t):=by
 intro pins s σ H Q I h
 refine wpAny_Call_Name_kw (Zew I hg hm hv ?_ hn hdb)
 exact PyProof.Rows.callWith_builtin1 (thn (ha pos pins s σ H _ I h) fun us s1 ⟨vs,H1,I1,r1,q1⟩=>hc pins s1 σ H1 vs us Q I1 r1 q1) he hpl
theorem Zn6 (hc:Zf5 X (.type T) r) (hg:Gl X x) (hm:X.mg x = none) (hv:bootBuiltins x = some (.type T)) (ha:PA X (e :: es) t) (hn:x ≠ "__name__" := by decide) (hdb:(x == ("__debug__" : Str)) = false:=by decide)
  (he:starEach (e :: es) X.env = (false,eval e X.env) :: starEach es X.env:=by rfl) (hpl:(backTo pos (starEach es X.env)).any (·.1) = false:=by rfl):PE X (.Call (.Name x p) (e :: es) [] pos) (tCB r t):=by
 intro pins s σ H Q I h
 refine wpAny_Call_Name_kw (Zew I hg hm hv ?_ hn hdb)
 exact PyProof.Rows.callWith_type1 (thn (ha pos pins s σ H _ I h) fun us s1 ⟨vs,H1,I1,r1,q1⟩=>hc pins s1 σ H1 vs us Q I1 r1 q1) he hpl
end
end L2
namespace HT
open PySem PyProof.Rows
section
open PySem.SeqAt
open PySem.AutoSeq1 (wpAny_loadPart')
open PySem.MeetsSeq PySem.MeetsSeq2 PySem.MeetsSeq3
end
section
variable {prog:Program} {w:World} {A:Around} {E:Value->Shared->Prop} {s:Shared}
def sIx (n d:Nat):Option Int->Nat
 | none=>d
 | some v=>if v < 0 then (v + (n:Int)).toNat else min v.toNat n
theorem sIx_le (n d:Nat) (hd:d<=n) (o:Option Int):sIx n d o<=n:=by
 cases o with
 | none=>exact hd
 | some v=>
  show (if v < 0 then (v + (n:Int)).toNat else min v.toNat n)<=n
  by_cases hv:v < 0
  ·rw [if_pos hv]; omega
  ·rw [if_neg hv]; exact Nat.min_le_right _ _
theorem Zpu (v:Int) (n d:Nat):(if v < 0 then max (v + (n:Int)) 0 else min v (n:Int)) = ((sIx n d (some v):Nat):Int):=by
 show (if v < 0 then max (v + (n:Int)) 0 else min v (n:Int)) = (((if v < 0 then (v + (n:Int)).toNat else min v.toNat n):Nat):Int)
 by_cases hv:v < 0
 ·simp only [if_pos hv]; omega
 ·simp only [if_neg hv]; omega
theorem Zm8 (lo hi:Option Int) (n:Nat):Builtin.Slice.sliceAdjust lo hi 1 (n:Int) = (((sIx n 0 lo:Nat):Int),((sIx n n hi:Nat):Int)):=by
 have h1:¬ ((1:Int) < 0):=by omega
 unfold Builtin.Slice.sliceAdjust
 simp only [h1,if_false]
 refine Prod.ext ?_ ?_
 ·cases lo with
  | none=>rfl
  | some v=>exact Zpu v n 0
 ·cases hi with
  | none=>rfl
  | some v=>exact Zpu v n n
theorem Zmy (i j:Nat):Builtin.Slice.slicePlaces (i:Int) (j:Int) 1 = j - i:=by
 unfold Builtin.Slice.slicePlaces
 have h1:(1:Int) > 0:=by omega
 simp only [h1,if_true,Int.ediv_one]
 split <;> omega
theorem Zh3 {v:Value} {o:Option Int} {Q:Option Int->Shared->Prop} (p:IsPart v o) (h:Q o s):wpAny (model prog w) A (Builtin.Slice.slicePartIndex v) Q E s:=by
 cases p with
 | none=>exact slicePart_none h
 | int i t=>exact slicePart_int h
theorem Zgh {sl:Addr} {vl vu:Value} {lo hi:Option Int} {n:Nat} {Q:Int × Int × Nat->Shared->Prop} (hs:s.heap.IsSliceOf sl vl vu .none) (pl:IsPart vl lo) (pu:IsPart vu hi)
  (h:Q (((sIx n 0 lo:Nat):Int),1,sIx n n hi - sIx n 0 lo) s):wpAny (model prog w) A (Builtin.Slice.sliceApplied (.ref sl) (pure (n:Int))) Q E s:=by
 obtain ⟨os,hos,hcs,hds⟩:=id hs
 unfold Builtin.Slice.sliceApplied Builtin.Slice.sliceFields
 refine wpAny_bind (wpAny_bind (wpAny_field hos hds (x:=vl) rfl (wpAny_bind (wpAny_field hos hds (x:=vu) rfl (wpAny_bind (wpAny_field hos hds (x:=.none) rfl (wpAny_pure ?_)))))))
 refine wpAny_bind (slicePart_none ?_)
 show wpAny _ _ (if ((1:Int) == 0) = true then _ else _) _ _ s
 rw [if_neg (by decide)]
 refine wpAny_bind (Zh3 pl (wpAny_bind (Zh3 pu (wpAny_bind (wpAny_pure ?_)))))
 show wpAny _ _ (match Builtin.Slice.sliceAdjust lo hi 1 (n:Int) with | (lo,hi)=>pure (lo,(1:Int),Builtin.Slice.slicePlaces lo hi 1)) _ _ s
 rw [Zm8 lo hi n]
 show wpAny _ _ (pure (((sIx n 0 lo:Nat):Int),(1:Int),Builtin.Slice.slicePlaces ((sIx n 0 lo:Nat):Int) ((sIx n n hi:Nat):Int) 1)) _ _ s
 rw [Zmy]
 exact wpAny_pure h
theorem Zqt (xs:Array Value) (i k:Nat):((List.range k).filterMap fun (m:Nat)=>xs[((i:Int) + (m:Int) * 1).toNat]?).toArray = ((xs.toList.drop i).take k).toArray:=by
 have e:(fun (m:Nat)=>xs[((i:Int) + (m:Int) * 1).toNat]?) = fun m=>xs[i + m]?:=by
  funext m
  have:((i:Int) + (m:Int) * 1).toNat = i + m:=by omega
  rw [this]
 rw [e]
 have:=pick_run xs i k
 rw [List.filterMap_map] at this
 have e2:((fun x=>xs[x]?) ∘ fun x=>i + x) = fun m=>xs[i + m]?:=rfl
 rw [e2] at this
 rw [this]
theorem getItem_tuple_cut {t sl:Addr} {items:Array Value} {vl vu:Value} {lo hi:Option Int} {Q:Value->Shared->Prop} (ht:IsTup s.heap t items) (hs:s.heap.IsSliceOf sl vl vu .none) (pl:IsPart vl lo) (pu:IsPart vu hi)
  (hw:¬ (sIx items.size 0 lo = 0/\sIx items.size items.size hi = items.size))
  (h:Q (.ref s.heap.objs.size) { s with heap:=s.heap.push { cls:=.type "tuple",data:=.seq ((items.toList.drop (sIx items.size 0 lo)).take (sIx items.size items.size hi - sIx items.size 0 lo)).toArray } })
  (hsz:items.size<=sizeLine):wpAny (model prog w) A (getItem (.ref t) (.ref sl)) Q E s:=by
 have htake:sizeOk (.seq ((items.toList.drop (sIx items.size 0 lo)).take (sIx items.size items.size hi - sIx items.size 0 lo)).toArray):=by
  show ((items.toList.drop (sIx items.size 0 lo)).take (sIx items.size items.size hi - sIx items.size 0 lo)).toArray.size<=sizeLine
  rw [List.size_toArray,List.length_take,List.length_drop,Array.length_toList]
  omega
 have hj:sIx items.size items.size hi<=items.size:=sIx_le _ _ (Nat.le_refl _) hi
 obtain ⟨os,hos,hcs,hds⟩:=id hs
 have hTs:s.TypeIs (.ref sl) "slice" := ⟨os,hos,hcs⟩
 unfold getItem
 try with_reducible refine wpAny_holding ?_
 first | refine wpAny_bind (wpAny_pure ?_) | skip
 refine wpAny_bind (wpAny_sequenceKey ht.typeIs (by decide) ?_)
 refine wpAny_bind (wpAny_callSpecial?_slot (name:=Str.ofString "__getitem__") ht.typeIs PyProof.Rows.slot_tuple_getitem
  (wpAny_call_entry PyProof.Rows.slot_tuple_getitem ht.typeIs entry_tuple_getitem ?_ (args_tuple_getitem _ _)))
 show wpAny _ _ (Builtin.Tuple.tupleItemsOf (.ref t) >>= _) _ _ s
 refine wpAny_bind (tupleItemsOf_ ht ?_)
 refine wpAny_bind (wpAny_typeOf hTs ?_)
 rw [if_pos (by decide)]
 refine wpAny_bind (Zgh hs pl pu ?_)
 have hno:¬ ((((sIx items.size 0 lo:Nat):Int) == 0 && (1:Int) == 1 && (sIx items.size items.size hi - sIx items.size 0 lo) == items.size) = true):=by
  intro q
  rw [Bool.and_eq_true,Bool.and_eq_true] at q
  have q1:((sIx items.size 0 lo:Nat):Int) = 0:=eq_of_beq q.1.1
  have q2:sIx items.size items.size hi - sIx items.size 0 lo = items.size:=eq_of_beq q.2
  exact hw ⟨by omega,by omega⟩
 show wpAny _ _ (if (((sIx items.size 0 lo:Nat):Int) == 0 && (1:Int) == 1 && (sIx items.size items.size hi - sIx items.size 0 lo) == items.size) = true then _ else _) _ _ s
 rw [if_neg hno,Zqt]
 first
  | exact wpAny_bind (m:=Builtin.Tuple.tupleExact _) (wpAny_newObj_type (wpAny_pure ⟨_,rfl,wpAny_pure h⟩) htake)
  | exact wpAny_bind (m:=Builtin.Tuple.tupleExact _) (wpAny_newObj_type (wpAny_bind (wpAny_pure (wpAny_pure ⟨_,rfl,wpAny_pure h⟩))) htake)
  | exact wpAny_bind (wpAny_bind (m:=Builtin.Tuple.tupleExact _) (wpAny_newObj_type (wpAny_pure (wpAny_pure ⟨_,rfl,wpAny_pure h⟩)) htake))
  | exact wpAny_bind (wpAny_bind (m:=Builtin.Tuple.tupleExact _) (wpAny_newObj_type (wpAny_pure ⟨_,rfl,wpAny_pure h⟩) htake))
end
end HT
namespace L2
open PySem PySem.Spec PyProof.Rows
abbrev TO:=St->Hp->(Option Int->Hp->Prop)->Prop
def PO (X:Cx) (e:Option Expr) (t:TO):Prop:=
 ∀ (pins:List (Addr × Obj)) (s:Shared) (σ:St) (H:Hp) (Q:Option Int->Hp->Prop),Inv X pins σ H s->t σ H Q->
  wpAny (model X.prog X.w) X.A (evalPart e X.env) (fun u s'=>∃ o H',Inv X pins σ H' s'/\IsPart u o/\Q o H') X.xe s
def Znf:TO:=fun _ H Q=>Q none H
def tPart (t:TE):TO:=fun σ H Q=>t σ H fun x H1=>∃ i,x = .int i/\Q (some i) H1
section
variable {X:Cx} {e:Expr} {te:TE} {lo hi:Option Expr} {tl th:TO} {pos p2:Pos}
theorem Zk8:PO X none Znf:=by
 intro pins s σ H Q I h
 rw [evalPart_none]
 exact wpAny_pure ⟨none,H,I,.none,h⟩
theorem Zf4 (h:PE X e te):PO X (some e) (tPart te):=by
 intro pins s σ H Q I hw
 rw [evalPart_some]
 refine thn (h pins s σ H _ I hw) fun u s1 ⟨x,H1,I1,r1,q1⟩=>?_
 obtain ⟨i,rfl,q⟩:=q1
 obtain ⟨t,rfl⟩:=r1
 exact ⟨some i,H1,I1,.int i t,q⟩
def SlR (X:Cx) (r:V->Option Int->Option Int->Hp->VK->Prop):Prop:=
 ∀ (pins:List (Addr × Obj)) (s:Shared) (σ:St) (H:Hp) (x:V) (v vl vu:Value) (lo hi:Option Int) (sl:Addr) (Q:VK),Inv X pins σ H s->RelV x v->s.heap.IsSliceOf sl vl vu .none->IsPart vl lo->IsPart vu hi->r x lo hi H Q->
  ∃ T id,typeLookup (.type T) "__getitem__" = pure (some (.builtin id))/\s.TypeIs v T/\wpAny (model X.prog X.w) X.A (getItem v (.ref sl)) (EP X pins σ Q) X.xe s
def tSl (r:V->Option Int->Option Int->Hp->VK->Prop) (te:TE) (tl th:TO):TE:=fun σ H Q=>te σ H fun x H1=>tl σ H1 fun l H2=>th σ H2 fun u H3=>r x l u H3 Q
theorem Zgo {r:V->Option Int->Option Int->Hp->VK->Prop} (hr:SlR X r) (he:PE X e te) (hl:PO X lo tl) (hu:PO X hi th):PE X (.Subscript e (.Slice lo hi none p2) pos) (tSl r te tl th):=by
 intro pins s σ H Q I h
 refine Subscript_ (thn (he pins s σ H _ I h) fun v s1 ⟨x,H1,I1,r1,q1⟩=>?_)
 refine wpAny_Slice (thn (hl pins s1 σ H1 _ I1 q1) fun vl s2 ⟨l,H2,I2,pl,q2⟩=>thn (hu pins s2 σ H2 _ I2 q2) fun vu s3 ⟨u,H3,I3,pu,q3⟩=>?_)
 rw [evalPart_none]
 refine wpAny_pure ?_
 have I4:Inv X pins σ H3 { s3 with heap:=s3.heap.push { cls:=.type "slice",data:=.fields #[vl,vu,.none] } }:=I3.kept (t':=s3.toks) fun b ob q=>Heap.get?_push_of_some _ q
 obtain ⟨T,id,hT,ht,hg⟩:=hr pins { s3 with heap:=s3.heap.push { cls:=.type "slice",data:=.fields #[vl,vu,.none] } } σ H3 x v vl vu l u s3.heap.objs.size Q I4 r1 (Heap.IsSliceOf.new ..) pl pu q3
 show wpAny (model X.prog X.w) X.A (subscriptTail e (.Slice lo hi none p2) v (.ref s3.heap.objs.size)) (EP X pins σ Q) X.xe { s3 with heap:=s3.heap.push { cls:=.type "slice",data:=.fields #[vl,vu,.none] } }
 exact tail_any (ops:=[.ref s3.heap.objs.size,v]) ht hT hg (by with_unfolding_all rfl)
def Zmi (xs:List V) (lo hi:Option Int):List V:=(xs.drop (HT.sIx xs.length 0 lo)).take (HT.sIx xs.length xs.length hi - HT.sIx xs.length 0 lo)
theorem Zho (xs:List V) (lo hi:Option Int):(Zmi xs lo hi).length<=xs.length:=by
 unfold Zmi
 rw [List.length_take,List.length_drop]
 omega
def rSlT (K:PySem.W.Frag):V->Option Int->Option Int->Hp->VK->Prop:=fun x lo hi H Q=>∃ a xs,x = .ref a/\SqT K H a xs /\
 ¬ (HT.sIx xs.length 0 lo = 0/\HT.sIx xs.length xs.length hi = xs.length)/\∀ p,H p = none->Q (.ref p) (upd H p (.tup (Zmi xs lo hi)))
theorem Zr5:SlR X (rSlT X.K):=by
 intro pins s σ H x v vl vu lo hi sl Q I rx hs pl pu h
 obtain ⟨a,xs,rfl,hx,hw,q⟩:=h
 cases rx
 obtain ⟨its,r,ht,hz⟩:=I.tuple hx
 have hlen:its.toArray.size = xs.length:=by rw [List.size_toArray]; exact r.length.symm
 refine ⟨"tuple",_,PyProof.Rows.slot_tuple_getitem.lookup,ht.typeIs,?_⟩
 refine HT.getItem_tuple_cut ht hs pl pu (by rw [hlen]; exact hw) ?_ (by rw [hlen]; exact hz)
 rw [hlen]
 refine ⟨.ref s.heap.objs.size,_,I.laid (t':=s.toks) (o:=.tup (Zmi xs lo hi)) (fun b ob q=>Heap.get?_push_of_some _ q) (Nat.le_refl _) ?_,rfl,q _ (I.hok.fresh (Nat.le_refl _))⟩
 exact ⟨Nat.le_trans (Zho xs lo hi) hz,_,(r.drop (HT.sIx xs.length 0 lo)).take (HT.sIx xs.length xs.length hi - HT.sIx xs.length 0 lo),IsTup.new _ _⟩
end
def ixN (n:Nat) (i:Int):Option Nat:=if 0<=i then (if i < n then some i.toNat else none) else if -(n:Int)<=i then some (i + n).toNat else none
def atI {α:Type} (xs:List α) (i:Int):Option α:=(ixN xs.length i).bind fun j=>xs[j]?
theorem Zo1 {n:Nat} {i:Int} {j:Nat} (h:ixN n i = some j):seqIndex? i n = some j/\j < n/\-(n:Int)<=i/\i < n:=by
 unfold ixN at h
 by_cases h0:0<=i
 ·rw [if_pos h0] at h
  by_cases h1:i < n
  ·rw [if_pos h1] at h
   have e:i.toNat = j:=Option.some.inj h
   exact ⟨by rw [seqIndex_of h0 h1,e],by omega,by omega,h1⟩
  ·rw [if_neg h1] at h; cases h
 ·rw [if_neg h0] at h
  by_cases h1:-(n:Int)<=i
  ·rw [if_pos h1] at h
   have e:(i + n).toNat = j:=Option.some.inj h
   exact ⟨by rw [seqIndex_neg (by omega) h1,e],by omega,h1,by omega⟩
  ·rw [if_neg h1] at h; cases h
theorem Zp1 {α:Type} {xs:List α} {i:Int} {v:α} (h:atI xs i = some v):∃ j,seqIndex? i xs.length = some j/\xs[j]? = some v/\j < xs.length/\-(xs.length:Int)<=i/\i < xs.length:=by
 unfold atI at h
 cases e:ixN xs.length i with
 | none=>rw [e] at h; cases h
 | some j=>
  rw [e] at h
  obtain ⟨h1,h2,h3,h4⟩:=Zo1 e
  exact ⟨j,h1,h,h2,h3,h4⟩
theorem atI_nat {α:Type} {xs:List α} {j:Nat} {v:α} (h:xs[j]? = some v):atI xs (j:Int) = some v:=by
 have hj:j < xs.length:=(List.getElem?_eq_some_iff.mp h).1
 have e:ixN xs.length (j:Int) = some j:=by
  unfold ixN
  rw [if_pos (by omega),if_pos (by omega)]; simp
 unfold atI; rw [e]; exact h
def PlainIx (b:Expr):Prop:=∀ o i,subscripted b false o i = operate [o,i] (getItem o i)
def IxR (X:Cx) (r:R2):Prop:=
 ∀ (value slice:Expr) (pins:List (Addr × Obj)) (s:Shared) (σ:St) (H:Hp) (x y:V) (v u:Value) (Q:VK),Inv X pins σ H s->RelV x v->RelV y u->r x y H Q->
  subscripted slice false v u = operate [v,u] (getItem v u)->wpAny (model X.prog X.w) X.A (subscriptTail value slice v u) (EP X pins σ Q) X.xe s
def MtR (X:Cx) (id:String) (r:V->List V->Hp->VK->Prop):Prop:=
 ∀ (pins:List (Addr × Obj)) (s:Shared) (σ:St) (H:Hp) (x:V) (xs:List V) (v:Value) (us:List Value) (Q:VK),Inv X pins σ H s->RelV x v->Vals xs us->r x xs H Q->
  wpAny (model X.prog X.w) X.A (call (.builtin id) (v :: us)) (EP X pins σ Q) X.xe s
section
variable {X:Cx} {a b:Expr} {ta tb:TE} {pos:Pos}
theorem Zat {r:R2} (hr:IxR X r) (ha:PE X a ta) (hb:PE X b tb) (hs:PlainIx b):PE X (.Subscript a b pos) (tOp r ta tb):=by
 intro pins s σ H Q I h
 exact Subscript_ (binT ha hb I h fun v u s2 x y H2 I2 rx ry q=>hr a b pins s2 σ H2 x y v u Q I2 rx ry q (hs _ _))
def rIxL (K:PySem.W.Frag):R2:=fun x y H Q=>∃ p xs i v,x = .ref p/\y = .int i/\SqL K H p xs/\atI xs i = some v/\Q v H
def rIxT (K:PySem.W.Frag):R2:=fun x y H Q=>∃ p xs i v,x = .ref p/\y = .int i/\SqT K H p xs/\atI xs i = some v/\Q v H
theorem Za0:IxR X (rIxL X.K):=by
 intro value slice pins s σ H x y v u Q I rx ry h hs
 obtain ⟨p,xs,i,z,rfl,rfl,hq,he,q⟩:=h
 cases rx
 obtain ⟨t,rfl⟩:=ry
 obtain ⟨its,r,pl,hz⟩:=I.list hq
 obtain ⟨j,h1,h2,h3,h4,h5⟩:=Zp1 he
 obtain ⟨w,ew,rw'⟩:=r.get h2
 have hl:=r.length
 have hn:=Zmb
 have fin:EP X pins σ Q w s:=⟨z,H,I,rw',q⟩
 by_cases h0:0<=i
 ·have hj:i.toNat = j:=by
   rw [seqIndex_of h0 h5] at h1
   exact Option.some.inj h1
  exact item_listR pl.isList h0 (by omega) (by rw [hj]; simpa using ew) fin hs
 ·have hj:(i + (its.toArray.size:Int)).toNat = j:=by
   rw [seqIndex_neg (by omega) h4] at h1
   rw [List.size_toArray,<- hl]
   exact Option.some.inj h1
  exact subscriptTail_builtinR (x:=w) pl.isList.typeIs slot_list_getitem.lookup
   (wpAny_getItem_list_neg (Q:=fun r s'=>r = w/\EP X pins σ Q r s') pl.isList (by omega) (by rw [List.size_toArray] <;> omega) (by omega) (by rw [hj]; simpa using ew) ⟨rfl,fin⟩) hs
theorem Zaw:IxR X (rIxT X.K):=by
 intro value slice pins s σ H x y v u Q I rx ry h hs
 obtain ⟨p,xs,i,z,rfl,rfl,hq,he,q⟩:=h
 cases rx
 obtain ⟨t,rfl⟩:=ry
 obtain ⟨its,r,pl,hz⟩:=I.tuple hq
 obtain ⟨j,h1,h2,h3,h4,h5⟩:=Zp1 he
 obtain ⟨w,ew,rw'⟩:=r.get h2
 have hl:=r.length
 have hn:=Zmb
 have fin:EP X pins σ Q w s:=⟨z,H,I,rw',q⟩
 exact subscriptTail_builtinR (x:=w) pl.typeIs slot_tuple_getitem.lookup
  (getItem_tuple (j:=j) (Q:=fun r s'=>r = w/\EP X pins σ Q r s') pl (by omega) (by omega) (by rw [List.size_toArray,<- hl]; exact h1) (by simpa using ew) ⟨rfl,fin⟩) hs
theorem Zmz (its:List Value) (n j:Nat) (u:Value):Obj.mapSeq (·.setIfInBounds j u) { cls:=.type "list",data:=.seq its.toArray n } = { cls:=.type "list",data:=.seq (its.set j u).toArray n }:=by
 simp [Obj.mapSeq]
theorem Inv.lst {pins:List (Addr × Obj)} {σ:St} {H:Hp} {s:Shared} {p:Addr} {xs:List V} (I:Inv X pins σ H s) (h:H p = some (.lst xs)):
  ∃ (its:List Value) (n:Nat),Vals xs its/\s.heap.get? p = some { cls:=.type "list",data:=.seq its.toArray n }/\xs.length<=sizeLine:=by
 obtain ⟨z,its,n,r,e⟩:=I.hok p _ h
 exact ⟨its,n,r,e,z⟩
theorem Inv.lstUpd {pins:List (Addr × Obj)} {σ:St} {H:Hp} {s:Shared} {p:Addr} {xs ys:List V} {its its':List Value} {n n':Nat} {f:Obj->Obj} (I:Inv X pins σ H s) (h:H p = some (.lst xs))
  (ho:s.heap.get? p = some { cls:=.type "list",data:=.seq its.toArray n }) (hf:f { cls:=.type "list",data:=.seq its.toArray n } = { cls:=.type "list",data:=.seq its'.toArray n' }) (r:Vals ys its') (hz:ys.length<=sizeLine) (t:Nat):
  Inv X pins σ (upd H p (.lst ys)) { s with heap:=s.heap.update p f,toks:=t }:=by
 have e:(s.heap.update p f).get? p = some { cls:=.type "list",data:=.seq its'.toArray n' }:=by
  rw [Heap.get?_update_self f ho (by rw [hf] <;> rfl),hf]
 refine I.write (x:=p) (e:=p) (by rw [h]; trivial) (.inl rfl) (fun b u hb q=>(Heap.get?_update_other _ _ (Ne.symm hb)).trans q) ⟨_,e⟩ ?_
 exact ⟨hz,its',n',r,e⟩
def rSetL:V->V->V->Hp->(Hp->Prop)->Prop:=fun o i v H Q=>∃ p xs k j,o = .ref p/\i = .int k/\H p = some (.lst xs)/\ixN xs.length k = some j/\Q (upd H p (.lst (xs.set j v)))
theorem Zcz:PSet X rSetL:=by
 intro pins s σ H o i v ov iv u Q I ro ri rv h
 obtain ⟨p,xs,k,j,rfl,rfl,hp,hj,q⟩:=h
 cases ro
 obtain ⟨t,rfl⟩:=ri
 obtain ⟨its,n,r,ho,hz⟩:=I.lst hp
 obtain ⟨h1,h2,h3,h4⟩:=Zo1 hj
 have hl:=r.length
 have hn:=Zmb
 have I':Inv X pins σ (upd H p (.lst (xs.set j v))) { s with heap:=s.heap.update p (Obj.mapSeq (·.setIfInBounds j u)) }:=
  I.lstUpd hp ho (Zmz its n j u) (r.set rv j) (by rw [List.length_set]; exact hz) s.toks
 by_cases h0:0<=k
 ·have hk:k.toNat = j:=by
   rw [seqIndex_of h0 h4] at h1
   exact Option.some.inj h1
  exact PySem.W.ki_setAt ho h0 (by omega) (by rw [List.size_toArray,<- hl]; exact h4) (by rw [hk]; exact ⟨_,I',q⟩)
 ·have hk:(k + (its.toArray.size:Int)).toNat = j:=by
   rw [seqIndex_neg (by omega) h3] at h1
   rw [List.size_toArray,<- hl]
   exact Option.some.inj h1
  exact PySem.W.ki_setBack ho (by omega) (by rw [List.size_toArray,<- hl]; exact h3) (by omega) (by rw [hk]; exact ⟨_,I',q⟩)
theorem Zjs (lo hi:Option Int) (n:Nat):(sliceBounds lo hi none n).1 = ((HT.sIx n 0 lo:Nat):Int)/\(sliceBounds lo hi none n).2.1 = ((HT.sIx n n hi:Nat):Int)/\(sliceBounds lo hi none n).2.2 = 1:=by
 refine ⟨?_,?_,rfl⟩
 ·cases lo with
  | none=>simp [sliceBounds,HT.sIx]
  | some i=>
   simp only [sliceBounds,HT.sIx,Option.getD_none,show (1:Int) > 0 by decide,if_true]
   by_cases h:i < 0
   ·simp only [h,if_true] <;> omega
   ·simp only [h,if_false] <;> omega
 ·cases hi with
  | none=>simp [sliceBounds,HT.sIx]
  | some i=>
   simp only [sliceBounds,HT.sIx,Option.getD_none,show (1:Int) > 0 by decide,if_true]
   by_cases h:i < 0
   ·simp only [h,if_true] <;> omega
   ·simp only [h,if_false] <;> omega
theorem Zis (its:List Value) (lo hi:Option Int):slicePick its.toArray lo hi none = ((its.drop (HT.sIx its.length 0 lo)).take (HT.sIx its.length its.length hi - HT.sIx its.length 0 lo)).toArray:=by
 obtain ⟨h1,h2,h3⟩:=Zjs lo hi its.toArray.size
 unfold slicePick
 rw [h1,h2,h3]
 simp only [sliceRange_one,pick_run,List.size_toArray] <;> rfl
def rSlL (K:PySem.W.Frag):V->Option Int->Option Int->Hp->VK->Prop:=fun x lo hi H Q=>∃ a xs,x = .ref a/\SqL K H a xs/\∀ p,H p = none->Q (.ref p) (upd H p (.lst (Zmi xs lo hi)))
theorem Znv:SlR X (rSlL X.K):=by
 intro pins s σ H x v vl vu lo hi sl Q I rx hs pl pu h
 obtain ⟨a,xs,rfl,hx,q⟩:=h
 cases rx
 obtain ⟨its,r,ht,hz⟩:=I.list hx
 have hlen:=r.length
 refine ⟨"list",_,slot_list_getitem.lookup,ht.isList.typeIs,?_⟩
 refine wpAny_getItem_list_slice ht.isList hs pl pu .none (by simp) ?_ (by rw [List.size_toArray] <;> omega)
 rw [Zis,<- hlen]
 refine ⟨.ref s.heap.objs.size,_,I.laid (t':=s.toks) (o:=.lst (Zmi xs lo hi)) (fun b ob q=>Heap.get?_push_of_some _ q) (Nat.le_refl _) ?_,rfl,q _ (I.hok.fresh (Nat.le_refl _))⟩
 exact ⟨Nat.le_trans (Zho xs lo hi) hz,_,0,(r.drop (HT.sIx xs.length 0 lo)).take (HT.sIx xs.length xs.length hi - HT.sIx xs.length 0 lo),Heap.get?_push_size _ rfl⟩
def Zhn:V->Bool
 | .non=>true
 | .bl _=>true
 | .int _=>true
 | .str _=>true
 | _=>false
def eqV:V->V->Bool
 | .non,.non=>true
 | .bl a,.bl b=>a == b
 | .bl a,.int b=>(if a then 1 else 0) == b
 | .int a,.bl b=>a == (if b then 1 else 0)
 | .int a,.int b=>a == b
 | .str a,.str b=>a == b
 | _,_=>false
theorem Zsn {A:Around} {s:Shared} {y x:V} {u v:Value} (ry:RelV y u) (rx:RelV x v) (fy:Zhn y = true) (fx:Zhn x = true):SeqAt.EqAt A s u v (eqV y x):=by
 cases y with
 | non=>
  cases ry
  cases x with
  | non=>cases rx; exact SeqAt.EqAt.same _
  | bl b=>cases rx; exact SeqAt.EqAt.none_bool b
  | int b=>obtain ⟨t,rfl⟩:=rx; exact SeqAt.EqAt.none_int b t
  | str b=>obtain ⟨t,rfl⟩:=rx; exact SeqAt.EqAt.none_str b t
  | _=>exact absurd (show false = true from fx) Bool.false_ne_true
 | bl a=>
  cases ry
  cases x with
  | non=>cases rx; exact SeqAt.EqAt.bool_none a
  | bl b=>cases rx; exact SeqAt.EqAt.bool_bool a b
  | int b=>obtain ⟨t,rfl⟩:=rx; exact SeqAt.EqAt.bool_int a b t
  | str b=>obtain ⟨t,rfl⟩:=rx; exact SeqAt.EqAt.bool_str a b t
  | _=>exact absurd (show false = true from fx) Bool.false_ne_true
 | int a=>
  obtain ⟨t',rfl⟩:=ry
  cases x with
  | non=>cases rx; exact SeqAt.EqAt.int_none a t'
  | bl b=>cases rx; exact SeqAt.EqAt.int_bool a t' b
  | int b=>obtain ⟨t,rfl⟩:=rx; exact SeqAt.EqAt.int_int a t' b t
  | str b=>obtain ⟨t,rfl⟩:=rx; exact SeqAt.EqAt.int_str a t' b t
  | _=>exact absurd (show false = true from fx) Bool.false_ne_true
 | str a=>
  obtain ⟨t',rfl⟩:=ry
  cases x with
  | non=>cases rx; exact SeqAt.EqAt.str_none a t'
  | bl b=>cases rx; exact SeqAt.EqAt.str_bool a t' b
  | int b=>obtain ⟨t,rfl⟩:=rx; exact SeqAt.EqAt.str_int a t' b t
  | str b=>obtain ⟨t,rfl⟩:=rx; exact SeqAt.EqAt.str_str a t' b t
  | _=>exact absurd (show false = true from fx) Bool.false_ne_true
 | _=>exact absurd (show false = true from fy) Bool.false_ne_true
def eqU (x:V) (u:Value):Bool:=match u with
 | .none=>eqV .non x
 | .bool b=>eqV (.bl b) x
 | .int i _=>eqV (.int i) x
 | .str z _=>eqV (.str z) x
 | _=>false
theorem Zsm {x y:V} {u:Value} (r:RelV y u) (f:Zhn y = true):eqU x u = eqV y x:=by
 cases y with
 | non=>cases r; rfl
 | bl b=>cases r; rfl
 | int i=>obtain ⟨t,rfl⟩:=r; rfl
 | str z=>obtain ⟨t,rfl⟩:=r; rfl
 | _=>exact absurd (show false = true from f) Bool.false_ne_true
theorem Zlv {x:V}:∀ {xs:List V} {us:List Value},Vals xs us->xs.all Zhn = true->us.any (eqU x) = xs.any fun y=>eqV y x
 | _,_,.nil,_=>rfl
 | y :: xs,u :: us,.cons r t,f=>by
  rw [List.all_cons,Bool.and_eq_true] at f
  rw [List.any_cons,List.any_cons,Zsm r f.1,Zlv t f.2]
theorem Zi1 {A:Around} {s:Shared} {x:V} {v:Value} (rx:RelV x v) (fx:Zhn x = true):∀ {xs:List V} {us:List Value},Vals xs us->xs.all Zhn = true->∀ u ∈ us,SeqAt.EqAt A s u v (eqU x u)
 | _,_,.nil,_=>fun u hu=>by cases hu
 | y :: xs,u :: us,.cons r t,f=>fun u' hu=>by
  rw [List.all_cons,Bool.and_eq_true] at f
  rcases List.mem_cons.mp hu with rfl | hu
  ·rw [Zsm r f.1]; exact Zsn r rx f.1 fx
  ·exact Zi1 rx fx t f.2 u' hu
def inV (x:V) (xs:List V):Bool:=xs.any fun y=>eqV y x
def rIn (K:PySem.W.Frag) (neg:Bool):R2:=fun x y H Q=>∃ p xs,y = .ref p/\(SqL K H p xs\/SqT K H p xs)/\Zhn x = true/\xs.all Zhn = true/\Q (.bl (if neg then !inV x xs else inV x xs)) H
theorem Zj0:OpR X (compareOp .NotIn) (rIn X.K true):=by
 intro pins s σ H x y v u Q I rx ry h
 obtain ⟨p,xs,rfl,hq,fx,fs,q⟩:=h
 cases ry
 rcases hq with hq | hq
 ·obtain ⟨its,r,pl,hz⟩:=I.list hq
  refine SeqAt.notIn_listAt (eqU x) pl.isList (fun w hw=>Zi1 rx fx r fs w (by simpa using hw)) ⟨.bl _,H,I,rfl,?_⟩
  rw [show its.toArray.any (eqU x) = its.any (eqU x) by simp,Zlv r fs]
  exact q
 ·obtain ⟨its,r,pl,hz⟩:=I.tuple hq
  refine SeqAt.notIn_tupleAt (eqU x) pl (fun w hw=>Zi1 rx fx r fs w (by simpa using hw)) ⟨.bl _,H,I,rfl,?_⟩
  rw [show its.toArray.any (eqU x) = its.any (eqU x) by simp,Zlv r fs]
  exact q
theorem Zbi:Zf5 X (.builtin "len") (fun xs H Q=>∃ p ys,xs = [.ref p]/\(SqL X.K H p ys\/SqT X.K H p ys)/\Q (.int ys.length) H):=by
 intro pins s σ H xs us Q I r h
 obtain ⟨p,ys,rfl,hq,q⟩:=h
 obtain ⟨u,rfl,rx⟩:=Zmq r
 cases rx
 have hn:=Zmb
 rcases hq with hq | hq
 ·obtain ⟨its,r',pl,hz⟩:=I.list hq
  have hlen:=r'.length
  exact Calls.call_len_list pl.isList (by simp only [List.size_toArray] <;> omega) ⟨.int ys.length,H,I.tok _,⟨s.toks + 1,by rw [List.size_toArray,hlen]⟩,q⟩
 ·obtain ⟨its,r',pl,hz⟩:=I.tuple hq
  have hlen:=r'.length
  exact len_tuple pl (by simp only [List.size_toArray] <;> omega) ⟨.int ys.length,H,I.tok _,⟨s.toks + 1,by rw [List.size_toArray,hlen]⟩,q⟩
theorem Zgg:Zf5 X (.type "list") (fun xs H Q=>∃ p ys,xs = [.ref p]/\(SqL X.K H p ys\/SqT X.K H p ys)/\∀ l,H l = none->Q (.ref l) (upd H l (.lst ys))):=by
 intro pins s σ H xs us Q I r h
 obtain ⟨p,ys,rfl,hq,q⟩:=h
 obtain ⟨u,rfl,rx⟩:=Zmq r
 cases rx
 have fin:∀ (its:List Value),Vals ys its->ys.length<=sizeLine->∀ (h':Heap) (c':Nat),(∀ b o',s.heap.get? b = some o'->h'.get? b = some o')->
   h'.get? s.heap.objs.size = some { cls:=.type "list",dict:=none,data:=.seq its.toArray c',slots:=#[] }->EP X pins σ Q (.ref s.heap.objs.size) { s with heap:=h' }:=fun its r' hz h' c' kp e=>
  ⟨.ref s.heap.objs.size,_,I.laid (t':=s.toks) kp (Nat.le_refl _) (show ObjOk X.prog X.w _ h' _ (.lst ys) from ⟨hz,its,c',r',e⟩),rfl,q _ (I.hok.fresh (Nat.le_refl _))⟩
 rcases hq with hq | hq
 ·obtain ⟨its,r',pl,hz⟩:=I.list hq
  have hlen:=r'.length
  obtain ⟨o,ho,hc,n,hd⟩:=pl.isList
  exact call_list_seq p (.inl rfl) ho hc hd (fun h' c' kp e=>fin its r' hz h' c' kp e) (by simp only [List.size_toArray] <;> omega)
 ·obtain ⟨its,r',pl,hz⟩:=I.tuple hq
  have hlen:=r'.length
  obtain ⟨o,ho,hc,n,hd⟩:=pl
  exact call_list_seq p (.inr rfl) ho hc hd (fun h' c' kp e=>fin its r' hz h' c' kp e) (by simp only [List.size_toArray] <;> omega)
def tyV (K:PySem.W.Frag) (T:String) (x:V) (H:Hp):Prop:=match x with
 | .str _=>T = "str"
 | .int _=>T = "int"
 | .ref p=>(T = "list" /\ ∃ xs,SqL K H p xs)\/(T = "tuple" /\ ∃ o,K.lookup p = some o/\o.cls = .type "tuple" /\ o.dict = none) \/
   (T = "dict" /\ ((∃ kvs,H p = some (.dK kvs))\/∃ kvs,H p = some (.dT kvs)))\/(T = "set" /\ ∃ S n,H p = some (.set S n))
 | _=>False
theorem Zr2 {pins:List (Addr × Obj)} {σ:St} {H:Hp} {s:Shared} {T:String} {x:V} {v:Value} (I:Inv X pins σ H s) (r:RelV x v) (ty:tyV X.K T x H):
  s.TypeIs v T/\∀ a,v = .ref a->∃ ob,s.heap.get? a = some ob/\ob.dict = none:=by
 cases x with
 | str z=>
  obtain ⟨t,rfl⟩:=r
  cases (show T = "str" from ty)
  exact ⟨typeIs_str s z t,fun _ e=>nomatch e⟩
 | int i=>
  obtain ⟨t,rfl⟩:=r
  cases (show T = "int" from ty)
  exact ⟨typeIs_int s i t,fun _ e=>nomatch e⟩
 | ref p=>
  cases r
  rcases ty with ⟨rfl,xs,hq⟩ | ⟨rfl,o,hk,hc,hd⟩ | ⟨rfl,hk⟩ | ⟨rfl,S,n,hk⟩
  ·obtain ⟨its,_,pl,_⟩:=I.list hq
   refine ⟨pl.isList.typeIs,fun a e=>?_⟩
   cases e
   obtain ⟨o,n,e,c,hd,_⟩:=pl
   exact ⟨o,e,hd⟩
  ·refine ⟨⟨o,I.kIn p o hk,hc⟩,fun a e=>?_⟩
   cases e
   exact ⟨o,I.kIn _ o hk,hd⟩
  ·have z:∃ o,s.heap.get? p = some o/\o.ExactDict:=by
    rcases hk with ⟨kvs,hk⟩ | ⟨kvs,hk⟩
    ·obtain ⟨_,_,_,_,o,_,_,e,ex,_⟩:=I.hok p _ hk
     exact ⟨o,e,ex⟩
    ·obtain ⟨_,_,_,_,o,_,_,e,ex,_⟩:=I.hok p _ hk
     exact ⟨o,e,ex⟩
   obtain ⟨o,e,ex⟩:=z
   refine ⟨⟨o,e,ex.1⟩,fun a e2=>?_⟩
   cases e2
   exact ⟨o,e,ex.2.1⟩
  ·obtain ⟨o,_,_,_,e,ex,_⟩:=I.hok p _ hk
   refine ⟨⟨o,e,ex.1⟩,fun a e2=>?_⟩
   cases e2
   exact ⟨o,e,ex.2.1⟩
 | _=>exact False.elim ty
def tBM0 (K:PySem.W.Frag) (T:String) (r:V->List V->Hp->VK->Prop) (to:TE):TE:=fun σ H Q=>to σ H fun x H1=>tyV K T x H1/\r x [] H1 Q
def tBM (K:PySem.W.Frag) (T:String) (r:V->List V->Hp->VK->Prop) (to:TE) (t:TA):TE:=fun σ H Q=>to σ H fun x H1=>tyV K T x H1/\t σ H1 fun xs H2=>r x xs H2 Q
variable {o e:Expr} {es:List Expr} {to:TE} {t:TA} {name:Str} {apos cpos:Pos} {T id:String} {r:V->List V->Hp->VK->Prop}
theorem Zn7 (pa:PlainAttrs T) (slot:Slot T name id) (hty:typeOf (.builtin id) = pure (.type "method_descriptor")) (hm:MtR X id r) (ho:PE X o to)
  (hbase:attributeBase o name X.env (eval o X.env) = eval o X.env:=by rfl) (hline:(apos.endLine == cpos.line) = true:=by rfl):PE X (.Call (.Attribute o name apos) [] [] cpos) (tBM0 X.K T r to):=by
 intro pins s σ H Q I h
 refine wpAny_Call_method0_late hbase hline (thn (ho pins s σ H _ I h) fun v s1 ⟨x,H1,I1,r1,ty,q1⟩=>?_)
 obtain ⟨h1,h2⟩:=Zr2 I1 r1 ty
 exact ⟨T,id,pa,slot,hty,h1,h2,Calls.callWith_builtin rfl (PySem.evalArgs_none (hm pins s1 σ H1 x [] v [] Q I1 r1 .nil q1))⟩
theorem Zhv (pa:PlainAttrs T) (slot:Slot T name id) (hty:typeOf (.builtin id) = pure (.type "method_descriptor")) (hm:MtR X id r) (ho:PE X o to) (ha:PA X (e :: es) t)
  (hbase:attributeBase o name X.env (eval o X.env) = eval o X.env:=by rfl)
  (hfew:((backTo cpos (starEach (e :: es) X.env)).all (fun x=>!x.1) && (backToKw cpos (keywordEach [] X.env)).all (fun x=>x.1.isSome)
   && decide ((e :: es).length + ([]:List Keyword).length + (if ([]:List Keyword).isEmpty then 0 else 1) < 30)) = true:=by rfl)
  (hline:(apos.endLine == cpos.line) = true:=by rfl) (hs:starEach (e :: es) X.env = (false,eval e X.env) :: starEach es X.env:=by rfl) (hplain:(backTo cpos (starEach es X.env)).any (·.1) = false:=by rfl):
  PE X (.Call (.Attribute o name apos) (e :: es) [] cpos) (tBM X.K T r to t):=by
 intro pins s σ H Q I h
 refine wpAny_Call_method_late hbase hfew hline rfl (thn (ho pins s σ H _ I h) fun v s1 ⟨x,H1,I1,r1,ty,q1⟩=>?_)
 obtain ⟨h1,h2⟩:=Zr2 I1 r1 ty
 refine ⟨T,id,pa,slot,hty,h1,h2,?_⟩
 have hA:=ha cpos pins s1 σ H1 _ I1 q1
 rw [hs] at hA ⊢
 refine Calls.callWith_builtin (by show (false || (backTo cpos (starEach es X.env)).any (·.1)) = false; rw [hplain] <;> rfl) (Calls.evalArgs_plain ?_)
 exact thn hA fun us s2 ⟨vs,H2,I2,r2,q2⟩=>hm pins s2 σ H2 x vs v us Q I2 r1 r2 q2
end
def MtM (X:Cx) (id:String) (r:V->List V->Hp->VK->Prop):Prop:=
 ∀ (pins:List (Addr × Obj)) (s:Shared) (σ:St) (H:Hp) (x:V) (xs:List V) (v:Value) (us:List Value) (Q:VK),Inv X pins σ H s->RelV x v->Vals xs us->r x xs H Q->
  wpAny (model X.prog X.w) X.A (call (.builtin id) (v :: us)) (EP X pins σ Q) X.xe s
theorem Vals.one:∀ {x:V} {us:List Value},Vals [x] us->∃ u,us = [u]/\RelV x u
 | _,_,.cons r .nil=>⟨_,rfl,r⟩
theorem Vals.zero:∀ {us:List Value},Vals [] us->us = []
 | _,.nil=>rfl
theorem Vals.eraseIdx:∀ {xs:List V} {us:List Value} (i:Nat),Vals xs us->Vals (xs.eraseIdx i) (us.eraseIdx i)
 | _,_,_,.nil=>.nil
 | _,_,0,.cons _ t=>t
 | _,_,i + 1,.cons r t=>.cons r (Vals.eraseIdx i t)
theorem Vals.rep {xs:List V} {us:List Value} (h:Vals xs us):∀ k:Nat,Vals (List.replicate k xs).flatten (List.replicate k us).flatten
 | 0=>.nil
 | k + 1=>by
  rw [List.replicate_succ,List.replicate_succ,List.flatten_cons,List.flatten_cons]
  exact Vals.append h (Vals.rep h k)
theorem Zj7 {α:Type}:∀ (l:List α) (i:Nat),(l.eraseIdx i).length<=l.length
 | [],_=>Nat.le_refl _
 | _ :: _,0=>Nat.le_succ _
 | _ :: r,i + 1=>Nat.succ_le_succ (Zj7 r i)
theorem Zkd (its:List Value):∀ (k:Nat) (acc:List Value),
  List.foldl (fun x1 x2=>x1 ++ x2) acc.toArray (List.replicate k its.toArray) = (acc ++ (List.replicate k its).flatten).toArray
 | 0,acc=>by simp
 | k + 1,acc=>by
  have e:acc.toArray ++ its.toArray = (acc ++ its).toArray:=by simp
  have e2:(acc ++ its) ++ (List.replicate k its).flatten = acc ++ (List.replicate (k + 1) its).flatten:=by
   rw [List.replicate_succ,List.flatten_cons,List.append_assoc]
  rw [<- e2,<- Zkd its k (acc ++ its),<- e,List.replicate_succ,List.foldl_cons]
section
variable {X:Cx} {pins:List (Addr × Obj)} {σ:St} {H:Hp} {s:Shared} {l b:Addr} {xs ys zs:List V}
theorem Inv.lset {its its':List Value} {n:Nat} {f:Array Value->Array Value} {t':Nat} (I:Inv X pins σ H s) (hH:H l = some (.lst xs))
  (e:s.heap.get? l = some { cls:=.type "list",data:=.seq its.toArray n }) (hf:f its.toArray = its'.toArray) (hv:Vals ys its') (hz:ys.length<=sizeLine):
  Inv X pins σ (upd H l (.lst ys)) { s with heap:=s.heap.update l (Obj.mapSeq f),toks:=t' }:=by
 have q:=PySem.IsL.update e f
 rw [hf] at q
 refine I.write (x:=l) (e:=l) (by rw [hH]; exact trivial) (.inl rfl) (fun b' u hb hu=>(Heap.get?_update_other s.heap (Obj.mapSeq f) (Ne.symm hb)).trans hu) ⟨_,q⟩ ?_
 exact ⟨hz,its',_,hv,q⟩
theorem Inv.lnew {its:List Value} {t':Nat} (I:Inv X pins σ H s) (hv:Vals ys its) (hz:ys.length<=sizeLine):
  Inv X pins σ (upd H s.heap.objs.size (.lst ys)) { s with heap:=s.heap.push { cls:=.type "list",data:=.seq its.toArray },toks:=t' }:=
 I.laid (fun _ _ q=>Heap.get?_push_of_some _ q) (Nat.le_refl _) ⟨hz,its,0,hv,Heap.get?_push_size _ rfl⟩
theorem Inv.fresh (I:Inv X pins σ H s):H s.heap.objs.size = none:=I.hok.fresh (Nat.le_refl _)
theorem Inv.lstM (I:Inv X pins σ H s) (hH:H l = some (.lst xs)):xs.length<=sizeLine/\∃ (its:List Value) (n:Nat),Vals xs its/\xs.length = its.length/\s.heap.get? l = some { cls:=.type "list",data:=.seq its.toArray n }:=by
 obtain ⟨z,its,n,r,e⟩:=I.hok l _ hH
 exact ⟨z,its,n,r,r.length,e⟩
theorem Zgq {n:Nat} (h:n<=sizeLine):Builtin.List.listTooLong n = false:=by
 unfold Builtin.List.listTooLong
 exact decide_eq_false (by omega)
end
section
variable {X:Cx}
def Zny:V->List V->Hp->VK->Prop:=fun x vs H Q=>∃ l xs y,x = .ref l/\vs = [y]/\H l = some (.lst xs)/\xs.length < sizeLine/\Q .non (upd H l (.lst (xs ++ [y])))
theorem Zcm:MtM X "list.append" Zny:=by
 intro pins s σ H x vs v us Q I rx rv h
 obtain ⟨l,xs,y,rfl,rfl,hH,hz,q⟩:=h
 cases rx
 obtain ⟨u,rfl,ru⟩:=rv.one
 obtain ⟨z,its,n,r,hl,e⟩:=I.lstM hH
 refine call_meets F.slot_list_append ⟨_,e,rfl⟩ F.entry_list_append (F.args_list_append_2 _ _) (PySem.list_append l its.toArray n u (by rw [List.size_toArray]; omega)) ⟨e,?_⟩
 refine ⟨.non,_,I.lset (its':=its ++ [u]) hH e (by simp) (r.append (.cons ru .nil)) ?_,rfl,q⟩
 rw [List.length_append,List.length_singleton]
 omega
def rExtend:V->List V->Hp->VK->Prop:=fun x vs H Q=>∃ l b xs zs,x = .ref l/\vs = [.ref b]/\H l = some (.lst xs)/\H b = some (.lst zs)/\xs.length + zs.length<=sizeLine/\Q .non (upd H l (.lst (xs ++ zs)))
theorem Zoq:MtM X "list.extend" rExtend:=by
 intro pins s σ H x vs v us Q I rx rv h
 obtain ⟨l,b,xs,zs,rfl,rfl,hH,hB,hz,q⟩:=h
 cases rx
 obtain ⟨u,rfl,ru⟩:=rv.one
 cases ru
 obtain ⟨z,its,n,r,hl,e⟩:=I.lstM hH
 obtain ⟨z2,its2,n2,r2,hl2,e2⟩:=I.lstM hB
 have hsz:its.toArray.size + its2.toArray.size<=sizeLine:=by rw [List.size_toArray,List.size_toArray]; omega
 have hlong:¬ (!its.toArray.isEmpty && Builtin.List.listTooLong (its.toArray.size + its2.toArray.size)) = true:=by
  rw [Zgq hsz,Bool.and_false]
  exact Bool.false_ne_true
 refine call_meets F.slot_list_extend ⟨_,e,rfl⟩ F.entry_list_extend (F.args_list_extend_2 _ _)
  (AutoSeq1.list_extend_list_list_0 l its.toArray n b its2.toArray n2 hlong (by rw [List.size_toArray]; omega) (by omega)) ⟨e,e2,?_⟩
 refine ⟨.non,_,I.lset (its':=its ++ its2) hH e (by simp) (r.append r2) ?_,rfl,q⟩
 rw [List.length_append]
 omega
def Zr8:V->List V->Hp->VK->Prop:=fun x vs H Q=>∃ l xs i k y,x = .ref l/\vs = [.int i]/\H l = some (.lst xs)/\-(2 ^ 63)<=i/\i < 2 ^ 63/\seqIndex? i xs.length = some k/\xs[k]? = some y/\Q y (upd H l (.lst (xs.eraseIdx k)))
theorem Zrc:MtM X "list.pop" Zr8:=by
 intro pins s σ H x vs v us Q I rx rv h
 obtain ⟨l,xs,i,k,y,rfl,rfl,hH,h1,h2,hk,hy,q⟩:=h
 cases rx
 obtain ⟨u,rfl,ru⟩:=rv.one
 obtain ⟨t,rfl⟩:=ru
 obtain ⟨z,its,n,r,hl,e⟩:=I.lstM hH
 obtain ⟨w,hw,rw'⟩:=r.get hy
 refine call_meets F.slot_list_pop ⟨_,e,rfl⟩ F.entry_list_pop (F.args_list_pop_2 _ _)
  (MeetsSeq.list_pop_at l its.toArray n i t k w (fitsIndex_both h1 h2) (by rw [List.size_toArray,<- hl]; exact hk) (by rw [<- Array.getElem?_toList]; exact hw) (by rw [List.size_toArray]; omega)) ⟨e,?_⟩
 refine ⟨y,_,I.lset (its':=its.eraseIdx k) hH e ?_ (r.eraseIdx k) ?_,rw',q⟩
 ·show its.toArray.eraseIdxIfInBounds k = (its.eraseIdx k).toArray
  rw [List.eraseIdxIfInBounds_toArray]
 ·have:=Zj7 xs k
  omega
def rCat:R2:=fun x y H Q=>∃ l b xs zs,x = .ref l/\y = .ref b/\H l = some (.lst xs)/\H b = some (.lst zs)/\xs.length + zs.length<=sizeLine/\∀ p,H p = none->Q (.ref p) (upd H p (.lst (xs ++ zs)))
theorem Zj1:OpR X (binaryOp .Add) rCat:=by
 intro pins s σ H x y v u Q I rx ry h
 obtain ⟨l,b,xs,zs,rfl,rfl,hH,hB,hz,q⟩:=h
 cases rx
 cases ry
 obtain ⟨z,its,n,r,hl,e⟩:=I.lstM hH
 obtain ⟨z2,its2,n2,r2,hl2,e2⟩:=I.lstM hB
 refine PySem.P.add_list e e2 ?_ (by rw [List.size_toArray,List.size_toArray]; omega)
 have ea:its.toArray ++ its2.toArray = (its ++ its2).toArray:=by simp
 rw [ea]
 exact ⟨.ref _,_,I.lnew (t':=s.toks) (r.append r2) (by rw [List.length_append]; omega),rfl,q _ I.fresh⟩
def rRep:R2:=fun x y H Q=>∃ l k xs,x = .ref l/\y = .int k/\H l = some (.lst xs)/\-(2 ^ 63)<=k/\k < 2 ^ 63/\xs.length * k.toNat<=sizeLine /\
 ∀ p,H p = none->Q (.ref p) (upd H p (.lst (List.replicate k.toNat xs).flatten))
theorem Zow {α:Type} (xs:List α) (k:Nat):(List.replicate k xs).flatten.length = k * xs.length:=by
 induction k with
 | zero=>simp
 | succ k ih=>rw [List.replicate_succ,List.flatten_cons,List.length_append,ih,Nat.succ_mul,Nat.add_comm]
theorem Zn9:OpR X (binaryOp .Mult) rRep:=by
 intro pins s σ H x y v u Q I rx ry h
 obtain ⟨l,k,xs,rfl,rfl,hH,h1,h2,hz,q⟩:=h
 cases rx
 obtain ⟨t,rfl⟩:=ry
 obtain ⟨z,its,n,r,hl,e⟩:=I.lstM hH
 have hlen:its.toArray.size * k.toNat<=sizeLine:=by rw [List.size_toArray,<- hl]; exact hz
 have hcap:¬ its.toArray.size * k.toNat > (2 ^ 63 - 1) / 8:=by
  have:(sizeLine:Nat)<=(2 ^ 63 - 1) / 8:=by decide
  omega
 have hfit:¬ (!Builtin.List.listFitsIndex k) = true:=by
  rw [fitsIndex_both h1 h2]
  exact Bool.false_ne_true
 have hlong:¬ Builtin.List.listTooLong (its.toArray.size * k.toNat) = true:=by
  rw [Zgq hlen]
  exact Bool.false_ne_true
 have hnew:List.foldl (fun x1 x2=>x1 ++ x2) #[] (List.replicate (if its.toArray.isEmpty = true then 0 else k.toNat) its.toArray) = (List.replicate k.toNat its).flatten.toArray:=by
  have f0:∀ m:Nat,List.foldl (fun x1 x2=>x1 ++ x2) #[] (List.replicate m its.toArray) = (List.replicate m its).flatten.toArray:=fun m=>by
   have:=Zkd its m []
   rw [List.nil_append] at this
   exact this
  rw [f0]
  cases its with
  | nil=>simp
  | cons a r'=>rw [if_neg (by simp)]
 refine wpAny_binaryOp_repeat_ref (T:="list") (U:="int") (by decide) ⟨_,e,rfl⟩ (fun s'=>typeIs_int s' k t) noFill_list_mul F.fills_int_mul F.slot_int_rmul repeat_list F.slot_int_index.lookup
  (call_meets F.slot_int_rmul (typeIs_int s k t) F.entry_int_rmul (F.args_int_rmul_2 _ _) (int___rmul___int_list k t l its.toArray n)
   ⟨e,rfl,⟨_,e,rfl⟩,call_meets F.slot_list_mul ⟨_,e,rfl⟩ F.entry_list_mul (F.args_list_mul_2 _ _) (AutoListH.list___mul___list_int_3 l its.toArray n k t hfit hcap hlong) ⟨e,?_⟩⟩)
 rw [hnew]
 exact ⟨.ref _,_,I.lnew (t':=s.toks) (r.rep k.toNat) (by rw [Zow,Nat.mul_comm]; exact hz),rfl,q _ I.fresh⟩
end
section
variable {prog:Program} {w:World} {A:Around} {E:Value->Shared->Prop} {s:Shared}
theorem Zng (its its2:List Value) (a c:Nat):its.toArray.extract 0 a ++ its2.toArray ++ its.toArray.extract c its.toArray.size = (its.take a ++ its2 ++ its.drop c).toArray:=by
 apply Array.toList_inj.mp
 first
  | (simp; exact List.take_of_length_le (by simp))
  | simp [List.take_of_length_le]
  | simp
end
section
variable {X:Cx}
end
end L2
namespace Att
open PySem PySem.W PySem.Calls PyProof.Rows
theorem Zhk {P:Params} {h:Heap}:∀ (ns:List Int) (vs:List Value),WellAll P h vs (ns.map WData.int)->IntsAre vs ns:=by
 intro ns
 induction ns with
 | nil=>
  intro vs w
  rw [List.map_nil] at w
  cases w
  exact .nil
 | cons n ns ih=>
  intro vs w
  rw [List.map_cons] at w
  cases w with
  | cons a b=>
   cases a
   exact .cons _ _ (ih _ b)
theorem Znw {l:OpenLaw} {n:Nat} (hn:l.most = some n) {P:Params} {h:Heap} {args:List WData} {vals:List Value}
  (hpre:l.row.toRowW.claim.pre args = true) (hwl:WellAll P h vals args):
  ∃ a vs ns,vals = [Value.ref a]/\args = [WData.list (ns.map WData.int)]/\h.get? a = some { cls:=.type "list",data:=.seq vs.toArray }/\IntsAre vs ns/\ns.length<=n:=by
 have hsh:WShape.hasAll [] args [.list .int] = true:=(pre_splitW hpre).1
 have hc:l.pre.holds [] { args:=args } = true:=(pre_splitW hpre).2
 obtain ⟨d,r,rfl,h1,h2⟩:=hasAllW_cons hsh
 obtain rfl:=hasAllW_nil h2
 obtain ⟨xs,rfl,h3⟩:=hasW_list h1
 obtain ⟨ns,rfl⟩:=items_int h3
 have hlen:ns.length<=n:=by
  unfold OpenLaw.pre at hc
  have h4:(WTm.not (.lt (.lit (.int (n:Int))) (.len (.arg 0)))).holds [] { args:=[.list (ns.map .int)] } = true:=by
   have h4:=(holds_andW hc).1
   rw [hn] at h4
   exact h4
  have h5:=condW_of h4 (w_not (w_lt w_lit (w_len_list (w_arg rfl))))
  rw [List.length_map] at h5
  refine Nat.le_of_not_lt fun q=>?_
  have q':(n:Int) < ((ns.length:Nat):Int):=by omega
  first
   | (rw [decide_eq_true q'] at h5; exact absurd h5 (by decide))
   | (simp at h5; omega)
 cases hwl with
 | cons w1 w2=>
  cases w2
  cases w1 with
  | list ho hall=>exact ⟨_,_,ns,rfl,rfl,ho,Zhk ns _ hall,hlen⟩
theorem Zn1 (l:OpenLaw) (args:List WData):l.row.toRowW.claim.post args (.bool true) args = true:=
 postW_of (r:=l.row.toRowW) (X:=(true == true))
  (show WShape.has [] (.bool true) .bool = true by first | rfl | decide | simp [WShape.has,WShape.arms,WShape.armsAll])
  (show (WTm.eq .res (.lit (.bool true))).value [] { args:=args,res:=some (.bool true),after:=args } = some (.bool (true == true)) from w_eq_bool (w_res rfl) w_lit) rfl
theorem attach_call {l:OpenLaw} {n:Nat} {q:Program} {loose:List Str} {XP:(Str->Option Value)->Heap->Prop} {YP:World->Heap->Prop} {d:DefRec}
  (hn:l.most = some n) (hdf:d.params.defaults = [])
  (call:∀ (w:World) (s₀ s₁:Shared) (mg mb:Str->Option Value) (fa:Addr) (o:Obj) (pm cd doc:Value) (a:Addr) (vs:List Value) (ns:List Int),
   Ground q loose [] XP w s₀ mg mb s₁.heap->YP w s₁.heap->
   s₁.heap.get? fa = some o->o.data = .func (docDef d.name d.params d.body d.scope pm cd doc)->s₁.heap.CodeRec cd d.name->mg d.name = some (.ref fa)->
   s₁.heap.get? a = some { cls:=.type "list",data:=.seq vs.toArray }->IntsAre vs ns->ns.length<=n->s₁.gens = #[]->
   codeAny (model l.prog w) callerA (.call (.ref fa) ⟨[.ref a],[]⟩) (fun r s'=>r = .ok (.ret (.bool true))/\OldK s₁.heap s'.heap/\s'.os = s₁.os/\AllBare s'.gens) s₁):
  WalkO q loose XP YP l.row.toRowW d [] (fun f vs=>PySem.call f vs):=by
 intro w s₀ s₁ mg mb G Y fa o pm cd doc dV kV ho hd hcd hD hmg hg args vals as hpre hlay hrd hwl hlo
 obtain rfl:dV = .none:=Dflts.none hD hdf
 obtain rfl:kV = .none:=Dflts.noKw hD
 obtain ⟨a,vs,ns,rfl,rfl,hobj,hints,hlen⟩:=Znw hn hpre hwl
 refine enter_call (codeAny_mono (call w s₀ s₁ mg mb fa o pm cd doc a vs ns G Y ho (fd_plain hd) hcd hmg hobj hints hlen hg) fun r s' hq=>?_)
 obtain ⟨rfl,h2,h3,h4⟩:=hq
 exact ⟨.inl ⟨.bool true,.bool true,[],rfl,fun _=>rfl,.bool true,Zn1 l _,fun _=>⟨List.Pairwise.nil,fun _ hm=>(nomatch hm)⟩⟩,h2,h3,h4⟩
section
variable {prog:Program} {w:World} {A:Around} {E:Value->Shared->Prop} {s:Shared} {K:Frag}
end
end Att
namespace L2
open PySem PySem.Spec PyProof.Rows
theorem Zjk:∀ {vs:List Value} {ns:List Int},IntsAre vs ns->Vals (ns.map V.int) vs
 | _,_,.nil=>.nil
 | _,_,.cons n t h=>.cons ⟨t,rfl⟩ (Zjk h)
end L2
namespace L2
open PySem PySem.Spec PyProof.Rows
def Zpb (s:Stmt) (j:Nat):Stmt:=match s with
 | .ClassDef _ _ _ body _ _ _ _ _ _ _=>body.getD j (.Pass ⟨0,0,0,0⟩)
 | _=>.Pass ⟨0,0,0,0⟩
def Zao (s:Stmt):Arguments:=match s with
 | .FunctionDef _ a _ _ _ _ _ _ _ _=>a
 | _=>{ posonlyargs:=[],args:=[],vararg:=none,kwonlyargs:=[],kw_defaults:=[],kwarg:=none,defaults:=[] }
def Zam (s:Stmt):List Stmt:=match s with
 | .FunctionDef _ _ b _ _ _ _ _ _ _=>b
 | _=>[]
def Zae (s:Stmt):Scope:=match s with
 | .FunctionDef _ _ _ _ _ _ sc _ _ _=>sc
 | _=>{ kind:=.function,names:=[],isGenerator:=false,isCoroutine:=false }
abbrev CX0:CXT:=fun _ _ _ _ _ _=>False
abbrev E0:XK:=fun _ _ _=>False
theorem pass0 {X:Cx}:Zim CX0 X E0:=fun _ _ _ _ _ _ _ h=>h.elim
structure Fun (K:PySem.W.Frag) (x qual:Str) (st:Stmt) (f:Addr) (fd:FuncData):Prop where
 ex:∃ (oc:Value) (od:Option Addr) (kV doc pm:Value) (an:Option Addr) (cdv ct:Value) (osl:Array (Option Value)),
  fd = PySem.W.fnOf x qual (Zao st) (Zam st) (Zae st) .none kV doc pm an cdv ct/\K.lookup f = some ⟨oc,od,.func fd,osl⟩/\PySem.W.codeIn K cdv qual = true
 kp:PySem.W.keepIn K (.ref f) = true
section
variable {P:Program} {w:World} {K:PySem.W.Frag} {mg:Str->Option Value} {base:Heap}
theorem Fun.ok {x qual:Str} {st:Stmt} {f:Addr} {fd:FuncData} {N ps:List Str} {k:Nat} {sp:Sp} (F:Fun K x qual st f fd) (S:FnScope N ps (Zae st)) (len:∀ vs H Q E,sp vs H Q E->vs.length = ps.length)
  (hbody:∀ (cdv:Value) (A:Around) (outer:List Env) (s:Shared) (H:Hp) (vs:List V) (Q:VK) (E:XK),Room k (A.deeper (envOfC qual (Zae st) s.heap.objs.size f cdv))->sp vs H Q E->
   ∃ t,PSs (Zrs CX0 P w K mg base N qual (Zae st) f cdv A outer s H E).nox (Zam st) t/\t { nx:=fun _ H'=>Q .non H',rt:=Q } (start N vs) H):FnOk P w K mg base CX0 (k + 1) f fd ps sp:=by
 obtain ⟨oc,od,kV,doc,pm,an,cdv,ct,osl,rfl,lk,hcd⟩:=F.ex
 refine fn_of lk hcd S len fun A outer s H vs Q E hr hsp=>?_
 obtain ⟨t,h,q⟩:=hbody cdv A outer s H vs Q E hr hsp
 exact ⟨t,h.nox,q⟩
theorem Fun.binds {x qual:Str} {st:Stmt} {f:Addr} {fd:FuncData} {ps:List Str} (F:Fun K x qual st f fd)
  (h:∀ (kV doc pm:Value) (an:Option Addr) (cdv ct:Value) (us:List Value),us.length = ps.length->bindArgs (PySem.W.fnOf x qual (Zao st) (Zam st) (Zae st) .none kV doc pm an cdv ct) ⟨us,[]⟩ = pure (ps.zip us)):Binds K fd ps []:=by
 obtain ⟨oc,od,kV,doc,pm,an,cdv,ct,osl,rfl,lk,hcd⟩:=F.ex
 exact .all (h kV doc pm an cdv ct)
theorem Za3 {x qual:Str} {st:Stmt} {f:Addr} {oc:Value} {od an:Option Addr} {osl:Array (Option Value)} {kV doc pm cdv ct:Value} (l:K.lookup f = some ⟨oc,od,.func (PySem.W.fnOf x qual (Zao st) (Zam st) (Zae st) .none kV doc pm an cdv ct),osl⟩)
  (c:PySem.W.codeIn K cdv qual = true) (k:PySem.W.keepIn K (.ref f) = true):Fun K x qual st f (PySem.W.fnOf x qual (Zao st) (Zam st) (Zae st) .none kV doc pm an cdv ct):=⟨⟨oc,od,kV,doc,pm,an,cdv,ct,osl,rfl,l,c⟩,k⟩
end
theorem Za2 {n:Nat} (h:n<=1000):n < sizeLine:=Nat.lt_of_le_of_lt h (by decide)
section
variable {X:Cx}
theorem pv (i:Nat) {x:Str} {pos:Pos} (hN:X.N[i]? = some x:=by rfl) (hv:Vis X.env.scope x:=by first | exact Or.inl rfl | exact Or.inr (Or.inl rfl) | exact Or.inr (Or.inr rfl)) (hd:(x == ("__debug__" : Str)) = false:=by decide)
  (hcd:(x == ("__classdict__" : Str)) = false:=by decide):PE X (.Name x pos) (tVar i):=pe_var hN hv hd hcd
end
theorem Zlj {A B:Prop} (h:B):if false = true then A else B:=by
 rw [if_neg Bool.false_ne_true]
 exact h
theorem iteT {A B:Prop} (h:A):if true = true then A else B:=by
 rw [if_pos rfl]
 exact h
theorem Zdy {c A B:Prop} [Decidable c] (h1:c->A) (h2:¬ c->B):if c then A else B:=by
 by_cases h:c
 ·rw [if_pos h]
  exact h1 h
 ·rw [if_neg h]
  exact h2 h
def Same (H H':Hp):Prop:=∀ b o,H b = some o->H' b = some o
theorem Same.refl (H:Hp):Same H H:=fun _ _ h=>h
theorem Same.trans {H H1 H2:Hp} (a:Same H H1) (b:Same H1 H2):Same H H2:=fun c o h=>b c o (a c o h)
theorem Same.free {H H':Hp} (e:Same H H') {l:Addr} (h:H' l = Option.none):H l = Option.none:=by
 cases q:H l with
 | none=>rfl
 | some o=>
  rw [e l o q] at h
  cases h
theorem Same.seq {K:PySem.W.Frag} {H H':Hp} {a:Addr} {xs:List V} (e:Same H H') (h:SqL K H a xs):SqL K H' a xs:=by
 rcases h with (h | ⟨o,h⟩) | h
 ·exact .inl (.inl (e _ _ h))
 ·exact .inl (.inr ⟨o,e _ _ h⟩)
 ·exact .inr h
theorem Zrw {x:Str} {c:Addr}:∀ (names:List (Str × NameKind)) (n:Nat) (acc:List (Str × Addr)),(cellsFrom n names acc).lookup x = some c->n<=c\/acc.lookup x = some c
 | [],_,_,h=>.inr h
 | (y,k) :: r,n,acc,h=>by
  unfold cellsFrom at h
  split at h
  ·rcases Zrw r (n + 1) _ h with z | z
   ·exact .inl (Nat.le_of_succ_le z)
   ·rw [List.lookup_cons] at z
    cases e:x == y with
    | true=>rw [e] at z; cases z; exact .inl (Nat.le_refl _)
    | false=>rw [e] at z; exact .inr z
  ·exact Zrw r n acc h
theorem Zpv {x:Str} {c:Addr}:∀ (names:List (Str × NameKind)) (n:Nat) (acc:List (Str × Addr)),(x,NameKind.cell) ∈ names->(cellsFrom n names acc).lookup x = some c->n<=c
 | [],_,_,m,_=>nomatch m
 | (y,k) :: r,n,acc,m,h=>by
  unfold cellsFrom at h
  split at h
  ·by_cases m':(x,NameKind.cell) ∈ r
   ·exact Nat.le_of_succ_le (Zpv r (n + 1) _ m' h)
   ·have e:(x,NameKind.cell) = (y,k):=(List.mem_cons.mp m).resolve_right m'
    cases e
    rcases Zrw r (n + 1) _ h with z | z
    ·exact Nat.le_of_succ_le z
    ·rw [List.lookup_cons,beq_self_eq_true] at z
     cases z
     exact Nat.le_refl _
  ·rename_i hk
   have m':(x,NameKind.cell) ∈ r:=by
    rcases List.mem_cons.mp m with e | m'
    ·cases e; exact absurd rfl hk
    ·exact m'
   exact Zpv r n acc m' h
theorem Zpw {x:Str}:∀ {names:List (Str × NameKind)} {n:Nat} {acc:List (Str × Addr)},(x,NameKind.cell) ∉ names->(cellsFrom n names acc).lookup x = acc.lookup x
 | [],_,_,_=>rfl
 | (y,k) :: r,n,acc,h=>by
  unfold cellsFrom
  have hr:(x,NameKind.cell) ∉ r:=fun m=>h (List.mem_cons_of_mem _ m)
  split
  ·rename_i hk
   have hy:(x == y) = false:=by
    cases e:x == y with
    | false=>rfl
    | true=>
     exfalso
     refine h ?_
     rw [beq_iff_eq.mp e,beq_iff_eq.mp hk]
     exact List.mem_cons_self
   rw [Zpw hr,List.lookup_cons,hy]
  ·exact Zpw hr
theorem Zpx:∀ (names:List (Str × NameKind)) (n:Nat) (acc:List (Str × Addr)),(∀ x c,acc.lookup x = some c->c < n)->(∀ x y c,acc.lookup x = some c->acc.lookup y = some c->x = y)->
  ∀ x y c,(cellsFrom n names acc).lookup x = some c->(cellsFrom n names acc).lookup y = some c->x = y
 | [],_,_,_,hi=>hi
 | (z,k) :: r,n,acc,hl,hi=>by
  unfold cellsFrom
  split
  ·refine Zpx r (n + 1) _ (fun x c h=>?_) (fun x y c h1 h2=>?_)
   ·rw [List.lookup_cons] at h
    cases e:x == z with
    | true=>rw [e] at h; cases h; exact Nat.lt_succ_self _
    | false=>rw [e] at h; exact Nat.lt_succ_of_lt (hl x c h)
   ·rw [List.lookup_cons] at h1 h2
    cases e1:x == z with
    | true=>
     rw [e1] at h1
     cases h1
     cases e2:y == z with
     | true=>rw [beq_iff_eq.mp e1,beq_iff_eq.mp e2]
     | false=>rw [e2] at h2; exact absurd (hl y _ h2) (Nat.lt_irrefl _)
    | false=>
     rw [e1] at h1
     cases e2:y == z with
     | true=>rw [e2] at h2; cases h2; exact absurd (hl x _ h1) (Nat.lt_irrefl _)
     | false=>rw [e2] at h2; exact hi x y c h1 h2
  ·exact Zpx r n acc hl hi
theorem Zlq {x:Str} {c:Addr}:∀ (names:List (Str × NameKind)) (h:Heap) (acc:List (Str × Addr)),(cellsFrom h.objs.size names acc).lookup x = some c->(pushCells h names).IsCell c none\/acc.lookup x = some c
 | [],_,_,z=>.inr z
 | (y,k) :: r,h,acc,z=>by
  unfold cellsFrom at z
  unfold pushCells
  split at z
  ·rename_i hk
   rw [if_pos hk]
   have z':(cellsFrom (h.push { cls:=.type "cell",data:=.cell none }).objs.size r ((y,h.objs.size) :: acc)).lookup x = some c:=by rw [Heap.size_push]; exact z
   rcases Zlq r _ _ z' with q | q
   ·exact .inl q
   ·rw [List.lookup_cons] at q
    cases e:x == y with
    | true=>
     rw [e] at q
     cases q
     exact .inl ⟨_,pushCells_keeps _ _ _ _ (Heap.get?_push_size _ rfl),rfl⟩
    | false=>rw [e] at q; exact .inr q
  ·rename_i hk
   rw [if_neg hk]
   exact Zlq r h acc z
theorem Zlp {env:Env} (f:Str × NameKind->List (Str × Addr)->Sem (ForInStep (List (Str × Addr))))
  (hf:∀ name kind cs,f (name,kind) cs = if kind == .free then (do let a <- cellOf env name; pure (.yield ((name,a) :: cs))) else pure (.yield cs)):
  ∀ (names:List (Str × NameKind)) (acc:List (Str × Addr)),(∀ y ∈ names,y.2 = .free->∃ c,env.cells.lookup y.1 = some c)->(∀ x c,acc.lookup x = some c->env.cells.lookup x = some c)->
  ∃ cl,forIn names acc f = pure cl/\(∀ x c,cl.lookup x = some c->env.cells.lookup x = some c)/\(∀ y ∈ names,y.2 = .free->∃ c,cl.lookup y.1 = some c)/\∀ x c,acc.lookup x = some c->∃ c',cl.lookup x = some c'
 | [],acc,_,ha=>⟨acc,rfl,ha,(fun _ m=>nomatch m),fun x c e=>⟨c,e⟩⟩
 | (y,k) :: r,acc,h,ha=>by
  rw [List.forIn_cons,hf]
  have hr:∀ y ∈ r,y.2 = NameKind.free->∃ c,env.cells.lookup y.1 = some c:=fun z m=>h z (List.mem_cons_of_mem _ m)
  by_cases hk:(k == NameKind.free) = true
  ·obtain ⟨c,hc⟩:=h (y,k) List.mem_cons_self (beq_iff_eq.mp hk)
   have e:cellOf env y = pure c:=by unfold cellOf; rw [hc]
   rw [if_pos hk,e,pure_bind,pure_bind]
   have ha':∀ x d,((y,c) :: acc).lookup x = some d->env.cells.lookup x = some d:=fun x d e=>by
    rw [List.lookup_cons] at e
    cases e1:x == y with
    | true=>rw [e1] at e; cases e; rw [beq_iff_eq.mp e1]; exact hc
    | false=>rw [e1] at e; exact ha x d e
   obtain ⟨cl,q1,q2,q3,q4⟩:=Zlp f hf r ((y,c) :: acc) hr ha'
   refine ⟨cl,q1,q2,fun z m hz=>?_,fun x d e=>?_⟩
   ·rcases List.mem_cons.mp m with e | m
    ·subst e
     exact q4 y c (by rw [List.lookup_cons,beq_self_eq_true])
    ·exact q3 z m hz
   ·by_cases e1:(x == y) = true
    ·exact q4 x c (by rw [List.lookup_cons,e1])
    ·exact q4 x d (by rw [List.lookup_cons]; simp only [e1]; exact e)
  ·rw [if_neg hk,pure_bind]
   obtain ⟨cl,q1,q2,q3,q4⟩:=Zlp f hf r acc hr ha
   refine ⟨cl,q1,q2,fun z m hz=>?_,q4⟩
   rcases List.mem_cons.mp m with e | m
   ·subst e; exact absurd (beq_iff_eq.mpr hz) hk
   ·exact q3 z m hz
theorem Zlo {scope:Scope} {env:Env} (h:∀ y ∈ scope.names,y.2 = .free->∃ c,env.cells.lookup y.1 = some c):
  ∃ cl,closureFor scope env = pure cl/\(∀ x c,cl.lookup x = some c->env.cells.lookup x = some c)/\∀ y ∈ scope.names,y.2 = .free->∃ c,cl.lookup y.1 = some c:=by
 obtain ⟨cl,q1,q2,q3,_⟩:=Zlp (env:=env) (fun x cs=>if x.2 == .free then (do let a <- cellOf env x.1; pure (.yield ((x.1,a) :: cs))) else pure (.yield cs)) (fun _ _ _=>rfl) scope.names [] h (fun _ _ e=>nomatch e)
 refine ⟨cl,?_,q2,q3⟩
 unfold closureFor
 have e:(fun (x:Str × NameKind) (r:List (Str × Addr))=>(match x with
   | (name,kind)=>if (kind == NameKind.free) = true then (do let __do_lift <- cellOf env name; pure (ForInStep.yield ((name,__do_lift) :: r))) else pure (ForInStep.yield r):Sem (ForInStep (List (Str × Addr))))) =
   fun x cs=>if x.2 == .free then (do let a <- cellOf env x.1; pure (.yield ((x.1,a) :: cs))) else pure (.yield cs):=by
  funext x cs
  rfl
 have q:(forIn scope.names ([]:List (Str × Addr)) fun (x:Str × NameKind) (r:List (Str × Addr))=>(match x with
   | (name,kind)=>if (kind == NameKind.free) = true then (do let __do_lift <- cellOf env name; pure (ForInStep.yield ((name,__do_lift) :: r))) else pure (ForInStep.yield r):Sem (ForInStep (List (Str × Addr))))) = pure cl:=by
  rw [e]; exact q1
 simpa using q
theorem Zj3 {M:Model} {A:Around} {E:Value->Shared->Prop} {s:Shared} {scope:Scope} {globals:Addr} {cl:List (Str × Addr)} {qual:Str} {env:Env} {Q:Env->Shared->Prop}
  (hQ:∀ h',h'.Ns s.heap.objs.size (fun _=>none)->(∀ b o,s.heap.get? b = some o->h'.get? b = some o)->
   (∀ x c,(cellsFrom (s.heap.objs.size + 1) scope.names cl).lookup x = some c->h'.IsCell c none\/cl.lookup x = some c)->
   Q { scope,locals:=s.heap.objs.size,globals,cells:=cellsFrom (s.heap.objs.size + 1) scope.names cl,qual,func:=none,code:=env.code,frame:=env.frame,builtins:=env.builtins } { s with heap:=h' }):
  wpAny M A (newFunctionEnv scope globals cl [] qual none .none (some env)) Q E s:=by
 simp only [newFunctionEnv,Option.isSome_some,if_true]
 refine wpAny_bind (wpAny_alloc ?_)
 refine wpAny_bind (wpAny_layCells _ (fun name kind cells=>by cases hkc:kind == NameKind.cell <;> simp [hkc]) _ _ _ _ ?_)
 have hsz:(s.heap.push { cls:=.type "dict",data:=.dict #[] }).objs.size = s.heap.objs.size + 1:=Heap.size_push ..
 have q:=hQ (pushCells (s.heap.push { cls:=.type "dict",data:=.dict #[] }) scope.names) ((Heap.Ns.new s.heap (.type "dict")).keeps (pushCells_keeps _ _)) (fun b o e=>pushCells_keeps _ _ b o (Heap.get?_push_of_some _ e))
  (fun x c e=>Zlq scope.names (s.heap.push { cls:=.type "dict",data:=.dict #[] }) cl (by rw [hsz]; exact e))
 show wpAny _ _ _ _ _ _
 rw [show ({ s with heap:=s.heap.push { cls:=.type "dict",data:=.dict #[] } }:Shared).heap.objs.size = s.heap.objs.size + 1 from hsz]
 exact wpAny_bind (wpAny_pure (wpAny_pure q))
theorem Zgf {env:Env} {x:Str}:∀ {names:List (Str × NameKind)},names.lookup x = some .free->
  (names.map fun (n,k)=>if (k == NameKind.free && env.scope.kind == .function && env.kindOf n == some .cell) then (n,NameKind.cell) else (n,k)).lookup x = some .cell \/
  (names.map fun (n,k)=>if (k == NameKind.free && env.scope.kind == .function && env.kindOf n == some .cell) then (n,NameKind.cell) else (n,k)).lookup x = some .free
 | [],h=>by simp at h
 | (n,k) :: r,h=>by
  have ih:=@Zgf env x r
  show List.lookup x ((if (k == NameKind.free && env.scope.kind == .function && env.kindOf n == some .cell) = true then (n,NameKind.cell) else (n,k)) :: _) = _\/List.lookup x ((if (k == NameKind.free && env.scope.kind == .function && env.kindOf n == some .cell) = true then (n,NameKind.cell) else (n,k)) :: _) = _
  cases hx:x == n with
  | true=>
   simp only [List.lookup_cons,hx] at h
   cases h
   split <;> simp [List.lookup_cons,hx]
  | false=>
   simp only [List.lookup_cons,hx] at h
   split <;> (simp only [List.lookup_cons,hx]; exact ih h)
theorem Zes {env:Env} {x:Str} {kd:NameKind}:∀ {names:List (Str × NameKind)},
  (names.map fun (n,k)=>if (k == NameKind.free && env.scope.kind == .function && env.kindOf n == some .cell) then (n,NameKind.cell) else (n,k)).lookup x = some kd->
  names.lookup x = some kd\/names.lookup x = some .free
 | [],h=>by simp at h
 | (n,k) :: r,h=>by
  have ih:=@Zes env x kd r
  have h':List.lookup x ((if (k == NameKind.free && env.scope.kind == .function && env.kindOf n == some .cell) = true then (n,NameKind.cell) else (n,k)) :: (r.map fun (n,k)=>if (k == NameKind.free && env.scope.kind == .function && env.kindOf n == some .cell) then (n,NameKind.cell) else (n,k))) = some kd:=h
  cases hx:x == n with
  | true=>
   by_cases hc:(k == NameKind.free && env.scope.kind == .function && env.kindOf n == some .cell) = true
   ·have hk:k = .free:=by
     have:=(Bool.and_eq_true _ _ ▸ (Bool.and_eq_true _ _ ▸ hc).1).1
     exact beq_iff_eq.mp this
    subst hk
    exact .inr (by simp [List.lookup_cons,hx])
   ·rw [if_neg hc] at h'
    simp only [List.lookup_cons,hx] at h'
    cases h'
    exact .inl (by simp [List.lookup_cons,hx])
  | false=>
   have h2:List.lookup x (r.map fun (n,k)=>if (k == NameKind.free && env.scope.kind == .function && env.kindOf n == some .cell) then (n,NameKind.cell) else (n,k)) = some kd:=by
    split at h' <;> simpa only [List.lookup_cons,hx] using h'
   rcases ih h2 with z | z
   ·exact .inl (by simp only [List.lookup_cons,hx]; exact z)
   ·exact .inr (by simp only [List.lookup_cons,hx]; exact z)
def Zi8 (X:Cx) (N:List Str) (scope:Scope) (cl:List (Str × Addr)) (s:Shared) (H:Hp) (fp:List Addr):Cx where
 prog:=X.prog
 w:=X.w
 K:=X.K
 mg:=X.mg
 base:=X.base
 A:=X.A
 N:=N
 s₀:=s
 H₀:=H
 env:={ scope:=relabel scope X.env,locals:=s.heap.objs.size,globals:=X.env.globals,cells:=cellsFrom (s.heap.objs.size + 1) scope.names cl,qual:=X.env.qual,func:=none,code:=X.env.code,frame:=X.env.frame,builtins:=X.env.builtins }
 outer:=X.stack
 stack:=X.stack
 ex:=fp
 fn:=fun x=>scope.names.lookup x == some .cell
 calm:=X.calm
 pn:=[]
 xe:=fun _ _=>False
structure BlScope (X:Cx) (scope:Scope) (own:List Str) (fr:List (Str × Nat)):Prop where
 kind:scope.kind = .function
 free:∀ y ∈ scope.names,y.2 = .free->X.env.scope.names.lookup y.1 = some .cell\/X.env.scope.names.lookup y.1 = some .free
 loc:∀ y ∈ scope.names,y.2 = .local->scope.names.lookup y.1 = some .local
 look:∀ y ∈ scope.names,scope.names.lookup y.1 = some y.2
 cap:∀ y ∈ fr,scope.names.lookup y.1 = some .free/\X.N[y.2]? = some y.1
def Zgt (k:Nat) (fr:List (Str × Nat)) (σ:St):St:=List.replicate k none ++ fr.map fun y=>(σ[y.2]?).getD none
def Zhs (own:List Str) (fr:List (Str × Nat)):List Str:=own ++ fr.map (·.1)
section
variable {X:Cx} {pins:List (Addr × Obj)} {σ:St} {H:Hp} {s:Shared}
theorem Zo8 {scope:Scope} {own:List Str} {fr:List (Str × Nat)} {cl:List (Str × Addr)} {fp:List Addr} {h':Heap} (I:Inv X pins σ H s) (B:BlScope X scope own fr)
  (hcl:∀ x c,cl.lookup x = some c->X.env.cells.lookup x = some c) (hcl2:∀ y ∈ scope.names,y.2 = .free->∃ c,cl.lookup y.1 = some c)
  (hfp:∀ b ∈ fp,FpOk X pins H b) (hfo:∀ b ∈ fp,∃ o,s.heap.get? b = some o)
  (hn:h'.Ns s.heap.objs.size (fun _=>none)) (hk:∀ b o,s.heap.get? b = some o->h'.get? b = some o)
  (hc:∀ x c,(cellsFrom (s.heap.objs.size + 1) scope.names cl).lookup x = some c->h'.IsCell c none\/cl.lookup x = some c):
  Inv (Zi8 X (Zhs own fr) scope cl s H fp) [] (Zgt own.length fr σ) H { s with heap:=h' }:=by
 have clt:∀ x c,cl.lookup x = some c->c < s.heap.objs.size:=fun x c e=>by
  obtain ⟨v,z⟩:=I.cell x c (hcl x c e)
  exact z.lt
 have ownC:∀ x c,(cellsFrom (s.heap.objs.size + 1) scope.names cl).lookup x = some c->s.heap.objs.size + 1<=c\/cl.lookup x = some c:=fun x c e=>Zrw _ _ _ e
 have bsz:X.base.objs.size<=s.heap.objs.size:=Nat.le_trans I.ok.bsz I.sz
 refine ⟨⟨I.ok.mod,B.kind,I.ok.glob,I.ok.blt,Nat.le_refl _,?_,?_,?_,I.ok.hd,I.ok.frames,.inl rfl,?_,I.bs,bsz,?_,?_,I.stack,I.stkFree,I.ok.top⟩,rfl,I.bare,Un.kept hk,⟨_,hn,?_⟩,?_,I.hok.fresh (Nat.le_refl _),?_,?_,I.hok.kept hk,?_⟩
 ·exact Zpx _ _ _ (fun x c e=>Nat.lt_succ_of_lt (clt x c e)) fun x y c e1 e2=>I.ok.inj x y c (hcl x c e1) (hcl y c e2)
 ·intro x hx
  have hx:(relabel scope X.env).names.lookup x = some .cell\/(relabel scope X.env).names.lookup x = some .free:=hx
  have q:scope.names.lookup x = some .cell\/scope.names.lookup x = some .free:=by
   rcases hx with z | z
   ·exact Zes z
   ·exact (Zes z).elim .inr .inr
  refine Option.isSome_iff_exists.mp (PySem.W.cellsFrom_some scope.names _ _ ?_)
  rcases q with z | z
  ·exact .inl z
  ·obtain ⟨c,e⟩:=hcl2 _ (PySem.mem_of_lookup z) rfl
   exact .inr (by rw [e]; rfl)
 ·intro x c hf e
  have hf:(scope.names.lookup x == some .cell) = true:=hf
  exact Nat.le_of_succ_le (Zpv _ _ _ (PySem.mem_of_lookup (beq_iff_eq.mp hf)) e)
 ·intro b hb
  obtain ⟨o,ho⟩:=hfo b hb
  refine ⟨Nat.ne_of_lt (Heap.lt_size ho),fun x c e=>?_⟩
  rcases ownC x c e with z | z
  ·intro q
   subst q
   exact absurd (Nat.lt_of_lt_of_le (Heap.lt_size ho) (Nat.le_of_succ_le z)) (Nat.lt_irrefl _)
  ·exact (hfp b hb).2.2.2.2.1 x c (hcl x c z)
 ·intro b o e hb
  rcases (hfp b hb).2.2.2.1 with z | z
  ·exact I.ok.noex b o e z
  ·exact absurd (Nat.lt_of_lt_of_le (Heap.lt_size e) (Nat.le_trans I.ok.bsz z)) (Nat.lt_irrefl _)
 ·intro b hb z
  rcases List.mem_cons.mp (I.stkSub b z) with q | q
  ·exact (hfp b hb).2.1 q
  ·exact (hfp b hb).2.2.1 q
 ·intro i x v h1 h2 h3
  have h1:(Zhs own fr)[i]? = some x:=h1
  unfold Zhs at h1
  unfold Zgt at h2
  by_cases hi:i < own.length
  ·rw [List.getElem?_append_left (by rw [List.length_replicate]; exact hi),List.getElem?_replicate,if_pos hi] at h2
   cases h2
  ·have hi':own.length<=i:=Nat.le_of_not_lt hi
   rw [List.getElem?_append_right hi',List.getElem?_map] at h1
   rw [List.getElem?_append_right (by rw [List.length_replicate]; exact hi'),List.length_replicate,List.getElem?_map] at h2
   cases e:fr[i - own.length]? with
   | none=>rw [e] at h1; cases h1
   | some y=>
    rw [e] at h1 h2
    have hy1:y.1 = x:=Option.some.inj h1
    have hy2:(σ[y.2]?).getD none = some v:=Option.some.inj h2
    obtain ⟨c1,c2⟩:=B.cap y (List.mem_of_getElem? e)
    rw [hy1] at c1 c2
    have hs:σ[y.2]? = some (some v):=by
     cases e2:σ[y.2]? with
     | none=>rw [e2] at hy2; cases hy2
     | some o=>rw [e2] at hy2; cases o with
      | none=>cases hy2
      | some w=>cases hy2; rfl
    obtain ⟨m,hm,hl⟩:=I.loc
    have hfree:=B.free _ (PySem.mem_of_lookup c1) rfl
    obtain ⟨u,r,l⟩:=hl y.2 x v c2 hs (hfree.elim (fun z=>.inr (.inl z)) fun z=>.inr (.inr z))
    refine ⟨u,r,?_⟩
    obtain ⟨k,c,e3,z⟩:(X.env.kindOf x = some .cell\/X.env.kindOf x = some .free)/\∃ c,X.env.cells.lookup x = some c/\s.heap.IsCell c (some u):=by
     rcases l with ⟨k,_⟩ | q
     ·have k:X.env.scope.names.lookup x = some .local:=k
      rcases hfree with z | z <;> (rw [z] at k; cases k)
     ·exact q
    obtain ⟨d,hd⟩:=hcl2 _ (PySem.mem_of_lookup c1) rfl
    have hd':=hcl x d hd
    rw [e3] at hd'
    cases hd'
    obtain ⟨c',hc'⟩:∃ c',(cellsFrom (s.heap.objs.size + 1) scope.names cl).lookup x = some c':=Option.isSome_iff_exists.mp (PySem.W.cellsFrom_some scope.names _ _ (.inr (by rw [hd]; rfl)))
    have hcc:c' = c:=by
     rcases ownC x c' hc' with q | q
     ·-- an own cell of that name: it is free,so no
      exfalso
      have:(x,NameKind.cell) ∉ scope.names:=fun m=>by
       have:=B.look _ m
       rw [c1] at this
       cases this
      exact absurd hc' (by
       rw [Zpw this]
       intro z
       rw [hd] at z
       cases z
       exact absurd (clt x _ hd) (Nat.not_lt.mpr (Nat.le_of_succ_le q)))
     ·rw [hd] at q; cases q; rfl
    subst hcc
    refine .inr ⟨?_,c',hc',z.keeps hk⟩
    exact Zgf c1
 ·intro x c e
  rcases hc x c e with z | z
  ·exact ⟨_,z⟩
  ·obtain ⟨v,q⟩:=I.cell x c (hcl x c z)
   exact ⟨v,q.keeps hk⟩
 ·intro x c e
  rcases ownC x c e with z | z
  ·exact I.hok.fresh (Nat.le_of_succ_le z)
  ·exact I.freeC x c (hcl x c z)
 ·intro p hp
  exact absurd (show p ∈ ([]:List (Addr × Obj)) from hp) (by simp)
 ·show (Zgt _ _ _).length = (Zhs _ _).length
  unfold Zgt Zhs
  simp
end
def PTs (X:Cx) (ifs:List Expr) (t:TT):Prop:=
 ∀ (pins:List (Addr × Obj)) (s:Shared) (σ:St) (H:Hp) (Q:Bool->Hp->Prop),Inv X pins σ H s->t σ H Q->
  wpAny (model X.prog X.w) X.A (forIn ifs true fun c r=>if r = true then do let ok <- isTrue c X.env (eval c X.env); pure (ForInStep.yield ok) else pure (ForInStep.yield r)) (TP X pins σ Q) X.xe s
def Zht:TT:=fun _ H Q=>Q true H
theorem Za9 {X:Cx}:PTs X [] Zht:=fun pins s σ H Q I h=>wpAny_tests_nil ⟨H,I,h⟩
theorem Ziw {X:Cx} {c:Expr} {t:TT} (hc:PT X c t):PTs X [c] t:=fun pins s σ H Q I h=>wpAny_tests_one (hc pins s σ H Q I h)
section
variable {prog:Program} {w:World} {A:Around} {R:Result->Shared->Prop} {s:Shared}
theorem Zkk {elt target iter:Expr} {ifs:List Expr} {scope:Scope} {pos:Pos} {it acc:Value} {env:Env} (I:Nat->Shared->Prop)
  (turn:∀ n s,I n s->wpAny (model prog w) A (pyNext it) (fun r s₁=>match r with
   | none=>R (.ok .next) s₁
   | some v=>wpAny (model prog w) A (letOwnedTupleGo target it v) (fun _ s₁=>wpAny (model prog w) A (assign target env v) (fun _ s₂=>
     wpAny (model prog w) A (forIn ifs true fun c r=>if r = true then do let ok <- isTrue c env (eval c env); pure (ForInStep.yield ok) else pure (ForInStep.yield r)) (fun ok s₃=>
      if ok = true then wpAny (model prog w) A (eval elt env) (fun x s₄=>
       wpAny (model prog w) A (call (.builtin "list.append") [acc,x]) (fun _ s₅=>∃ m,m < n/\I m s₅) (fun _ _=>False) s₄) (fun _ _=>False) s₃
      else ∃ m,m < n/\I m s₃) (fun _ _=>False) s₂) (fun _ _=>False) s₁) (fun _ _=>False) s₁) (fun _ _=>False) s)
  (n:Nat) (h:I n s):
  codeAny (model prog w) A (.compLoop (.ListComp elt [⟨target,iter,ifs,0⟩] scope pos) 0 it acc env) R s:=by
 refine codeAny_loop rfl I (fun n s hI=>?_) n h
 show wpAny _ A ((compTurn (.ListComp elt [⟨target,iter,ifs,0⟩] scope pos) 0 it acc env).onRaise (fun x=>do noteFrame x env; theTreesLotGoes x)) _ _ s
 refine wpAny_noted ?_
 rw [compTurn_list]
 refine wpAny_bind (wpAny_standAt (wpAny_bind (wpAny_mono (turn n s hI) (fun r s₁ h₁=>?_) fun _ _ h'=>h'.elim)))
 cases r with
 | none=>exact wpAny_pure h₁
 | some v=>
  refine wpAny_bind (wpAny_mono h₁ (fun _ s₁' h₁'=>?_) fun _ _ h'=>h'.elim)
  refine wpAny_bind (wpAny_mono h₁' (fun _ s₂ h₂=>wpAny_bind (wpAny_mono h₂ (fun ok s₃ h₃=>?_) fun _ _ h'=>h'.elim)) fun _ _ h'=>h'.elim)
  cases ok with
  | false=>exact wpAny_pure ⟨rfl,h₃⟩
  | true=>
   exact wpAny_bind (wpAny_bind (wpAny_mono h₃ (fun x s₄ h₄=>wpAny_bind (wpAny_mono h₄ (fun _ s₅ h₅=>wpAny_pure (wpAny_pure ⟨rfl,h₅⟩)) fun _ _ h'=>h'.elim)) fun _ _ h'=>h'.elim))
end
def Zcl (g:TG) (tt:TT) (te:TE) (J:It) (D:Addr) (σ0:St) (H1:Hp) (Q:VK):Prop:=
 ∃ W:Nat->Nat->St->Hp->Prop,(∃ m,W 0 m σ0 (upd H1 D (.lst [])))/\∀ i m σ' H2,W i m σ' H2->
  (J.stop i H2/\Q (.ref D) H2)\/(J.go i H2/\∀ x H3,J.yld i H2 x H3->g x σ' H3 fun σ4 H4=>tt σ4 H4 fun b H5=>
   if b = true then te σ4 H5 fun y H6=>∃ vs,H6 D = some (.lst vs)/\vs.length < sizeLine/\∃ m',m' < m/\W (i + 1) m' σ4 (upd H6 D (.lst (vs ++ [y])))
   else ∃ m',m' < m/\W (i + 1) m' σ4 H5)
def tComp (k:Nat) (fr:List (Str × Nat)) (wi:TI) (g:TG) (tt:TT) (te:TE):TE:=fun σ H Q=>wi σ H fun J H1=>∀ D,H1 D = none->Zcl g tt te J D (Zgt k fr σ) H1 Q
section
variable {X:Cx} {tg iter elt:Expr} {ifs:List Expr} {scope:Scope} {pos:Pos} {own:List Str} {fr:List (Str × Nat)} {wi:TI} {g:TG} {tt:TT} {te:TE}
theorem Zmj {pins:List (Addr × Obj)} {s2:Shared} {σ:St} {H2:Hp} {it:Addr} {fp:List Addr} {tn:Nat->Heap->Prop} {J:It} {Q:VK} {cl:List (Str × Addr)} {RR:Value->Addr->Result->Shared->Prop} {E:Value->Shared->Prop}
  (hc:X.calm = true) (B:BlScope X scope own fr)
  (hb:∀ cl s H fp,PG (Zi8 X (Zhs own fr) scope cl s H fp) tg g/\PTs (Zi8 X (Zhs own fr) scope cl s H fp) ifs tt/\PE (Zi8 X (Zhs own fr) scope cl s H fp) elt te)
  (hcl:∀ x c,cl.lookup x = some c->X.env.cells.lookup x = some c) (hcl2:∀ y ∈ scope.names,y.2 = .free->∃ c,cl.lookup y.1 = some c)
  (I2:Inv X pins σ H2 s2) (T:Turn X.prog X.w X.K tg J fp it tn) (st2:tn 0 s2.heap) (f2:∀ b ∈ fp,FpOk X pins H2 b) (q:∀ D,H2 D = none->Zcl g tt te J D (Zgt own.length fr σ) H2 Q)
  (hRR:∀ D C s' H',Inv X pins σ H' s'->Q (.ref D) H'->(∃ m,s'.heap.Ns C m)->C ≠ X.env.locals->(∀ x c,X.env.cells.lookup x = some c->c ≠ C)->(∀ p ∈ X.pn ++ pins,p.1 ≠ C)->X.s₀.heap.objs.size<=C->H' C = none->RR (.ref D) C (.ok .next) s'):
  wpAny (model X.prog X.w) X.A (newList []) (fun acc s₃=>wpAny (model X.prog X.w) X.A (newFunctionEnv scope X.env.globals cl [] X.env.qual none .none (some X.env)) (fun cenv s₄=>
   codeAny (model X.prog X.w) X.A (.compStart (.ListComp elt [⟨tg,iter,ifs,0⟩] scope pos) 0 (.ref it) acc { cenv with scope:=relabel scope X.env }) (RR acc cenv.locals) s₄) E s₃) E s2:=by
 refine wpAny_newObj_type ?_
 have fr0:H2 s2.heap.objs.size = none:=I2.hok.fresh (Nat.le_refl _)
 have I3:=I2.lnew (its:=[]) (ys:=[]) (t':=s2.toks) .nil (Nat.zero_le _)
 generalize hs3:({ s2 with heap:=s2.heap.push { cls:=.type "list",data:=.seq ([]:List Value).toArray } }:Shared) = s3 at *
 have k23:∀ b o,s2.heap.get? b = some o->s3.heap.get? b = some o:=fun b o e=>by rw [<- hs3]; exact Heap.get?_push_of_some _ e
 have sz3:s3.heap.objs.size = s2.heap.objs.size + 1:=by rw [<- hs3]; exact Heap.size_push ..
 have I3':Inv X pins σ (upd H2 s2.heap.objs.size (.lst [])) s3:=I3
 have fne:∀ b ∈ fp,b ≠ s2.heap.objs.size:=fun b hb z=>by
  obtain ⟨o,ho,_⟩:=T.obj 0 _ st2 b hb
  exact absurd (Heap.lt_size ho) (by rw [z]; exact Nat.lt_irrefl _)
 have f3:∀ b ∈ fp,FpOk X pins (upd H2 s2.heap.objs.size (.lst [])) b:=fun b hb=>⟨by rw [Zap (fne b hb)]; exact (f2 b hb).1,(f2 b hb).2⟩
 have st3:tn 0 s3.heap:=T.keep 0 _ _ st2 fun b _ o e=>k23 b o e
 have hfo:∀ b ∈ fp,∃ o,s3.heap.get? b = some o:=fun b hb=>let ⟨o,ho,_⟩:=T.obj 0 _ st3 b hb; ⟨o,ho⟩
 refine Zj3 fun h' hn hk hce=>?_
 have I4:=Zo8 (own:=own) I3' B hcl hcl2 f3 hfo hn hk hce
 obtain ⟨hg,ht,he⟩:=hb cl s3 (upd H2 s2.heap.objs.size (.lst [])) fp
 have st4:tn 0 h':=T.keep 0 _ _ st3 fun b _ o e=>hk b o e
 have stat:∀ {H':Hp},(∀ b ∈ fp,H' b = none)->∀ b ∈ fp,FpOk (Zi8 X (Zhs own fr) scope cl s3 (upd H2 s2.heap.objs.size (.lst [])) fp) [] H' b:=fun {H'} hnn b hb=>
  ⟨hnn b hb,(I4.ok.exf b hb).1,I4.ok.exfs b hb,.inl hb,(I4.ok.exf b hb).2,fun p hp=>absurd (show p ∈ ([]:List (Addr × Obj)) from hp) (by simp)⟩
 obtain ⟨W,⟨m0,w0⟩,turn⟩:=q s2.heap.objs.size fr0
 have loop:codeAny (model X.prog X.w) X.A (.compLoop (.ListComp elt [⟨tg,iter,ifs,0⟩] scope pos) 0 (.ref it) (.ref s2.heap.objs.size) (Zi8 X (Zhs own fr) scope cl s3 (upd H2 s2.heap.objs.size (.lst [])) fp).env)
   (RR (.ref s2.heap.objs.size) s3.heap.objs.size) { s3 with heap:=h' }:=by
  refine Zkk (fun n s'=>∃ i σ' H',Inv (Zi8 X (Zhs own fr) scope cl s3 (upd H2 s2.heap.objs.size (.lst [])) fp) [] σ' H' s'/\tn i s'.heap/\(∀ b ∈ fp,H' b = none)/\W i n σ' H') ?_ m0
   ⟨0,_,_,I4,st4,fun b hb=>(f3 b hb).1,w0⟩
  rintro n s5 ⟨i,σ5,H5,I5,st5,fr5,w5⟩
  rcases turn i n σ5 H5 w5 with ⟨stop,qn⟩ | ⟨go,step⟩
  ·refine thn (T.done (Zi8 X (Zhs own fr) scope cl s3 (upd H2 s2.heap.objs.size (.lst [])) fp) rfl rfl rfl hc i [] s5 σ5 H5 _ I5 (stat fr5) st5 stop) fun r s6 ⟨hr,I6⟩=>?_
   subst hr
   have I7:Inv X pins σ H5 s6:=I3'.call' (ch:=fp) I6.os I6.base I6.hok I6.bare fun b hb=>⟨(f3 b hb).2.2.2.1,(f3 b hb).2.1,(f3 b hb).2.2.2.2.1,(f3 b hb).2.2.2.2.2⟩
   obtain ⟨m6,hn6,_⟩:=I6.loc
   refine hRR _ _ s6 H5 I7 qn ⟨m6,hn6⟩ (Nat.ne_of_gt I3'.lt) (fun x c e=>?_) (fun p hp=>?_) I3'.sz I6.free
   ·obtain ⟨v,z⟩:=I3'.cell x c e
    exact Nat.ne_of_lt z.lt
   ·exact Nat.ne_of_lt (Heap.lt_size (I3'.pin p hp).1)
  ·refine thn (T.item (Zi8 X (Zhs own fr) scope cl s3 (upd H2 s2.heap.objs.size (.lst [])) fp) rfl rfl rfl hc i [] s5 σ5 H5 _ I5 (stat fr5) st5 go) fun r s6 ⟨u,hr,h6⟩=>?_
   subst hr
   refine thn h6 fun _ s7 ⟨x,H7,I7,r7,y7,st7,fr7⟩=>?_
   have I7':=I7.pinned (stat fr7) (T.obj _ _ st7)
   refine thn (hg _ s7 σ5 H7 x u _ I7' r7 (step x H7 y7)) fun _ s8 ⟨σ8,H8,I8,q8⟩=>?_
   refine thn (ht _ s8 σ8 H8 _ I8 q8) fun b s9 ⟨H9,I9,q9⟩=>?_
   have again:∀ {sA:Shared} {σA:St} {HA:Hp} {m':Nat},Inv (Zi8 X (Zhs own fr) scope cl s3 (upd H2 s2.heap.objs.size (.lst [])) fp) ([] ++ Zjx fp s7.heap) σA HA sA->m' < n->W (i + 1) m' σA HA->
     ∃ m,m < n/\∃ i σ' H',Inv (Zi8 X (Zhs own fr) scope cl s3 (upd H2 s2.heap.objs.size (.lst [])) fp) [] σ' H' sA/\tn i sA.heap/\(∀ b ∈ fp,H' b = none)/\W i m σ' H':=fun {sA σA HA m'} IA hm wA=>by
    refine ⟨m',hm,i + 1,σA,HA,IA.unpinned,T.keep _ _ _ st7 fun b hb o e=>(IA.pin (b,o) (List.mem_append_right _ (List.mem_append_right _ (Zec hb e)))).1,fun b hb=>?_,wA⟩
    obtain ⟨o,e,d⟩:=T.obj _ _ st7 b hb
    exact (IA.pin (b,o) (List.mem_append_right _ (List.mem_append_right _ (Zec hb e)))).2.1
   cases b with
   | false=>
    obtain ⟨m',hm,w9⟩:=q9
    exact again I9 hm w9
   | true=>
    have q9:te σ8 H9 _:=q9
    show wpAny _ _ _ _ _ _
    refine thn (he _ s9 σ8 H9 _ I9 q9) fun y sA ⟨vy,HA,IA,rA,vs,hvs,hlen,m',hm,wA⟩=>?_
    refine thn (Zcm (X:=Zi8 X (Zhs own fr) scope cl s3 (upd H2 s2.heap.objs.size (.lst [])) fp) _ sA σ8 HA (.ref s2.heap.objs.size) [vy] (.ref s2.heap.objs.size) [y] (fun _ HB=>W (i + 1) m' σ8 HB) IA rfl (.cons rA .nil) ⟨_,vs,vy,rfl,rfl,hvs,hlen,wA⟩) fun _ sB ⟨_,HB,IB,_,wB⟩=>?_
    exact again IB hm wB
 exact codeAny_compStart_list loop (T.self _ 0 _ _ _ st4 loop)
theorem SameBut.get {a:Addr} {h h':Heap} (x:Heap.SameBut a h h'):∀ b o,b ≠ a->h.get? b = some o->h'.get? b = some o:=fun b o n e=>(x.2 b n).trans e
theorem Zbg (hc:X.calm = true) (B:BlScope X scope own fr) (hi:PI X tg iter wi)
  (hb:∀ cl s H fp,PG (Zi8 X (Zhs own fr) scope cl s H fp) tg g/\PTs (Zi8 X (Zhs own fr) scope cl s H fp) ifs tt/\PE (Zi8 X (Zhs own fr) scope cl s H fp) elt te)
  (hs:∀ x,foldedSetIterable iter X.env x = pure x:=by intro _; rfl):
  PE X (.ListComp elt [⟨tg,iter,ifs,0⟩] scope pos) (tComp own.length fr wi g tt te):=by
 intro pins s σ H Q I h
 obtain ⟨cl,hclos,hcl,hcl2⟩:=Zlo (scope:=scope) (env:=X.env) fun y hy hf=>I.ok.has y.1 (B.free y hy hf)
 rw [eval_ListComp]
 refine wpAny_comprehension_free (use:=none) rfl hs hclos B.kind B.loc (thn (hi pins s σ H _ I h) fun v s1 h1=>thn h1 fun itv s2 h2=>?_)
 obtain ⟨it,fp,tn,J,H2,e,I2,T,st2,f2,q⟩:=h2
 subst e
 refine Zmj (RR:=fun acc C=>compPost (model X.prog X.w) X.A X.xe none (EP X pins σ Q) acc C) (Q:=Q) hc B hb hcl hcl2 I2 T st2 f2 q ?_
 intro D C s' H' I' hq hn n1 n2 n3 n4 n5
 obtain ⟨m,hn⟩:=hn
 refine ⟨m,hn,fun h' hs'=>⟨.ref D,H',I'.turned (it:=C) (t':=s'.toks) (fun b o hb e=>SameBut.get hs' b o hb e) n5 (Ne.symm (Ne.symm n1)) (.inr n4) n2 n3,rfl,hq⟩⟩
theorem Zf3 {i:Nat} {x:Str} {pos' spos:Pos} (hc:X.calm = true) (B:BlScope X scope own fr) (hi:PI X tg iter wi)
  (hb:∀ cl s H fp,PG (Zi8 X (Zhs own fr) scope cl s H fp) tg g/\PTs (Zi8 X (Zhs own fr) scope cl s H fp) ifs tt/\PE (Zi8 X (Zhs own fr) scope cl s H fp) elt te)
  (hN:X.N.Nodup) (hix:X.N[i]? = some x) (hx:X.env.scope.names.lookup x = some .local)
  (hsw:swapsWith (.ListComp elt [⟨tg,iter,ifs,0⟩] scope pos) (some (.Name x pos')) spos.line X.env = pure true)
  (hs:∀ x,foldedSetIterable iter X.env x = pure x:=by intro _; rfl):
  PS X (.Assign [.Name x pos'] (.ListComp elt [⟨tg,iter,ifs,0⟩] scope pos) spos) (tAsg (tComp own.length fr wi g tt te) (Zc8 i)):=by
 intro pins s σ H D I h
 obtain ⟨cl,hclos,hcl,hcl2⟩:=Zlo (scope:=scope) (env:=X.env) fun y hy hf=>I.ok.has y.1 (B.free y hy hf)
 rw [exec_Assign_Name_used _ _ _ _ hsw]
 refine wpAny_bind (wpAny_standAt (wpAny_bind ?_))
 show wpAny _ _ (do let _ <- comprehension (.ListComp elt [⟨tg,iter,ifs,0⟩] scope pos) scope X.env _ (newList []) false (eval iter X.env) (some (assign (.Name x pos') X.env))) _ _ s
 refine wpAny_bind (wpAny_mono (wpAny_comprehension_free (use:=some (assign (.Name x pos') X.env)) (Q:=fun _ s'=>SP X pins D .next s') rfl hs hclos B.kind B.loc (thn (hi pins s σ H _ I h) fun v s1 h1=>thn h1 fun itv s2 h2=>?_))
  (fun _ s' hq=>wpAny_pure (wpAny_pure hq)) fun _ _ e=>e)
 obtain ⟨it,fp,tn,J,H2,e,I2,T,st2,f2,q⟩:=h2
 subst e
 refine Zmj (RR:=fun acc C=>compPost (model X.prog X.w) X.A X.xe (some (assign (.Name x pos') X.env)) (fun _ s'=>SP X pins D .next s') acc C) (Q:=fun v H'=>Zc8 i v σ H' D.nx) hc B hb hcl hcl2 I2 T st2 f2 q ?_
 intro DD C s' H' I' hq hn n1 n2 n3 n4 n5
 obtain ⟨m,hn⟩:=hn
 show wpAny _ _ (assign (.Name x pos') X.env (.ref DD)) _ _ s'
 refine wpAny_assign_Name (Zjm I' hN hix (.inl hx) (v:=.ref DD) rfl (fun s3 I3 ⟨a,hsa,ha⟩=>?_) (.inr hx))
 have hCa:C ≠ a:=by
  rcases ha with z | z
  ·rw [z]; exact n1
  ·exact (n2 x a z).symm
 refine ⟨m,hn.sameBut hsa hCa,fun h' hs'=>⟨σ.set i (some (.ref DD)),H',I3.turned (it:=C) (t':=s3.toks) (fun b o hb e=>SameBut.get hs' b o hb e) n5 n1 (.inr n4) n2 n3,hq⟩⟩
end
section
variable {X:Cx}
theorem Zbh:OpR X (binaryOp .Mult) (rI IntMulOk fun i j=>.int (i * j)):=
 opI fun i j t u s Q E c h=>PyProof.Rows.mul_int h c
def cV:V->Option Value
 | .ty n=>some (.type n)
 | .ref a=>some (.ref a)
 | _=>none
theorem Zb4:Zf5 X (.builtin "isinstance") (fun xs H Q=>∃ x y c t b,xs = [x,y]/\cV y = some c/\TyOf X.K H x t/\PySem.W.kitOne X.K t c = some b/\Q (.bl b) H):=by
 intro pins s σ H xs us Q I r h
 obtain ⟨x,y,c,t,b,rfl,hc,ty,e,q⟩:=h
 obtain ⟨u,v,rfl,rx,ry⟩:=vals2 r
 have hv:v = c:=by
  cases y <;> first | (cases hc; done) | (cases hc; cases ry; rfl)
 subst hv
 exact Zo3 I rx ty e fun tk=>⟨.bl b,H,I.tok _,rfl,q⟩
theorem Zee (bs:List Bool):(List.range bs.length).all (fun i=>(bs[i]?).getD true) = bs.all id:=by
 rw [Bool.eq_iff_iff,List.all_eq_true,List.all_eq_true]
 constructor
 ·intro h b hb
  obtain ⟨i,hi,rfl⟩:=List.mem_iff_getElem.mp hb
  have:=h i (List.mem_range.mpr hi)
  rw [List.getElem?_eq_getElem hi] at this
  exact this
 ·intro h i hi
  have hi:=List.mem_range.mp hi
  rw [List.getElem?_eq_getElem hi]
  exact h _ (List.getElem_mem hi)
theorem Zlu {A:Around} {prog:Program} {w:World} {bs:List Bool} {its:List Value} (r:Vals (bs.map V.bl) its):TruthOf prog w A (fun i v=>its.toArray[i]? = some v) (fun i=>(bs[i]?).getD true):=by
 intro i v s Q E hP hQ
 have hP:its[i]? = some v:=by simpa using hP
 have hl:=r.length
 rw [List.length_map] at hl
 have hi:i < bs.length:=by rw [hl]; exact (List.getElem?_eq_some_iff.mp hP).1
 obtain ⟨u,hu,rv⟩:=r.get (i:=i) (x:=.bl bs[i]) (by rw [List.getElem?_map,List.getElem?_eq_getElem hi]; rfl)
 rw [hP] at hu
 cases hu
 cases rv
 have hQ:Q ((bs[i]?).getD true) s:=hQ
 rw [List.getElem?_eq_getElem hi] at hQ
 exact wpAny_truthy_bool hQ
theorem Zje (hc:X.calm = true):Zf5 X (.builtin "all") (fun xs H Q=>∃ (p:Addr) (bs:List Bool),xs = [.ref p]/\SqL X.K H p (bs.map V.bl)/\Q (.bl (bs.all id)) H):=by
 intro pins s σ H xs us Q I r h
 obtain ⟨p,bs,rfl,hq,q⟩:=h
 obtain ⟨u,rfl,rx⟩:=Zmq r
 cases rx
 obtain ⟨its,rv,pl,hz⟩:=I.list hq
 have hl:=rv.length
 rw [List.length_map] at hl
 refine call_all_walk (wpAny_pyIter_list pl.isList ?_)
 have hne:p ≠ s.heap.objs.size:=fun e=>by
  obtain ⟨o,n,ho,_⟩:=pl
  exact absurd (Heap.lt_size ho) (by rw [e]; exact Nat.lt_irrefl _)
 refine ⟨s.heap.objs.size,_,_,_,_,_,fun i=>(bs[i]?).getD true,rfl,Walks.list (A:=X.A.in1) (I.ok.hd hc) _ p hne its.toArray,⟨⟨_,Heap.get?_push_size _ rfl,rfl,rfl⟩,pl.isList.at fun o e=>Heap.get?_push_of_some _ e⟩,Zlu rv,fun h' tk kp=>?_⟩
 have e:(List.range its.toArray.size).all (fun i=>(bs[i]?).getD true) = bs.all id:=by
  rw [List.size_toArray,<- hl]; exact Zee bs
 rw [e]
 have f:=I.fpOk (H':=H) (Nat.le_refl s.heap.objs.size) (I.hok.fresh (Nat.le_refl _))
 exact ⟨.bl _,H,(I.kept (h':=s.heap.push { cls:=.type "list_iterator",data:=.fields #[.ref p,.int 0 0] }) (t':=s.toks) fun b o e=>Heap.get?_push_of_some _ e).turned (it:=s.heap.objs.size) (t':=tk) (fun b o hb e=>kp b o (by simpa using hb) e) f.1 f.2.1 f.2.2.2.1 f.2.2.2.2.1 f.2.2.2.2.2,rfl,q⟩
end
inductive EqD (K:PySem.W.Frag) (H:Hp):Nat->V->V->Bool->Prop where
 | flat {n:Nat} {x y:V} (hx:Zhn x = true) (hy:Zhn y = true):EqD K H n x y (eqV x y)
 | same {n:Nat} {a:Addr}:EqD K H n (.ref a) (.ref a) true
 | list {n:Nat} {a c:Addr} {xs ys:List V} {bs:List Bool} (ne:a ≠ c) (ha:SqL K H a xs) (hc:SqL K H c ys) (hl:xs.length = ys.length) (hb:bs.length = xs.length)
   (he:∀ (j:Nat) x y b,xs[j]? = some x->ys[j]? = some y->bs[j]? = some b->EqD K H n x y b):EqD K H (n + 1) (.ref a) (.ref c) (bs.all id)
 | listL {n:Nat} {a c:Addr} {xs ys:List V} (ne:a ≠ c) (ha:SqL K H a xs) (hc:SqL K H c ys) (hl:xs.length ≠ ys.length):EqD K H (n + 1) (.ref a) (.ref c) false
 | tuple {n:Nat} {a c:Addr} {xs ys:List V} {bs:List Bool} (ne:a ≠ c) (ha:SqT K H a xs) (hc:SqT K H c ys) (hl:xs.length = ys.length) (hb:bs.length = xs.length)
   (he:∀ (j:Nat) x y b,xs[j]? = some x->ys[j]? = some y->bs[j]? = some b->EqD K H n x y b):EqD K H (n + 1) (.ref a) (.ref c) (bs.all id)
def Zjh (K:PySem.W.Frag) (H:Hp) (n:Nat) (xs ys:List V) (bs:List Bool):Prop:=
 xs.length = ys.length/\bs.length = xs.length/\∀ (j:Nat) x y b,xs[j]? = some x->ys[j]? = some y->bs[j]? = some b->EqD K H n x y b
section
variable {X:Cx} {pins:List (Addr × Obj)} {σ:St} {H:Hp} {s:Shared}
theorem Zft {A:Around} {xs ys:List V} {us vs:List Value} {bs:List Bool} (rx:Vals xs us) (ry:Vals ys vs) (hl:xs.length = ys.length) (hb:bs.length = xs.length)
  (ih:∀ (j:Nat) x y b,xs[j]? = some x->ys[j]? = some y->bs[j]? = some b->∀ u v,RelV x u->RelV y v->SeqAt.EqAt A s u v b):
  ∀ j (h1:j < us.toArray.size) (h2:j < vs.toArray.size),SeqAt.EqAt A s us.toArray[j] vs.toArray[j] ((bs[j]?).getD true):=by
 intro j h1 h2
 have e1:=rx.length
 have e2:=ry.length
 have h1':j < us.length:=by simpa using h1
 have h2':j < vs.length:=by simpa using h2
 have g1:xs[j]? = some (xs[j]'(by omega)):=List.getElem?_eq_getElem _
 have g2:ys[j]? = some (ys[j]'(by omega)):=List.getElem?_eq_getElem _
 have g3:bs[j]? = some (bs[j]'(by omega)):=List.getElem?_eq_getElem _
 obtain ⟨u,hu,ru⟩:=rx.get g1
 obtain ⟨v,hv,rv⟩:=ry.get g2
 have eu:us.toArray[j] = u:=by
  rw [List.getElem?_eq_getElem h1'] at hu; simpa using hu
 have ev:vs.toArray[j] = v:=by
  rw [List.getElem?_eq_getElem h2'] at hv; simpa using hv
 rw [eu,ev,g3]
 exact ih j _ _ _ g1 g2 g3 u v ru rv
theorem EqD.at {n:Nat} {x y:V} {b:Bool} (I:Inv X pins σ H s) (e:EqD X.K H n x y b):∀ {A:Around} {u v:Value},A.units + n < cLine->RelV x u->RelV y v->SeqAt.EqAt A s u v b:=by
 induction e with
 | flat hx hy=>intro A u v _ ru rv; exact Zsn ru rv hx hy
 | same=>intro A u v _ ru rv; cases ru; cases rv; exact SeqAt.EqAt.same _
 | @list n a c xs ys bs ne ha hc hl hb he ih=>
  intro A u v hA ru rv
  cases ru
  cases rv
  obtain ⟨its,r1,p1,_⟩:=I.list ha
  obtain ⟨its',r2,p2,_⟩:=I.list hc
  have e1:=r1.length
  have e2:=r2.length
  have q:=SeqAt.RcAt.lists (e:=fun j=>(bs[j]?).getD true) p1.isList p2.isList (by simp; omega) (by omega) (Zft (A:=A.in1) r1 r2 hl hb fun j x y b h1 h2 h3 u v ru rv=>ih j x y b h1 h2 h3 (show A.units + 1 + n < cLine by omega) ru rv)
  rw [show its.toArray.size = bs.length by simp; omega,Zee] at q
  exact SeqAt.EqAt.of_refs ne q
 | @listL n a c xs ys ne ha hc hl=>
  intro A u v hA ru rv
  cases ru
  cases rv
  obtain ⟨its,r1,p1,_⟩:=I.list ha
  obtain ⟨its',r2,p2,_⟩:=I.list hc
  have e1:=r1.length
  have e2:=r2.length
  exact SeqAt.EqAt.of_refs ne (SeqAt.RcAt.lists_lengths p1.isList p2.isList (by simp; omega) (by omega))
 | @tuple n a c xs ys bs ne ha hc hl hb he ih=>
  intro A u v hA ru rv
  cases ru
  cases rv
  obtain ⟨its,r1,p1,_⟩:=I.tuple ha
  obtain ⟨its',r2,p2,_⟩:=I.tuple hc
  have e1:=r1.length
  have e2:=r2.length
  have q:=SeqAt.RcAt.tuples (e:=fun j=>(bs[j]?).getD true) p1 p2 (by omega) (Zft (A:=A.in1) r1 r2 hl hb fun j x y b h1 h2 h3 u v ru rv=>ih j x y b h1 h2 h3 (show A.units + 1 + n < cLine by omega) ru rv)
  rw [show min its.toArray.size its'.toArray.size = bs.length by simp; omega,Zee,show (its.toArray.size == its'.toArray.size) = true by simp; omega,Bool.and_true] at q
  exact SeqAt.EqAt.of_refs ne q
def rEqL (K:PySem.W.Frag) (neg:Bool):R2:=fun x y H Q=>∃ a c xs ys,x = .ref a/\y = .ref c/\SqL K H a xs/\SqL K H c ys /\
 ((xs.length ≠ ys.length/\Q (.bl neg) H)\/∃ bs,Zjh K H 6 xs ys bs/\Q (.bl (if neg then !bs.all id else bs.all id)) H)
def Zr9 (K:PySem.W.Frag) (neg:Bool):R2:=fun x y H Q=>∃ a c xs ys bs,x = .ref a/\y = .ref c/\SqT K H a xs/\SqT K H c ys/\Zjh K H 6 xs ys bs/\Q (.bl (if neg then !bs.all id else bs.all id)) H
theorem op_eqL (hu:X.A.units + 8 < cLine):OpR X (compareOp .Eq) (rEqL X.K false):=by
 intro pins s σ H x y v u Q I rx ry h
 obtain ⟨a,c,xs,ys,rfl,rfl,ha,hc,h⟩:=h
 cases rx
 cases ry
 obtain ⟨its,r1,p1,_⟩:=I.list ha
 obtain ⟨its',r2,p2,_⟩:=I.list hc
 have e1:=r1.length
 have e2:=r2.length
 rcases h with ⟨hne,q⟩ | ⟨bs,⟨hl,hb,he⟩,q⟩
 ·exact SeqAt.eq_list_lengthsAt p1.isList p2.isList (by simp; omega) (by omega) ⟨.bl false,H,I,rfl,q⟩
 ·refine SeqAt.eq_listAt (e:=fun j=>(bs[j]?).getD true) p1.isList p2.isList (by simp; omega) (by omega) (Zft (A:=X.A.in1) r1 r2 hl hb fun j x y b h1 h2 h3 u v ru rv=>(he j x y b h1 h2 h3).at I (show X.A.units + 1 + 6 < cLine by omega) ru rv) ?_
  rw [show its.toArray.size = bs.length by simp; omega,Zee]
  exact ⟨.bl (bs.all id),H,I,rfl,q⟩
theorem op_eqT (hu:X.A.units + 8 < cLine):OpR X (compareOp .Eq) (Zr9 X.K false):=by
 intro pins s σ H x y v u Q I rx ry h
 obtain ⟨a,c,xs,ys,bs,rfl,rfl,ha,hc,⟨hl,hb,he⟩,q⟩:=h
 cases rx
 cases ry
 obtain ⟨its,r1,p1,_⟩:=I.tuple ha
 obtain ⟨its',r2,p2,_⟩:=I.tuple hc
 have e1:=r1.length
 have e2:=r2.length
 refine SeqAt.eq_tupleAt (e:=fun j=>(bs[j]?).getD true) p1 p2 (by omega) (Zft (A:=X.A.in1) r1 r2 hl hb fun j x y b h1 h2 h3 u v ru rv=>(he j x y b h1 h2 h3).at I (show X.A.units + 1 + 6 < cLine by omega) ru rv) ?_
 rw [show min its.toArray.size its'.toArray.size = bs.length by simp; omega,Zee,show (its.toArray.size == its'.toArray.size) = true by simp; omega,Bool.and_true]
 exact ⟨.bl (bs.all id),H,I,rfl,q⟩
theorem Zif (hu:X.A.units + 8 < cLine):OpR X (compareOp .NotEq) (Zr9 X.K true):=by
 intro pins s σ H x y v u Q I rx ry h
 obtain ⟨a,c,xs,ys,bs,rfl,rfl,ha,hc,⟨hl,hb,he⟩,q⟩:=h
 cases rx
 cases ry
 obtain ⟨its,r1,p1,_⟩:=I.tuple ha
 obtain ⟨its',r2,p2,_⟩:=I.tuple hc
 have e1:=r1.length
 have e2:=r2.length
 refine SeqAt.RcNeAt.tuples (e:=fun j=>(bs[j]?).getD true) p1 p2 (by omega) (Zft (A:=X.A.in1) r1 r2 hl hb fun j x y b h1 h2 h3 u v ru rv=>(he j x y b h1 h2 h3).at I (show X.A.units + 1 + 6 < cLine by omega) ru rv) _ _ _ _ ?_
 rw [show min its.toArray.size its'.toArray.size = bs.length by simp; omega,Zee,show (its.toArray.size == its'.toArray.size) = true by simp; omega,Bool.and_true]
 exact ⟨.bl (!bs.all id),H,I,rfl,q⟩
end
theorem Zj9 (K:PySem.W.Frag):PySem.W.kitOne K (.type "int") (.type "int") = some true:=by rfl
theorem Zih (K:PySem.W.Frag):PySem.W.kitOne K (.type "int") (.type "bool") = some false:=by kernel_rfl
theorem Zj8 (K:PySem.W.Frag):PySem.W.kitOne K (.type "tuple") (.type "tuple") = some true:=by rfl
theorem Zlh (K:PySem.W.Frag):PySem.W.kitOne K (.type "list") (.type "list") = some true:=by rfl
structure Cal (P:Program) (w:World) (K:PySem.W.Frag) (mg:Str->Option Value) (base:Heap) (x:Str) (k:Nat) (sp:Sp):Prop where
 ex:∃ (f:Addr) (fd:FuncData) (ps:List Str),FnOk P w K mg base CX0 k f fd ps sp/\mg x = some (.ref f)/\PySem.W.keepIn K (.ref f) = true/\Binds K fd ps []
theorem pe_cal {X:Cx} {x:Str} {k:Nat} {sp:Sp} {e:Expr} {es:List Expr} {t:TA} {p pos:Pos} (C:Cal X.prog X.w X.K X.mg X.base x k sp) (hr:Room k X.A) (hg:Gl X x) (ha:PA X (e :: es) t)
  (hdb:(x == ("__debug__" : Str)) = false:=by decide) (he:starEach (e :: es) X.env = (false,eval e X.env) :: starEach es X.env:=by rfl) (hpl:(backTo pos (starEach es X.env)).any (·.1) = false:=by rfl):
  PE X (.Call (.Name x p) (e :: es) [] pos) (Zqf sp [] E0 t):=by
 obtain ⟨f,fd,ps,F,hm,hk,hb⟩:=C.ex
 exact pe_call F hr hg hm hk hb .nil pass0 ha hdb he hpl
structure CalM (P:Program) (w:World) (K:PySem.W.Frag) (mg:Str->Option Value) (base:Heap) (C:Addr) (m:Str) (k:Nat) (sp:Sp):Prop where
 ex:∃ (f:Addr) (fd:FuncData) (ps:List Str),FnOk P w K mg base CX0 k f fd ps sp/\Meth K C m f/\Binds K fd ps []
structure CalI (P:Program) (w:World) (K:PySem.W.Frag) (mg:Str->Option Value) (base:Heap) (x:Str) (C:Addr) (k:Nat) (sp:Sp):Prop where
 ex:∃ (f:Addr) (fd:FuncData) (ps:List Str),FnOk P w K mg base CX0 k f fd ps sp/\Mk K C f/\mg x = some (.ref C)/\Binds K fd ps []
theorem pe_new {X:Cx} {x:Str} {C:Addr} {k:Nat} {sp:Sp} {e:Expr} {es:List Expr} {t:TA} {p pos:Pos} (M:CalI X.prog X.w X.K X.mg X.base x C k sp) (hr:Room (k + 1) X.A) (hg:Gl X x) (ha:PA X (e :: es) t)
  (hdb:(x == ("__debug__" : Str)) = false:=by decide) (he:starEach (e :: es) X.env = (false,eval e X.env) :: starEach es X.env:=by rfl) (hpl:(backTo pos (starEach es X.env)).any (·.1) = false:=by rfl):
  PE X (.Call (.Name x p) (e :: es) [] pos) (Zqe C sp [] E0 t):=by
 obtain ⟨f,fd,ps,F,hm,hk,hb⟩:=M.ex
 exact pe_make hm F hr hg hk hb .nil pass0 ha hdb he hpl
def blOk (outer:List (Str × NameKind)) (N:List Str) (scope:Scope) (fr:List (Str × Nat)):Bool:=
 scope.kind == .function && scope.names.all (fun y=>y.2 != .free || outer.lookup y.1 == some .cell || outer.lookup y.1 == some .free) && scope.names.all (fun y=>scope.names.lookup y.1 == some y.2) &&
 fr.all fun y=>scope.names.lookup y.1 == some .free && N[y.2]? == some y.1
theorem Zck {X:Cx} {scope:Scope} {own:List Str} {fr:List (Str × Nat)} (h:blOk X.env.scope.names X.N scope fr = true):BlScope X scope own fr:=by
 unfold blOk at h
 simp only [Bool.and_eq_true,List.all_eq_true] at h
 obtain ⟨⟨⟨h1,h2⟩,h3⟩,h4⟩:=h
 refine ⟨?_,fun y hy hf=>?_,fun y hy hl=>?_,fun y hy=>?_,fun y hy=>?_⟩
 ·cases e:scope.kind <;> rw [e] at h1 <;> first | rfl | (exact absurd h1 (by decide))
 ·have:=h2 y hy
  rw [hf] at this
  simp only [Bool.or_eq_true,beq_iff_eq] at this
  rcases this with (q | q) | q
  ·exact absurd q (by decide)
  ·exact .inl q
  ·exact .inr q
 ·have:=h3 y hy
  rw [hl] at this
  exact beq_iff_eq.mp this
 ·exact beq_iff_eq.mp (h3 y hy)
 ·have:=h4 y hy
  exact ⟨beq_iff_eq.mp this.1,beq_iff_eq.mp this.2⟩
def Sh (k:Nat) (cap σ:St):Prop:=∃ o,o.length = k/\σ = o ++ cap
theorem Sh.mk1 {cap:St} {a:Option V}:Sh 1 cap (a :: cap):=⟨[a],rfl,rfl⟩
theorem Sh.mk2 {cap:St} {a b:Option V}:Sh 2 cap (a :: b :: cap):=⟨[a,b],rfl,rfl⟩
theorem Sh.one {cap σ:St} (h:Sh 1 cap σ):∃ a,σ = a :: cap:=by
 obtain ⟨o,h1,rfl⟩:=h
 match o,h1 with
 | [a],_=>exact ⟨a,rfl⟩
theorem Sh.two {cap σ:St} (h:Sh 2 cap σ):∃ a b,σ = a :: b :: cap:=by
 obtain ⟨o,h1,rfl⟩:=h
 match o,h1 with
 | [a,b],_=>exact ⟨a,b,rfl⟩
def Zcb (fr:List (Str × Nat)) (σ:St):St:=fr.map fun y=>(σ[y.2]?).getD none
def Wv (n k:Nat) (cap:St) (Pv:Nat->List V->Hp->Prop):Nat->Nat->St->Hp->Prop:=fun i m σ H=>m = n - i/\i<=n/\Sh k cap σ/\∃ vs,Pv i vs H
def Lf (D:Addr) (n k:Nat) (cap:St) (Pv:Nat->List V->Hp->Prop) (i:Nat) (σ4:St) (y:V) (H6:Hp):Prop:=
 ∃ vs,H6 D = some (.lst vs)/\vs.length < sizeLine/\∃ m',m' < n - i/\Wv n k cap Pv (i + 1) m' σ4 (upd H6 D (.lst (vs ++ [y])))
def Lf0 (n k:Nat) (cap:St) (Pv:Nat->List V->Hp->Prop) (i:Nat) (σ4:St) (H5:Hp):Prop:=∃ m',m' < n - i/\Wv n k cap Pv (i + 1) m' σ4 H5
theorem Zox {D:Addr} {n k:Nat} {cap:St} {Pv:Nat->List V->Hp->Prop} {i:Nat} {σ4:St} {y:V} {H6:Hp} {vs ws:List V} (hi:i < n) (sh:Sh k cap σ4) (hD:H6 D = some (.lst vs)) (hl:vs.length < sizeLine)
  (p:Pv (i + 1) ws (upd H6 D (.lst (vs ++ [y])))):Lf D n k cap Pv i σ4 y H6:=⟨vs,hD,hl,n - (i + 1),by omega,rfl,hi,sh,ws,p⟩
theorem leaf0 {n k:Nat} {cap:St} {Pv:Nat->List V->Hp->Prop} {i:Nat} {σ4:St} {H5:Hp} {ws:List V} (hi:i < n) (sh:Sh k cap σ4) (p:Pv (i + 1) ws H5):Lf0 n k cap Pv i σ4 H5:=⟨n - (i + 1),by omega,rfl,hi,sh,ws,p⟩
def Zfo (g:TG) (tt:TT) (te:TE) (D:Addr) (n k:Nat) (cap:St) (Pv:Nat->List V->Hp->Prop) (i:Nat) (x:V) (σ':St) (H:Hp):Prop:=
 g x σ' H fun σ4 H4=>tt σ4 H4 fun b H5=>if b = true then te σ4 H5 fun y H6=>Lf D n k cap Pv i σ4 y H6 else Lf0 n k cap Pv i σ4 H5
section
variable {K:PySem.W.Frag} {a D:Addr} {xs:List V} {g:TG} {tt:TT} {te:TE} {k:Nat} {fr:List (Str × Nat)} {σ:St} {H1:Hp} {Q:VK}
theorem sh0:Sh k (Zcb fr σ) (Zgt k fr σ):=⟨List.replicate k none,List.length_replicate,rfl⟩
theorem Zml {J:It} {n:Nat} (it:Nat->V->Prop) (Pv:Nat->List V->Hp->Prop) (h0:Pv 0 [] (upd H1 D (.lst [])))
  (go:∀ i vs H,i < n->Pv i vs H->J.go i H/\∀ x H',J.yld i H x H'->H' = H/\it i x) (stop:∀ vs H,Pv n vs H->J.stop n H)
  (hs:∀ i x vs σ' H,i < n->it i x->Sh k (Zcb fr σ) σ'->Pv i vs H->Zfo g tt te D n k (Zcb fr σ) Pv i x σ' H) (hd:∀ vs H,Pv n vs H->Q (.ref D) H):Zcl g tt te J D (Zgt k fr σ) H1 Q:=by
 refine ⟨Wv n k (Zcb fr σ) Pv,⟨n,by simp,Nat.zero_le _,sh0,[],h0⟩,?_⟩
 rintro i m σ' H2 ⟨rfl,hi,sh,vs,p⟩
 by_cases hlt:i < n
 ·obtain ⟨g1,g2⟩:=go i vs H2 hlt p
  refine .inr ⟨g1,fun x H3 y=>?_⟩
  obtain ⟨rfl,hx⟩:=g2 x H3 y
  exact hs i x vs σ' _ hlt hx sh p
 ·have e:i = n:=by omega
  subst e
  exact .inl ⟨stop vs H2 p,hd vs H2 p⟩
theorem Zi9 (Pv:Nat->List V->Hp->Prop) (h0:Pv 0 [] (upd H1 D (.lst []))) (hl:∀ i vs H,i<=xs.length->Pv i vs H->SqL K H a xs)
  (hs:∀ i x vs σ' H,i < xs.length->xs[i]? = some x->Sh k (Zcb fr σ) σ'->Pv i vs H->Zfo g tt te D xs.length k (Zcb fr σ) Pv i x σ' H) (hd:∀ vs H,Pv xs.length vs H->Q (.ref D) H):Zcl g tt te (Itl K a) D (Zgt k fr σ) H1 Q:=
 Zml (fun i x=>xs[i]? = some x) Pv h0 (fun i vs H hi p=>⟨⟨xs,xs[i],hl i vs H (Nat.le_of_lt hi) p,by simp [hi]⟩,fun x H' y=>⟨y.1,y.2 xs (hl i vs H (Nat.le_of_lt hi) p)⟩⟩)
  (fun vs H p=>⟨xs,hl _ vs H (Nat.le_refl _) p,Nat.le_refl _⟩) hs hd
theorem Zgs {lo:Int} {n:Nat} (Pv:Nat->List V->Hp->Prop) (h0:Pv 0 [] (upd H1 D (.lst [])))
  (hs:∀ i x vs σ' H,i < n->x = .int (lo + i)->Sh k (Zcb fr σ) σ'->Pv i vs H->Zfo g tt te D n k (Zcb fr σ) Pv i x σ' H) (hd:∀ vs H,Pv n vs H->Q (.ref D) H):Zcl g tt te (Itr lo n) D (Zgt k fr σ) H1 Q:=
 Zml (fun i x=>x = .int (lo + i)) Pv h0 (fun i vs H hi p=>⟨hi,fun x H' y=>y⟩) (fun vs H p=>Nat.le_refl _) hs hd
end
def Ext (l:Addr) (H H':Hp):Prop:=∀ b o,b ≠ l->H b = some o->H' b = some o
theorem Ext.refl (l:Addr) (H:Hp):Ext l H H:=fun _ _ _ e=>e
theorem Ext.trans {l:Addr} {H H1 H2:Hp} (a:Ext l H H1) (b:Ext l H1 H2):Ext l H H2:=fun c o n e=>b c o n (a c o n e)
theorem Ext.new {l p:Addr} {H:Hp} {o:HO} (h:H p = none):Ext l H (upd H p o):=fun c u _ e=>by rw [Zap (Zan e h)]; exact e
theorem Ext.set {l:Addr} {H:Hp} {o:HO}:Ext l H (upd H l o):=fun c u n e=>by rw [Zap n]; exact e
theorem Same.ext {l:Addr} {H H':Hp} (s:Same H H'):Ext l H H':=fun c o _ e=>s c o e
theorem Same.new {p:Addr} {H:Hp} {o:HO} (h:H p = none):Same H (upd H p o):=fun c u e=>by rw [Zap (Zan e h)]; exact e
theorem Same.upd {p:Addr} {H H':Hp} {o:HO} (s:Same H H') (h:H p = none):Same H (upd H' p o):=fun c u e=>by rw [Zap (Zan e h)]; exact s c u e
theorem Ext.upd {l p:Addr} {H H':Hp} {o:HO} (s:Ext l H H') (h:H p = none):Ext l H (upd H' p o):=fun c u n e=>by rw [Zap (Zan e h)]; exact s c u n e
theorem Ext.free {l p:Addr} {H H':Hp} (s:Ext l H H') (n:p ≠ l) (h:H' p = none):H p = none:=by
 cases e:H p with
 | none=>rfl
 | some o=>rw [s p o n e] at h; cases h
theorem cx_K {CX:CXT} {P:Program} {w:World} {K:PySem.W.Frag} {mg:Str->Option Value} {base:Heap} {N:List Str} {qual:Str} {scope:Scope} {f:Addr} {cd:Value} {A:Around} {outer:List Env} {s:Shared} {H:Hp} {E:XK}:(Zrs CX P w K mg base N qual scope f cd A outer s H E).K = K:=rfl
theorem in_K {X:Cx} {N:List Str} {scope:Scope} {cl:List (Str × Addr)} {s:Shared} {H:Hp} {fp:List Addr}:(Zi8 X N scope cl s H fp).K = X.K:=rfl
theorem wish_K {X:Cx} {E:Value->Shared->Prop}:(X.wish E).K = X.K:=rfl
theorem Zgp {X:Cx} {x:Str} {i:Int} {pos:Pos} (hg:Gl X x) (hm:∃ t,X.mg x = some (.int i t)) (hd:(x == ("__debug__" : Str)) = false:=by decide):PE X (.Name x pos) (tC (.int i)):=by
 obtain ⟨t,e⟩:=hm
 exact pe_glob hg e ⟨t,rfl⟩ hd
theorem Zbl {α:Type} {xs:List α} {i:Int} {v:α} (h0:0<=i) (h:xs[i.toNat]? = some v):atI xs i = some v:=by
 have e:((i.toNat:Nat):Int) = i:=Int.toNat_of_nonneg h0
 rw [<- e]
 exact atI_nat h
def Zb3:Expr->Bool
 | .Starred _ _=>true
 | _=>false
theorem Za6 {e:Expr} {es:List Expr} {env:Env} (h:Zb3 e = false):starEach (e :: es) env = (false,eval e env) :: starEach es env:=by
 cases e <;> first | rfl | cases h
theorem Zez {pos:Pos} {env:Env}:∀ {es:List Expr},es.all (fun x=>!Zb3 x) = true->(backTo pos (starEach es env)).any (·.1) = false
 | [],_=>rfl
 | e :: es,h=>by
  rw [List.all_cons,Bool.and_eq_true] at h
  have h1:Zb3 e = false:=by simpa using h.1
  rw [Za6 h1]
  show ((false,_).1 || (backTo pos (starEach es env)).any (·.1)) = false
  rw [Zez h.2]
  rfl
section
variable {X:Cx} {x:Str} {p pos:Pos} {e:Expr} {es:List Expr} {te:TE} {t:TA} {id T:String} {r:List V->Hp->VK->Prop}
theorem Zag (ha:PE X e te) (hr:PA X es t) (h:Zb3 e = false:=by rfl):PA X (e :: es) (tCons te t):=pa_cons ha hr (Za6 h)
theorem Zcj (hc:Zf5 X (.builtin id) r) (hg:Gl X x) (hm:X.mg x = none) (hv:bootBuiltins x = some (.builtin id)) (ha:PA X (e :: es) t) (h:Zb3 e = false:=by rfl) (h2:es.all (fun x=>!Zb3 x) = true:=by rfl)
  (hn:x ≠ "__name__" := by decide) (hdb:(x == ("__debug__" : Str)) = false:=by decide):PE X (.Call (.Name x p) (e :: es) [] pos) (tCB r t):=Zqv hc hg hm hv ha hn hdb (Za6 h) (Zez h2)
theorem Zqw (hc:Zf5 X (.type T) r) (hg:Gl X x) (hm:X.mg x = none) (hv:bootBuiltins x = some (.type T)) (ha:PA X (e :: es) t) (h:Zb3 e = false:=by rfl) (h2:es.all (fun x=>!Zb3 x) = true:=by rfl)
  (hn:x ≠ "__name__" := by decide) (hdb:(x == ("__debug__" : Str)) = false:=by decide):PE X (.Call (.Name x p) (e :: es) [] pos) (tCB r t):=Zn6 hc hg hm hv ha hn hdb (Za6 h) (Zez h2)
theorem Zbb {k:Nat} {sp:Sp} (C:Cal X.prog X.w X.K X.mg X.base x k sp) (hr:Room k X.A) (hg:Gl X x) (ha:PA X (e :: es) t) (h:Zb3 e = false:=by rfl) (h2:es.all (fun x=>!Zb3 x) = true:=by rfl)
  (hdb:(x == ("__debug__" : Str)) = false:=by decide):PE X (.Call (.Name x p) (e :: es) [] pos) (Zqf sp [] E0 t):=pe_cal C hr hg ha hdb (Za6 h) (Zez h2)
theorem pe_n {C:Addr} {k:Nat} {sp:Sp} (M:CalI X.prog X.w X.K X.mg X.base x C k sp) (hr:Room (k + 1) X.A) (hg:Gl X x) (ha:PA X (e :: es) t) (h:Zb3 e = false:=by rfl) (h2:es.all (fun x=>!Zb3 x) = true:=by rfl)
  (hdb:(x == ("__debug__" : Str)) = false:=by decide):PE X (.Call (.Name x p) (e :: es) [] pos) (Zqe C sp [] E0 t):=pe_new M hr hg ha hdb (Za6 h) (Zez h2)
theorem Zgj {tg a:Expr} {ta:TA} (hg:Gl X "range") (hm:X.mg "range" = none) (ha:PA X [a] ta) (h:Zb3 a = false:=by rfl):PI X tg (.Call (.Name "range" p) [a] [] pos) (iRng1 ta):=Zn3 hg hm ha (Za6 h)
theorem pi_r2 {tg a b:Expr} {ta:TA} (hg:Gl X "range") (hm:X.mg "range" = none) (ha:PA X [a,b] ta) (h:Zb3 a = false:=by rfl) (h2:Zb3 b = false:=by rfl):PI X tg (.Call (.Name "range" p) [a,b] [] pos) (iRng2 ta):=
 Zn2 hg hm ha (by rw [Za6 h,Za6 h2]; rfl) (Za6 h2)
end
theorem scal_ii {i j:Int}:scal (.int i) (.int j) = true:=rfl
theorem scal_bb {i j:Bool}:scal (.bl i) (.bl j) = true:=rfl
theorem scal_ss {i j:Str}:scal (.str i) (.str j) = true:=rfl
theorem Zjz {X:Cx} {x:Str} {n:String} {pos:Pos} (hg:Gl X x) (hm:X.mg x = none) (hv:bootBuiltins x = some (.type n)) (hn:x ≠ "__name__" := by decide) (hd:(x == ("__debug__" : Str)) = false:=by decide):PE X (.Name x pos) (tC (.ty n)):=pe_bltn (v:=.ty n) hg hm hv rfl hn hd
section
variable {X:Cx} (K:PySem.W.Frag) (hK:X.K = K)
include hK
theorem Zfi {pos:Pos} {es:List Expr} {k:Nat} {t:TGs} {n:Nat} (hc:X.calm = true) (h:PGs X es t) (hn:(assignEach es X.env).length = n) (hst:(assignEach es X.env).findIdx? (·.1) = none):PG X (.Tuple es k pos) (gTup K n t):=by subst hK; exact Zch hc h hn hst
theorem Zjd:Zf5 X (.builtin "len") (fun xs H Q=>∃ p ys,xs = [.ref p]/\(SqL K H p ys\/SqT K H p ys)/\Q (.int ys.length) H):=by subst hK; exact Zbi
theorem Zjc:Zf5 X (.type "list") (fun xs H Q=>∃ p ys,xs = [.ref p]/\(SqL K H p ys\/SqT K H p ys)/\∀ l,H l = none->Q (.ref l) (upd H l (.lst ys))):=by subst hK; exact Zgg
theorem Zc1:IxR X (rIxL K):=by subst hK; exact Za0
theorem Zli:IxR X (rIxT K):=by subst hK; exact Zaw
theorem pe_fldK {e:Expr} {f:Str} {pos:Pos} {ta:TE} (he:PE X e ta) (hb:attributeBase e f X.env (eval e X.env) = eval e X.env):PE X (.Attribute e f pos) (tFld K ta f):=by subst hK; exact Zhf he hb
theorem Zix {tg l:Expr} {tl:TE} (hl:PE X l tl):PI X tg l (iList K tl):=by subst hK; exact Zbt hl
theorem Ziy:OpR X (compareOp .NotIn) (rIn K true):=by subst hK; exact Zj0
end
end L2
set_option maxHeartbeats 1000000
namespace HT
open PySem PySem.Spec PyProof.Rows
section
variable {prog:Program} {w:World} {A:Around} {E:Value->Shared->Prop} {s:Shared}
end
end HT
namespace L2
open PySem PySem.Spec PyProof.Rows
section
variable {X:Cx} {e es:Expr} {te ts:TE} {pos p2:Pos}
end
end L2
namespace L2
open PySem PySem.Spec PyProof.Rows
section
variable {X:Cx}
def rGetL (K:PySem.W.Frag):V->V->Hp->VK->Prop:=fun x y H Q=>∃ p xs i v,x = .ref p/\y = .int i/\0<=i/\SqL K H p xs/\xs[i.toNat]? = some v/\Q v H
end
def Big (x:Int):Prop:=-(100000000000000000000000000000000) < x/\x < 100000000000000000000000000000000
theorem Big.mul {x y:Int} (hx:Big x) (hy:Big y):IntMulOk x y:=by
 have e:(2:Nat) ^ 200 > 100000000000000000000000000000000:=by decide +kernel
 have b:∀ {z:Int},Big z->Builtin.Int.intBits z<=2 ^ 20:=fun {z} h=>by
  have hz:z.natAbs < 2 ^ 200:=by have:=h.1; have:=h.2; omega
  unfold Builtin.Int.intBits
  split
  ·exact Nat.zero_le _
  ·rename_i h0
   have:z.natAbs.log2 < 200:=(Nat.log2_lt (by intro c; apply h0; simpa using c)).mpr hz
   have e2:(2:Nat) ^ 20 = 1048576:=by decide
   rw [e2]
   omega
 exact .of_bits (b hx) (b hy)
def atZ (ns:List Int) (i:Int):Int:=ns.getD i.toNat 0
theorem atZ_get {ns:List Int} {i:Int} (h:i.toNat < ns.length):(ns.map V.int)[i.toNat]? = some (.int (atZ ns i)):=by
 rw [List.getElem?_map,List.getElem?_eq_getElem h]
 simp [atZ,h]
theorem atZ_mem {ns:List Int} {i:Int} (h:i.toNat < ns.length):atZ ns i ∈ ns:=by
 unfold atZ
 rw [List.getD_eq_getElem?_getD,List.getElem?_eq_getElem h]
 exact List.getElem_mem h
end L2
namespace L2
open PySem PySem.Spec PyProof.Rows
section
variable {X:Cx} {pins:List (Addr × Obj)} {σ:St} {H:Hp} {s:Shared} {h':Heap}
theorem Inv.turnedL {t':Nat} {fp:List Addr} (I:Inv X pins σ H s) (hf:∀ b ∈ fp,FpOk X pins H b) (k:∀ b o,b ∉ fp->s.heap.get? b = some o->h'.get? b = some o):Inv X pins σ H { s with heap:=h',toks:=t' }:=by
 have nit:∀ b u,H b = some u->b ∉ fp:=fun b u e z=>by rw [(hf b z).1] at e; cases e
 refine I.step (g':=s.gens) (d':=s.drawn) (ch:=fp) (fun b hb=>?_) (fun b o _ _ hc e _=>k b o hc e) (fun b o _ _ hc e _=>⟨o.slots,k b o hc e⟩) (fun _ _ _ _ n=>n)
  (fun b o hc e=>⟨o,k b o hc e⟩) (fun _ _ e=>e) (fun _ _ _ e=>e) (fun b ps e=>⟨#[],by rw [e]; simp⟩) (fun m hm=>?_) (fun b u e=>?_) I.bare
 ·obtain ⟨f0,f1,f2,f3,f4,f5⟩:=hf b hb
  exact ⟨f3,f1,f4,f5⟩
 ·obtain ⟨o,es,ep,ho,r⟩:=hm
  exact ⟨o,es,ep,k _ o (fun z=>(hf _ z).2.1 rfl) ho,r⟩
 ·refine (I.hok b u e).stay (fun c v hc q=>k c v ?_ q) (fun _ q=>q) (fun _ _ q=>q) fun _ _ _ q=>q
  rcases hc with z | z
  ·rw [z]; exact nit b u e
  ·exact nit c _ z
theorem Inv.turnedT {t':Nat} {fp:List Addr} {p:Addr} {o:HO} (I:Inv X pins σ H s) (hf:∀ b ∈ fp,FpOk X pins H b) (k:∀ b o,b ∉ fp->s.heap.get? b = some o->h'.get? b = some o) (hp:s.heap.objs.size<=p)
  (new:ObjOk X.prog X.w (upd H p o) h' p o):Inv X pins σ (upd H p o) { s with heap:=h',toks:=t' }:=by
 have hn:H p = none:=I.hok.fresh hp
 have nit:∀ b u,H b = some u->b ∉ fp:=fun b u e z=>by rw [(hf b z).1] at e; cases e
 have npp:∀ b u,s.heap.get? b = some u->b ≠ p:=fun b u e=>Nat.ne_of_lt (Nat.lt_of_lt_of_le (Heap.lt_size e) hp)
 refine I.step (g':=s.gens) (d':=s.drawn) (ch:=fp) (fun b hb=>?_) (fun b o _ _ hc e _=>k b o hc e) (fun b o _ _ hc e _=>⟨o.slots,k b o hc e⟩) (fun b o _ e n=>by rw [Zap (npp b o e)]; exact n)
  (fun b o hc e=>⟨o,k b o hc e⟩) (fun b xs e=>by rw [Zap (Zan e hn)]; exact e) (fun b u xs e=>by rw [Zap (Zan e hn)]; exact e) (fun b ps e=>⟨#[],by rw [Zap (Zan e hn),e]; simp⟩) (fun m hm=>?_) (fun b u e=>?_) I.bare
 ·obtain ⟨f0,f1,f2,f3,f4,f5⟩:=hf b hb
  exact ⟨f3,f1,f4,f5⟩
 ·obtain ⟨o,es,ep,ho,r⟩:=hm
  exact ⟨o,es,ep,k _ o (fun z=>(hf _ z).2.1 rfl) ho,r⟩
 ·by_cases hb:b = p
  ·subst hb; rw [Zad] at e; cases e; exact new
  ·rw [Zap hb] at e
   refine (I.hok b u e).stay (fun c v hc q=>k c v ?_ q) (fun c q=>by rw [Zap (Zan q hn)]; exact q) (fun c xs q=>by rw [Zap (Zan q hn)]; exact q) fun c _ _ q=>by rw [Zap (Zan q hn)]; exact q
   rcases hc with z | z
   ·rw [z]; exact nit b u e
   ·exact nit c _ z
end
def Itz (K:PySem.W.Frag) (a b:Addr):It:=
 ⟨fun i H=>∃ xs ys x y,SqL K H a xs/\SqL K H b ys/\xs[i]? = some x/\ys[i]? = some y,fun i H v H'=>∃ x y p,v = .ref p/\H p = none/\H' = upd H p (.tup [x,y])/\(∀ xs,SqL K H a xs->xs[i]? = some x)/\∀ ys,SqL K H b ys->ys[i]? = some y,fun i H=>∃ xs ys,SqL K H a xs/\SqL K H b ys/\(xs.length<=i\/ys.length<=i)⟩
theorem Zp9 {P:Program} {w:World} {K:PySem.W.Frag} {elts:List Expr} {x1:Nat} {pos:Pos} {z TI TO i1 i2 a b:Addr} (D:ZipApart z TI TO i1 i2 a b):
  Turn P w K (.Tuple elts x1 pos) (Itz K a b) [z,TI,TO,i1,i2] z (fun i h=>IsZip h z TI TO .none/\IsPair h TI (.ref i1) (.ref i2)/\(∃ u v,IsPair h TO u v)/\h.IsListIter i1 a i/\h.IsListIter i2 b i) where
 mem:=by simp
 obj:=fun i h st c hc=>by
  obtain ⟨hz,hTI,⟨u,v,hTO⟩,⟨o1,e1,c1,d1⟩,⟨o2,e2,c2,d2⟩⟩:=st
  simp at hc
  rcases hc with rfl | rfl | rfl | rfl | rfl
  ·exact ⟨_,hz,fun v z=>by have z':Data.fields _ = Data.cell v:=z; cases z'⟩
  ·exact ⟨_,hTI,fun v z=>by have z':Data.seq _ _ = Data.cell v:=z; cases z'⟩
  ·exact ⟨_,hTO,fun v z=>by have z':Data.seq _ _ = Data.cell v:=z; cases z'⟩
  ·exact ⟨o1,e1,fun v z=>by rw [d1] at z; cases z⟩
  ·exact ⟨o2,e2,fun v z=>by rw [d2] at z; cases z⟩
 keep:=fun i h h' st k=>by
  obtain ⟨hz,hTI,⟨u,v,hTO⟩,h1,h2⟩:=st
  exact ⟨k z (by simp) _ hz,k TI (by simp) _ hTI,⟨u,v,k TO (by simp) _ hTO⟩,h1.at fun o e=>k i1 (by simp) o e,h2.at fun o e=>k i2 (by simp) o e⟩
 item:=by
  intro X hP hw hK hc i pins s σ H E I hf st hg
  subst hP hw hK
  obtain ⟨xs,ys,x,y,hqa,hqb,hx,hy⟩:=hg
  obtain ⟨its,rv,p,hz1⟩:=I.list hqa
  obtain ⟨its2,rv2,p2,hz2⟩:=I.list hqb
  obtain ⟨u,hu,ru⟩:=rv.get hx
  obtain ⟨u2,hu2,ru2⟩:=rv2.get hy
  obtain ⟨hz,hTI,⟨c,d,hTO⟩,h1,h2⟩:=st
  refine wpAny_pyNext_zip_item D hz hTI hTO h1 h2 p.isList p2.isList (by simpa using hu) (by simpa using hu2) fun h' a1 a2 a3 a4 a5 a6 a7=>?_
  refine ⟨_,rfl,wpAny_letOwnedTupleGo_zip a1 fun h'' b1 b2=>?_⟩
  have nz:s.heap.objs.size ≠ z:=Nat.ne_of_gt (Heap.lt_size hz)
  have k2:∀ c o,c ∉ [z,TI,TO,i1,i2]->s.heap.get? c = some o->h''.get? c = some o:=fun c o hc e=>by
   simp at hc
   exact b2.extBut _ _ hc.1 (a7 c o hc.1 hc.2.2.1 hc.2.2.2.1 hc.2.2.2.2 e)
  have I2:Inv X pins σ (upd H s.heap.objs.size (.tup [x,y])) { s with heap:=h'' }:=I.turnedT (t':=s.toks) hf k2 (Nat.le_refl _)
   ⟨by show 2<=sizeLine; decide,[u,u2],.cons ru (.cons ru2 .nil),_,b2.extBut _ _ nz a5,rfl,_,rfl⟩
  refine ⟨.ref s.heap.objs.size,_,I2,rfl,⟨x,y,_,rfl,I.hok.fresh (Nat.le_refl _),rfl,fun xs' hq=>by rw [I.list_inj hq hqa]; exact hx,fun ys' hq=>by rw [I.list_inj hq hqb]; exact hy⟩,
   ⟨b1,b2.extBut _ _ D.TIz (a7 _ _ D.TIz D.TITO D.TIi1 D.TIi2 hTI),⟨_,_,b2.extBut _ _ D.TOz a2⟩,a3.extBut b2.extBut D.i1z,a4.extBut b2.extBut D.i2z⟩,fun c hc=>?_⟩
  have hlt:∀ c ∈ [z,TI,TO,i1,i2],c < s.heap.objs.size:=fun c hc=>by
   simp at hc
   obtain ⟨o1,e1,_⟩:=h1
   obtain ⟨o2,e2,_⟩:=h2
   rcases hc with rfl | rfl | rfl | rfl | rfl
   ·exact Heap.lt_size hz
   ·exact Heap.lt_size hTI
   ·exact Heap.lt_size hTO
   ·exact Heap.lt_size e1
   ·exact Heap.lt_size e2
  rw [Zap (Nat.ne_of_lt (hlt c hc))]
  exact (hf c hc).1
 done:=by
  intro X hP hw hK hc i pins s σ H E I hf st hg
  subst hP hw hK
  obtain ⟨xs,ys,hqa,hqb,hx⟩:=hg
  obtain ⟨its,rv,p,hz1⟩:=I.list hqa
  obtain ⟨its2,rv2,p2,hz2⟩:=I.list hqb
  obtain ⟨hz,hTI,⟨c,d,hTO⟩,h1,h2⟩:=st
  have l1:=rv.length
  have l2:=rv2.length
  refine wpAny_pyNext_zip_end (I.ok.hd hc) D hz hTI hTO h1 h2 p.isList p2.isList ?_ fun h' kk=>⟨rfl,I.turnedL (t':=s.toks) hf fun c o hc e=>?_⟩
  ·rcases hx with hx | hx
   ·exact .inl (by simp; omega)
   ·exact .inr (by simp; omega)
  ·simp at hc
   exact kk c o hc.1 hc.2.2.1 hc.2.2.2.1 hc.2.2.2.2 e
 self:=fun _ _ _ _ _ st h=>wpAny_pyIter_zip st.1 h
section
variable {X:Cx}
def iZip (K:PySem.W.Frag) (ta:TA):TI:=fun σ H R=>ta σ H fun vs H1=>∃ a b,vs = [.ref a,.ref b]/\(∃ xs,SqL K H1 a xs)/\(∃ ys,SqL K H1 b ys)/\R (Itz K a b) H1
theorem Zhe {elts:List Expr} {x1:Nat} {pt p pos:Pos} {a b:Expr} {ta:TA} (hg:Gl X "zip") (hm:X.mg "zip" = none) (ha:PA X [a,b] ta) (h:Zb3 a = false:=by rfl) (h2:Zb3 b = false:=by rfl):
  PI X (.Tuple elts x1 pt) (.Call (.Name "zip" p) [a,b] [] pos) (iZip X.K ta):=by
 intro pins s σ H R I hh
 refine Call_ (Zew I hg hm boot_zip (PyProof.Rows.callWith_type1 (thn (ha pos pins s σ H _ I hh) fun us s1 ⟨vs,H1,I1,r1,q1⟩=>?_) (by rw [Za6 h,Za6 h2]) (by rw [Za6 h2]; rfl)))
 obtain ⟨c,d,e,⟨xs,hq1⟩,⟨ys,hq2⟩,q⟩:=q1
 subst e
 cases r1 with
 | cons r rr=>
  cases rr with
  | cons r' rr=>
   cases rr
   cases r
   cases r'
   obtain ⟨its,rv,p1,hz1⟩:=I1.list hq1
   obtain ⟨its2,rv2,p2,hz2⟩:=I1.list hq2
   have lt1:c < s1.heap.objs.size:=by obtain ⟨o,ho,_⟩:=p1.isList; exact Heap.lt_size ho
   have lt2:d < s1.heap.objs.size:=by obtain ⟨o,ho,_⟩:=p2.isList; exact Heap.lt_size ho
   refine call_zip_2 p1.isList p2.isList fun h' a1 a2 a3 a4 a5 a6 a7=>wpAny_pyIter_zip (s:={ s1 with heap:=h' }) a1 ?_
   refine ⟨_,_,_,_,H1,rfl,I1.kept (t':=s1.toks) a7,Zp9 (zipApart_new lt1 lt2),⟨a1,a2,⟨_,_,a3⟩,a4,a5⟩,fun b hb=>?_,q⟩
   have hb':s1.heap.objs.size<=b:=by
    simp at hb
    rcases hb with rfl | rfl | rfl | rfl | rfl
    ·exact Nat.le_add_right _ _
    ·exact Nat.le_add_right _ _
    ·exact Nat.le_add_right _ _
    ·exact Nat.le_refl _
    ·exact Nat.le_add_right _ _
   have:=(I1.fpOk (H':=H1) hb' (I1.hok.fresh hb'))
   exact this
end
section
variable {K:PySem.W.Frag} {a b D:Addr} {xs ys:List V} {g:TG} {tt:TT} {te:TE} {k:Nat} {fr:List (Str × Nat)} {σ:St} {H1:Hp} {Q:VK}
theorem Zmk (Pv:Nat->List V->Hp->Prop) (hlen:ys.length = xs.length) (h0:Pv 0 [] (upd H1 D (.lst []))) (hl:∀ i vs H,i<=xs.length->Pv i vs H->SqL K H a xs/\SqL K H b ys)
  (hs:∀ i x y p vs σ' H,i < xs.length->xs[i]? = some x->ys[i]? = some y->H p = none->Sh k (Zcb fr σ) σ'->Pv i vs H->Zfo g tt te D xs.length k (Zcb fr σ) Pv i (.ref p) σ' (upd H p (.tup [x,y]))) (hd:∀ vs H,Pv xs.length vs H->Q (.ref D) H):
  Zcl g tt te (Itz K a b) D (Zgt k fr σ) H1 Q:=by
 refine ⟨Wv xs.length k (Zcb fr σ) Pv,⟨xs.length,by simp,Nat.zero_le _,sh0,[],h0⟩,?_⟩
 rintro i m σ' H2 ⟨rfl,hi,sh,vs,p⟩
 obtain ⟨q1,q2⟩:=hl i vs H2 hi p
 by_cases hlt:i < xs.length
 ·refine .inr ⟨⟨xs,ys,xs[i],ys[i]'(by omega),q1,q2,by simp [hlt],by simp [hlen,hlt]⟩,fun x H3 y=>?_⟩
  obtain ⟨u,v,pp,rfl,hp,rfl,e1,e2⟩:=y
  exact hs i u v pp vs σ' _ hlt (e1 _ q1) (e2 _ q2) hp sh p
 ·have e:i = xs.length:=by omega
  subst e
  exact .inl ⟨⟨xs,ys,q1,q2,.inl (Nat.le_refl _)⟩,hd vs H2 p⟩
end
end L2
namespace L2
open PySem PySem.Spec PyProof.Rows
def nrm (a b:Int):Int × Int:=(a / (Int.gcd a b:Int),b / (Int.gcd a b:Int))
def Low (x:Int × Int):Prop:=0 < x.2/\Int.gcd x.1 x.2 = 1
theorem emulR (a b p:Int):a * (b % p) % p = a * b % p:=by rw [Int.mul_emod,Int.emod_emod,<- Int.mul_emod]
theorem Zdd {a b:Int} (hb:0 < b):0 < (Int.gcd a b:Int):=by
 have:0 < Int.gcd a b:=Int.gcd_pos_of_ne_zero_right a (by omega)
 omega
theorem Zol {a b:Int}:(nrm a b).1 * (Int.gcd a b:Int) = a:=Int.ediv_mul_cancel (Int.gcd_dvd_left ..)
theorem Zlb {a b:Int}:(nrm a b).2 * (Int.gcd a b:Int) = b:=Int.ediv_mul_cancel (Int.gcd_dvd_right ..)
theorem nrm_pos {a b:Int} (hb:0 < b):0 < (nrm a b).2:=by
 have h2:=@Zlb a b
 have g0:=Zdd (a:=a) hb
 rcases Int.lt_trichotomy 0 (nrm a b).2 with h | h | h
 ·exact h
 ·rw [<- h,Int.zero_mul] at h2; omega
 ·have:=Int.mul_neg_of_neg_of_pos h g0
  omega
theorem Zok {a b:Int} (hb:0 < b):Low (nrm a b):=by
 refine ⟨nrm_pos hb,?_⟩
 have h:=Int.gcd_mul_right (nrm a b).1 (Int.gcd a b:Int) (nrm a b).2
 rw [Zol,Zlb] at h
 have g0:=Zdd (a:=a) hb
 have:Int.gcd a b = Int.gcd (nrm a b).1 (nrm a b).2 * Int.gcd a b:=by simpa using h
 have g1:0 < Int.gcd a b:=by omega
 exact (Nat.eq_of_mul_eq_mul_right g1 (by omega)).symm
theorem Zm2 {x y:Int × Int} (hx:Low x) (hy:Low y) (h:x.1 * y.2 = y.1 * x.2):x = y:=by
 obtain ⟨x0,gx⟩:=hx
 obtain ⟨y0,gy⟩:=hy
 have d1:x.2.natAbs ∣ y.2.natAbs:=by
  have c:Nat.Coprime x.2.natAbs x.1.natAbs:=by rw [Nat.coprime_comm]; exact gx
  refine c.dvd_of_dvd_mul_left ?_
  rw [<- Int.natAbs_mul,h,Int.natAbs_mul]
  exact Nat.dvd_mul_left ..
 have d2:y.2.natAbs ∣ x.2.natAbs:=by
  have c:Nat.Coprime y.2.natAbs y.1.natAbs:=by rw [Nat.coprime_comm]; exact gy
  refine c.dvd_of_dvd_mul_left ?_
  rw [<- Int.natAbs_mul,<- h,Int.natAbs_mul]
  exact Nat.dvd_mul_left ..
 have e:=Nat.dvd_antisymm d1 d2
 have e2:x.2 = y.2:=by omega
 have e1:x.1 = y.1:=by
  rw [e2] at h
  exact Int.eq_of_mul_eq_mul_right (by omega) h
 exact Prod.ext e1 e2
theorem Zc0 (a:Int) {g:Int} (hg:0 < g) (hd:g ∣ a):(a / g).natAbs<=a.natAbs:=by
 obtain ⟨k,rfl⟩:=hd
 rw [Int.mul_ediv_cancel_left _ (by omega),Int.natAbs_mul]
 exact Nat.le_mul_of_pos_left _ (by omega)
def Bd (B:Nat) (x:Int × Int):Prop:=x.1.natAbs<=B/\x.2.natAbs<=B
theorem Zom {a b:Int} {B:Nat} (hb:0 < b) (h1:a.natAbs<=B) (h2:b.natAbs<=B):Bd B (nrm a b):=
 ⟨Nat.le_trans (Zc0 a (Zdd hb) (Int.gcd_dvd_left ..)) h1,Nat.le_trans (Zc0 b (Zdd hb) (Int.gcd_dvd_right ..)) h2⟩
def Isn (p:Int) (x:Int × Int):Prop:=(p = 0/\Low x)\/(0 < p/\0<=x.1/\x.1 < p/\x.2 = 1)
def Zcx (p:Int) (x y:Int × Int):Int × Int:=if p = 0 then nrm (x.1 * y.2 + y.1 * x.2) (x.2 * y.2) else ((x.1 + y.1) % p,1)
def Za8 (p:Int) (x y:Int × Int):Int × Int:=if p = 0 then nrm (x.1 * y.1) (x.2 * y.2) else (x.1 * y.1 % p,1)
def Zfn (p k:Int):Int × Int:=if p = 0 then (k,1) else (k % p,1)
theorem Isn.pos {p:Int} {x:Int × Int} (h:Isn p x):0 < x.2:=by
 rcases h with ⟨_,h⟩ | ⟨_,_,_,h⟩
 ·exact h.1
 ·omega
theorem Zlk {p a b:Int} (hp:p = 0) (hb:0 < b):Isn p (nrm a b):=.inl ⟨hp,Zok hb⟩
theorem Zll {p a:Int} (hp:0 < p):Isn p (a % p,1):=.inr ⟨hp,Int.emod_nonneg _ (by omega),Int.emod_lt_of_pos _ hp,rfl⟩
theorem Ze4 {p:Int} {x y:Int × Int} (h0:0<=p) (hx:Isn p x) (hy:Isn p y):Isn p (Zcx p x y):=by
 unfold Zcx
 split
 ·rename_i h; exact Zlk h (Int.mul_pos hx.pos hy.pos)
 ·exact Zll (by omega)
theorem Zbq {p:Int} {x y:Int × Int} (h0:0<=p) (hx:Isn p x) (hy:Isn p y):Isn p (Za8 p x y):=by
 unfold Za8
 split
 ·rename_i h; exact Zlk h (Int.mul_pos hx.pos hy.pos)
 ·exact Zll (by omega)
theorem Zda {p k:Int} (h0:0<=p):Isn p (Zfn p k):=by
 unfold Zfn
 split
 ·rename_i h; exact .inl ⟨h,⟨by show (0:Int) < 1; decide,by simp⟩⟩
 ·exact Zll (by omega)
theorem Zmh (a b:Int):Int.gcd b (a % b) = Int.gcd a b:=by
 rw [Int.emod_def,Int.sub_eq_add_neg,<- Int.mul_neg,Int.gcd_add_mul_left_right,Int.gcd_comm]
theorem Bd.big {B:Nat} {x:Int × Int} (h:Bd B x) (hB:B < 100000000000000000000000000000000):Big x.1/\Big x.2:=by
 obtain ⟨h1,h2⟩:=h
 exact ⟨⟨by omega,by omega⟩,⟨by omega,by omega⟩⟩
structure FunD (K:PySem.W.Frag) (x qual:Str) (st:Stmt) (f:Addr) (fd:FuncData) (T:Addr):Prop where
 ex:∃ (oc:Value) (od:Option Addr) (kV doc pm:Value) (an:Option Addr) (cdv ct:Value) (osl:Array (Option Value)),
  fd = PySem.W.fnOf x qual (Zao st) (Zam st) (Zae st) (.ref T) kV doc pm an cdv ct/\K.lookup f = some ⟨oc,od,.func fd,osl⟩/\PySem.W.codeIn K cdv qual = true
section
variable {P:Program} {w:World} {K:PySem.W.Frag} {mg:Str->Option Value} {base:Heap}
theorem FunD.ok {x qual:Str} {st:Stmt} {f T:Addr} {fd:FuncData} {N ps:List Str} {k:Nat} {sp:Sp} (F:FunD K x qual st f fd T) (S:FnScope N ps (Zae st)) (len:∀ vs H Q E,sp vs H Q E->vs.length = ps.length)
  (hbody:∀ (cdv:Value) (A:Around) (outer:List Env) (s:Shared) (H:Hp) (vs:List V) (Q:VK) (E:XK),Room k (A.deeper (envOfC qual (Zae st) s.heap.objs.size f cdv))->sp vs H Q E->
   ∃ t,PSs (Zrs CX0 P w K mg base N qual (Zae st) f cdv A outer s H E).nox (Zam st) t/\t { nx:=fun _ H'=>Q .non H',rt:=Q } (start N vs) H):FnOk P w K mg base CX0 (k + 1) f fd ps sp:=by
 obtain ⟨oc,od,kV,doc,pm,an,cdv,ct,osl,rfl,lk,hcd⟩:=F.ex
 refine fn_of lk hcd S len fun A outer s H vs Q E hr hsp=>?_
 obtain ⟨t,h,q⟩:=hbody cdv A outer s H vs Q E hr hsp
 exact ⟨t,h.nox,q⟩
end
structure CalD (P:Program) (w:World) (K:PySem.W.Frag) (mg:Str->Option Value) (base:Heap) (C:Addr) (m:Str) (k:Nat) (sp:Sp) (dvs:List V):Prop where
 ex:∃ (f:Addr) (fd:FuncData) (ps:List Str) (ds:List Value),FnOk P w K mg base CX0 k f fd ps sp/\Meth K C m f/\Binds K fd ps ds/\Vals dvs ds
theorem Zk9 {X:Cx} {m:Str} {C:Addr} {k:Nat} {sp:Sp} {dvs:List V} {o e:Expr} {es:List Expr} {ta:TE} {t:TA} {apos pos:Pos} {pl:Sem Bool} (c:Cls X.K C) (M:CalD X.prog X.w X.K X.mg X.base C m k sp dvs) (hr:Room k X.A) (ho:PE X o ta) (ha:PA X (e :: es) t)
  (h:Zb3 e = false:=by rfl) (h2:es.all (fun x=>!Zb3 x) = true:=by rfl)
  (ht:eval (.Call (.Attribute o m apos) (e :: es) [] pos) X.env = (do
   let ov <- eval o X.env
   standAt apos.atName
   let (f,first) <- holding [ov] (getMethod ov m pl)
   callWith pos f first (backTo pos (starEach (e :: es) X.env)) (backToKw pos (keywordEach [] X.env))):=by rfl):
  PE X (.Call (.Attribute o m apos) (e :: es) [] pos) (tMeth C m sp dvs E0 ta t):=by
 obtain ⟨f,fd,ps,ds,F,hm,hb,hd⟩:=M.ex
 exact pe_meth ho c hm F hr hb hd pass0 ha (Za6 h) (Zez h2) ht
theorem Zf0 {K:PySem.W.Frag} {fd:FuncData} {ps:List Str} {T:Addr} {oc:Value} {od:Option Addr} {osl:Array (Option Value)} {items:Array Value} {n:Nat} {ds:List Value} (lk:K.lookup T = some ⟨oc,od,.seq items n,osl⟩) (hd:fd.defaults = .ref T)
  (h:∀ us:List Value,(us ++ ds).length = ps.length->∃ k,bindArgs fd ⟨us,[]⟩ = seqItems? fd.defaults >>= k/\k (some items) = pure (ps.zip (us ++ ds))):Binds K fd ps ds:=fun s us KX hl=>by
 obtain ⟨k,h1,h2⟩:=h us hl
 exact .of_defaults hd (KX T _ lk) rfl h1 h2
def rEqN (K:PySem.W.Frag):R2:=fun x y H Q=>rEq x y H Q\/Zr9 K false x y H Q
def rNeN (K:PySem.W.Frag):R2:=fun x y H Q=>rNe x y H Q\/Zr9 K true x y H Q
theorem Zsf {X:Cx} (hu:X.A.units + 8 < cLine):OpR X (compareOp .Eq) (rEqN X.K):=Zeh.or (op_eqT hu)
theorem op_neN {X:Cx} (hu:X.A.units + 8 < cLine):OpR X (compareOp .NotEq) (rNeN X.K):=Zfj.or (Zif hu)
theorem pair_eq {K:PySem.W.Frag} {H:Hp} {t u:Addr} {a b:Int} (neg:Bool) {Q:VK} (ht:H t = some (.tup [.int a,.int b])) (hu:H u = some (.tup [.int a,.int b])) (q:Q (.bl !neg) H):Zr9 K neg (.ref t) (.ref u) H Q:=by
 have e:∀ i:Int,eqV (.int i) (.int i) = true:=fun i=>by simp [eqV]
 refine ⟨t,u,_,_,[true,true],rfl,rfl,SqT.of ht,SqT.of hu,⟨rfl,rfl,fun j x y c e1 e2 e3=>?_⟩,?_⟩
 ·match j,e1,e2,e3 with
  | 0,e1,e2,e3=>
   cases e1; cases e2; cases e3
   have:=EqD.flat (K:=K) (H:=H) (n:=6) (x:=.int a) (y:=.int a) rfl rfl
   rw [e] at this
   exact this
  | 1,e1,e2,e3=>
   cases e1; cases e2; cases e3
   have:=EqD.flat (K:=K) (H:=H) (n:=6) (x:=.int b) (y:=.int b) rfl rfl
   rw [e] at this
   exact this
  | j + 2,e1,_,_=>cases e1
 ·cases neg <;> exact q
def rBits:V->List V->Hp->VK->Prop:=fun x vs H Q=>∃ i:Int,x = .int i/\vs = []/\Q (.int ((Builtin.Int.intBits i:Nat):Int)) H
theorem Zlc {X:Cx}:MtM X "int.bit_length" rBits:=by
 intro pins s σ H x vs v us Q I rx rv h
 obtain ⟨i,rfl,rfl,q⟩:=h
 obtain ⟨t,rfl⟩:=rx
 have hus:=rv.zero
 subst hus
 exact call_gives F.slot_int_bit_length (typeIs_int s i t) F.entry_int_bit_length (F.args_int_bit_length_1 _) (AutoIntG2.int_bit_length_int_0 i t) ⟨.int ((Builtin.Int.intBits i:Nat):Int),H,I.tok _,⟨_,rfl⟩,q⟩
theorem bits_le {i:Int} {n:Nat} (h:i.natAbs < 2 ^ n):Builtin.Int.intBits i<=n:=by
 unfold Builtin.Int.intBits
 split
 ·exact Nat.zero_le _
 ·rename_i h0
  have h1:i.natAbs ≠ 0:=by
   intro e
   exact h0 (by simp [Int.natAbs_eq_zero.mp e])
  exact (Nat.log2_lt h1).mpr h
end L2
namespace L2
open PySem PySem.Spec PyProof.Rows
def Ite (K:PySem.W.Frag) (a:Addr):It:=
 ⟨fun i H=>∃ xs x,SqL K H a xs/\xs[i]? = some x,fun i H v H'=>∃ x p,v = .ref p/\H p = none/\H' = upd H p (.tup [.int i,x])/\(∀ xs,SqL K H a xs->xs[i]? = some x),fun i H=>∃ xs,SqL K H a xs/\xs.length<=i⟩
theorem Zqb {P:Program} {w:World} {K:PySem.W.Frag} {elts:List Expr} {x1:Nat} {pos:Pos} {e i1 a:Addr} (hne:e ≠ i1):
  Turn P w K (.Tuple elts x1 pos) (Ite K a) [e,i1] e (fun i h=>(∃ old,IsEnum h e i1 (i:Int) old)/\h.IsListIter i1 a i) where
 mem:=by simp
 obj:=fun i h st c hc=>by
  obtain ⟨⟨old,hz⟩,⟨o1,e1,c1,d1⟩⟩:=st
  simp at hc
  rcases hc with rfl | rfl
  ·exact ⟨_,hz,fun v z=>by have z':Data.fields _ = Data.cell v:=z; cases z'⟩
  ·exact ⟨o1,e1,fun v z=>by rw [d1] at z; cases z⟩
 keep:=fun i h h' st k=>by
  obtain ⟨⟨old,hz⟩,h1⟩:=st
  exact ⟨⟨old,k e (by simp) _ hz⟩,h1.at fun o e=>k i1 (by simp) o e⟩
 item:=by
  intro X hP hw hK hc i pins s σ H E I hf st hg
  subst hP hw hK
  obtain ⟨xs,x,hqa,hx⟩:=hg
  obtain ⟨its,rv,p,hz1⟩:=I.list hqa
  obtain ⟨u,hu,ru⟩:=rv.get hx
  obtain ⟨⟨old,hz⟩,h1⟩:=st
  refine wpAny_pyNext_enum_item hz h1 p.isList (by simpa using hu) hne fun h' a1 a2 a3 a4 a5=>?_
  refine ⟨_,rfl,wpAny_letOwnedTupleGo_enum a1 fun h'' b1 b2=>?_⟩
  have nz:s.heap.objs.size ≠ e:=Nat.ne_of_gt (Heap.lt_size hz)
  have k2:∀ c o,c ∉ [e,i1]->s.heap.get? c = some o->h''.get? c = some o:=fun c o hc q=>by
   simp at hc
   exact b2.extBut _ _ hc.1 (a5 c o hc.1 hc.2 q)
  have I2:Inv X pins σ (upd H s.heap.objs.size (.tup [.int i,x])) { s with heap:=h'',toks:=s.toks + 1 }:=I.turnedT (t':=s.toks + 1) hf k2 (Nat.le_refl _)
   ⟨by show 2<=sizeLine; decide,[.int i s.toks,u],.cons ⟨_,rfl⟩ (.cons ru .nil),_,b2.extBut _ _ nz a3,rfl,_,rfl⟩
  refine ⟨.ref s.heap.objs.size,_,I2,rfl,⟨x,_,rfl,I.hok.fresh (Nat.le_refl _),rfl,fun xs' hq=>by rw [I.list_inj hq hqa]; exact hx⟩,
   ⟨⟨x |> fun _=>u,by simpa using b1⟩,a2.extBut b2.extBut hne.symm⟩,fun c hc=>?_⟩
  have hlt:∀ c ∈ [e,i1],c < s.heap.objs.size:=fun c hc=>by
   simp at hc
   obtain ⟨o1,e1,_⟩:=h1
   rcases hc with rfl | rfl
   ·exact Heap.lt_size hz
   ·exact Heap.lt_size e1
  rw [Zap (Nat.ne_of_lt (hlt c hc))]
  exact (hf c hc).1
 done:=by
  intro X hP hw hK hc i pins s σ H E I hf st hg
  subst hP hw hK
  obtain ⟨xs,hqa,hx⟩:=hg
  obtain ⟨its,rv,p,hz1⟩:=I.list hqa
  obtain ⟨⟨old,hz⟩,h1⟩:=st
  have l1:=rv.length
  refine wpAny_pyNext_enum_end (I.ok.hd hc) hz h1 p.isList (by simp; omega) fun h' kk=>⟨rfl,I.turnedL (t':=s.toks) hf fun c o hc q=>?_⟩
  simp at hc
  exact kk c o hc.2 q
 self:=fun _ _ _ _ _ st h=>by
  obtain ⟨⟨old,hz⟩,h1⟩:=st
  exact wpAny_pyIter_enum hz h
section
variable {X:Cx}
def iEnm (K:PySem.W.Frag) (ta:TA):TI:=fun σ H R=>ta σ H fun vs H1=>∃ a,vs = [.ref a]/\(∃ xs,SqL K H1 a xs)/\R (Ite K a) H1
theorem Zn4 {elts:List Expr} {x1:Nat} {pt p pos:Pos} {a:Expr} {ta:TA} (hg:Gl X "enumerate") (hm:X.mg "enumerate" = none) (ha:PA X [a] ta) (h:Zb3 a = false:=by rfl):
  PI X (.Tuple elts x1 pt) (.Call (.Name "enumerate" p) [a] [] pos) (iEnm X.K ta):=by
 intro pins s σ H R I hh
 refine Call_ (Zew I hg hm boot_enumerate (PyProof.Rows.callWith_type1 (thn (ha pos pins s σ H _ I hh) fun us s1 ⟨vs,H1,I1,r1,q1⟩=>?_) (by rw [Za6 h]) (by rfl)))
 obtain ⟨c,e,⟨xs,hq1⟩,q⟩:=q1
 subst e
 cases r1 with
 | cons r rr=>
   cases rr
   cases r
   obtain ⟨its,rv,p1,hz1⟩:=I1.list hq1
   refine call_enumerate_list p1.isList fun h' a1 a2 a3 a4=>wpAny_pyIter_enum (s:={ s1 with heap:=h' }) a1 ?_
   refine ⟨_,_,_,_,H1,rfl,I1.kept (t':=s1.toks) a4,Zqb (Nat.succ_ne_self _),⟨⟨_,a1⟩,a2⟩,fun b hb=>?_,q⟩
   have hb':s1.heap.objs.size<=b:=by
    simp at hb
    rcases hb with rfl | rfl
    ·exact Nat.le_add_right _ _
    ·exact Nat.le_refl _
   have:=(I1.fpOk (H':=H1) hb' (I1.hok.fresh hb'))
   exact this
end
section
variable {K:PySem.W.Frag} {a b D:Addr} {xs ys:List V} {g:TG} {tt:TT} {te:TE} {k:Nat} {fr:List (Str × Nat)} {σ:St} {H1:Hp} {Q:VK}
theorem Zpk {tb:TS} {Dn:Ends} {σ:St} {H:Hp} (Pv:Nat->St->Hp->Prop) (h0:Pv 0 σ H) (hl:∀ i σ H,i<=xs.length->Pv i σ H->SqL K H a xs)
  (hs:∀ (i:Nat) x p σ H,xs[i]? = some x->H p = none->Pv i σ H->g (.ref p) σ (upd H p (.tup [.int i,x])) fun σ2 H2=>tb { Dn with nx:=Pv (i + 1),ct:=Pv (i + 1),bk:=Dn.nx } σ2 H2) (hd:∀ σ H,Pv xs.length σ H->Dn.nx σ H):
  ∃ W:Nat->Nat->St->Hp->Prop,(∃ m,W 0 m σ H)/\∀ i m σ H,W i m σ H->
   ((Ite K a).stop i H/\Dn.nx σ H)\/((Ite K a).go i H/\∃ N:St->Hp->Prop,(∀ σ' H',N σ' H'->∃ m',m' < m/\W (i + 1) m' σ' H')/\∀ x H',(Ite K a).yld i H x H'->g x σ H' fun σ2 H2=>tb { Dn with nx:=N,ct:=N,bk:=Dn.nx } σ2 H2):=by
 refine ⟨fun i m σ H=>m = xs.length - i/\i<=xs.length/\Pv i σ H,⟨xs.length,by simp,Nat.zero_le _,h0⟩,?_⟩
 rintro i m σ H ⟨rfl,hi,p⟩
 have q:=hl i σ H hi p
 by_cases hlt:i < xs.length
 ·refine .inr ⟨⟨xs,xs[i],q,by simp [hlt]⟩,Pv (i + 1),fun σ' H' p'=>⟨xs.length - (i + 1),by omega,rfl,hlt,p'⟩,fun x H' y=>?_⟩
  obtain ⟨u,pp,rfl,hp,rfl,e1⟩:=y
  exact hs i u pp σ _ (e1 xs q) hp p
 ·have e:i = xs.length:=by omega
  subst e
  exact .inl ⟨⟨xs,q,Nat.le_refl _⟩,hd σ H p⟩
theorem Zrv (Pv:Nat->List V->Hp->Prop) (h0:Pv 0 [] (upd H1 D (.lst []))) (hl:∀ i vs H,i<=xs.length->Pv i vs H->SqL K H a xs)
  (hs:∀ (i:Nat) x p vs σ' H,i < xs.length->xs[i]? = some x->H p = none->Sh k (Zcb fr σ) σ'->Pv i vs H->Zfo g tt te D xs.length k (Zcb fr σ) Pv i (.ref p) σ' (upd H p (.tup [.int i,x]))) (hd:∀ vs H,Pv xs.length vs H->Q (.ref D) H):
  Zcl g tt te (Ite K a) D (Zgt k fr σ) H1 Q:=by
 refine ⟨Wv xs.length k (Zcb fr σ) Pv,⟨xs.length,by simp,Nat.zero_le _,sh0,[],h0⟩,?_⟩
 rintro i m σ' H2 ⟨rfl,hi,sh,vs,p⟩
 have q1:=hl i vs H2 hi p
 by_cases hlt:i < xs.length
 ·refine .inr ⟨⟨xs,xs[i],q1,by simp [hlt]⟩,fun x H3 y=>?_⟩
  obtain ⟨u,pp,rfl,hp,rfl,e1⟩:=y
  exact hs i u pp vs σ' _ hlt (e1 _ q1) hp sh p
 ·have e:i = xs.length:=by omega
  subst e
  exact .inl ⟨⟨xs,q1,Nat.le_refl _⟩,hd vs H2 p⟩
end
end L2
namespace L2
open PySem PySem.Spec PyProof.Rows PySem.W
structure Trk (B:Heap) (fr:List Env) (e:Addr) (cls c0 fl:Value) (h:Heap):Prop where
 st:B.StaysIn h
 nw:B.get? e = none
 ff:h.FunFrames B fr
 ob:∃ (o:Obj) (vs:Array Value) (T:Addr) (oT:Obj) (us:Array Value),h.get? e = some o/\o.cls = cls/\o.data = .fields vs/\vs[2]? = some c0/\vs[1]? = some (.ref T)/\B.get? T = none/\T ≠ e/\h.get? T = some oT/\oT.data = .fields us/\us[3]? = some fl
section
variable {M:Model} {A:Around} {E:Value->Shared->Prop} {s:Shared} {B:Heap} {fr:List Env} {e L:Addr} {cls c0:Value} {Q:Unit->Shared->Prop}
end
end L2
namespace L2
open PySem PySem.Spec PyProof.Rows PySem.W
structure Fly (P:Program) (w:World) (outer:List Env) (H:Hp) (s:Shared) (a:Addr) (cls c0:Value) (H':Hp) (s':Shared):Prop where
 os:s'.os = s.os
 bare:AllBare s'.gens
 hok:HOk P w H' s'.heap
 un:Un (frs outer) [] H H' s.heap s'.heap
 fly:∃ B,Trk B outer a cls c0 .none s'.heap/\(∀ b o,s.heap.get? b = some o->b ∉ frs outer->∃ o',B.get? b = some o')/\∀ b u,H' b = some u->∃ o',B.get? b = some o'
 new:∀ o,s.heap.get? a ≠ some o
 free:H' a = none
def CXe (P:Program) (w:World):CXT:=fun outer H s E e s'=>∃ (a:Addr) (cls c0:Value) (H':Hp),e = .ref a/\Fly P w outer H s a cls c0 H' s'/\E cls none H'/\(c0 = .none\/E cls (some 0) H')
section
variable {P:Program} {w:World} {K:PySem.W.Frag} {mg:Str->Option Value} {base:Heap} {N:List Str} {qual:Str} {scope:Scope} {f:Addr} {cd:Value} {A:Around} {outer:List Env} {s:Shared} {H:Hp} {E:XK} {pins:List (Addr × Obj)} {σ:St} {H1:Hp} {s1 s2:Shared} {e:Addr} {cls:Value}
end
end L2
namespace L2
open PySem PySem.Spec PyProof.Rows PySem.W
section
variable {X:Cx} {x:Str} {C:Addr} {bm bmN:List Value} {B Bn newId nid initId inN:String} {np cpos pos:Pos} {e₀:Expr} {rest:List Expr} {t:TA} {R:Hp->Prop}
end
end L2
namespace L2
open PySem PySem.Spec PyProof.Rows PySem.W
section
variable {P:Program} {w:World} {K:PySem.W.Frag} {mg:Str->Option Value} {base:Heap}
end
section
variable {X:Cx} {pins:List (Addr × Obj)} {σ:St} {H H':Hp} {s s':Shared} {a:Addr} {cls:Value}
end
end L2
namespace L2
open PySem PySem.Spec PyProof.Rows PySem.W
section
variable {M:Model} {A:Around} {E:Value->Shared->Prop}
variable {nm q:Str} {C N:Addr} {bs bm:List Value} {hdct:Bool} {sn:List Str} {sub:List Value} {ab:Bool} {col:Option Bool} {dd:Option Addr} {k0 k1 k2 k3 k5:Option Value} {newId:String}
variable {nm' q':Str} {C' N':Addr} {bs' bm':List Value} {hdct':Bool} {sn':List Str} {sub':List Value} {ab':Bool} {col':Option Bool} {dd':Option Addr} {j0 j1 j2 j3 j5:Option Value} {newId':String}
end
end L2
namespace L2
open PySem PySem.Spec PyProof.Rows PySem.W
section
variable {X:Cx} {pins pins':List (Addr × Obj)} {σ:St} {H:Hp} {s:Shared} {a:Addr}
theorem Inv.track {o:HO} (I:Inv X pins σ H s) (hn:H a = none) (h0:∀ u,X.s₀.heap.get? a ≠ some u) (hL:a ≠ X.env.locals) (hc:∀ x c,X.env.cells.lookup x = some c->c ≠ a) (hp:∀ p ∈ X.pn ++ pins,p.1 ≠ a)
  (new:ObjOk X.prog X.w (upd H a o) s.heap a o):Inv X pins σ (upd H a o) s:=by
 have ne:∀ {b:Addr} {u:HO},H b = some u->b ≠ a:=fun {b u} hb z=>by rw [z,hn] at hb; cases hb
 refine ⟨I.ok,I.os,I.bare,⟨I.base.keep,I.base.slot,fun b u q n hx=>?_,I.base.there,fun b xs z=>?_,fun b u v z=>?_,fun b ps z=>?_⟩,I.loc,I.cell,?_,fun x c e=>?_,fun p hp'=>?_,fun b u hb=>?_,I.len⟩
 ·rw [Zap (fun z=>h0 u (by rw [<- z]; exact q))]
  exact I.base.free b u q n hx
 ·have:=I.base.tups b xs z
  rw [Zap (ne this)]
  exact this
 ·have:=I.base.frzs b u v z
  rw [Zap (ne this)]
  exact this
 ·obtain ⟨m,e⟩:=I.base.tbls b ps z
  exact ⟨m,by rw [Zap (ne e)]; exact e⟩
 ·rw [Zap hL.symm]; exact I.free
 ·rw [Zap (hc x c e)]; exact I.freeC x c e
 ·obtain ⟨p1,p2,p3,p4,p5⟩:=I.pin p hp'
  exact ⟨p1,by rw [Zap (hp p hp')]; exact p2,p3,p4,p5⟩
 ·by_cases hb':b = a
  ·subst hb'
   rw [Zad] at hb
   cases hb
   exact new
  ·rw [Zap hb'] at hb
   exact (I.hok b u hb).stay (fun _ _ _ q=>q) (fun c z=>by rw [Zap (ne z)]; exact z) (fun c xs z=>by rw [Zap (ne z)]; exact z) fun c _ _ z=>by rw [Zap (ne z)]; exact z
end
section
variable {X:Cx} {x n:Str} {np hpos pos:Pos} {body suite:List Stmt} {b₀:Stmt} {E':XK} {tb th:TS} {i:Nat} {D:Addr} {bmD:List Value} {newD:String}
end
end L2
namespace L2
open PySem PySem.Spec PySem.Calls PyProof.Rows PySem.W Builtin Builtin.ObjectAttr Builtin.Getset_descriptor
structure ExcCls (K:PySem.W.Frag) (C:Addr):Prop where
 ga:findIn K (.ref C) "__getattribute__" = some (some (.builtin "BaseException.__getattribute__"))
 gt:findIn K (.ref C) "__getattr__" = some none
 cl:findIn K (.ref C) "__class__" = some (some (.builtin "object.__class__"))
 so:mroIn K C (.type "object") = some true
 sb:mroIn K C (.type "BaseException") = some true
section
variable {prog:Program} {w:World} {A:Around} {E:Value->Shared->Prop} {h:Heap} {g:Array GenState} {d:Drawn} {t:Nat} {os:OsState} {a C:Addr} {ox:Obj} {K:PySem.W.Frag}
end
end L2
namespace L2
open PySem PySem.Spec PyProof.Rows PySem.W
section
variable {X:Cx}
end
end L2
namespace L2
open PySem PySem.Spec PyProof.Rows PySem.W
structure CalE (P:Program) (w:World) (K:PySem.W.Frag) (mg:Str->Option Value) (base:Heap) (x:Str) (k:Nat) (sp:Sp):Prop where
 ex:∃ (f:Addr) (fd:FuncData) (ps:List Str),FnOk P w K mg base (CXe P w) k f fd ps sp/\mg x = some (.ref f)/\PySem.W.keepIn K (.ref f) = true/\Binds K fd ps []
structure CalME (P:Program) (w:World) (K:PySem.W.Frag) (mg:Str->Option Value) (base:Heap) (C:Addr) (m:Str) (k:Nat) (sp:Sp):Prop where
 ex:∃ (f:Addr) (fd:FuncData) (ps:List Str),FnOk P w K mg base (CXe P w) k f fd ps sp/\Meth K C m f/\Binds K fd ps []
structure CalIE (P:Program) (w:World) (K:PySem.W.Frag) (mg:Str->Option Value) (base:Heap) (x:Str) (C:Addr) (k:Nat) (sp:Sp):Prop where
 ex:∃ (f:Addr) (fd:FuncData) (ps:List Str),FnOk P w K mg base (CXe P w) k f fd ps sp/\Mk K C f/\mg x = some (.ref C)/\Binds K fd ps []
section
variable {X:Cx} {x m:Str} {k:Nat} {sp:Sp} {e o:Expr} {es:List Expr} {ta:TE} {t:TA} {p pos apos:Pos} {E:XK} {C:Addr}
end
structure CalDE (P:Program) (w:World) (K:PySem.W.Frag) (mg:Str->Option Value) (base:Heap) (C:Addr) (m:Str) (k:Nat) (sp:Sp) (dvs:List V):Prop where
 ex:∃ (f:Addr) (fd:FuncData) (ps:List Str) (ds:List Value),FnOk P w K mg base (CXe P w) k f fd ps sp/\Meth K C m f/\Binds K fd ps ds/\Vals dvs ds
section
variable {P:Program} {w:World} {K:PySem.W.Frag} {mg:Str->Option Value} {base:Heap} {N:List Str} {qual:Str} {scope:Scope} {f:Addr} {cd:Value} {A:Around} {outer:List Env} {s:Shared} {H:Hp} {E:XK}
end
end L2
namespace L2
open PySem PySem.Spec PyProof.Rows
structure RoomH (k:Nat) (A:Around):Prop where
 dp:A.depth + 3 * k + 205 < recursionLimit
 un:A.units + 16 * k + 200 < cLine
structure FnOkH (P:Program) (w:World) (K:PySem.W.Frag) (mg:Str->Option Value) (base:Heap) (CX:CXT) (k:Nat) (f:Addr) (fd:FuncData) (ps:List Str) (sp:Sp):Prop where
 len:∀ vs H Q E,sp vs H Q E->vs.length = ps.length
 run:∀ (A:Around) (outer:List Env) (s:Shared) (H:Hp) (args:Args) (us:List Value) (vs:List V) (Q:VK) (E:XK),RoomH k A->Env0 P w K mg base A outer s H->BindsTo s fd args (ps.zip us)->Vals vs us->sp vs H Q E->
  codeAny (model P w) A (.call (.ref f) args) (CR CX outer P w H s Q E) s
section
variable {P:Program} {w:World} {K:PySem.W.Frag} {mg:Str->Option Value} {base:Heap}
structure CalH (P:Program) (w:World) (K:PySem.W.Frag) (mg:Str->Option Value) (base:Heap) (x:Str) (k:Nat) (sp:Sp):Prop where
 ex:∃ (f:Addr) (fd:FuncData) (ps:List Str),FnOkH P w K mg base CX0 k f fd ps sp/\mg x = some (.ref f)/\PySem.W.keepIn K (.ref f) = true/\Binds K fd ps []
end
section
variable {X:Cx} {CX:CXT} {k:Nat} {f C:Addr} {fd:FuncData} {ps:List Str} {sp:Sp} {dvs:List V} {ds:List Value} {E:XK} {x m:Str} {p pos apos:Pos} {e o:Expr} {es:List Expr} {ta:TE} {t:TA}
end
section
variable {X:Cx}
def rNeTs (K:PySem.W.Frag):R2:=fun x y H Q=>rNe x y H Q\/Zr9 K true x y H Q
theorem op_neTs (hu:X.A.units + 8 < cLine):OpR X (compareOp .NotEq) (rNeTs X.K):=Zfj.or (Zif hu)
end
end L2
namespace L2
open PySem PySem.Spec PyProof.Rows
end L2
namespace L2
open PySem PySem.Spec PyProof.Rows
theorem Zln:typeLookup (.type "enumerate") "__len__" = pure none:=by rw [typeLookup_type,builtinLookup_eq_fast]; kernel_rfl
theorem Zkf:typeLookup (.type "enumerate") "__length_hint__" = pure none:=by rw [typeLookup_type,builtinLookup_eq_fast]; kernel_rfl
section
variable {prog:Program} {w:World} {A:Around} {s:Shared} {E:Value->Shared->Prop}
end
section
variable {X:Cx}
end
def Itv (K:PySem.W.Frag) (a:Addr) (n:Nat):It:=
 ⟨fun i H=>∃ xs,SqL K H a xs/\xs.length = n/\i < n,fun i H v H'=>H' = H/\∀ xs,SqL K H a xs->xs[n - 1 - i]? = some v,fun i H=>∃ xs,SqL K H a xs/\xs.length = n/\i = n⟩
theorem Zqa {P:Program} {w:World} {K:PySem.W.Frag} {tg:Expr} {it a:Addr} {n:Nat} (hne:a ≠ it):Turn P w K tg (Itv K a n) [it] it (fun i h=>h.IsRevIter it a ((n:Int) - 1 - (i:Int))) where
 mem:=by simp
 obj:=fun i h st c hc=>by
  obtain ⟨o1,e1,c1,d1⟩:=st
  simp at hc
  subst hc
  exact ⟨o1,e1,fun v z=>by rw [d1] at z; cases z⟩
 keep:=fun i h h' st k=>st.at fun o e=>k it (by simp) o e
 item:=by
  intro X hP hw hK hc i pins s σ H E I hf st hg
  subst hP hw hK
  obtain ⟨xs,hqa,hn,hi⟩:=hg
  obtain ⟨its,rv,p,hz1⟩:=I.list hqa
  have hx:xs[n - 1 - i]? = some (xs[n - 1 - i]'(by omega)):=List.getElem?_eq_getElem _
  obtain ⟨u,hu,ru⟩:=rv.get hx
  have e:(n:Int) - 1 - (i:Int) = ((n - 1 - i:Nat):Int):=by omega
  rw [e] at st
  refine wpAny_pyNext_rev_item st p.isList (by simpa using hu) fun h' hit' sb=>?_
  obtain ⟨o',ho',hc',hd'⟩:=id hit'
  refine ⟨u,rfl,go_of (s:={ s with heap:=h' }) ho' hc' hd' (by decide) ?_⟩
  have f:=hf it (by simp)
  have I2:Inv X pins σ H { s with heap:=h' }:=I.turnedL (t':=s.toks) hf fun c o hc q=>(sb.2 c (by simpa using hc)).trans q
  refine ⟨_,_,I2,ru,⟨rfl,fun xs' hq=>by rw [I.list_inj hq hqa]; exact hx⟩,?_,fun c hc=>(hf c hc).1⟩
  have e2:((n - 1 - i:Nat):Int) - 1 = (n:Int) - 1 - ((i + 1:Nat):Int):=by omega
  rw [e2] at hit'
  exact hit'
 done:=by
  intro X hP hw hK hc i pins s σ H E I hf st hg
  subst hP hw hK
  obtain ⟨xs,hqa,hn,rfl⟩:=hg
  have e:(i:Int) - 1 - (i:Int) = -1:=by omega
  rw [e] at st
  exact wpAny_pyNext_rev_end (I.ok.hd hc) st fun h' kk=>⟨rfl,I.turnedL (t':=s.toks) hf fun c o hc q=>kk c o (by simpa using hc) q⟩
 self:=fun _ _ _ _ _ st h=>wpAny_pyIter_revIter st h
theorem Zjf:bootBuiltins "reversed" = some (.type "reversed"):=by decide +kernel
section
variable {X:Cx}
def iRvl (K:PySem.W.Frag) (ta:TA):TI:=fun σ H R=>ta σ H fun vs H1=>∃ a xs,vs = [.ref a]/\SqL K H1 a xs/\R (Itv K a xs.length) H1
theorem pi_rvl {tg:Expr} {p pos:Pos} {a:Expr} {ta:TA} (hg:Gl X "reversed") (hm:X.mg "reversed" = none) (ha:PA X [a] ta) (h:Zb3 a = false:=by rfl):
  PI X tg (.Call (.Name "reversed" p) [a] [] pos) (iRvl X.K ta):=by
 intro pins s σ H R I hh
 refine Call_ (Zew I hg hm Zjf (PyProof.Rows.callWith_type1 (thn (ha pos pins s σ H _ I hh) fun us s1 ⟨vs,H1,I1,r1,q1⟩=>?_) (by rw [Za6 h]) (by rfl)))
 obtain ⟨c,xs,e,hq1,q⟩:=q1
 subst e
 cases r1 with
 | cons r rr=>
  cases rr
  cases r
  obtain ⟨its,rv,p1,hz1⟩:=I1.list hq1
  have hlen:=rv.length
  have lt1:c < s1.heap.objs.size:=by obtain ⟨o,ho,_⟩:=p1.isList; exact Heap.lt_size ho
  refine call_reversed_list p1.isList ?_
  have hit:(s1.heap.push (revObj c ((its.toArray.size:Int) - 1))).IsRevIter s1.heap.objs.size c ((its.toArray.size:Int) - 1):=⟨_,Heap.get?_push_size _ rfl,rfl,rfl⟩
  refine wpAny_pyIter_revIter (s:={ s1 with heap:=s1.heap.push (revObj c ((its.toArray.size:Int) - 1)) }) hit ?_
  refine ⟨_,_,_,_,H1,rfl,I1.kept (t':=s1.toks) fun b o e=>Heap.get?_push_of_some _ e,Zqa (n:=xs.length) (Nat.ne_of_lt lt1),?_,fun b hb=>?_,q⟩
  ·have e:((xs.length:Nat):Int) - 1 - ((0:Nat):Int) = (its.toArray.size:Int) - 1:=by rw [List.size_toArray,hlen]; omega
   show Heap.IsRevIter _ _ _ (((xs.length:Nat):Int) - 1 - ((0:Nat):Int))
   rw [e]
   exact hit
  ·have hb':s1.heap.objs.size<=b:=by
    simp at hb
    subst hb
    exact Nat.le_refl _
   exact I1.fpOk (H':=H1) hb' (I1.hok.fresh hb')
end
section
variable {K:PySem.W.Frag} {a:Addr} {xs:List V} {g:TG}
theorem for_rvl {tb:TS} {Dn:Ends} {σ:St} {H:Hp} (Pv:Nat->St->Hp->Prop) (h0:Pv 0 σ H) (hl:∀ i σ H,i<=xs.length->Pv i σ H->SqL K H a xs)
  (hs:∀ (i:Nat) x σ H,i < xs.length->xs[xs.length - 1 - i]? = some x->Pv i σ H->g x σ H fun σ2 H2=>tb { Dn with nx:=Pv (i + 1),ct:=Pv (i + 1),bk:=Dn.nx } σ2 H2) (hd:∀ σ H,Pv xs.length σ H->Dn.nx σ H):
  ∃ W:Nat->Nat->St->Hp->Prop,(∃ m,W 0 m σ H)/\∀ i m σ H,W i m σ H->
   ((Itv K a xs.length).stop i H/\Dn.nx σ H)\/((Itv K a xs.length).go i H/\∃ N:St->Hp->Prop,(∀ σ' H',N σ' H'->∃ m',m' < m/\W (i + 1) m' σ' H')/\∀ x H',(Itv K a xs.length).yld i H x H'->g x σ H' fun σ2 H2=>tb { Dn with nx:=N,ct:=N,bk:=Dn.nx } σ2 H2):=by
 refine ⟨fun i m σ H=>m = xs.length - i/\i<=xs.length/\Pv i σ H,⟨xs.length,by simp,Nat.zero_le _,h0⟩,?_⟩
 rintro i m σ H ⟨rfl,hi,p⟩
 have q:=hl i σ H hi p
 by_cases hlt:i < xs.length
 ·refine .inr ⟨⟨xs,q,rfl,hlt⟩,Pv (i + 1),fun σ' H' p'=>⟨xs.length - (i + 1),by omega,rfl,hlt,p'⟩,fun x H' y=>?_⟩
  obtain ⟨rfl,e1⟩:=y
  exact hs i x σ _ hlt (e1 xs q) p
 ·have e:i = xs.length:=by omega
  subst e
  exact .inl ⟨⟨xs,q,rfl,rfl⟩,hd σ H p⟩
end
end L2
namespace L2
open PySem PySem.Spec PyProof.Rows
section
variable {prog:Program} {w:World} {A:Around} {E:Value->Shared->Prop} {s:Shared}
theorem Zlt {c n:Nat} (hc:c<=n):sliceBounds none (some (c:Int)) none n = ((0:Int),(c:Int),1):=by
 simp only [sliceBounds,Option.getD_none]
 have h2:¬ ((c:Int) < 0):=by omega
 simp only [h2,if_false,show (1:Int) > 0 by decide,if_true]
 congr 2
 omega
theorem Zhu {l b sl:Addr} {items new:Array Value} {n n2:Nat} {vl vu:Value} {c:Nat} {Q:Unit->Shared->Prop}
  (e:s.heap.get? l = some { cls:=.type "list",data:=.seq items n }) (e2:s.heap.get? b = some { cls:=.type "list",data:=.seq new n2 }) (hne:l ≠ b)
  (hs:s.heap.IsSliceOf sl vl vu .none) (pl:IsPart vl none) (pu:IsPart vu (some (c:Int))) (hc:c<=items.size)
  (hsz:items.size + new.size<=sizeLine) (h:Q () { s with heap:=s.heap.update l (Obj.mapSeq fun xs=>xs.extract 0 0 ++ new ++ xs.extract c xs.size) }):
  wpAny (model prog w) A (setItem (.ref l) (.ref sl) (.ref b)) Q E s:=by
 have hl:s.heap.IsList l items:=PySem.IsL.isList e
 have hb:s.heap.IsList b new:=PySem.IsL.isList e2
 obtain ⟨os,hos,hcs,hds⟩:=id hs
 have hTs:s.TypeIs (.ref sl) "slice" := ⟨os,hos,hcs⟩
 have hstep:¬ ((rawPart none == rawInt 0) = true):=Bool.false_ne_true
 have hsame:Builtin.List.listSameRef (.ref l) (.ref b) = false:=by
  unfold Builtin.List.listSameRef
  exact beq_eq_false_iff_ne.mpr hne
 have hmax:(max (0:Int) (c:Int)).toNat = c:=by omega
 have hz':((fun xs:Array Value=>xs.extract 0 0 ++ new ++ xs.extract c xs.size) items).size<=sizeLine + 1:=by
  simp only [Array.size_append,Array.size_extract]
  omega
 unfold setItem
 try with_reducible refine wpAny_holding ?_
 first | refine wpAny_bind (wpAny_pure ?_) | skip
 refine wpAny_bind (wpAny_sequenceKey hl.typeIs (by decide) ?_)
 refine wpAny_bind (wpAny_callSpecial?_slot (name:=Str.ofString "__setitem__") hl.typeIs slot_list_setitem
  (wpAny_call_entry slot_list_setitem hl.typeIs entry_list_setitem ?_ (args_list_setitem _ _ _)))
 show wpAny _ _ (Builtin.List.listSubscript? (.ref sl) >>= _) _ _ s
 refine wpAny_bind ?_
 unfold Builtin.List.listSubscript?
 refine wpAny_bind (wpAny_specialOf hTs slice_no_index ?_)
 simp only [Option.isNone_none,if_true]
 refine wpAny_pure ?_
 show wpAny _ _ (typeOf (.ref sl) >>= _) _ _ s
 refine wpAny_bind (wpAny_typeOf hTs ?_)
 first
  | rw [if_neg (by decide)]
  | refine PySem.W.KFB.if_not (by decide) ?_
 rw [listSliceParts_eq]
 refine wpAny_bind (wpAny_bind (wpAny_field hos hds (x:=.none) rfl (wpAny_bind (wpAny_listPart .none ?_))))
 rw [if_neg hstep]
 refine wpAny_bind (wpAny_field hos hds (x:=vl) rfl (wpAny_bind (wpAny_listPart pl ?_)))
 refine wpAny_bind (wpAny_field hos hds (x:=vu) rfl (wpAny_bind (wpAny_listPart pu (wpAny_pure ?_))))
 first
  | simp only [hsame,Bool.false_eq_true,if_false]
  | refine PySem.W.KFB.if_not hsame ?_
  | (dsimp only; rw [if_neg (by rw [hsame]; exact Bool.false_ne_true)])
 refine wpAny_bind (m:=Builtin.List.listAllItems (.ref b) "must assign iterable to extended slice") ?_
 unfold Builtin.List.listAllItems
 refine wpAny_bind (wpAny_typeOf hb.typeIs ?_)
 first
  | refine PySem.W.KFB.if_so (by decide) ?_
  | rw [if_pos (by decide)]
  | simp only [beq_self_eq_true,Bool.true_or,if_true]
 unfold Builtin.List.listItems
 refine wpAny_bind (wpAny_seqItems e2 rfl (wpAny_pure ?_))
 refine wpAny_bind (wpAny_bind (wpAny_seqItems e rfl (wpAny_pure ?_)))
 refine wpAny_bind (wpAny_of_eq ((sliceIndices_raw none (some (c:Int)) none items.size (by simp)).trans (congrArg (pure:Int × Int × Int->Sem (Int × Int × Int)) (Zlt hc))) ?_)
 show wpAny _ _ (if ((1:Int) == 1) = true then _ else _) _ _ s
 rw [if_pos (by decide)]
 refine wpAny_bind (wpAny_rule ?_)
 first
  | simp only [Zgq hsz,Bool.false_eq_true,if_false]
  | refine PySem.W.KFB.if_not (Zgq hsz) ?_
 first | refine wpAny_bind (wpAny_pure ?_) | skip
 show wpAny _ _ (updateSeq l (fun xs=>xs.extract 0 ((0:Int)).toNat ++ new ++ xs.extract (max (0:Int) (c:Int)).toNat xs.size) >>= _) _ _ s
 rw [hmax,show (0:Int).toNat = 0 from rfl]
 refine wpAny_bind (wpAny_updateSeq (hz:=Nat.le_trans (Nat.le_add_right _ _) hsz) (_hz':=hz') e rfl ?_)
 refine wpAny_bind (wpAny_letGo ?_)
 first
  | exact wpAny_bind (wpAny_pure (wpAny_pure ⟨.none,rfl,wpAny_pure h⟩))
  | exact wpAny_pure ⟨.none,rfl,wpAny_pure h⟩
end
end L2
namespace L2
open PySem PySem.Spec PyProof.Rows
abbrev Zji (h:Heap) (e it:Addr) (i:Int) (item:Value) (a:Addr) (f:Bool):Prop:=
 h.get? e = some { cls:=.type "enumerate",dict:=none,data:=.fields #[rawInt a,.bool f,.ref it,rawInt i,.none,item],slots:=#[] }
section
variable {prog:Program} {w:World} {A:Around} {s:Shared} {E:Value->Shared->Prop}
theorem Zi7 {e it l a:Addr} {f:Bool} {oa:Obj} {i:Nat} {items:Array Value} {x old:Value} {Q:Option Value->Shared->Prop}
  (he:Zji s.heap e it i old a f) (ha:s.heap.get? a = some oa) (hae:a ≠ e) (hai:a ≠ it) (hit:s.heap.IsListIter it l i) (hl:s.heap.IsList l items) (hx:items[i]? = some x) (hne:e ≠ it)
  (hQ:∀ h',Zji h' e it ((i:Int) + 1) old a true->h'.IsListIter it l (i + 1)->
   h'.get? s.heap.objs.size = some { cls:=.type "tuple",data:=.seq #[.int i s.toks,x] }->h'.objs.size = s.heap.objs.size + 1->
   (∀ b o,b ≠ e->b ≠ it->s.heap.get? b = some o->h'.get? b = some o)->Q (some (.ref s.heap.objs.size)) { s with heap:=h',toks:=s.toks + 1 }):
  wpAny (model prog w) A (pyNext (.ref e)) Q E s:=by
 have hT:s.TypeIs (.ref e) "enumerate" := ⟨_,he,rfl⟩
 unfold pyNext
 refine wpAny_bind (wpAny_attempt (wpAny_callSpecial?_slot (name:=Str.ofString "__next__") hT F.slot_enumerate_next
  (wpAny_call_entry F.slot_enumerate_next hT F.entry_enumerate_next ?_ (F.args_enumerate_next_1 _))))
 obtain ⟨hp,g,d,tk,os⟩:=s
 show wpAny _ _ (field (.ref e) 2 >>= _) _ _ _
 refine wpAny_bind (wpAny_field he rfl (x:=.ref it) rfl ?_)
 refine wpAny_bind (wpAny_nextOf_list_item hit hl hx fun h₁ hit₁ hs₁=>?_)
 replace hs₁:Heap.SameBut it hp h₁:=hs₁
 have he₁:Zji h₁ e it i old a f:=(hs₁.2 e hne).trans he
 show wpAny _ _ (field (.ref e) 3 >>= _) _ _ ⟨h₁,g,d,tk,os⟩
 refine wpAny_bind (wpAny_field he₁ rfl (x:=rawInt i) rfl ?_)
 show wpAny _ _ (field (.ref e) 4 >>= _) _ _ ⟨h₁,g,d,tk,os⟩
 refine wpAny_bind (wpAny_field he₁ rfl (x:=.none) rfl ?_)
 show wpAny _ _ (mkInt i >>= _) _ _ ⟨h₁,g,d,tk,os⟩
 refine wpAny_bind (wpAny_mkInt ?_)
 show wpAny _ _ (setField (.ref e) 3 (rawInt ((i:Int) + 1)) >>= _) _ _ ⟨h₁,g,d,tk + 1,os⟩
 refine wpAny_bind (wpAny_setField_rec he₁ (by simp) fun h₂ he₂ hs₂=>?_)
 replace hs₂:Heap.SameBut e h₁ h₂:=hs₂
 replace he₂:Zji h₂ e it ((i:Int) + 1) old a f:=he₂
 show wpAny _ _ (setField (.ref e) 4 .none >>= _) _ _ ⟨h₂,g,d,tk + 1,os⟩
 refine wpAny_bind (wpAny_setField_rec he₂ (by simp) fun h₃ he₃ hs₃=>?_)
 replace hs₃:Heap.SameBut e h₂ h₃:=hs₃
 replace he₃:Zji h₃ e it ((i:Int) + 1) old a f:=he₃
 show wpAny _ _ (newTuple [.int i tk,x] >>= _) _ _ ⟨h₃,g,d,tk + 1,os⟩
 refine wpAny_bind (wpAny_newTuple ?_)
 have he₄:Zji (h₃.push { cls:=.type "tuple",data:=.seq #[.int i tk,x] }) e it ((i:Int) + 1) old a f:=Heap.get?_push_of_some _ he₃
 generalize hh₄:h₃.push { cls:=.type "tuple",data:=.seq #[.int i tk,x] } = h₄ at he₄
 have hsz:h₃.objs.size = hp.objs.size:=by rw [hs₃.1,hs₂.1,hs₁.1]
 have hel:e < hp.objs.size:=Heap.lt_size he
 have ht₄:h₄.get? hp.objs.size = some { cls:=.type "tuple",data:=.seq #[.int i tk,x] }:=by rw [<- hh₄,<- hsz]; exact Heap.get?_push_size _ rfl
 have hz₄:h₄.objs.size = hp.objs.size + 1:=by rw [<- hh₄,Heap.size_push,hsz]
 have hk₄:∀ b o,b ≠ e->b ≠ it->hp.get? b = some o->h₄.get? b = some o:=fun b o hbe hbi hb=>by
  rw [<- hh₄]; exact Heap.get?_push_of_some _ (hs₃.extBut b o hbe (hs₂.extBut b o hbe (hs₁.extBut b o hbi hb)))
 have hit₄:h₄.IsListIter it l (i + 1):=by
  rw [<- hh₄]; obtain ⟨o,ho,r⟩:=(hit₁.extBut hs₂.extBut (Ne.symm hne)).extBut hs₃.extBut (Ne.symm hne); exact ⟨o,Heap.get?_push_of_some _ ho,r⟩
 have ha₄:h₄.get? a = some oa:=hk₄ a oa hae hai ha
 show wpAny _ _ (Builtin.SmallTypes.ownedTupleIsFree (.ref e) >>= _) _ _ ⟨h₄,g,d,tk + 1,os⟩
 rw [hsz]
 clear hh₄ he₃ hs₃ he₂ hs₂ he₁ hs₁ hit₁ hsz h₃ h₂ h₁
 refine wpAny_bind ?_
 unfold Builtin.SmallTypes.ownedTupleIsFree
 refine wpAny_bind (wpAny_field he₄ rfl (x:=rawInt a) rfl ?_)
 show wpAny _ _ (loadIfAlive ((a:Int).toNat) >>= _) _ _ _
 rw [Int.toNat_natCast]
 refine wpAny_bind (PySem.W.kdx_alive ha₄ ?_)
 simp only [Option.isNone_some,Bool.false_eq_true,if_false]
 refine wpAny_bind (wpAny_field he₄ rfl (x:=.bool f) rfl ?_)
 cases f with
 | true=>
  rw [if_neg (show ¬ ((Value.bool true != Value.bool true) = true) from Bool.false_ne_true)]
  refine wpAny_pure ?_
  simp only [Bool.false_eq_true,if_false]
  exact wpAny_pure ⟨_,rfl,wpAny_pure (hQ h₄ he₄ hit₄ ht₄ hz₄ hk₄)⟩
 | false=>
  rw [if_pos (show (Value.bool false != Value.bool true) = true from rfl)]
  refine wpAny_bind (wpAny_setField_rec he₄ (by simp) fun h₅ he₅ hs₅=>?_)
  replace hs₅:Heap.SameBut e h₄ h₅:=hs₅
  replace he₅:Zji h₅ e it ((i:Int) + 1) old a true:=he₅
  refine wpAny_pure ?_
  simp only [Bool.false_eq_true,if_false]
  exact wpAny_pure ⟨_,rfl,wpAny_pure (hQ h₅ he₅ (hit₄.extBut hs₅.extBut (Ne.symm hne)) (hs₅.extBut _ _ (Nat.ne_of_gt hel) ht₄) (by rw [hs₅.1]; exact hz₄) fun b o hbe hbi hb=>hs₅.extBut b o hbe (hk₄ b o hbe hbi hb))⟩
theorem Zkg {e it l a:Addr} {f:Bool} {i:Nat} {items:Array Value} {old:Value} {Q:Option Value->Shared->Prop} (hh:A.handled = none)
  (he:Zji s.heap e it i old a f) (hit:s.heap.IsListIter it l i) (hl:s.heap.IsList l items) (hx:items[i]? = none)
  (hQ:∀ h',Heap.ExtBut it s.heap h'->Q none { s with heap:=h' }):wpAny (model prog w) A (pyNext (.ref e)) Q E s:=by
 have hT:s.TypeIs (.ref e) "enumerate" := ⟨_,he,rfl⟩
 unfold pyNext
 refine wpAny_bind (wpAny_attempt (wpAny_callSpecial?_slot (name:=Str.ofString "__next__") hT F.slot_enumerate_next
  (wpAny_call_entry F.slot_enumerate_next hT F.entry_enumerate_next ?_ (F.args_enumerate_next_1 _))))
 show wpAny _ _ (field (.ref e) 2 >>= _) _ _ _
 refine wpAny_bind (wpAny_field he rfl (x:=.ref it) rfl ?_)
 refine wpAny_bind (wpAny_nextOf_list_end hh hit hl hx fun h' x he' hx'=>?_)
 obtain ⟨o,ho,hc⟩:=hx'
 refine wpAny_bind (wpAny_isInstance (T:="StopIteration") (b:=true) ⟨o,ho,hc⟩ isSubtype_stop ?_)
 exact wpAny_pure (hQ _ he')
def EnSt (h:Heap) (e it S:Addr) (i:Nat):Prop:=
 (i = 0/\∃ old,IsEnum h e it 0 old)\/∃ old a f oa,Zji h e it i old a f/\h.get? a = some oa/\a ≠ e/\a ≠ it/\a ≠ S
theorem en_item {e it l S:Addr} {i:Nat} {items:Array Value} {x:Value} {Q:Option Value->Shared->Prop} (hst:EnSt s.heap e it S i) (hS:S < s.heap.objs.size) (hit:s.heap.IsListIter it l i) (hl:s.heap.IsList l items) (hx:items[i]? = some x) (hne:e ≠ it)
  (hQ:∀ h',EnSt h' e it S (i + 1)->h'.IsListIter it l (i + 1)->h'.get? s.heap.objs.size = some { cls:=.type "tuple",data:=.seq #[.int i s.toks,x] }->h'.objs.size = s.heap.objs.size + 1->
   (∀ b o,b ≠ e->b ≠ it->s.heap.get? b = some o->h'.get? b = some o)->Q (some (.ref s.heap.objs.size)) { s with heap:=h',toks:=s.toks + 1 }):
  wpAny (model prog w) A (pyNext (.ref e)) Q E s:=by
 rcases hst with ⟨rfl,old,he⟩ | ⟨old,a,f,oa,he,ha,h1,h2,h3⟩
 ·exact wpAny_pyNext_enum_item he hit hl hx hne fun h' ho hi' ht hz hk=>hQ h' (.inr ⟨x,_,false,_,ho,ht,Nat.ne_of_gt (Heap.lt_size he),Nat.ne_of_gt (by obtain ⟨_,z,_⟩:=hit; exact Heap.lt_size z),Nat.ne_of_gt hS⟩) hi' ht hz hk
 ·refine Zi7 he ha h1 h2 hit hl hx hne fun h' ho hi' ht hz hk=>hQ h' (.inr ⟨old,a,true,oa,?_,hk a oa h1 h2 ha,h1,h2,h3⟩) hi' ht hz hk
  have e1:((i + 1:Nat):Int) = (i:Int) + 1:=by omega
  rw [e1]
  exact ho
theorem en_done {e it l S:Addr} {i:Nat} {items:Array Value} {Q:Option Value->Shared->Prop} (hh:A.handled = none) (hst:EnSt s.heap e it S i) (hit:s.heap.IsListIter it l i) (hl:s.heap.IsList l items) (hx:items[i]? = none)
  (hQ:∀ h',Heap.ExtBut it s.heap h'->Q none { s with heap:=h' }):wpAny (model prog w) A (pyNext (.ref e)) Q E s:=by
 rcases hst with ⟨rfl,old,he⟩ | ⟨old,a,f,oa,he,ha,h1,h2,h3⟩
 ·exact wpAny_pyNext_enum_end hh he hit hl hx hQ
 ·exact Zkg hh he hit hl hx hQ
structure EnG (items:Array Value) (lo:Addr) (h:Heap) (as:List Addr):Prop where
 rise:as.Pairwise (· < ·)
 above:∀ a ∈ as,lo < a
 pairs:∀ (j:Nat) (a:Addr),as[j]? = some a->∃ t x,items[j]? = some x/\h.get? a = some { cls:=.type "tuple",data:=.seq #[.int j t,x] }
end
section
variable {prog:Program} {w:World} {A:Around} {s:Shared} {R:Result->Shared->Prop} {items:Array Value}
theorem en_loop {S e it l:Addr} (hh:A.handled = none) (hei:e ≠ it) (he:e < S) (hi:it < S) (hle:l ≠ e) (hli:l ≠ it) (hlS:l ≠ S) (hn:items.size<=sizeLine) (res:Value) {h₁:Heap}
  (hR:∀ h' tk acc c as,(∀ b o,b ≠ S->b ≠ e->b ≠ it->h₁.get? b = some o->h'.get? b = some o)->h'.get? S = some { cls:=.type "list",dict:=none,data:=.seq acc c,slots:=#[] }->as.length = items.size->EnG items S h' as->
   acc.toList = as.map Value.ref->R (.ok (.ret res)) { s with heap:=h',toks:=tk }):
  ∀ (k i:Nat) (h:Heap) (tk c:Nat) (acc:Array Value) (as:List Addr),items.size - i = k->i<=items.size->EnSt h e it S i->h.IsListIter it l i->h.IsList l items->(∀ b o,b ≠ S->b ≠ e->b ≠ it->h₁.get? b = some o->h.get? b = some o)->
   h.get? S = some { cls:=.type "list",dict:=none,data:=.seq acc c,slots:=#[] }->acc.toList = as.map Value.ref->as.length = i->EnG items S h as->
   codeAny (model prog w) A (.builtin "list.extend.loop" ⟨[.ref S,.ref e,res],[]⟩) R { s with heap:=h,toks:=tk }:=by
 have hSe:S ≠ e:=Nat.ne_of_gt he
 have hSi:S ≠ it:=Nat.ne_of_gt hi
 intro k
 induction k with
 | zero=>
  intro i h tk c acc as hk hi' hst hit hl hkeep hS hacc hal hG
  refine codeAny_builtin PySem.F.entry_extend_loop ?_
  rw [Around.under_plainId PySem.F.plain_extend_loop _]
  show wpAny _ A.in1 (pyNext (.ref e) >>= _) _ _ _
  refine wpAny_bind (en_done (s:={ s with heap:=h,toks:=tk }) (A:=A.in1) hh hst hit hl (Array.getElem?_eq_none (by omega)) fun h' hx=>?_)
  refine wpAny_pure (hR h' tk acc c as (fun b o h1 h2 h3 q=>hx b o h3 (hkeep b o h1 h2 h3 q)) (hx S _ hSi hS) (by omega) ⟨hG.rise,hG.above,fun j a hj=>?_⟩ hacc)
  obtain ⟨t,x,e1,e2⟩:=hG.pairs j a hj
  exact ⟨t,x,e1,hx a _ (Nat.ne_of_gt (Nat.lt_trans hi (hG.above a (List.mem_of_getElem? hj)))) e2⟩
 | succ k ih=>
  intro i h tk c acc as hk hi' hst hit hl hkeep hS hacc hal hG
  have hlt:i < items.size:=by omega
  have hx:items[i]? = some items[i]:=Array.getElem?_eq_getElem hlt
  have hSl:S < h.objs.size:=Heap.lt_size hS
  refine codeAny_builtin PySem.F.entry_extend_loop ?_
  rw [Around.under_plainId PySem.F.plain_extend_loop _]
  show wpAny _ A.in1 (pyNext (.ref e) >>= _) _ _ _
  refine wpAny_bind (en_item (s:={ s with heap:=h,toks:=tk }) (A:=A.in1) hst hSl hit hl hx hei fun h' hst' hit' ht hz hkp=>?_)
  have hS':=hkp S _ hSe hSi hS
  show wpAny _ A.in1 (updateSeq S (·.push (.ref h.objs.size)) >>= _) _ _ _
  have hsz:acc.size = i:=by
   have:=congrArg List.length hacc
   simp at this
   omega
  refine wpAny_bind (wpAny_updateSeq (hz:=by omega) hS' rfl ?_)
  have hS₂:=Heap.get?_update_self (Obj.mapSeq (·.push (Value.ref h.objs.size))) hS' rfl
  have up:∀ b o,b ≠ S->h'.get? b = some o->(h'.update S (Obj.mapSeq (·.push (Value.ref h.objs.size)))).get? b = some o:=fun b o hb q=>(Heap.get?_update_other _ _ (Ne.symm hb)).trans q
  refine wpAny_pure ⟨plainId_quiet PySem.F.plain_extend_loop _,ih (i + 1) _ _ _ _ (as ++ [h.objs.size]) (by omega) hlt ?_ (hit'.at fun o q=>up it o (Ne.symm hSi) q) ?_ (fun b o h1 h2 h3 q=>up b o h1 (hkp b o h2 h3 (hkeep b o h1 h2 h3 q))) hS₂ ?_ (by rw [List.length_append,hal]; rfl) ⟨?_,fun a ha=>?_,fun j a hj=>?_⟩⟩
  ·rcases hst' with ⟨z,_⟩ | ⟨old,a,f,oa,q1,q2,q3,q4,q5⟩
   ·omega
   ·exact .inr ⟨old,a,f,oa,up e _ (Ne.symm hSe) q1,up a _ q5 q2,q3,q4,q5⟩
  ·exact hl.at fun o q=>up l o hlS (hkp l o hle hli q)
  ·rw [List.map_append,<- hacc]
   exact Array.toList_push
  ·refine List.pairwise_append.mpr ⟨hG.rise,List.pairwise_singleton ..,fun a ha b hb=>?_⟩
   rw [List.mem_singleton.mp hb]
   obtain ⟨j,hj⟩:=List.mem_iff_getElem?.mp ha
   obtain ⟨_,_,_,q⟩:=hG.pairs j a hj
   exact Heap.lt_size q
  ·rcases List.mem_append.mp ha with ha | ha
   ·exact hG.above a ha
   ·rw [List.mem_singleton.mp ha]; exact hSl
  ·by_cases h0:j < as.length
   ·rw [List.getElem?_append_left h0] at hj
    obtain ⟨t,x,e1,e2⟩:=hG.pairs j a hj
    have ha:=hG.above a (List.mem_of_getElem? hj)
    exact ⟨t,x,e1,up a _ (Nat.ne_of_gt ha) (hkp a _ (Nat.ne_of_gt (Nat.lt_trans he ha)) (Nat.ne_of_gt (Nat.lt_trans hi ha)) e2)⟩
   ·rw [List.getElem?_append_right (by omega)] at hj
    by_cases h1:j = as.length
    ·subst h1
     rw [Nat.sub_self] at hj
     cases hj
     exact ⟨tk,items[i],by rw [hal]; exact hx,up _ _ (Nat.ne_of_gt hSl) (by rw [hal]; exact ht)⟩
    ·rw [List.getElem?_eq_none (by simp; omega)] at hj
     cases hj
end
section
variable {prog:Program} {w:World} {A:Around} {s:Shared} {E:Value->Shared->Prop}
theorem Zlm {R:Result->Shared->Prop} {e it l S:Addr} {items:Array Value} {res:Value} {c₀:Nat} (hh:A.handled = none) (he:IsEnum s.heap e it 0 .none) (hit:s.heap.IsListIter it l 0) (hl:s.heap.IsList l items) (hei:e ≠ it) (h1:e < S) (h2:it < S) (hle:l ≠ e) (hli:l ≠ it) (hlS:l ≠ S) (hn:items.size<=sizeLine) (hS:s.heap.get? S = some { cls:=.type "list",data:=.seq #[] c₀ })
  (hR:∀ h' tk acc c as,(∀ b o,b ≠ S->b ≠ e->b ≠ it->s.heap.get? b = some o->h'.get? b = some o)->h'.get? S = some { cls:=.type "list",dict:=none,data:=.seq acc c,slots:=#[] }->as.length = items.size->EnG items S h' as->
   acc.toList = as.map Value.ref->R (.ok (.ret res)) { s with heap:=h',toks:=tk }):
  wpAny (model prog w) A.in1 (Builtin.List.listExtendWith (.ref S) (.ref e) res)
   (fun fin s'=>match fin with | .done f=>R (.ok f) s' | .again c'=>c'.quiet = true/\codeAny (model prog w) A c' R s') (fun e s'=>R (.error e) s') s:=by
 have hSI:S ≠ e:=Nat.ne_of_gt h1
 have hT:s.TypeIs (.ref e) "enumerate" := ⟨_,he,rfl⟩
 unfold Builtin.List.listExtendWith
 refine wpAny_bind (wpAny_typeOf hT ?_)
 have h3:Builtin.List.listSameRef (.ref S) (.ref e) = false:=by simp [Builtin.List.listSameRef,hSI]
 have h4:(Value.type "enumerate" == Value.type "list") = false:=by decide
 have h5:(Value.type "enumerate" == Value.type "tuple") = false:=by decide
 simp only [h3,h4,h5,Bool.or_false,Bool.false_eq_true,if_false]
 refine wpAny_bind (wpAny_pyIter_enum he ?_)
 refine wpAny_bind (wpAny_holding ?_)
 unfold Builtin.List.listLengthHint
 refine wpAny_bind (wpAny_specialOf hT Zln ?_)
 refine wpAny_bind (wpAny_specialOf hT Zkf ?_)
 refine wpAny_pure ?_
 refine wpAny_bind (wpAny_rule ?_)
 refine wpAny_bind ?_
 show wpAny _ A.in1 (updateSeq S (·.push .none) >>= fun _=>updateSeq S (·.pop)) _ _ _
 refine wpAny_bind (wpAny_updateSeq hS rfl ?_)
 have hS₂:=Heap.get?_update_self (Obj.mapSeq (·.push Value.none)) hS rfl
 refine wpAny_updateSeq (hz:=by seq_fits) hS₂ rfl ?_
 have hS₃:=Heap.get?_update_self (Obj.mapSeq (·.pop)) hS₂ rfl
 have oth:∀ b o,b ≠ S->s.heap.get? b = some o->((s.heap.update S (Obj.mapSeq (·.push Value.none))).update S (Obj.mapSeq (·.pop))).get? b = some o:=
  fun b o hb e=>(Heap.get?_update_other _ _ (Ne.symm hb)).trans ((Heap.get?_update_other _ _ (Ne.symm hb)).trans e)
 refine wpAny_pure ⟨plainId_quiet F.plain_extend_loop _,?_⟩
 exact en_loop (s:=s) (h₁:=s.heap) hh hei h1 h2 hle hli hlS hn res hR items.size 0 _ s.toks _ #[] [] (Nat.sub_zero _) (Nat.zero_le _) (.inl ⟨rfl,_,oth e _ (Ne.symm hSI) he⟩) (hit.at fun o q=>oth it o (Nat.ne_of_lt h2) q) (hl.at fun o q=>oth l o hlS q) (fun b o hb _ _ q=>oth b o hb q) hS₃ rfl rfl
  ⟨List.Pairwise.nil,(fun _ ha=>nomatch ha),(fun j a hj=>by simp at hj)⟩
theorem Zov {Q:Value->Shared->Prop} {e it l:Addr} {items:Array Value} (hh:A.handled = none) (he:IsEnum s.heap e it 0 .none) (hit:s.heap.IsListIter it l 0) (hl:s.heap.IsList l items) (hei:e ≠ it) (hle:l ≠ e) (hli:l ≠ it) (hn:items.size<=sizeLine)
  (hQ:∀ h' t' acc c as,(∀ b o,b ≠ e->b ≠ it->s.heap.get? b = some o->h'.get? b = some o)->h'.get? s.heap.objs.size = some { cls:=.type "list",dict:=none,data:=.seq acc c,slots:=#[] }->as.length = items.size->EnG items s.heap.objs.size h' as->acc.toList = as.map Value.ref->
   Q (.ref s.heap.objs.size) { s with heap:=h',toks:=t' }):
  wpAny (model prog w) A (call (.type "list") [.ref e]) Q E s:=by
 obtain ⟨oi,hoi,_⟩:=id hit
 obtain ⟨ol,hol,_⟩:=id hl
 have l1:e < s.heap.objs.size:=Heap.lt_size he
 have l2:it < s.heap.objs.size:=Heap.lt_size hoi
 have l3:l < s.heap.objs.size:=Heap.lt_size hol
 refine callType_codes (Q₁:=fun obj s₁=>obj = .ref s.heap.objs.size/\s₁ = { s with heap:=s.heap.push { cls:=.type "list",data:=.seq #[] } }) F.called_list (F.typeCall_list_1 _) F.entry_list_init
  (code_list_new _ ⟨rfl,rfl⟩) fun obj s₁ h₁=>?_
 obtain ⟨rfl,rfl⟩:=h₁
 have hS:(s.heap.push { cls:=.type "list",data:=.seq #[] }).get? s.heap.objs.size = some { cls:=.type "list",data:=.seq #[] }:=Heap.get?_push_size _ rfl
 refine ⟨⟨_,hS,rfl⟩,F.args_list_init_2 _ _,?_⟩
 have old:∀ b o,s.heap.get? b = some o->(s.heap.push { cls:=.type "list",data:=.seq #[] }).get? b = some o:=fun b o e=>Heap.get?_push_of_some _ e
 have lts:∀ b o,s.heap.get? b = some o->b ≠ s.heap.objs.size:=fun b o q=>Nat.ne_of_lt (Heap.lt_size q)
 generalize hS0:s.heap.objs.size = S at *
 generalize s.heap.push { cls:=.type "list",data:=.seq #[] } = h1 at *
 show wpAny _ _ (do let old <- Builtin.List.listItems (.ref S); Builtin.List.listUpdate (.ref S) (fun _=>#[]); letGo old.toList.reverse; Builtin.List.listExtendWith (.ref S) (.ref e) .none) _ _ _
 refine wpAny_bind ?_
 unfold Builtin.List.listItems
 refine wpAny_bind (wpAny_seqItems (s:={ s with heap:=h1 }) hS rfl (wpAny_pure ?_))
 show wpAny _ _ (updateSeq S (fun _=>#[]) >>= fun _=>letGo (#[]:Array Value).toList.reverse >>= fun _=>Builtin.List.listExtendWith (.ref S) (.ref e) .none) _ _ _
 refine wpAny_bind (wpAny_updateSeq hS rfl ?_)
 have hS₂:=Heap.get?_update_self (Obj.mapSeq (fun _=>(#[]:Array Value))) hS rfl
 have oth:∀ b o,b ≠ S->s.heap.get? b = some o->(h1.update S (Obj.mapSeq (fun _=>(#[]:Array Value)))).get? b = some o:=
  fun b o hb e=>(Heap.get?_update_other _ _ (Ne.symm hb)).trans (old b o e)
 refine wpAny_bind (wpAny_letGo ?_)
 refine Zlm (A:=A.in1) (items:=items) hh (oth _ _ (Nat.ne_of_lt l1) he) (hit.at fun o x=>oth _ _ (Nat.ne_of_lt l2) x) (hl.at fun o x=>oth _ _ (Nat.ne_of_lt l3) x) hei l1 l2 hle hli (Nat.ne_of_lt l3) hn hS₂ fun h' tk acc c as hk hS' hal hG hacc=>?_
 exact ⟨rfl,hQ h' tk acc c as (fun b o n1 n2 q=>hk b o (lts b o q) n1 n2 (oth b o (lts b o q) q)) hS' hal hG hacc⟩
end
section
variable {X:Cx} {pins:List (Addr × Obj)} {σ:St}
theorem Zhy {H:Hp} {s:Shared} {items:Array Value} {xs:List V} {lo:Addr} {as:List Addr} (I:Inv X pins σ H s) (rv:Vals xs items.toList) (G:EnG items lo s.heap as) (hf:∀ a ∈ as,FpOk X pins H a) (h0:∀ a ∈ as,∀ u,X.s₀.heap.get? a ≠ some u):
  ∀ n,n<=as.length->∃ H',Inv X pins σ H' s/\Same H H'/\(∀ (j:Nat) a x,j < n->as[j]? = some a->xs[j]? = some x->H' a = some (.tup [.int j,x]))/\∀ b,b ∉ as.take n->H' b = H b
 | 0,_=>⟨H,I,Same.refl _,fun j a x h=>by omega,fun b _=>rfl⟩
 | n + 1,hn=>by
  obtain ⟨H1,I1,s1,h1,f1⟩:=Zhy I rv G hf h0 n (by omega)
  have ha:as[n]? = some (as[n]'(by omega)):=List.getElem?_eq_getElem _
  generalize as[n]'(by omega) = a at ha
  have hm:a ∈ as:=List.mem_of_getElem? ha
  obtain ⟨t,x,e1,e2⟩:=G.pairs n a ha
  obtain ⟨v,hv,rx⟩:∃ v,xs[n]? = some v/\RelV v x:=by
   have e1':items.toList[n]? = some x:=by rw [Array.getElem?_toList]; exact e1
   have hl:=rv.length
   have hlt:n < xs.length:=by rw [hl]; exact (List.getElem?_eq_some_iff.mp e1').1
   obtain ⟨u,hu,ru⟩:=rv.get (List.getElem?_eq_getElem hlt)
   rw [e1'] at hu
   cases hu
   exact ⟨_,List.getElem?_eq_getElem hlt,ru⟩
  have nin:a ∉ as.take n:=fun z=>by
   obtain ⟨j,hj,e⟩:=List.mem_iff_getElem.mp z
   rw [List.length_take] at hj
   rw [List.getElem_take] at e
   have hlt:n < as.length:=by omega
   have:=List.pairwise_iff_getElem.mp G.rise j n (by omega) hlt (by omega)
   rw [List.getElem?_eq_getElem hlt] at ha
   cases ha
   rw [e] at this
   exact absurd this (Nat.lt_irrefl _)
  obtain ⟨p1,p2,p3,p4,p5,p6⟩:=hf a hm
  have hn1:H1 a = none:=by rw [f1 a nin]; exact p1
  refine ⟨upd H1 a (.tup [.int n,v]),I1.track hn1 (h0 a hm) p2 p5 p6 ⟨show 2<=sizeLine by decide,[.int n t,x],.cons ⟨t,rfl⟩ (.cons rx .nil),⟨_,e2,rfl,_,rfl⟩⟩,s1.upd p1,fun j b y hj hb hy=>?_,fun b hb=>?_⟩
  ·by_cases hjn:j = n
   ·subst hjn
    rw [ha] at hb
    cases hb
    rw [hv] at hy
    cases hy
    exact Zad
   ·have:=h1 j b y (by omega) hb hy
    rw [Zap (fun z=>by rw [z,hn1] at this; cases this)]
    exact this
  ·rw [List.take_add_one,ha] at hb
   have h2:b ≠ a/\b ∉ as.take n:=by
    constructor
    ·intro z; exact hb (by rw [z]; simp)
    ·intro z; exact hb (List.mem_append.mpr (.inl z))
   rw [Zap h2.1]
   exact f1 b h2.2
def tLE (K:PySem.W.Frag) (ta:TA):TE:=fun σ H Q=>ta σ H fun vs H1=>∃ a xs,vs = [.ref a]/\SqL K H1 a xs/\∀ (l:Addr) (ps:List Addr) (H':Hp),Same H1 H'->H1 l = none->(∀ q ∈ ps,q ≠ l)->H' l = some (.lst (ps.map V.ref))->ps.length = xs.length->
 (∀ (i:Nat) q x,ps[i]? = some q->xs[i]? = some x->H' q = some (.tup [.int i,x]))->Q (.ref l) H'
theorem pe_le {p p2 pos pos2:Pos} {a:Expr} {ta:TA} (hc:X.calm = true) (hg:Gl X "list") (hm:X.mg "list" = none) (hg2:Gl X "enumerate") (hm2:X.mg "enumerate" = none) (ha:PA X [a] ta) (h:Zb3 a = false:=by rfl):
  PE X (.Call (.Name "list" p) [.Call (.Name "enumerate" p2) [a] [] pos2] [] pos) (tLE X.K ta):=by
 intro pins s σ H Q I hh
 refine Call_ (Zew I hg hm boot_list (PyProof.Rows.callWith_type1 ?_ (by rfl) (by rfl)))
 show wpAny _ _ (spliced ((false,eval (.Call (.Name "enumerate" p2) [a] [] pos2) X.env) :: backTo pos (starEach [] X.env))) _ _ s
 refine Calls.spliced_cons (Call_ (Zew I hg2 hm2 boot_enumerate (PyProof.Rows.callWith_type1 (thn (ha pos2 pins s σ H _ I hh) fun us s1 ⟨vs,H1,I1,r1,q1⟩=>?_) (by rw [Za6 h]) (by rfl))))
 obtain ⟨c,xs,e,hq1,q⟩:=q1
 subst e
 cases r1 with
 | cons r rr=>
  cases rr
  cases r
  obtain ⟨its,rv,p1,hz1⟩:=I1.list hq1
  refine call_enumerate_list p1.isList fun h' a1 a2 a3 a4=>?_
  refine Calls.spliced_nil ?_
  obtain ⟨oc,hoc,_⟩:=id p1.isList
  have clt:c < s1.heap.objs.size:=Heap.lt_size hoc
  have hln:=rv.length
  refine Zov (items:=its.toArray) (I.ok.hd hc) a1 a2 (p1.isList.at fun o x=>a4 _ _ x) (Nat.succ_ne_self _) (Nat.ne_of_lt (Nat.lt_succ_of_lt clt)) (Nat.ne_of_lt clt) (by rw [List.size_toArray]; omega) fun h'' t' acc cc as kp hn hal hG hacc=>?_
  have old:∀ b o,s1.heap.get? b = some o->h''.get? b = some o:=fun b o x=>kp b o (fun z=>absurd (Heap.lt_size x) (by rw [z]; exact Nat.not_lt.mpr (Nat.le_succ _))) (fun z=>absurd (Heap.lt_size x) (by rw [z]; exact Nat.lt_irrefl _)) (a4 b o x)
  have I2:Inv X pins σ H1 { s1 with heap:=h'',toks:=t' }:=I1.kept old
  have big:∀ {b:Addr},s1.heap.objs.size<=b->FpOk X pins H1 b/\∀ u,X.s₀.heap.get? b ≠ some u:=fun {b} hb=>⟨I1.fpOk hb (I1.hok.fresh hb),fun u z=>absurd (Heap.lt_size z) (Nat.not_lt.mpr (Nat.le_trans I1.sz hb))⟩
  have ab:∀ b ∈ as,s1.heap.objs.size<=b:=fun b hb=>by
   have h9:h'.objs.size < b:=hG.above b hb
   omega
  obtain ⟨H2,I3,s2,ht,hf⟩:=Zhy (items:=its.toArray) (xs:=xs) I2 rv hG (fun b hb=>(big (ab b hb)).1) (fun b hb=>(big (ab b hb)).2) as.length (Nat.le_refl _)
  have hSb:s1.heap.objs.size<=h'.objs.size:=by omega
  have nS:h'.objs.size ∉ as:=fun z=>absurd (hG.above _ z) (Nat.lt_irrefl _)
  obtain ⟨⟨p1',p2',p3',p4',p5',p6'⟩,p7⟩:=big hSb
  have n2:H2 h'.objs.size = none:=by rw [hf _ (by rw [List.take_length]; exact nS)]; exact p1'
  rw [List.size_toArray] at hal
  have I4:=I3.track (a:=h'.objs.size) (o:=.lst (as.map V.ref)) n2 p7 p2' p5' p6' ⟨by rw [List.length_map]; omega,acc.toList,cc,?_,hn⟩
  ·refine ⟨.ref h'.objs.size,_,I4,rfl,q _ as _ (s2.upd p1') p1' (fun b hb z=>nS (z ▸ hb)) Zad (by omega) fun i b x hb hx=>?_⟩
   rw [Zap (fun z:b = h'.objs.size=>nS (z ▸ List.mem_of_getElem? hb))]
   exact ht i b x (List.getElem?_eq_some_iff.mp hb).1 hb hx
  ·rw [hacc]
   have:∀ l:List Addr,Vals (l.map V.ref) (l.map Value.ref):=fun l=>by
    induction l with
    | nil=>exact .nil
    | cons b l ih=>exact .cons rfl ih
   exact this as
end
section
variable {X:Cx}
def gSl0 (to:TE) (th:TO):TG:=fun v σ H Q=>to σ H fun x H1=>th σ H1 fun u H2=>∃ l b xs ys,∃ c:Int,x = .ref l/\v = .ref b/\u = some c/\H2 l = some (.lst xs)/\H2 b = some (.lst ys)/\l ≠ b/\0<=c/\c<=xs.length/\xs.length + ys.length<=sizeLine/\Q σ (upd H2 l (.lst (ys ++ xs.drop c.toNat)))
theorem Zn5 {o hi:Expr} {to:TE} {th:TO} {p2 pos:Pos} (ho:PE X o to) (hu:PO X (some hi) th):PG X (.Subscript o (.Slice none (some hi) none p2) pos) (gSl0 to th):=by
 intro pins s σ H v u Q I r h
 show wpAny _ _ (assign (.Subscript o (.Slice none (some hi) none p2) pos) X.env u) _ _ s
 have ha:assign (.Subscript o (.Slice none (some hi) none p2) pos) X.env u = (do
   let ov <- holding [u] (eval o X.env)
   let iv <- holding [u,ov] (eval (.Slice none (some hi) none p2) X.env)
   standAt pos
   holding [u,ov,iv] (setItem ov iv u)
   release [iv,u,ov] []):=rfl
 rw [ha]
 refine wpAny_bind (wpAny_holding (thn (ho pins s σ H _ I h) fun ov s1 ⟨x,H1,I1,r1,q1⟩=>?_))
 refine wpAny_bind (wpAny_holding (wpAny_Slice ?_))
 rw [evalPart_none]
 refine wpAny_pure (thn (hu pins s1 σ H1 _ I1 q1) fun vu s3 ⟨uu,H3,I3,pu,q3⟩=>?_)
 refine wpAny_pure ?_
 obtain ⟨l,b,xs,ys,c,rfl,rfl,rfl,hl,hb,hne,c0,c1,hz,q⟩:=q3
 cases r1
 cases r
 obtain ⟨c',rfl⟩:=Int.eq_ofNat_of_zero_le c0
 have I4:Inv X pins σ H3 { s3 with heap:=s3.heap.push { cls:=.type "slice",data:=.fields #[.none,vu,.none] } }:=I3.kept (t':=s3.toks) fun b ob q=>Heap.get?_push_of_some _ q
 refine wpAny_bind (wpAny_standAt (wpAny_bind (wpAny_holding ?_)))
 obtain ⟨z,its,n,rr,hln,e⟩:=I4.lstM hl
 obtain ⟨z2,its2,n2,rr2,hln2,e2⟩:=I4.lstM hb
 refine Zhu (c:=c') e e2 hne (Heap.IsSliceOf.new ..) .none pu (by rw [List.size_toArray]; omega) (by rw [List.size_toArray,List.size_toArray]; omega) ?_
 refine wpAny_release ⟨σ,_,I4.lset (its':=its2 ++ its.drop c') (t':=s3.toks) hl e ?_ (Vals.append rr2 (rr.drop _)) ?_,q⟩
 ·have:=Zng its its2 0 c'
  simpa using this
 ·rw [List.length_append,List.length_drop]
  omega
end
section
variable {K:PySem.W.Frag} {a b D:Addr} {xs ys:List V} {g:TG} {tt:TT} {te:TE} {k:Nat} {fr:List (Str × Nat)} {σ:St} {H1:Hp} {Q:VK}
theorem Zpr (Pv:Nat->List V->Hp->Prop) (hlen:ys.length<=xs.length) (h0:Pv 0 [] (upd H1 D (.lst []))) (hl:∀ i vs H,i<=ys.length->Pv i vs H->SqL K H a xs/\SqL K H b ys)
  (hs:∀ i x y p vs σ' H,i < ys.length->xs[i]? = some x->ys[i]? = some y->H p = none->Sh k (Zcb fr σ) σ'->Pv i vs H->Zfo g tt te D ys.length k (Zcb fr σ) Pv i (.ref p) σ' (upd H p (.tup [x,y]))) (hd:∀ vs H,Pv ys.length vs H->Q (.ref D) H):
  Zcl g tt te (Itz K a b) D (Zgt k fr σ) H1 Q:=by
 refine ⟨Wv ys.length k (Zcb fr σ) Pv,⟨ys.length,by simp,Nat.zero_le _,sh0,[],h0⟩,?_⟩
 rintro i m σ' H2 ⟨rfl,hi,sh,vs,p⟩
 obtain ⟨q1,q2⟩:=hl i vs H2 hi p
 by_cases hlt:i < ys.length
 ·refine .inr ⟨⟨xs,ys,xs[i]'(by omega),ys[i],q1,q2,List.getElem?_eq_getElem _,List.getElem?_eq_getElem _⟩,fun x H3 y=>?_⟩
  obtain ⟨u,v,pp,rfl,hp,rfl,e1,e2⟩:=y
  exact hs i u v pp vs σ' _ hlt (e1 _ q1) (e2 _ q2) hp sh p
 ·have e:i = ys.length:=by omega
  subst e
  exact .inl ⟨⟨xs,ys,q1,q2,.inr (Nat.le_refl _)⟩,hd vs H2 p⟩
end
theorem Zoa {X:Cx} (K:PySem.W.Frag) (hK:X.K = K) (hu:X.A.units + 8 < cLine):OpR X (compareOp .NotEq) (rNeN K):=hK ▸ op_neN hu
end L2
namespace L2
open PySem PySem.Spec PyProof.Rows
def Bt (n:Nat) (z:Int):Prop:=z.natAbs < 2 ^ n
theorem Bt.le {n m:Nat} {z:Int} (h:Bt n z) (hm:n<=m):Bt m z:=Nat.lt_of_lt_of_le h (Nat.pow_le_pow_right (by decide) hm)
theorem Bt.mul {n m:Nat} {x y:Int} (h:Bt n x) (h':Bt m y):Bt (n + m) (x * y):=by
 unfold Bt at *
 rw [Int.natAbs_mul,Nat.pow_add]
 exact Nat.mul_lt_mul'' h h'
theorem Bt.add {n:Nat} {x y:Int} (h:Bt n x) (h':Bt n y):Bt (n + 1) (x + y):=by
 unfold Bt at *
 rw [Nat.pow_succ]
 omega
theorem Bt.sub {n:Nat} {x y:Int} (h:Bt n x) (h':Bt n y):Bt (n + 1) (x - y):=by
 unfold Bt at *
 rw [Nat.pow_succ]
 omega
theorem Bt.neg {n:Nat} {x:Int} (h:Bt n x):Bt n (-x):=by unfold Bt at *; rw [Int.natAbs_neg]; exact h
theorem Bt.abs_le {n:Nat} {x y:Int} (h:Bt n x) (hy:y.natAbs<=x.natAbs):Bt n y:=Nat.lt_of_le_of_lt hy h
theorem Bt.quo {n:Nat} {x y:Int} (h:Bt n x) (hd:y ∣ x):Bt n (x / y):=h.abs_le (by
 rw [Int.natAbs_ediv,if_pos (.inr (.inr hd))]
 exact Nat.div_le_self _ _)
theorem Zhq (n:Nat):Bt n 0:=Nat.two_pow_pos n
theorem Za5 {n:Nat} {z:Int} (hn:7<=n) (h:z.natAbs < 128):Bt n z:=Nat.lt_of_lt_of_le h (Nat.pow_le_pow_right (show 0 < 2 by decide) hn)
theorem Bt.bits {n:Nat} {z:Int} (h:Bt n z):Builtin.Int.intBits z<=n:=bits_le h
theorem Bt.ok {n m:Nat} {x y:Int} (h:Bt n x) (h':Bt m y) (hs:n + m<=134217728):IntMulOk x y:=mulOk_of_bits h.bits h'.bits hs
theorem Zcd {X:Cx} (ht:X.prog.given.tree = none) (hd:X.A.depth + Builtin.pylongFrames < recursionLimit):OpR X (binaryOp .FloorDiv) (rI (fun _ j=>j ≠ 0) fun i j=>.int (i.fdiv j)):=by
 intro pins s σ H x y v u Q I rx ry h
 obtain ⟨i,j,rfl,rfl,hc,q⟩:=h
 obtain ⟨t,rfl⟩:=rx
 obtain ⟨t',rfl⟩:=ry
 exact floordiv_int hc ⟨.int (i.fdiv j),H,I.tok _,⟨_,rfl⟩,q⟩ (.inr (I.long ht hd))
theorem Zbw {k:Nat} {A:Around} (hr:Room k A):A.depth + Builtin.pylongFrames < recursionLimit:=by
 have:=hr.dp
 have e:Builtin.pylongFrames<=200:=by decide
 omega
theorem Zc2 {i j:Int} (h:0 < j):i.fdiv j = i / j:=Int.fdiv_eq_ediv_of_nonneg i (by omega)
theorem Zrn {a b c d x y:Int} (h:a * d - b * c = 1\/a * d - b * c = -1):Int.gcd (a * x + b * y) (c * x + d * y) = Int.gcd x y:=by
 apply Nat.dvd_antisymm
 ·have h1:((Int.gcd (a * x + b * y) (c * x + d * y):Nat):Int) ∣ a * x + b * y:=Int.gcd_dvd_left ..
  have h2:((Int.gcd (a * x + b * y) (c * x + d * y):Nat):Int) ∣ c * x + d * y:=Int.gcd_dvd_right ..
  generalize Int.gcd (a * x + b * y) (c * x + d * y) = g at *
  obtain ⟨u,hu⟩:=h1
  obtain ⟨v,hv⟩:=h2
  have dx:(g:Int) ∣ x:=by
   rcases h with h | h
   ·exact ⟨d * u - b * v,by grind⟩
   ·exact ⟨b * v - d * u,by grind⟩
  have dy:(g:Int) ∣ y:=by
   rcases h with h | h
   ·exact ⟨a * v - c * u,by grind⟩
   ·exact ⟨c * u - a * v,by grind⟩
  exact Int.ofNat_dvd.mp (Int.dvd_coe_gcd dx dy)
 ·have h1:((Int.gcd x y:Nat):Int) ∣ x:=Int.gcd_dvd_left ..
  have h2:((Int.gcd x y:Nat):Int) ∣ y:=Int.gcd_dvd_right ..
  generalize Int.gcd x y = g at *
  obtain ⟨u,hu⟩:=h1
  obtain ⟨v,hv⟩:=h2
  exact Int.ofNat_dvd.mp (Int.dvd_coe_gcd ⟨a * u + b * v,by grind⟩ ⟨c * u + d * v,by grind⟩)
structure Steps (x0 y0 a b c d x y:Int):Prop where
 hx:a * x0 + b * y0 = x
 hy:c * x0 + d * y0 = y
 sg:∃ e:Int,(e = 1\/e = -1)/\a * d - b * c = e/\0<=e * a/\0<=-(e * b)/\0<=-(e * c)/\0<=e * d
 x64:18446744073709551616<=x
 yn:0<=y
 yx:y<=x
 ab:a.natAbs < 4611686018427387904/\b.natAbs < 4611686018427387904
 pr:(a = 1/\b = 0/\c = 0/\d = 1)\/(b ≠ 0/\x + y + 18446744073709551616<=x0 + y0)
theorem Zj4 {u x m:Int} (hu:0<=u) (hx:18446744073709551616<=x) (h:u * x<=m) (hm:m < 85070591730234615865843651857942052864):u < 4611686018427387904:=by
 apply Classical.byContradiction
 intro z
 have h1:(4611686018427387904:Int) * 18446744073709551616<=u * x:=Int.mul_le_mul (by omega) hx (by omega) hu
 omega
theorem Steps.cd {x0 y0 a b c d x y:Int} (h:Steps x0 y0 a b c d x y) (h0:x0 < 85070591730234615865843651857942052864) (h1:y0<=x0):c.natAbs < 4611686018427387904/\d.natAbs < 4611686018427387904:=by
 obtain ⟨e,he,det,sa,sb,sc,sd⟩:=h.sg
 have ee:e * e = 1:=by rcases he with rfl | rfl <;> rfl
 have ex:(e * d) * x + (-(e * b)) * y = x0:=by
  rw [<- h.hx,<- h.hy]
  have:(e * d) * (a * x0 + b * y0) + (-(e * b)) * (c * x0 + d * y0) = e * (a * d - b * c) * x0:=by grind
  rw [this,det,ee,Int.one_mul]
 have ey:(-(e * c)) * x + (e * a) * y = y0:=by
  rw [<- h.hx,<- h.hy]
  have:(-(e * c)) * (a * x0 + b * y0) + (e * a) * (c * x0 + d * y0) = e * (a * d - b * c) * y0:=by grind
  rw [this,det,ee,Int.one_mul]
 have p1:0<=(-(e * b)) * y:=Int.mul_nonneg sb h.yn
 have p2:0<=(e * a) * y:=Int.mul_nonneg sa h.yn
 have q1:=Zj4 sd h.x64 (show (e * d) * x<=x0 by omega) h0
 have q2:=Zj4 sc h.x64 (show (-(e * c)) * x<=x0 by omega) h0
 constructor
 ·rcases he with rfl | rfl <;> omega
 ·rcases he with rfl | rfl <;> omega
theorem Steps.next {x0 y0 a b c d x y:Int} (h:Steps x0 y0 a b c d x y) (h0:x0 < 85070591730234615865843651857942052864) (h1:y0<=x0) (hy:18446744073709551616<=y):Steps x0 y0 c d (a - x / y * c) (b - x / y * d) y (x - x / y * y):=by
 have cd:=h.cd h0 h1
 obtain ⟨e,he,det,sa,sb,sc,sd⟩:=h.sg
 have m0:0<=x / y:=Int.ediv_nonneg (by have:=h.x64; omega) (by omega)
 have m1:1<=x / y:=by
  have:=h.yx
  exact (Int.le_ediv_iff_mul_le (by omega)).mpr (by omega)
 have hr:x - x / y * y = x % y:=by
  have:=Int.emod_add_mul_ediv x y
  rw [Int.mul_comm y] at this
  omega
 have r0:=Int.emod_nonneg x (show y ≠ 0 by omega)
 have r1:=Int.emod_lt_of_pos x (show 0 < y by omega)
 have e1:=h.hx
 have e2:=h.hy
 generalize hq:x / y = q at *
 have qy:y<=q * y:=by
  have:=Int.mul_le_mul_of_nonneg_right m1 (show 0<=y by omega)
  omega
 refine ⟨h.hy,by rw [<- e1,<- e2]; grind,⟨-e,?_,by grind,by grind,by grind,?_,?_⟩,hy,by omega,by omega,cd,.inr ⟨?_,?_⟩⟩
 ·rcases he with rfl | rfl <;> simp
 ·have p:=Int.mul_nonneg m0 sc
  have:-(-e * (a - q * c)) = e * a + q * -(e * c):=by grind
  omega
 ·have p:=Int.mul_nonneg m0 sd
  have:-e * (b - q * d) = -(e * b) + q * (e * d):=by grind
  omega
 ·rcases h.pr with ⟨_,_,_,rfl⟩ | ⟨hb,_⟩
  ·decide
  ·intro z
   subst z
   have hbc:-(b * c) = e:=by rw [<- det]; grind
   -- b * c = -e,d = 0: then y = c * x0 and x = a * x0 + b * y0
   have hc1:c.natAbs = 1:=by
    have:b.natAbs * c.natAbs = 1:=by rw [<- Int.natAbs_mul]; rcases he with rfl | rfl <;> omega
    exact Nat.eq_one_of_mul_eq_one_left this
   have e2':c * x0 = y:=by rw [<- e2]; grind
   have hc:c = 1:=by
    rcases (show c = 1\/c = -1 by omega) with z | z
    ·exact z
    ·subst z
     have:=h.x64
     have:=h.yx
     omega
   subst hc
   rcases h.pr with ⟨_,hb0,_⟩ | ⟨_,hs⟩
   ·exact hb hb0
   ·have:=h.x64
    have:=h.yx
    have:=h.yn
    omega
 ·rcases h.pr with ⟨rfl,rfl,rfl,rfl⟩ | ⟨_,hs⟩
  ·have g1:x0 = x:=by rw [<- e1]; grind
   have g2:y0 = y:=by rw [<- e2]; grind
   omega
  ·omega
end L2
namespace L2
open PySem PySem.Spec PyProof.Rows PySem.W
def Zki (X:Cx) (N:List Str) (qual:Str) (scope:Scope) (cl:List (Str × Addr)) (f:Addr) (cd:Value) (A:Around) (s:Shared) (H:Hp):Cx where
 prog:=X.prog
 w:=X.w
 K:=X.K
 mg:=X.mg
 base:=X.base
 A:=A.deeper (envX qual scope s.heap.objs.size f cd cl)
 N:=N
 s₀:=s
 H₀:=H
 env:=envX qual scope s.heap.objs.size f cd cl
 outer:=X.stack
 stack:=envX qual scope s.heap.objs.size f cd cl :: X.stack
 ex:=[]
 fn:=fun _=>false
 calm:=true
 pn:=[]
 xe:=fun _ _=>False
structure LamScope (X:Cx) (sc:Scope) (x:Str) (fr:List (Str × Nat)):Prop where
 kind:sc.kind = .function
 co:sc.isCoroutine = false
 gen:sc.isGenerator = false
 nocell:∀ y ∈ sc.names,y.2 ≠ .cell
 par:sc.names.lookup x = some .local
 free:∀ y ∈ sc.names,y.2 = .free->X.env.scope.names.lookup y.1 = some .cell\/X.env.scope.names.lookup y.1 = some .free
 cap:∀ y ∈ fr,sc.names.lookup y.1 = some .free/\X.N[y.2]? = some y.1
abbrev Zp4 (x:Str) (fr:List (Str × Nat)):List Str:=x :: fr.map (·.1)
abbrev Zsk (v:V) (fr:List (Str × Nat)) (σ:St):St:=some v :: fr.map fun y=>(σ[y.2]?).getD none
section
variable {X:Cx} {pins:List (Addr × Obj)} {σ:St} {H:Hp} {s:Shared} {A:Around} {sc:Scope} {x:Str} {fr:List (Str × Nat)} {cl:List (Str × Addr)} {f:Addr} {cd:Value} {qual:Str}
theorem inv_lam {h':Heap} {v:V} {u:Value} (I:Inv X pins σ H s) (B:LamScope X sc x fr) (hfr:A.frames = some X.stack) (hd:A.handled = none)
  (hcl:∀ x c,cl.lookup x = some c->X.env.cells.lookup x = some c) (hcl2:∀ y ∈ sc.names,y.2 = .free->∃ c,cl.lookup y.1 = some c) (rv:RelV v u)
  (hn:h'.Ns s.heap.objs.size (fun y=>[(x,u)].reverse.lookup y)) (hk:∀ b o,s.heap.get? b = some o->h'.get? b = some o):
  Inv (Zki X (Zp4 x fr) qual sc cl f cd A s H) [] (Zsk v fr σ) H { s with heap:=h',toks:=s.toks + 1 }:=by
 have bsz:X.base.objs.size<=s.heap.objs.size:=Nat.le_trans I.ok.bsz I.sz
 have noA:∀ b:Addr,b ∉ (Zki X (Zp4 x fr) qual sc cl f cd A s H).ex:=fun b z=>absurd (show b ∈ ([]:List Addr) from z) (by simp)
 refine ⟨⟨I.ok.mod,B.kind,rfl,rfl,Nat.le_refl _,fun y z c h1 h2=>I.ok.inj y z c (hcl y c h1) (hcl z c h2),fun y hy=>?_,fun y c hf _=>absurd (show false = true from hf) Bool.false_ne_true,fun _=>hd,Around.frames_deeper hfr,.inr ⟨rfl,rfl⟩,fun b z=>absurd z (noA b),I.bs,bsz,fun b _ _=>noA b,fun b z=>absurd z (noA b),I.stack,I.stkFree,⟨_,_,rfl,B.gen,B.co,rfl,rfl⟩⟩,
  rfl,I.bare,Un.kept hk,⟨_,hn,fun i y w h1 h2 h3=>?_⟩,fun y c e=>?_,I.hok.fresh (Nat.le_refl _),fun y c e=>I.freeC y c (hcl y c e),fun p hp=>absurd (show p ∈ ([]:List (Addr × Obj)) from hp) (by simp),I.hok.kept hk,by show (Zsk v fr σ).length = (Zp4 x fr).length; simp⟩
 ·have hy:sc.names.lookup y = some .cell\/sc.names.lookup y = some .free:=hy
  rcases hy with z | z
  ·exact absurd rfl (B.nocell _ (PySem.mem_of_lookup z))
  ·exact hcl2 _ (PySem.mem_of_lookup z) rfl
 ·have h1:(Zp4 x fr)[i]? = some y:=h1
  cases i with
  | zero=>
   have e1:x = y:=Option.some.inj h1
   have e2:some v = some w:=Option.some.inj h2
   cases e2
   subst e1
   exact ⟨u,rv,.inl ⟨B.par,by simp⟩⟩
  | succ i=>
   rw [List.getElem?_cons_succ,List.getElem?_map] at h1 h2
   cases e:fr[i]? with
   | none=>rw [e] at h1; cases h1
   | some z=>
    rw [e] at h1 h2
    have hy1:z.1 = y:=Option.some.inj h1
    have hy2:(σ[z.2]?).getD none = some w:=Option.some.inj h2
    obtain ⟨c1,c2⟩:=B.cap z (List.mem_of_getElem? e)
    rw [hy1] at c1 c2
    have hs:σ[z.2]? = some (some w):=by
     cases e2:σ[z.2]? with
     | none=>rw [e2] at hy2; cases hy2
     | some o=>rw [e2] at hy2; cases o with
      | none=>cases hy2
      | some w=>cases hy2; rfl
    obtain ⟨m,hm,hl⟩:=I.loc
    have hfree:=B.free _ (PySem.mem_of_lookup c1) rfl
    obtain ⟨u',r,l⟩:=hl z.2 y w c2 hs (hfree.elim (fun z=>.inr (.inl z)) fun z=>.inr (.inr z))
    refine ⟨u',r,?_⟩
    obtain ⟨k,c,e3,ce⟩:(X.env.kindOf y = some .cell\/X.env.kindOf y = some .free)/\∃ c,X.env.cells.lookup y = some c/\s.heap.IsCell c (some u'):=by
     rcases l with ⟨k,_⟩ | q
     ·have k:X.env.scope.names.lookup y = some .local:=k
      rcases hfree with z | z <;> (rw [z] at k; cases k)
     ·exact q
    obtain ⟨d,hd'⟩:=hcl2 _ (PySem.mem_of_lookup c1) rfl
    have hd2:=hcl y d hd'
    rw [e3] at hd2
    cases hd2
    exact .inr ⟨.inr c1,c,hd',ce.keeps hk⟩
 ·obtain ⟨w,q⟩:=I.cell y c (hcl y c e)
  exact ⟨w,q.keeps hk⟩
theorem run_lam {c':Addr} {params:Arguments} {body:Expr} {name:Str} {pm ctv:Value} {v:V} {u:Value} {te:TE} {Q:VK} (I:Inv X pins σ H s) (B:LamScope X sc x fr) (hfr:A.frames = some X.stack) (hd:A.handled = none) (hroom:A.depth < recursionLimit)
  (hcl:∀ x c,cl.lookup x = some c->X.env.cells.lookup x = some c) (hcl2:∀ y ∈ sc.names,y.2 = .free->∃ c,cl.lookup y.1 = some c) (rv:RelV v u)
  (hf:s.heap.get? f = some (kla_obj name qual params body sc cl pm c' ctv)) (hcd:s.heap.CodeRec (.ref c') qual)
  (hb:bindArgs (kla_fn name qual params body sc cl pm (.ref c') ctv) ⟨[u],[]⟩ = pure [(x,u)])
  (he:PE (Zki X (Zp4 x fr) qual sc cl f (.ref c') A.in1 s H) body te) (q:te (Zsk v fr σ) H Q):
  wpAny (model X.prog X.w) A.in1 (call (.ref f) [u]) (EP X pins σ Q) (fun _ _=>False) s:=by
 refine wpAny_call (kla_callFunE (A:=A.in1) hroom hf rfl B.co B.gen rfl hcd ?_)
 rw [hb]
 refine wpAny_pure (wpAny_newFunctionEnv B.nocell (fun y hy=>?_) (fun h₁ hns hsb=>⟨I.nolimit.fresh _ hsb,?_⟩) B.kind)
 ·rw [List.mem_singleton.mp hy]
  exact B.par
 ·show codeAny _ _ (.expr body (envX qual sc s.heap.objs.size f (.ref c') cl)) _ _
  have hk₁:∀ b o,s.heap.get? b = some o->h₁.get? b = some o:=fun b o e=>hsb.extBut b o (Nat.ne_of_lt (Heap.lt_size e)) (Heap.get?_push_of_some _ e)
  have I1:Inv (Zki X (Zp4 x fr) qual sc cl f (.ref c') A.in1 s H) [] (Zsk v fr σ) H { s with heap:=h₁,toks:=s.toks + 1 }:=inv_lam (A:=A.in1) I B hfr hd hcl hcl2 rv hns hk₁
  refine kla_codeExpr (wpAny_mono (he [] _ _ _ _ I1 q) (fun y s' h=>?_) fun _ _ h=>h.elim)
  obtain ⟨v',H',J,r',q'⟩:=h
  exact I.after ⟨v',H',J.os,J.bare,J.base,J.hok,r',q'⟩
end
structure LamAt (X:Cx) (pins:List (Addr × Obj)) (sc:Scope) (params:Arguments) (body:Expr) (qual:Str) (P:Addr) (H:Hp) (s:Shared) (f c':Addr) (cl:List (Str × Addr)) (ctv pm:Value):Prop where
 fn:s.heap.get? f = some (kla_obj "<lambda>" qual params body sc cl pm c' ctv)
 fp:FpOk X pins H f
 cod:∃ oc vs t,H c' = some (.frz oc (.own P))/\oc.data = .fields vs/\vs[1]? = some (.str qual t)
 hcl:∀ x c,cl.lookup x = some c->X.env.cells.lookup x = some c
 hcl2:∀ y ∈ sc.names,y.2 = .free->∃ c,cl.lookup y.1 = some c
section
variable {X:Cx} {pins:List (Addr × Obj)} {σ:St} {H:Hp} {s:Shared} {sc:Scope} {x:Str} {fr:List (Str × Nat)} {P c:Addr} {params:Arguments} {body:Expr} {pos:Pos}
theorem LamAt.code {H:Hp} {s:Shared} {f c':Addr} {cl:List (Str × Addr)} {ctv pm:Value} {qual:Str} (L:LamAt X pins sc params body qual P H s f c' cl ctv pm) (I:Inv X pins σ H s):s.heap.CodeRec (.ref c') qual:=by
 obtain ⟨oc,vs,t,e,d,v⟩:=L.cod
 obtain ⟨e1,_⟩:=I.hok c' _ e
 exact ⟨c',oc,vs,t,rfl,e1,d,v⟩
theorem mk_lam {Q:Value->Shared->Prop} (I:Inv X pins σ H s) (B:LamScope X sc x fr) (hcode:X.env.code = .ref c) (C:CodeHd X.base c P) (hP:H P = some (.tab (pos.line:Int) (pos.col:Int) (X.env.qual ++ "<lambda>")))
  (hdef:defaultsOf params X.env = ([],[]))
  (h:∀ s' H' f c' cl ctv pm,Inv X pins σ H' s'->Same H H'->LamAt X pins sc params body (X.env.qual ++ "<lambda>") P H' s' f c' cl ctv pm->Q (.ref f) s'):
  wpAny (model X.prog X.w) X.A (eval (.Lambda params body sc pos) X.env) Q X.xe s:=by
 obtain ⟨cl,hcl,q1,q2⟩:=Zlo (scope:=sc) (env:=X.env) fun y hy hf=>I.ok.has y.1 ((B.free y hy hf).elim .inl .inr)
 have hg:s.heap.Ns mainGlobals X.mg:=I.mod.glob.keeps I.bk
 have CH:CodeHd s.heap c P:=by
  obtain ⟨o,vs,file,tf,flags,tg,inF,text,tt,e1,r⟩:=C
  exact ⟨o,vs,file,tf,flags,tg,inF,text,tt,I.bk _ _ e1,r⟩
 obtain ⟨bm,ob,b1,b2,b3,b4,b5,b6⟩:=I.mod.bmain
 have b3':=I.bs _ _ b3
 have hgP:mainGlobals ≠ P:=fun q=>by
  obtain ⟨o,es,ep,e,hd,_⟩:=I.mod.glob
  have:=(I.bs _ _ e).2
  rw [q,hP] at this
  cases this
 have hbP:bm ≠ P:=fun q=>by
  have:=b3'.2
  rw [q,hP] at this
  cases this
 have hbG:bm ≠ mainGlobals:=fun q=>by
  obtain ⟨o,es,ep,e,hd,_⟩:=I.mod.glob
  rw [q,e] at b3; cases b3; rw [hd] at b6; cases b6
 have BA:s.heap.BuiltinsAt X.mg P:=⟨bm,ob,b1,b2,hbG,hbP,b3'.1,b4,b5,b6⟩
 have ok:=I.hok P _ hP
 refine kla_eval hdef ?_
 rcases ok with e0 | ⟨c',oc,vs,t,e0,ne,e2,d2,v2⟩
 ·-- the first one
  refine kla_makeFunction (mg:=X.mg) hcl I.ok.glob hg hcode CH e0 (by exact True.intro) rfl hgP BA fun c' ctv h' tk hx hge hlt hrec htb=>?_
  obtain ⟨c2,oc,vs,t,ec,hoc,hd,hv⟩:=hrec
  cases ec
  have hcn:H c' = none:=I.hok.fresh hge
  have hcP:c' ≠ P:=fun z=>by rw [z,hP] at hcn; cases hcn
  have hxk:∀ b o,b ≠ P->s.heap.get? b = some o->(h'.push (kla_obj "<lambda>" (X.env.qual ++ "<lambda>") params body sc cl ((X.mg "__name__").getD .none) c' ctv)).get? b = some o:=fun b o hb e=>Heap.get?_push_of_some _ (hx b o hb e)
  have gP:(h'.push (kla_obj "<lambda>" (X.env.qual ++ "<lambda>") params body sc cl ((X.mg "__name__").getD .none) c' ctv)).get? P = some (tabObj (#[] ++ #[rawInt pos.line,rawInt pos.col,.ref c'])):=Heap.get?_push_of_some _ htb
  have gc:(h'.push (kla_obj "<lambda>" (X.env.qual ++ "<lambda>") params body sc cl ((X.mg "__name__").getD .none) c' ctv)).get? c' = some oc:=Heap.get?_push_of_some _ hoc
  have sm:Same H (upd H c' (.frz oc (.own P))):=fun b u e=>by rw [Zap (Zan e hcn)]; exact e
  have nP:∀ {b:Addr},H b = none->b ≠ P:=fun e z=>by rw [z,hP] at e; cases e
  have U:Un X.fs [] H (upd H c' (.frz oc (.own P))) s.heap (h'.push (kla_obj "<lambda>" (X.env.qual ++ "<lambda>") params body sc cl ((X.mg "__name__").getD .none) c' ctv)):=by
   refine ⟨fun b o e n _ _=>hxk b o (nP n) e,fun b o e n _ _=>⟨o.slots,hxk b o (nP n) e⟩,fun b o e n _=>?_,fun b o e _=>?_,fun b xs e=>sm _ _ e,fun b o u e=>sm _ _ e,fun b ps e=>⟨#[],by rw [sm _ _ e]; simp⟩⟩
   ·rw [Zap (Nat.ne_of_lt (Nat.lt_of_lt_of_le (Heap.lt_size e) hge))]
    exact n
   ·by_cases z:b = P
    ·exact ⟨_,by rw [z]; exact gP⟩
    ·exact ⟨o,hxk b o z e⟩
  have O:HOk X.prog X.w (upd H c' (.frz oc (.own P))) (h'.push (kla_obj "<lambda>" (X.env.qual ++ "<lambda>") params body sc cl ((X.mg "__name__").getD .none) c' ctv)):=fun b u e=>by
   by_cases hb:b = c'
   ·subst hb
    rw [Zad] at e
    cases e
    exact ⟨gc,⟨oc,gc⟩⟩
   ·rw [Zap hb] at e
    by_cases hbP':b = P
    ·subst hbP'
     rw [hP] at e
     cases e
     exact .inr ⟨c',oc,vs,t,gP,hcP,Zad,hd,hv⟩
    ·refine (I.hok b u e).stay (fun a v ha q=>hxk a v ?_ q) (fun a z=>sm _ _ z) (fun a xs z=>sm _ _ z) fun a o' u' z=>sm _ _ z
     rcases ha with rfl | ha
     ·exact hbP'
     ·intro z
      rw [z,hP] at ha
      cases ha
  have I':Inv X pins σ (upd H c' (.frz oc (.own P))) { s with heap:=h'.push (kla_obj "<lambda>" (X.env.qual ++ "<lambda>") params body sc cl ((X.mg "__name__").getD .none) c' ctv),toks:=tk }:=I.un U O
  have hsz:s.heap.objs.size<=h'.objs.size:=Nat.le_of_lt (Nat.lt_of_le_of_lt hge hlt)
  refine h _ _ h'.objs.size c' cl ctv _ I' sm ⟨Heap.get?_push_size _ rfl,I.fpOk hsz ?_,⟨oc,vs,t,Zad,hd,hv⟩,q1,q2⟩
  rw [Zap (Nat.ne_of_gt hlt)]
  exact I.hok.fresh hsz
 ·-- the code is there
  refine kla_makeFunctionHit (cv:=.ref c') (mg:=X.mg) hcl I.ok.glob hg hcode CH e0 (by simp [TriplesOk,rawInt]) (by simp [codeAmong,rawInt]) BA fun ctv h' tk hk hsz=>?_
  have I':Inv X pins σ H { s with heap:=h'.push (kla_obj "<lambda>" (X.env.qual ++ "<lambda>") params body sc cl ((X.mg "__name__").getD .none) c' ctv),toks:=tk }:=I.kept fun b o e=>Heap.get?_push_of_some _ (hk b o e)
  exact h _ _ h'.objs.size c' cl ctv _ I' (Same.refl _) ⟨Heap.get?_push_size _ rfl,I.fpOk hsz (I.hok.fresh hsz),⟨oc,vs,t,e2,d2,v2⟩,q1,q2⟩
end
theorem Same.sqL {K:PySem.W.Frag} {H H':Hp} {a:Addr} {xs:List V} (s:Same H H') (h:SqL K H a xs):SqL K H' a xs:=s.seq h
def IsMin (kf:Nat->Int) (n i:Nat):Prop:=i < n/\∀ j,j < n->kf i<=kf j/\(j < i->kf i < kf j)
section
variable {X:Cx} {pins:List (Addr × Obj)} {σ:St} {sc:Scope} {x:Str} {fr:List (Str × Nat)} {P:Addr} {params:Arguments} {body:Expr} {qual:Str} {f c' l It S:Addr} {cl:List (Str × Addr)} {ctv pm:Value} {xs:List V} {te:TE} {H0:Hp} {kf:Nat->Int}
abbrev KWd:List (Str × Value):=[("default",Value.none)]
theorem FpOk.same {pins:List (Addr × Obj)} {H H':Hp} {b:Addr} (h:FpOk X pins H b) (e:H' b = none):FpOk X pins H' b:=⟨e,h.2⟩
theorem Zoz {H:Hp} {s:Shared} {i:Nat} {v:V} {u:Value} {b₁:Addr} {o₁:Obj} {b₂:Addr} {o₂:Obj} (hc:X.calm = true) (hroom:X.A.depth < recursionLimit) (B:LamScope X sc x fr) (hbd:∀ u pm c' ctv cl,bindArgs (kla_fn "<lambda>" qual params body sc cl pm (.ref c') ctv) ⟨[u],[]⟩ = pure [(x,u)])
  (he:∀ cl f c' s H,PE (Zki X (Zp4 x fr) qual sc cl f (.ref c') X.A.in1 s H) body te) (I:Inv X pins σ H s) (L:LamAt X pins sc params body qual P H s f c' cl ctv pm)
  (ht:te (Zsk v fr σ) H fun y H'=>y = .int (kf i)/\Same H H') (rv:RelV v u)
  (f1:FpOk X pins H b₁) (g1:s.heap.get? b₁ = some o₁) (d1:∀ v,o₁.data ≠ .cell v) (f2:FpOk X pins H b₂) (g2:s.heap.get? b₂ = some o₂) (d2:∀ v,o₂.data ≠ .cell v):
  wpAny (model X.prog X.w) X.A.in1 (call (.ref f) [u]) (fun y s'=>∃ t H',y = .int (kf i) t/\Same H H'/\Inv X pins σ H' s'/\LamAt X pins sc params body qual P H' s' f c' cl ctv pm/\s'.heap.get? b₁ = some o₁/\H' b₁ = none/\s'.heap.get? b₂ = some o₂/\H' b₂ = none) (fun _ _=>False) s:=by
 have Ip:=I.pinned (fp:=[b₁,b₂,f]) (fun b hb=>by
  rcases List.mem_cons.mp hb with rfl | hb
  ·exact f1
  ·rcases List.mem_cons.mp hb with rfl | hb
   ·exact f2
   ·rw [List.mem_singleton.mp hb]; exact L.fp) (fun b hb=>by
  rcases List.mem_cons.mp hb with rfl | hb
  ·exact ⟨_,g1,d1⟩
  ·rcases List.mem_cons.mp hb with rfl | hb
   ·exact ⟨_,g2,d2⟩
   ·rw [List.mem_singleton.mp hb]; exact ⟨_,L.fn,fun v z=>by cases z⟩)
 refine thn (run_lam Ip B I.ok.frames (I.ok.hd hc) hroom L.hcl L.hcl2 rv L.fn (L.code I) (hbd _ _ _ _ _) (he _ _ _ _ _) ht) fun y s' h=>?_
 obtain ⟨w,H',I',r,rfl,sm⟩:=h
 obtain ⟨t,rfl⟩:=r
 have pn:∀ b ∈ [b₁,b₂,f],∀ o,s.heap.get? b = some o->s'.heap.get? b = some o/\H' b = none:=fun b hb o e=>by
  have:=I'.pin (b,o) (List.mem_append_right _ (List.mem_append_right _ (Zec hb e)))
  exact ⟨this.1,this.2.1⟩
 obtain ⟨oc,vs,tk,e,r⟩:=L.cod
 obtain ⟨p1,p1'⟩:=pn b₁ (by simp) _ g1
 obtain ⟨p2,p2'⟩:=pn b₂ (by simp) _ g2
 obtain ⟨p3,p3'⟩:=pn f (by simp) _ L.fn
 exact ⟨t,H',rfl,sm,I'.unpinned,⟨p3,L.fp.same p3',⟨oc,vs,tk,sm _ _ e,r⟩,L.hcl,L.hcl2⟩,p1,p1',p2,p2'⟩
theorem Zre (hc:X.calm = true) (hroom:X.A.depth < recursionLimit) (B:LamScope X sc x fr) (hbd:∀ u pm c' ctv cl,bindArgs (kla_fn "<lambda>" qual params body sc cl pm (.ref c') ctv) ⟨[u],[]⟩ = pure [(x,u)])
  (he:∀ cl f c' s H,PE (Zki X (Zp4 x fr) qual sc cl f (.ref c') X.A.in1 s H) body te) (hlI:l ≠ It) (hSI:S ≠ It) (hfI:f ≠ It) (hfS:f ≠ S)
  (ht:∀ i v H,xs[i]? = some v->Same H0 H->te (Zsk v fr σ) H fun y H'=>y = .int (kf i)/\Same H H') (hl0:SqL X.K H0 l xs)
  {R:Result->Shared->Prop} (hR:∀ i v u s' H',IsMin kf xs.length i->xs[i]? = some v->RelV v u->Same H0 H'->Inv X pins σ H' s'->R (.ok (.ret u)) s'):
  ∀ (r j i:Nat) (s:Shared) (H:Hp) (vb:V) (ub:Value) (tb:Tok) (n:Nat),xs.length - (j + 1) = r->j + 1<=xs.length->Same H0 H->Inv X pins σ H s->LamAt X pins sc params body qual P H s f c' cl ctv pm->FpOk X pins H S->FpOk X pins H It->
   s.heap.get? S = some (seqObj "list" #[ub,.int (kf i) tb] n)->s.heap.IsListIter It l (j + 1)->xs[i]? = some vb->RelV vb ub->i<=j->(∀ j',j'<=j->kf i<=kf j'/\(j' < i->kf i < kf j'))->
   codeAny (model X.prog X.w) X.A (.builtin "min.loop" ⟨[.ref It,.ref f,.ref S],KWd⟩) R s:=by
 have hname:(toString "min" ++ toString ".loop" : String) = "min.loop" := by decide
 intro r
 induction r with
 | zero=>
  intro j i s H vb ub tb n hr hj sm I L fS fI gS hit hvb rvb hij hbest
  have hin:j + 1 = xs.length:=by omega
  obtain ⟨its,rv,p,hz⟩:=I.list (sm.sqL hl0)
  have hlen:=rv.length
  refine codeAny_builtin PySem.F.entry_min_loop ?_
  rw [Around.under_plainId PySem.F.plain_min_loop _]
  show wpAny _ X.A.in1 (seqItems? (.ref S) >>= _) _ _ _
  refine wpAny_bind (wpAny_seqItems gS rfl ?_)
  show wpAny _ X.A.in1 (tryCatch (pyNext (.ref It)) _ >>= _) _ _ _
  refine wpAny_bind (wpAny_tryCatch (wpAny_pyNext_list_end (A:=X.A.in1) (I.ok.hd hc) hit p.isList (by simp; omega) fun h' eb=>?_))
  have I1:Inv X pins σ H { s with heap:=h' }:=I.turned (t':=s.toks) (fun b o hb e=>eb b o hb e) fI.1 fI.2.1 fI.2.2.2.1 fI.2.2.2.2.1 fI.2.2.2.2.2
  have gS':h'.get? S = some (seqObj "list" #[ub,.int (kf i) tb] n):=eb S _ hSI gS
  show wpAny _ X.A.in1 (updateSeq S (fun _=>#[]) >>= _) _ _ _
  refine wpAny_bind ?_
  refine wpAny_updateSeq gS' rfl (wpAny_bind (wpAny_letGo (wpAny_pure ?_)))
  have s1:=Heap.SameBut.update h' S (Obj.mapSeq fun _=>(#[]:Array Value))
  have I2:=I1.turned (t':=s.toks) (h':=h'.update S (Obj.mapSeq fun _=>(#[]:Array Value))) (fun b o hb e=>(s1.2 b hb).trans e) fS.1 fS.2.1 fS.2.2.2.1 fS.2.2.2.2.1 fS.2.2.2.2.2
  exact hR i vb ub _ H ⟨by omega,fun j' hj'=>hbest j' (by omega)⟩ hvb rvb sm I2
 | succ r ih=>
  intro j i s H vb ub tb n hr hj sm I L fS fI gS hit hvb rvb hij hbest
  have hlt:j + 1 < xs.length:=by omega
  obtain ⟨its,rv,p,hz⟩:=I.list (sm.sqL hl0)
  have hlen:=rv.length
  have hx:xs[j + 1]? = some (xs[j + 1]'hlt):=List.getElem?_eq_getElem hlt
  obtain ⟨u,hu,ru⟩:=rv.get hx
  refine codeAny_builtin PySem.F.entry_min_loop ?_
  rw [Around.under_plainId PySem.F.plain_min_loop _]
  show wpAny _ X.A.in1 (seqItems? (.ref S) >>= _) _ _ _
  refine wpAny_bind (wpAny_seqItems gS rfl ?_)
  show wpAny _ X.A.in1 (tryCatch (pyNext (.ref It)) _ >>= _) _ _ _
  refine wpAny_bind (wpAny_tryCatch (wpAny_pyNext_list_item (A:=X.A.in1) hit p.isList (x:=u) (by simpa using hu) fun h' hit' sb=>?_))
  have I1:Inv X pins σ H { s with heap:=h' }:=I.turned (t':=s.toks) (fun b o hb e=>(sb.2 b hb).trans e) fI.1 fI.2.1 fI.2.2.2.1 fI.2.2.2.2.1 fI.2.2.2.2.2
  have gS':h'.get? S = some (seqObj "list" #[ub,.int (kf i) tb] n):=(sb.2 S hSI).trans gS
  obtain ⟨oI,goI,hoc,hod⟩:=id hit'
  have L1:LamAt X pins sc params body qual P H { s with heap:=h' } f c' cl ctv pm:=⟨(sb.2 f hfI).trans L.fn,L.fp,L.cod,L.hcl,L.hcl2⟩
  show wpAny _ X.A.in1 (tryCatch (holding [u] (call (.ref f) [u])) _ >>= _) _ _ _
  refine wpAny_bind (wpAny_tryCatch (wpAny_holding (wpAny_mono (Zoz (i:=j + 1) hc hroom B hbd he I1 L1 (ht (j + 1) _ H hx sm) ru fS gS' (fun v z=>by cases z) fI goI (fun v z=>by rw [hod] at z; cases z)) (fun y s2 hy=>?_) fun _ _ hF=>hF.elim)))
  obtain ⟨t2,H2,rfl,sm2,I2,L2',gS2,nS2,gI2,nI2⟩:=hy
  have hit2:s2.heap.IsListIter It l (j + 1 + 1):=⟨oI,gI2,hoc,hod⟩
  show wpAny _ X.A.in1 (tryCatch (holding [u,.int (kf (j + 1)) t2] (richCompare .Lt (.int (kf (j + 1)) t2) (.int (kf i) tb) >>= _)) _ >>= _) _ _ _
  refine wpAny_bind (wpAny_tryCatch (wpAny_holding (wpAny_bind (CmpOf.ints_lt (prog:=X.prog) (w:=X.w) (A:=X.A.in1) (P:=fun i v=>∃ t,v = .int (kf i) t) kf (fun i v h=>h) (j + 1) i _ _ _ _ _ ⟨t2,rfl⟩ ⟨tb,rfl⟩ ?_))))
  refine wpAny_bind (wpAny_holding (wpAny_truthy_bool ?_))
  refine wpAny_bind (wpAny_letGo (wpAny_pure ?_))
  by_cases hb':kf (j + 1) < kf i
  ·have s1:=Heap.SameBut.update s2.heap S (Obj.mapSeq fun _=>#[u,.int (kf (j + 1)) t2])
   obtain ⟨c2,hc2⟩:∃ c2,(s2.heap.update S (Obj.mapSeq fun _=>#[u,.int (kf (j + 1)) t2])).get? S = some (seqObj "list" #[u,.int (kf (j + 1)) t2] c2):=⟨_,get?_update_seq gS2 fun _=>#[u,.int (kf (j + 1)) t2]⟩
   simp only [hb',decide_true,if_true]
   refine wpAny_bind ?_
   refine wpAny_updateSeq gS2 rfl (wpAny_bind (wpAny_letGo ?_))
   rw [hname]
   have I3:=I2.turned (t':=s2.toks) (h':=s2.heap.update S (Obj.mapSeq fun _=>#[u,.int (kf (j + 1)) t2])) (fun b o hb e=>(s1.2 b hb).trans e) nS2 fS.2.1 fS.2.2.2.1 fS.2.2.2.2.1 fS.2.2.2.2.2
   have L3:LamAt X pins sc params body qual P H2 { s2 with heap:=s2.heap.update S (Obj.mapSeq fun _=>#[u,.int (kf (j + 1)) t2]) } f c' cl ctv pm:=⟨(s1.2 f hfS).trans L2'.fn,L2'.fp,L2'.cod,L2'.hcl,L2'.hcl2⟩
   refine wpAny_pure ⟨plainId_quiet PySem.F.plain_min_loop _,ih (j + 1) (j + 1) _ H2 _ u t2 c2 (by omega) hlt (sm.trans sm2) I3 L3 (fS.same nS2) (fI.same nI2) hc2 ⟨oI,(s1.2 It hSI.symm).trans gI2,hoc,hod⟩ hx ru (Nat.le_refl _) fun j' hj'=>?_⟩
   by_cases e:j' = j + 1
   ·subst e
    exact ⟨by omega,fun _=>by omega⟩
   ·have hb1:=hbest j' (by omega)
    have hb2:=hb1.1
    exact ⟨by omega,fun _=>by omega⟩
  ·simp only [hb',decide_false,Bool.false_eq_true,if_false]
   refine wpAny_bind (wpAny_letGo ?_)
   rw [hname]
   refine wpAny_pure ⟨plainId_quiet PySem.F.plain_min_loop _,ih (j + 1) i s2 H2 vb ub tb n (by omega) hlt (sm.trans sm2) I2 L2' (fS.same nS2) (fI.same nI2) gS2 hit2 hvb rvb (by omega) fun j' hj'=>?_⟩
   by_cases e:j' = j + 1
   ·subst e
    exact ⟨by omega,fun _=>by omega⟩
   ·exact hbest j' (by omega)
theorem Zrg (a v d:Value):argsOk "min" ⟨[a],[(Str.ofString "key",v),(Str.ofString "default",d)]⟩:=by unfold argsOk; kernel_rfl
theorem Zrf {s:Shared} {Q:Value->Shared->Prop} (hc:X.calm = true) (hroom:X.A.depth < recursionLimit) (B:LamScope X sc x fr) (hbd:∀ u pm c' ctv cl,bindArgs (kla_fn "<lambda>" qual params body sc cl pm (.ref c') ctv) ⟨[u],[]⟩ = pure [(x,u)])
  (he:∀ cl f c' s H,PE (Zki X (Zp4 x fr) qual sc cl f (.ref c') X.A.in1 s H) body te) (I:Inv X pins σ H0 s) (L:LamAt X pins sc params body qual P H0 s f c' cl ctv pm)
  (ht:∀ i v H,xs[i]? = some v->Same H0 H->te (Zsk v fr σ) H fun y H'=>y = .int (kf i)/\Same H H') (hl0:SqL X.K H0 l xs)
  (q0:xs = []->∀ s' H',Same H0 H'->Inv X pins σ H' s'->Q .none s')
  (q1:∀ i v u s' H',IsMin kf xs.length i->xs[i]? = some v->RelV v u->Same H0 H'->Inv X pins σ H' s'->Q u s'):
  wpAny (model X.prog X.w) X.A (call (.builtin "min") [.ref l] [(Str.ofString "key",.ref f),(Str.ofString "default",.none)]) Q X.xe s:=by
 have hname:(toString "min" ++ toString ".loop" : String) = "min.loop" := by decide
 obtain ⟨its,rv,p,hz⟩:=I.list hl0
 have hlen:=rv.length
 obtain ⟨ol,hol,_⟩:=id p.isList
 have hll:l < s.heap.objs.size:=Heap.lt_size hol
 have hfl:f < s.heap.objs.size:=Heap.lt_size L.fn
 refine kmk_tree PySem.F.kind_min PySem.F.plain_min PySem.F.entry_min (Zrg _ _ _) ?_
 show wpAny _ X.A.in1 (Builtin.Builtins.bindParams "min" ["key","default"] 0 ⟨[],[(Str.ofString "key",.ref f),(Str.ofString "default",.none)]⟩ >>= _) _ _ s
 refine wpAny_bind (wpAny_of_eq (show Builtin.Builtins.bindParams "min" ["key","default"] 0 ⟨[],[(Str.ofString "key",.ref f),(Str.ofString "default",.none)]⟩ = pure [some (.ref f),some .none] from rfl) ?_)
 refine wpAny_bind (wpAny_pure ?_)
 refine wpAny_bind (wpAny_pyIter_list p.isList ?_)
 refine wpAny_bind (wpAny_newList ?_ (Nat.zero_le _))
 rw [hname]
 have hS:(s.heap.push { cls:=.type "list_iterator",data:=.fields #[.ref l,.int 0 0] }).objs.size = s.heap.objs.size + 1:=size_push' ..
 have gI:((s.heap.push { cls:=.type "list_iterator",data:=.fields #[.ref l,.int 0 0] }).push (seqObj "list" #[] 0)).get? s.heap.objs.size = some { cls:=.type "list_iterator",data:=.fields #[.ref l,.int 0 0] }:=
  Heap.get?_push_of_some _ (Heap.get?_push_size _ rfl)
 have gS:((s.heap.push { cls:=.type "list_iterator",data:=.fields #[.ref l,.int 0 0] }).push (seqObj "list" #[] 0)).get? (s.heap.push { cls:=.type "list_iterator",data:=.fields #[.ref l,.int 0 0] }).objs.size = some (seqObj "list" #[] 0):=Heap.get?_push_size _ rfl
 rw [hS] at gS
 have hk:∀ b o,s.heap.get? b = some o->((s.heap.push { cls:=.type "list_iterator",data:=.fields #[.ref l,.int 0 0] }).push (seqObj "list" #[] 0)).get? b = some o:=fun b o e=>Heap.get?_push_of_some _ (Heap.get?_push_of_some _ e)
 have I0:Inv X pins σ H0 { s with heap:=(s.heap.push { cls:=.type "list_iterator",data:=.fields #[.ref l,.int 0 0] }).push (seqObj "list" #[] 0) }:=I.kept (t':=s.toks) hk
 have fI:FpOk X pins H0 s.heap.objs.size:=I.fpOk (Nat.le_refl _) (I.hok.fresh (Nat.le_refl _))
 have fS:FpOk X pins H0 (s.heap.objs.size + 1):=I.fpOk (Nat.le_succ _) (I.hok.fresh (Nat.le_succ _))
 have L0:LamAt X pins sc params body qual P H0 { s with heap:=(s.heap.push { cls:=.type "list_iterator",data:=.fields #[.ref l,.int 0 0] }).push (seqObj "list" #[] 0) } f c' cl ctv pm:=⟨hk _ _ L.fn,L.fp,L.cod,L.hcl,L.hcl2⟩
 have hSI:s.heap.objs.size + 1 ≠ s.heap.objs.size:=by omega
 have p0:PlainL ((s.heap.push { cls:=.type "list_iterator",data:=.fields #[.ref l,.int 0 0] }).push (seqObj "list" #[] 0)) l its.toArray:=by
  obtain ⟨o,n,e,r⟩:=p
  exact ⟨o,n,hk _ _ e,r⟩
 have hit:Heap.IsListIter ((s.heap.push { cls:=.type "list_iterator",data:=.fields #[.ref l,.int 0 0] }).push (seqObj "list" #[] 0)) s.heap.objs.size l 0:=⟨_,gI,rfl,rfl⟩
 refine wpAny_pure ⟨plainId_quiet PySem.F.plain_min_loop _,?_⟩
 rw [hS]
 refine codeAny_builtin PySem.F.entry_min_loop ?_
 rw [Around.under_plainId PySem.F.plain_min_loop _]
 show wpAny _ X.A.in1 (seqItems? (.ref _) >>= _) _ _ _
 refine wpAny_bind (wpAny_seqItems gS rfl ?_)
 show wpAny _ X.A.in1 (tryCatch (pyNext (.ref s.heap.objs.size)) _ >>= _) _ _ _
 cases hxs:xs with
 | nil=>
  subst hxs
  have e0:its = []:=List.length_eq_zero_iff.mp (by simpa using hlen.symm)
  refine wpAny_bind (wpAny_tryCatch (wpAny_pyNext_list_end (A:=X.A.in1) (I.ok.hd hc) hit p0.isList (by rw [e0]; rfl) fun h' eb=>?_))
  have I1:Inv X pins σ H0 { s with heap:=h' }:=I0.turned (t':=s.toks) (fun b o hb e=>eb b o hb e) fI.1 fI.2.1 fI.2.2.2.1 fI.2.2.2.2.1 (fun p hp=>fI.2.2.2.2.2 p hp)
  show wpAny _ X.A.in1 (rule _ >>= _) _ _ _
  exact wpAny_bind (wpAny_rule (wpAny_pure (q0 rfl _ H0 (Same.refl _) I1)))
 | cons v0 r0=>
  have hne:0 < xs.length:=by rw [hxs]; exact Nat.zero_lt_succ _
  have hx:xs[0]? = some v0:=by rw [hxs]; rfl
  rw [<- hxs] at *
  obtain ⟨u,hu,ru⟩:=rv.get hx
  refine wpAny_bind (wpAny_tryCatch (wpAny_pyNext_list_item (A:=X.A.in1) hit p0.isList (x:=u) (by simpa using hu) fun h' hit' sb=>?_))
  have I1:Inv X pins σ H0 { s with heap:=h' }:=I0.turned (t':=s.toks) (fun b o hb e=>(sb.2 b hb).trans e) fI.1 fI.2.1 fI.2.2.2.1 fI.2.2.2.2.1 fI.2.2.2.2.2
  have gS':h'.get? (s.heap.objs.size + 1) = some (seqObj "list" #[] 0):=(sb.2 _ hSI).trans gS
  obtain ⟨oI,goI,hoc,hod⟩:=id hit'
  have L1:LamAt X pins sc params body qual P H0 { s with heap:=h' } f c' cl ctv pm:=⟨(sb.2 f (Nat.ne_of_lt hfl)).trans L0.fn,L.fp,L.cod,L.hcl,L.hcl2⟩
  show wpAny _ X.A.in1 (tryCatch (holding [u] (call (.ref f) [u])) _ >>= _) _ _ _
  refine wpAny_bind (wpAny_tryCatch (wpAny_holding (wpAny_mono (Zoz (i:=0) hc hroom B hbd he I1 L1 (ht 0 _ H0 hx (Same.refl _)) ru fS gS' (fun v z=>by cases z) fI goI (fun v z=>by rw [hod] at z; cases z)) (fun y s2 hy=>?_) fun _ _ hF=>hF.elim)))
  obtain ⟨t2,H2,rfl,sm2,I2,L2',gS2,nS2,gI2,nI2⟩:=hy
  have s1:=Heap.SameBut.update s2.heap (s.heap.objs.size + 1) (Obj.mapSeq fun _=>#[u,.int (kf 0) t2])
  obtain ⟨c2,hc2⟩:∃ c2,(s2.heap.update (s.heap.objs.size + 1) (Obj.mapSeq fun _=>#[u,.int (kf 0) t2])).get? (s.heap.objs.size + 1) = some (seqObj "list" #[u,.int (kf 0) t2] c2):=⟨_,get?_update_seq gS2 fun _=>#[u,.int (kf 0) t2]⟩
  show wpAny _ X.A.in1 (updateSeq (s.heap.objs.size + 1) (fun _=>#[u,.int (kf 0) t2]) >>= _) _ _ _
  refine wpAny_bind ?_
  refine wpAny_updateSeq gS2 rfl ?_
  rw [hname]
  have I3:=I2.turned (t':=s2.toks) (h':=s2.heap.update (s.heap.objs.size + 1) (Obj.mapSeq fun _=>#[u,.int (kf 0) t2])) (fun b o hb e=>(s1.2 b hb).trans e) nS2 fS.2.1 fS.2.2.2.1 fS.2.2.2.2.1 fS.2.2.2.2.2
  have hfS:f ≠ s.heap.objs.size + 1:=Nat.ne_of_lt (Nat.lt_succ_of_lt hfl)
  have L3:LamAt X pins sc params body qual P H2 { s2 with heap:=s2.heap.update (s.heap.objs.size + 1) (Obj.mapSeq fun _=>#[u,.int (kf 0) t2]) } f c' cl ctv pm:=⟨(s1.2 f hfS).trans L2'.fn,L2'.fp,L2'.cod,L2'.hcl,L2'.hcl2⟩
  refine wpAny_pure ⟨plainId_quiet PySem.F.plain_min_loop _,Zre (H0:=H0) hc hroom B hbd he (Nat.ne_of_lt hll) hSI (Nat.ne_of_lt hfl) hfS ht hl0 (fun i v u s' H' a b c d e=>q1 i v u s' H' a b c d e) _ 0 0 _ H2 v0 u t2 c2 rfl hne sm2 I3 L3 (fS.same nS2) (fI.same nI2) hc2 ⟨oI,(s1.2 _ hSI.symm).trans gI2,hoc,hod⟩ hx ru (Nat.le_refl _) fun j' hj'=>?_⟩
  have e:j' = 0:=by omega
  subst e
  exact ⟨by omega,fun h=>absurd h (Nat.lt_irrefl _)⟩
end
def tMinL (K:PySem.W.Frag) (P:Addr) (ln co:Int) (q:Str) (fr:List (Str × Nat)) (ta te:TE):TE:=fun σ H Q=>ta σ H fun v H1=>∃ l xs,∃ kf:Nat->Int,v = .ref l/\SqL K H1 l xs/\H1 P = some (.tab ln co q) /\
 (∀ i v H,xs[i]? = some v->Same H1 H->te (Zsk v fr σ) H fun y H'=>y = .int (kf i)/\Same H H')/\(xs = []->∀ H',Same H1 H'->Q .non H')/\∀ i v H',IsMin kf xs.length i->xs[i]? = some v->Same H1 H'->Q v H'
section
variable {X:Cx} {sc:Scope} {x:Str} {fr:List (Str × Nat)} {P c:Addr} {params:Arguments} {body e:Expr} {lpos p pos k1 k2 kp:Pos} {ta te:TE}
theorem pe_minL {i0:Nat} (hc:X.calm = true) (hroom:X.A.depth < recursionLimit) (hg:Gl X "min") (hm:X.mg "min" = none) (B:LamScope X sc x fr) (hcode:X.env.code = .ref c) (C:CodeHd X.base c P) (hdef:defaultsOf params X.env = ([],[]))
  (hbd:∀ u pm c' ctv cl,bindArgs (kla_fn "<lambda>" (X.env.qual ++ "<lambda>") params body sc cl pm (.ref c') ctv) ⟨[u],[]⟩ = pure [(x,u)])
  (ha:PE X e ta) (he:∀ cl f c' s H,PE (Zki X (Zp4 x fr) (X.env.qual ++ "<lambda>") sc cl f (.ref c') X.A.in1 s H) body te) (hs:Zb3 e = false:=by rfl):
  PE X (.Call (.Name "min" p) [e] [⟨some "key",.Lambda params body sc lpos,k1⟩,⟨some "default",.Constant .none i0 kp,k2⟩] pos) (tMinL X.K P (lpos.line:Int) (lpos.col:Int) (X.env.qual ++ "<lambda>") fr ta te):=by
 intro pins s σ H Q I h
 refine wpAny_Call_Name_kw (Zew I hg hm boot_min ?_ (by decide) (by decide))
 have hst:backTo pos (starEach [e] X.env) = (false,eval e X.env) :: backTo pos (starEach [] X.env):=by rw [Za6 hs]; rfl
 refine callWith_kw (id:="min") (e:=e) (rest:=[]) ?_ hst (by rw [hst]; rfl) (by rfl) (by rfl)
 rw [hst]
 refine Calls.spliced_cons (thn (ha pins s σ H _ I h) fun u s1 ⟨v,H1,I1,r1,h1⟩=>?_)
 obtain ⟨l,xs,kf,rfl,hl,hP,ht,q0,q1⟩:=h1
 cases r1
 refine Calls.spliced_nil ?_
 refine kws_cons (mk_lam I1 B hcode C hP hdef fun s2 H2 f c' cl ctv pm I2 sm L=>?_)
 refine kws_cons (Constant_none (kws_nil ?_))
 show wpAny _ _ (call (.builtin "min") [.ref l] [(Str.ofString "key",.ref f),(Str.ofString "default",.none)]) _ _ s2
 refine Zrf (kf:=kf) hc hroom B hbd he I2 L (fun i v H hi sm2=>ht i v H hi (sm.trans sm2)) (sm.sqL hl) (fun e0 s' H' sm2 I'=>?_) fun i v u s' H' hmn hi ru sm2 I'=>?_
 ·exact ⟨.non,H',I',rfl,q0 e0 H' (sm.trans sm2)⟩
 ·exact ⟨v,H',I',ru,q1 i v H' hmn hi (sm.trans sm2)⟩
end
abbrev Tbs:=List (Addr × Int × Int × Str)
def Zkr (tb:Tbs) (H:Hp):Prop:=∀ b t,tb.lookup b = some t->H b = some (.tab t.1 t.2.1 t.2.2)
def hp0 (K:PySem.W.Frag) (tb:Tbs) (a:Addr) (oa:Obj) (xs:List V):Hp:=fun b=>if b = a then (if (K.lookup a).isSome = true then none else some (.frz oa (.lst xs))) else (tb.lookup b).map fun t=>.tab t.1 t.2.1 t.2.2
theorem Zoy {P:Program} {w:World} {K:PySem.W.Frag} {mg mb:Str->Option Value} {CX:CXT} {k:Nat} {fa a:Addr} {fd:FuncData} {x:Str} {sp:Sp} {s₁:Shared} {vs:List Value} {ns:List Int} {tb:Tbs}
  (KX:K.In s₁.heap) (hns:s₁.heap.Ns mainGlobals mg) (hb:s₁.heap.Ns builtinsNs mb) (hbb:∀ x:Str,x ≠ "__name__" -> mb x = bootBuiltins x) (hlim:s₁.heap.NoLimit) (hseer:s₁.heap.NoSeer)
  (hbm:∃ bm ob,mg "__builtins__" = some (.ref bm)/\bm ≠ builtinsNs/\s₁.heap.get? bm = some ob/\ob.cls = .type "module" /\ ob.dict = some builtinsNs/\ob.data = .plain) (hg:s₁.gens = #[])
  (htb:∀ b t,tb.lookup b = some t->s₁.heap.get? b = some (tabObj #[])/\K.lookup b = none/\isCodeTable s₁.heap b)
  (ha:s₁.heap.get? a = some { cls:=.type "list",data:=.seq vs.toArray }) (hi:IntsAre vs ns) (hl:ns.length<=sizeLine) (hr:Room k callerA)
  (F:∀ base:Heap,K.In base->base.Ns mainGlobals mg->FnOk P w K mg base CX k fa fd [x] sp) (hbind:∀ (s:Shared) (u:Value),BindsTo s fd ⟨[u],[]⟩ [(x,u)])
  (hsp:∀ H:Hp,SqL K H a (ns.map V.int)->Zkr tb H->sp [.ref a] H (fun v H'=>v = .bl true/\Zkr tb H') fun _ _ _=>False)
  (hCX:∀ H e s',CX [] H s₁ (fun _ _ _=>False) e s'->False):
  codeAny (model P w) callerA (.call (.ref fa) ⟨[.ref a],[]⟩) (fun r s'=>r = .ok (.ret (.bool true))/\OldK s₁.heap s'.heap/\s'.os = s₁.os/\AllBare s'.gens) s₁:=by
 have rv:=Zjk hi
 have lenV:=hi.length
 generalize hH:hp0 K tb a { cls:=.type "list",data:=.seq vs.toArray } (ns.map V.int) = H
 have tne:∀ b t,tb.lookup b = some t->b ≠ a:=fun b t e z=>by
  have:=(htb b t e).1
  rw [z,ha] at this
  cases this
 have hT:Zkr tb H:=fun b t e=>by
  rw [<- hH]
  unfold hp0
  rw [if_neg (tne b t e),e]
  rfl
 have cases3:∀ b,H b = none\/(b = a/\K.lookup a = none/\H b = some (.frz { cls:=.type "list",data:=.seq vs.toArray } (.lst (ns.map V.int))))\/∃ t,tb.lookup b = some t/\H b = some (.tab t.1 t.2.1 t.2.2):=fun b=>by
  rw [<- hH]
  unfold hp0
  by_cases hba:b = a
  ·rw [if_pos hba]
   cases hk:K.lookup a with
   | none=>exact .inr (.inl ⟨hba,rfl,rfl⟩)
   | some o=>exact .inl rfl
  ·rw [if_neg hba]
   cases ht:tb.lookup b with
   | none=>exact .inl rfl
   | some t=>exact .inr (.inr ⟨t,rfl,rfl⟩)
 have free:∀ {b:Addr} {o:Obj},s₁.heap.get? b = some o->(∀ xs n,o.data ≠ .seq xs n)->(∀ xs,o.data ≠ .fields xs)->H b = none:=fun {b o} e d1 d2=>by
  rcases cases3 b with h | ⟨rfl,_,_⟩ | ⟨t,h,_⟩
  ·exact h
  ·rw [ha] at e
   cases e
   exact absurd rfl (d1 _ _)
  ·rw [(htb b t h).1] at e
   cases e
   exact absurd rfl (d2 _)
 have base_of:∀ {b:Addr} {o:Obj},s₁.heap.get? b = some o->H b = none->(Zp5 s₁.heap H).get? b = some o:=fun e n=>Zrj e n
 have nsK:∀ {b:Addr} {m:Str->Option Value},s₁.heap.Ns b m->(Zp5 s₁.heap H).Ns b m:=fun {b m} ⟨o,es,ep,e,d,r⟩=>⟨o,es,ep,base_of e (free e (fun xs n z=>by rw [d] at z; cases z) fun xs z=>by rw [d] at z; cases z),d,r⟩
 have hKb:K.In (Zp5 s₁.heap H):=fun b o e=>base_of (KX b o e) (by
  rcases cases3 b with h | ⟨rfl,h,_⟩ | ⟨t,h,_⟩
  ·exact h
  ·rw [h] at e; cases e
  ·rw [(htb b t h).2.1] at e; cases e)
 have seerB:(Zp5 s₁.heap H).NoSeer:=⟨let ⟨mc,x,y⟩:=hseer.statics; ⟨mc,nsK x,y⟩,let ⟨mc,x,y⟩:=hseer.mods; ⟨mc,nsK x,y⟩,let ⟨mc,x,y⟩:=hseer.imp; ⟨mc,nsK x,y⟩,let ⟨mg',bm,ob,x,y,z,u,v⟩:=hseer.main; ⟨mg',bm,ob,nsK x,y,base_of z (by
   rcases cases3 bm with h | ⟨rfl,_,_⟩ | ⟨t,h,_⟩
   ·exact h
   ·rw [ha] at z; cases z
    have u':Value.type "list" = Value.type "module" := u
    injection u' with u'
    exact absurd u' (by decide)
   ·rw [(htb bm t h).1] at z; cases z
    cases u),u,v⟩⟩
 have hM:Mod K mg (Zp5 s₁.heap H):=⟨hKb,nsK hns,⟨mb,nsK hb,hbb⟩,let ⟨mc,h1,h2⟩:=hlim; ⟨mc,nsK h1,h2⟩,seerB,let ⟨bm,ob,x1,x2,x3,x4,x5,x6⟩:=hbm; ⟨bm,ob,x1,x2,base_of x3 (free x3 (fun xs n z=>by rw [x6] at z; cases z) fun xs z=>by rw [x6] at z; cases z),x4,x5,x6⟩⟩
 have hS:SqL K H a (ns.map V.int):=by
  rcases hk:K.lookup a with _ | o
  ·refine .inl (.inr ⟨{ cls:=.type "list",data:=.seq vs.toArray },?_⟩)
   rw [<- hH]
   unfold hp0
   rw [if_pos rfl,hk]
   rfl
  ·have e:=KX a o hk
   rw [ha] at e
   cases e
   exact .inr ⟨_,vs.toArray,_,hk,rfl,rfl,rfl,by rw [List.size_toArray,lenV]; exact hl,by simpa using rv⟩
 have hok:HOk P w H s₁.heap:=fun b u e=>by
  rcases cases3 b with h | ⟨rfl,_,h⟩ | ⟨t,h0,h⟩
  ·rw [h] at e; cases e
  ·rw [h] at e; cases e
   exact ⟨ha,by rw [List.length_map]; exact hl,vs,_,rv,ha⟩
  ·rw [h] at e; cases e
   exact .inl (htb b t h0).1
 have e0:Env0 P w K mg (Zp5 s₁.heap H) callerA [] s₁ H:=⟨rfl,hM,fun b o e=>of_hidT e,Nat.le_of_eq (Zpe _ _),trivial,fun b hb=>absurd (show b ∈ ([]:List Addr) from hb) (by simp),hok,.of_eq hg⟩
 refine codeAny_mono ((F _ hKb (nsK hns)).run callerA [] s₁ H ⟨[.ref a],[]⟩ [.ref a] [.ref a] _ _ hr e0 (hbind s₁ (.ref a)) (.cons rfl .nil) (hsp H hS hT)) fun r s' h=>?_
 cases r with
 | error e=>exact (hCX H e s' h).elim
 | ok fl=>
  cases fl with
  | next=>exact False.elim h
  | brk=>exact False.elim h
  | cont=>exact False.elim h
  | ret u=>
   obtain ⟨v,H',os,bare,un,hok',r',q⟩:=h
   obtain ⟨q',hT'⟩:=q
   subst q'
   obtain rfl:u = Value.bool true:=r'
   have noF:∀ b:Addr,b ∉ frs ([]:List Env):=fun b z=>absurd (show b ∈ ([]:List Addr) from z) (by simp)
   refine ⟨rfl,⟨fun b o e=>?_,fun b o e=>un.there b o e (by simp)⟩,os,bare⟩
   rcases cases3 b with h | ⟨rfl,_,h⟩ | ⟨t,h0,h⟩
   ·exact .inl (un.keep b o e h (noF b) (by simp))
   ·have z2:=un.frzs _ _ _ h
    obtain ⟨e1,_⟩:=hok _ _ h
    obtain ⟨e2,_⟩:=hok' _ _ z2
    rw [e] at e1; cases e1
    exact .inl e2
   ·rw [(htb b t h0).1] at e
    cases e
    rcases hok' b _ (hT' b t h0) with e2 | ⟨c',oc,ws,tk,e2,_⟩
    ·exact .inl e2
    ·exact .inr (.inl ⟨(htb b t h0).2.2,rfl,#[],_,rfl,by rw [e2,Array.empty_append]⟩)
theorem Zp7 {l:PySem.W.OpenLaw} {n k:Nat} {q:Program} {loose:List Str} {XP:(Str->Option Value)->Heap->Prop} {YP:World->Heap->Prop} {d:DefRec} {K:Params->PySem.W.Frag} {CX:World->CXT} {sp:World->Sp} {x:Str} {tb:Tbs}
  (hq:importsNone q = true) (hn:l.most = some n) (hn2:n<=sizeLine) (hdf:d.params.defaults = []) (hr:Room k callerA)
  (hY:∀ (w:World) (h:Heap),YP w h->(K w.params).In h) (htb:∀ (w:World) (h:Heap),YP w h->∀ b t,tb.lookup b = some t->h.get? b = some (tabObj #[])/\(K w.params).lookup b = none/\isCodeTable h b)
  (F:∀ (w:World) (mg:Str->Option Value) (fa:Addr) (h:Heap),(K w.params).In h->h.Ns mainGlobals mg->mg d.name = some (.ref fa)->
   ∃ fd:FuncData,(∀ (s:Shared) (u:Value),BindsTo s fd ⟨[u],[]⟩ [(x,u)]) /\
    ∀ base:Heap,(K w.params).In base->base.Ns mainGlobals mg->FnOk l.prog w (K w.params) mg base (CX w) k fa fd [x] (sp w))
  (hsp:∀ (w:World) (H:Hp) (a:Addr) (ns:List Int),ns.length<=n->SqL (K w.params) H a (ns.map V.int)->Zkr tb H->sp w [.ref a] H (fun v H'=>v = .bl true/\Zkr tb H') fun _ _ _=>False)
  (hCX:∀ (w:World) (H:Hp) (s:Shared) (e:Value) (s':Shared),CX w [] H s (fun _ _ _=>False) e s'->False):
  PySem.W.WalkO q loose XP YP l.row.toRowW d [] (fun f vs=>PySem.call f vs):=by
 refine Att.attach_call hn hdf fun w s₀ s₁ mg mb fa o pm cd doc a vs ns G Y ho hd hcd hmg hobj hints hlen hg=>?_
 have KX:=hY w _ Y
 obtain ⟨fd,hb,hF⟩:=F w mg fa _ KX G.T.g hmg
 exact Zoy KX G.T.g G.T.b G.T.builtins G.T.nolimit (G.T.seer hq) G.T.bmain hg (htb w _ Y) hobj hints (Nat.le_trans hlen hn2) hr hF hb (fun H hS hT=>hsp w H a ns hlen hS hT) fun H e s'=>hCX w H s₁ e s'
def lamOk (outer:List (Str × NameKind)) (N:List Str) (sc:Scope) (x:Str) (fr:List (Str × Nat)):Bool:=
 sc.kind == .function && !sc.isCoroutine && !sc.isGenerator && sc.names.all (fun y=>y.2 != .cell) && sc.names.lookup x == some .local &&
 sc.names.all (fun y=>y.2 != .free || outer.lookup y.1 == some .cell || outer.lookup y.1 == some .free) &&
 fr.all fun y=>sc.names.lookup y.1 == some .free && N[y.2]? == some y.1
theorem lam_of {X:Cx} {sc:Scope} {x:Str} {fr:List (Str × Nat)} (h:lamOk X.env.scope.names X.N sc x fr = true):LamScope X sc x fr:=by
 unfold lamOk at h
 simp only [Bool.and_eq_true,List.all_eq_true] at h
 obtain ⟨⟨⟨⟨⟨⟨h1,h2⟩,h3⟩,h4⟩,h5⟩,h6⟩,h7⟩:=h
 refine ⟨?_,?_,?_,fun y hy z=>?_,beq_iff_eq.mp h5,fun y hy hf=>?_,fun y hy=>?_⟩
 ·cases e:sc.kind <;> rw [e] at h1 <;> first | rfl | (exact absurd h1 (by decide))
 ·simpa using h2
 ·simpa using h3
 ·have:=h4 y hy
  rw [z] at this
  exact absurd this (by decide)
 ·have:=h6 y hy
  rw [hf] at this
  simp only [Bool.or_eq_true,beq_iff_eq] at this
  rcases this with (q | q) | q
  ·exact absurd q (by decide)
  ·exact .inl q
  ·exact .inr q
 ·have:=h7 y hy
  exact ⟨beq_iff_eq.mp this.1,beq_iff_eq.mp this.2⟩
structure FunC (K:PySem.W.Frag) (x qual:Str) (st:Stmt) (f:Addr) (fd:FuncData) (c:Addr):Prop where
 ex:∃ (oc:Value) (od:Option Addr) (kV doc pm:Value) (an:Option Addr) (ct:Value) (osl:Array (Option Value)),
  fd = PySem.W.fnOf x qual (Zao st) (Zam st) (Zae st) .none kV doc pm an (.ref c) ct/\K.lookup f = some ⟨oc,od,.func fd,osl⟩/\PySem.W.codeIn K (.ref c) qual = true
section
variable {P:Program} {w:World} {K:PySem.W.Frag} {mg:Str->Option Value} {base:Heap}
theorem FunC.ok {x qual:Str} {st:Stmt} {f c:Addr} {fd:FuncData} {N ps:List Str} {k:Nat} {sp:L2.Sp} (F:FunC K x qual st f fd c) (S:FnScope N ps (Zae st)) (len:∀ vs H Q E,sp vs H Q E->vs.length = ps.length)
  (hbody:∀ (A:Around) (outer:List Env) (s:Shared) (H:Hp) (vs:List V) (Q:VK) (E:XK),Room k (A.deeper (envOfC qual (Zae st) s.heap.objs.size f (.ref c)))->sp vs H Q E->
   ∃ t,PSs (Zrs CX0 P w K mg base N qual (Zae st) f (.ref c) A outer s H E).nox (Zam st) t/\t { nx:=fun _ H'=>Q .non H',rt:=Q } (start N vs) H):FnOk P w K mg base CX0 (k + 1) f fd ps sp:=by
 obtain ⟨oc,od,kV,doc,pm,an,ct,osl,rfl,lk,hcd⟩:=F.ex
 refine fn_of lk hcd S len fun A outer s H vs Q E hr hsp=>?_
 obtain ⟨t,h,q⟩:=hbody A outer s H vs Q E hr hsp
 exact ⟨t,h.nox,q⟩
theorem FunC.binds {x qual:Str} {st:Stmt} {f c:Addr} {fd:FuncData} {ps:List Str} (F:FunC K x qual st f fd c)
  (h:∀ (kV doc pm:Value) (an:Option Addr) (cdv ct:Value) (us:List Value),us.length = ps.length->bindArgs (PySem.W.fnOf x qual (Zao st) (Zam st) (Zae st) .none kV doc pm an cdv ct) ⟨us,[]⟩ = pure (ps.zip us)):Binds K fd ps []:=by
 obtain ⟨oc,od,kV,doc,pm,an,ct,osl,rfl,lk,hcd⟩:=F.ex
 exact .all (h kV doc pm an (.ref c) ct)
end
end L2
namespace L2
open PySem PySem.Spec PyProof.Rows PySem.W
def hdIn (K:PySem.W.Frag) (c P:Addr):Bool:=
 match List.lookup c K with
 | some ⟨.type t,_,.fields (vs:Array Value),_⟩=>t == "code" && (match (vs[11]?:Option Value) with | some (Value.ref q)=>q == P | _=>false) && (match vs.getD 11 .none with | .ref q=>q == P | _=>false) && (match vs.getD 18 .none with | .str _ _=>true | _=>false) && (match vs.getD 7 .none with | .int _ _=>true | _=>false) && (match vs.getD 9 .none with | .bool _=>true | _=>false) && (match vs.getD 10 .none with | .int _ _=>true | _=>false) && c != P
 | _=>false
theorem hd_of {K:PySem.W.Frag} {h:Heap} {c P:Addr} (X:K.In h) (e:hdIn K c P = true):PySem.W.CodeHd h c P:=by
 unfold hdIn at e
 split at e
 ·rename_i t d vs sl hl
  simp only [Bool.and_eq_true] at e
  obtain ⟨⟨⟨⟨⟨⟨⟨e1,e2⟩,e3⟩,e4⟩,e5⟩,e6⟩,e7⟩,e8⟩:=e
  have e1:=eq_of_beq e1
  subst e1
  have h2:vs[11]? = some (.ref P):=by
   split at e2
   ·rename_i q hq
    rw [hq,eq_of_beq e2]
   ·cases e2
  have h3:vs.getD 11 .none = .ref P:=by
   split at e3
   ·rename_i q hq
    rw [hq,eq_of_beq e3]
   ·cases e3
  have h4:∃ f t,vs.getD 18 .none = .str f t:=by
   split at e4
   ·rename_i f t hq
    exact ⟨f,t,hq⟩
   ·cases e4
  have h5:∃ f t,vs.getD 7 .none = .int f t:=by
   split at e5
   ·rename_i f t hq
    exact ⟨f,t,hq⟩
   ·cases e5
  have h6:∃ f,vs.getD 9 .none = .bool f:=by
   split at e6
   ·rename_i f hq
    exact ⟨f,hq⟩
   ·cases e6
  have h7:∃ f t,vs.getD 10 .none = .int f t:=by
   split at e7
   ·rename_i f t hq
    exact ⟨f,t,hq⟩
   ·cases e7
  obtain ⟨f1,t1,h4⟩:=h4
  obtain ⟨f2,t2,h5⟩:=h5
  obtain ⟨f3,h6⟩:=h6
  obtain ⟨f4,t4,h7⟩:=h7
  exact ⟨_,vs,f1,t1,f2,t2,f3,f4,t4,X c _ hl,rfl,rfl,h2,h3,h4,h5,h6,h7,by simpa using e8⟩
 ·cases e
theorem Zp8 {l:PySem.W.OpenLaw} {n k:Nat} {q:Program} {loose:List Str} {XP:(Str->Option Value)->Heap->Prop} {YP:World->Heap->Prop} {d:DefRec} {K:Params->PySem.W.Frag} {sp:World->Sp} {x:Str} (cL PL:Addr) (ln co:Int) (qu:Str)
  (hq:importsNone q = true) (hn:l.most = some n) (hn2:n<=sizeLine) (hdf:d.params.defaults = []) (hr:Room k callerA)
  (hY:∀ (w:World) (h:Heap),YP w h->(K w.params).In h) (hP:∀ (w:World) (h:Heap),YP w h->h.get? PL = some (PySem.W.tabObj #[])) (hN:∀ p,(K p).lookup PL = none) (hC:∀ p,hdIn (K p) cL PL = true)
  (F:∀ (w:World) (mg:Str->Option Value) (fa:Addr) (h:Heap),(K w.params).In h->h.Ns mainGlobals mg->mg d.name = some (.ref fa)->
   ∃ fd:FuncData,(∀ (s:Shared) (u:Value),BindsTo s fd ⟨[u],[]⟩ [(x,u)]) /\
    ∀ base:Heap,(K w.params).In base->base.Ns mainGlobals mg->FnOk l.prog w (K w.params) mg base CX0 k fa fd [x] (sp w))
  (hsp:∀ (w:World) (H:Hp) (a:Addr) (ns:List Int) (Q:VK) (E:XK),ns.length<=n->SqL (K w.params) H a (ns.map V.int)->H PL = some (.tab ln co qu)->(∀ H',H' PL = some (.tab ln co qu)->Q (.bl true) H')->sp w [.ref a] H Q E):
  PySem.W.WalkO q loose XP YP l.row.toRowW d [] (fun f vs=>PySem.call f vs):=by
 have one:∀ b t,([(PL,ln,co,qu)]:Tbs).lookup b = some t->b = PL/\t = (ln,co,qu):=fun b t e=>by
  rw [List.lookup_cons] at e
  split at e
  ·rename_i hb
   cases e
   exact ⟨eq_of_beq hb,rfl⟩
  ·cases e
 have two:([(PL,ln,co,qu)]:Tbs).lookup PL = some (ln,co,qu):=by rw [List.lookup_cons]; simp
 refine Zp7 (l:=l) (n:=n) (k:=k) (K:=K) (CX:=fun _=>CX0) (sp:=sp) (x:=x) (tb:=[(PL,ln,co,qu)]) hq hn hn2 hdf hr hY (fun w h Y b t e=>?_) F (fun w H a ns hl hS hT=>?_) (fun _ _ _ _ _ h=>h)
 ·obtain ⟨rfl,_⟩:=one b t e
  have g:=hP w h Y
  exact ⟨g,hN _,((hd_of (hY w h Y) (hC _)).tab g).isCodeTable⟩
 ·refine hsp w H a ns _ _ hl hS (hT PL _ two) fun H' h'=>⟨rfl,fun b t e=>?_⟩
  obtain ⟨rfl,rfl⟩:=one b t e
  exact h'
end L2
namespace L3
open L2
open Lean.Grind
def Zp (n:Nat):Type:=Fin n
instance {n:Nat} [NeZero n]:CommRing (Zp n):=inferInstanceAs (CommRing (Fin n))
class PrimeN (n:Nat):Prop where
 gt:1 < n
 inv:∀ r:Nat,0 < r->r < n->∃ k,k < n/\k * r % n = 1
instance {n:Nat} [h:PrimeN n]:NeZero n:=⟨by have:=h.gt; omega⟩
section
variable {n:Nat} [hn:PrimeN n]
theorem Zr1 (a:Zp n) (h:a ≠ 0):∃ b:Zp n,a * b = 1:=by
 have h0:0 < (show Fin n from a).val:=by
  rcases Nat.eq_zero_or_pos (show Fin n from a).val with z | z
  ·exact absurd (show a = 0 from Fin.ext (by rw [z]; rfl)) h
  ·exact z
 obtain ⟨k,hk,e⟩:=hn.inv _ h0 (show Fin n from a).isLt
 refine ⟨(⟨k,hk⟩:Fin n),?_⟩
 apply Fin.ext
 show ((show Fin n from a).val * k) % n = 1 % n
 rw [Nat.mul_comm,e,Nat.mod_eq_of_lt hn.gt]
open Classical in
noncomputable def zinv (a:Zp n):Zp n:=if h:a ≠ 0 then Classical.choose (Zr1 a h) else 0
theorem Zgl {a:Zp n} (h:a ≠ 0):a * zinv a = 1:=by
 unfold zinv
 rw [dif_pos h]
 exact Classical.choose_spec (Zr1 a h)
theorem Zgv:zinv (0:Zp n) = 0:=by
 unfold zinv
 rw [dif_neg (by simp)]
theorem Zgu:(0:Zp n) ≠ 1:=fun z=>by
 have:=congrArg (fun x:Fin n=>x.val) z
 have h1:(0:Nat) % n = 1 % n:=this
 rw [Nat.zero_mod,Nat.mod_eq_of_lt hn.gt] at h1
 omega
theorem Zna {a b c:Zp n} (h1:a * b = 1) (h2:a * c = 1):b = c:=by
 have:b = b * (a * c):=by rw [h2]; grind
 rw [this]
 grind
theorem Znb (a:Zp n):zinv (zinv a) = a:=by
 by_cases h:a = 0
 ·rw [h,Zgv,Zgv]
 ·have h1:=Zgl h
  have h2:zinv a ≠ 0:=fun z=>by
   rw [z] at h1
   exact Zgu (by rw [<- h1]; grind)
  exact Zna (Zgl h2) (by rw [<- h1]; grind)
theorem Zp6:zinv (1:Zp n) = 1:=Zna (Zgl (fun z=>Zgu z.symm)) (by grind)
noncomputable instance:Inv (Zp n):=⟨zinv⟩
noncomputable instance:Div (Zp n):=⟨fun a b=>a * zinv b⟩
noncomputable def zpw (a:Zp n):Int->Zp n
 | .ofNat k=>a ^ k
 | .negSucc k=>zinv (a ^ (k + 1))
noncomputable instance:HPow (Zp n) Int (Zp n):=⟨zpw⟩
noncomputable instance:Field (Zp n) where
 div_eq_mul_inv:=fun a b=>rfl
 zero_ne_one:=Zgu
 inv_zero:=Zgv
 mul_inv_cancel:=fun h=>Zgl h
 zpow_zero:=fun a=>Semiring.pow_zero a
 zpow_succ:=fun a k=>Semiring.pow_succ a k
 zpow_neg:=fun a k=>by
  match k with
  | .ofNat 0=>exact (show a ^ (0:Nat) = zinv (a ^ (0:Nat)) by rw [Semiring.pow_zero,Zp6])
  | .ofNat (m + 1)=>rfl
  | .negSucc m=>exact (Znb (a ^ (m + 1))).symm
end
section
variable {F:Type} [Field F]
def ic (z:Int):F:=(Ring.intCast:IntCast F).intCast z
theorem Zpd (x y:Int):(ic (x + y):F) = ic x + ic y:=Ring.intCast_add x y
theorem Zpc (x y:Int):(ic (x - y):F) = ic x - ic y:=Ring.intCast_sub x y
theorem Zcn (x y:Int):(ic (x * y):F) = ic x * ic y:=Ring.intCast_mul x y
theorem Zka (x:Int):(ic (-x):F) = -ic x:=Ring.intCast_neg x
theorem Zfm:(ic 0:F) = 0:=Ring.intCast_zero
theorem Zdz:(ic 1:F) = 1:=Ring.intCast_one
end
def Rz (p z:Int):Prop:=p = 0\/(0<=z/\z < p)
structure FdOk (p:Int) (F:Type) [Field F]:Prop where
 z0:∀ z:Int,Rz p z->(ic z:F) = 0->z = 0
 md:p ≠ 0->(ic p:F) = 0
theorem fd_zero:FdOk 0 Rat:=⟨fun z _ h=>by
 have h2:(z:Rat) = ((0:Int):Rat):=h
 exact Rat.intCast_inj.mp h2,fun h=>absurd rfl h⟩
theorem Zr0 {n:Nat} [PrimeN n] (k:Nat):(show Fin n from (ic ((k:Nat):Int):Zp n)).val = k % n:=by
 have:(ic ((k:Nat):Int):Zp n) = (Semiring.natCast:NatCast (Zp n)).natCast k:=Ring.intCast_natCast k
 rw [this]
 rfl
theorem Zrq {n:Nat} [hn:PrimeN n]:FdOk n (Zp n):=by
 refine ⟨fun z hz h=>?_,fun _=>?_⟩
 ·have hz:0<=z/\z < n:=hz.resolve_left (by have:=hn.gt; omega)
  obtain ⟨k,rfl⟩:=Int.eq_ofNat_of_zero_le hz.1
  have h2:=Zr0 (n:=n) k
  rw [h,Nat.mod_eq_of_lt (by omega)] at h2
  have h3:0 % n = k:=h2
  rw [Nat.zero_mod] at h3
  rw [<- h3]
  rfl
 ·apply Fin.ext
  have h2:=Zr0 (n:=n) n
  rw [Nat.mod_self] at h2
  refine h2.trans ?_
  show 0 = 0 % n
  rw [Nat.zero_mod]
def nm {F:Type} [Field F] (x:Int × Int):F:=ic x.1 / ic x.2
section
variable {p:Int} {F:Type} [Field F]
theorem Zkh {a b c:F} (h:b ≠ 0) (e:c * b = a):a / b = c:=by grind
theorem FdOk.modF (hF:FdOk p F) (hp:p ≠ 0) (z:Int):(ic (z % p):F) = ic z:=by
 have e:z = z % p + p * (z / p):=(Int.emod_add_mul_ediv z p).symm
 have e2:(ic z:F) = ic (z % p) + ic p * ic (z / p):=by
  rw [<- Zcn,<- Zpd,<- e]
 rw [e2,hF.md hp]
 grind
theorem FdOk.ne0 (hF:FdOk p F) {z:Int} (hz:Rz p z) (h:z ≠ 0):(ic z:F) ≠ 0:=fun e=>h (hF.z0 z hz e)
theorem FdOk.bot (hF:FdOk p F) {x:Int × Int} (h:Isn p x):(ic x.2:F) ≠ 0:=by
 rcases h with ⟨hp,h1,_⟩ | ⟨_,_,_,h1⟩
 ·exact hF.ne0 (.inl hp) (by omega)
 ·rw [h1,Zdz]
  exact fun z=>Field.zero_ne_one (α:=F) z.symm
theorem FdOk.nrmF (hF:FdOk p F) (hp:p = 0) {a b:Int} (hb:0 < b):(nm (nrm a b):F) = ic a / ic b:=by
 have g0:(ic ((Int.gcd a b:Nat):Int):F) ≠ 0:=hF.ne0 (.inl hp) (by have:=Zdd (a:=a) hb; omega)
 have b0:(ic b:F) ≠ 0:=hF.ne0 (.inl hp) (by omega)
 have e1:(ic (nrm a b).1:F) * ic ((Int.gcd a b:Nat):Int) = ic a:=by rw [<- Zcn,Zol]
 have e2:(ic (nrm a b).2:F) * ic ((Int.gcd a b:Nat):Int) = ic b:=by rw [<- Zcn,Zlb]
 have c0:(ic (nrm a b).2:F) ≠ 0:=fun z=>b0 (by rw [<- e2,z]; grind)
 unfold nm
 rw [<- e1,<- e2]
 generalize (ic (nrm a b).1:F) = x at *
 generalize (ic (nrm a b).2:F) = y at *
 generalize (ic ((Int.gcd a b:Nat):Int):F) = g at *
 exact Zkh c0 (by grind)
theorem FdOk.one (hF:FdOk p F) (z:Int):(nm (z,1):F) = ic z:=by
 unfold nm
 rw [Zdz]
 exact Zkh (fun z=>Field.zero_ne_one (α:=F) z.symm) (by grind)
theorem FdOk.plus (hF:FdOk p F) {x y:Int × Int} (hx:Isn p x) (hy:Isn p y):(nm (Zcx p x y):F) = nm x + nm y:=by
 have bx:=hF.bot hx
 have by':=hF.bot hy
 unfold Zcx
 split
 ·rename_i hp
  rw [hF.nrmF hp (Int.mul_pos hx.pos hy.pos),Zpd,Zcn,Zcn,Zcn]
  unfold nm
  grind
 ·rename_i hp
  rw [hF.one,hF.modF hp,Zpd]
  rcases hx with ⟨z,_⟩ | ⟨_,_,_,h1⟩
  ·exact absurd z hp
  ·rcases hy with ⟨z,_⟩ | ⟨_,_,_,h2⟩
   ·exact absurd z hp
   ·unfold nm
    rw [h1,h2,Zdz]
    grind
theorem FdOk.times (hF:FdOk p F) {x y:Int × Int} (hx:Isn p x) (hy:Isn p y):(nm (Za8 p x y):F) = nm x * nm y:=by
 have bx:=hF.bot hx
 have by':=hF.bot hy
 unfold Za8
 split
 ·rename_i hp
  rw [hF.nrmF hp (Int.mul_pos hx.pos hy.pos),Zcn,Zcn]
  unfold nm
  grind
 ·rename_i hp
  rw [hF.one,hF.modF hp,Zcn]
  rcases hx with ⟨z,_⟩ | ⟨_,_,_,h1⟩
  ·exact absurd z hp
  ·rcases hy with ⟨z,_⟩ | ⟨_,_,_,h2⟩
   ·exact absurd z hp
   ·unfold nm
    rw [h1,h2,Zdz]
    grind
theorem FdOk.intF (hF:FdOk p F) (k:Int):(nm (Zfn p k):F) = ic k:=by
 unfold Zfn
 split
 ·exact hF.one k
 ·rename_i hp
  rw [hF.one,hF.modF hp]
theorem FdOk.inj (hF:FdOk p F) {x y:Int × Int} (hx:Isn p x) (hy:Isn p y) (e:(nm x:F) = nm y):x = y:=by
 have bx:=hF.bot hx
 have by':=hF.bot hy
 have e2:(ic x.1:F) * ic y.2 = ic y.1 * ic x.2:=by unfold nm at e; grind
 rw [<- Zcn,<- Zcn] at e2
 have e3:(ic (x.1 * y.2 - y.1 * x.2):F) = 0:=by rw [Zpc,e2]; grind
 by_cases hp:p = 0
 ·have h:=hF.z0 _ (.inl hp) e3
  rcases hx with ⟨_,lx⟩ | ⟨z,_⟩
  ·rcases hy with ⟨_,ly⟩ | ⟨z,_⟩
   ·exact Zm2 lx ly (by omega)
   ·omega
  ·omega
 ·rcases hx with ⟨z,_⟩ | ⟨pp,x0,x1,h1⟩
  ·exact absurd z hp
  ·rcases hy with ⟨z,_⟩ | ⟨_,y0,y1,h2⟩
   ·exact absurd z hp
   ·rw [h1,h2,Int.mul_one,Int.mul_one] at e3
    rw [<- hF.modF hp] at e3
    have h:=hF.z0 _ (.inr ⟨Int.emod_nonneg _ hp,Int.emod_lt_of_pos _ pp⟩) e3
    have h3:x.1 = y.1:=by
     have:=Int.emod_emod_of_dvd (x.1 - y.1) (Int.dvd_refl p)
     by_cases q:y.1<=x.1
     ·rw [Int.emod_eq_of_lt (by omega) (by omega)] at h
      omega
     ·have h4:(x.1 - y.1 + p) % p = 0:=by rw [Int.add_emod_right]; exact h
      rw [Int.emod_eq_of_lt (by omega) (by omega)] at h4
      omega
    exact Prod.ext h3 (by rw [h1,h2])
end
end L3
namespace L3
open Lean.Grind
section
variable {F:Type} [Field F]
def sm:Nat->(Nat->F)->F
 | 0,_=>0
 | n + 1,f=>sm n f + f n
theorem Zaq:∀ {n:Nat} {f g:Nat->F},(∀ i,i < n->f i = g i)->sm n f = sm n g
 | 0,_,_,_=>rfl
 | n + 1,f,g,h=>by
  show sm n f + f n = sm n g + g n
  rw [Zaq (n:=n) fun i hi=>h i (by omega),h n (by omega)]
theorem Zef:∀ n:Nat,sm n (fun _=>(0:F)) = 0
 | 0=>rfl
 | n + 1=>by
  show sm n (fun _=>(0:F)) + 0 = 0
  rw [Zef n]
  grind
theorem Zjr:∀ (n:Nat) (f g:Nat->F),sm n (fun i=>f i + g i) = sm n f + sm n g
 | 0,_,_=>by show (0:F) = 0 + 0; grind
 | n + 1,f,g=>by
  show sm n (fun i=>f i + g i) + (f n + g n) = (sm n f + f n) + (sm n g + g n)
  rw [Zjr n]
  grind
theorem Zdu (a:F):∀ (n:Nat) (f:Nat->F),sm n (fun i=>a * f i) = a * sm n f
 | 0,_=>by show (0:F) = a * 0; grind
 | n + 1,f=>by
  show sm n (fun i=>a * f i) + a * f n = a * (sm n f + f n)
  rw [Zdu a n]
  grind
theorem Zir (a:F) (n:Nat) (f:Nat->F):sm n (fun i=>f i * a) = sm n f * a:=by
 rw [show (fun i=>f i * a) = fun i=>a * f i from funext fun i=>by grind,Zdu]
 grind
theorem Zfg:∀ (n m:Nat) (f:Nat->Nat->F),sm n (fun i=>sm m (fun j=>f i j)) = sm m (fun j=>sm n (fun i=>f i j))
 | 0,m,f=>(Zef m).symm
 | n + 1,m,f=>by
  show sm n (fun i=>sm m (fun j=>f i j)) + sm m (fun j=>f n j) = sm m (fun j=>sm n (fun i=>f i j) + f n j)
  rw [Zfg n m,Zjr]
theorem Zjq:∀ {n k:Nat} (f:Nat->F),k < n->sm n (fun i=>if i = k then f i else 0) = f k
 | 0,_,_,h=>absurd h (Nat.not_lt_zero _)
 | n + 1,k,f,h=>by
  show sm n (fun i=>if i = k then f i else 0) + (if n = k then f n else 0) = f k
  by_cases e:n = k
  ·subst e
   rw [if_pos rfl,Zaq (g:=fun _=>0) (fun i hi=>by rw [if_neg (by omega)]),Zef]
   grind
  ·rw [if_neg e,Zjq f (by omega)]
   grind
theorem Zr4 {n k:Nat} (f:Nat->F) (h:k < n):sm n (fun i=>(if i = k then 1 else 0) * f i) = f k:=by
 rw [<- Zjq f h]
 exact Zaq fun i _=>by split <;> grind
theorem Zgz {n k:Nat} (f:Nat->F) (h:k < n):sm n (fun i=>f i * (if i = k then 1 else 0)) = f k:=by
 rw [<- Zjq f h]
 exact Zaq fun i _=>by split <;> grind
theorem Zfp {n k:Nat} (f:Nat->F) (h:k < n):sm n (fun i=>f i * (if k = i then 1 else 0)) = f k:=by
 rw [<- Zjq f h]
 exact Zaq fun i _=>by
  by_cases e:i = k
  ·rw [if_pos e,if_pos e.symm]; grind
  ·rw [if_neg e,if_neg (fun z=>e z.symm)]; grind
def sk (k j:Nat):Nat:=if j < k then j else j + 1
theorem Zl3:∀ {n k:Nat} (f:Nat->F),k<=n->sm (n + 1) f = f k + sm n (fun j=>f (sk k j))
 | n,k,f,h=>by
  by_cases e:k = n
  ·subst e
   show sm k f + f k = _
   rw [Zaq (n:=k) (f:=f) (g:=fun j=>f (sk k j)) fun i hi=>by unfold sk; rw [if_pos hi]]
   grind
  ·cases n with
   | zero=>omega
   | succ n=>
    show sm (n + 1) f + f (n + 1) = f k + (sm n (fun j=>f (sk k j)) + f (sk k n))
    rw [Zl3 (n:=n) (k:=k) f (by omega)]
    have:sk k n = n + 1:=by unfold sk; rw [if_neg (by omega)]
    rw [this]
    grind
theorem Zo0:∀ (r s:Nat) (Y:Nat->Nat->F),r < s->∃ v:Nat->F,(∃ j,j < s/\v j ≠ 0)/\∀ i,i < r->sm s (fun j=>Y i j * v j) = 0
 | 0,s,Y,h=>⟨fun _=>1,⟨0,h,fun z=>Field.zero_ne_one (α:=F) z.symm⟩,fun i hi=>absurd hi (Nat.not_lt_zero _)⟩
 | r + 1,s,Y,h=>by
  by_cases hz:∀ j,j < s->Y r j = 0
  ·obtain ⟨v,hv,he⟩:=Zo0 r s Y (by omega)
   refine ⟨v,hv,fun i hi=>?_⟩
   by_cases e:i = r
   ·subst e
    rw [Zaq (g:=fun _=>0) fun j hj=>by rw [hz j hj]; grind,Zef]
   ·exact he i (by omega)
  ·obtain ⟨k,hk⟩:∃ k,k < s/\Y r k ≠ 0:=by
    apply Classical.byContradiction
    intro z
    exact hz fun j hj=>Classical.byContradiction fun q=>z ⟨j,hj,q⟩
   obtain ⟨hk,hy⟩:=hk
   obtain ⟨s',rfl⟩:∃ s',s = s' + 1:=⟨s - 1,by omega⟩
   obtain ⟨v',⟨j0,hj0,hv0⟩,he⟩:=Zo0 r s' (fun i j=>Y i (sk k j) - Y i k / Y r k * Y r (sk k j)) (by omega)
   obtain ⟨v,hvk,hv'⟩:∃ v:Nat->F,v k = -(sm s' (fun j=>Y r (sk k j) * v' j)) / Y r k/\∀ j,v (sk k j) = v' j:=by
    refine ⟨fun i=>if i = k then -(sm s' (fun j=>Y r (sk k j) * v' j)) / Y r k else v' (if i < k then i else i - 1),if_pos rfl,fun j=>?_⟩
    have h1:sk k j ≠ k:=by unfold sk; split <;> omega
    show (if sk k j = k then _ else v' (if sk k j < k then sk k j else sk k j - 1)) = v' j
    rw [if_neg h1]
    congr 1
    unfold sk
    by_cases q:j < k
    ·rw [if_pos q,if_pos q]
    ·rw [if_neg q,if_neg (by omega)]
     omega
   refine ⟨v,⟨sk k j0,by unfold sk; split <;> omega,by rw [hv']; exact hv0⟩,fun i hi=>?_⟩
   rw [Zl3 (k:=k) _ (by omega),hvk]
   rw [Zaq (n:=s') (f:=fun j=>Y i (sk k j) * v (sk k j)) (g:=fun j=>Y i (sk k j) * v' j) fun j hj=>by rw [hv']]
   by_cases e:i = r
   ·subst e
    generalize sm s' (fun j=>Y i (sk k j) * v' j) = S
    grind
   ·have h2:=he i (by omega)
    have h3:sm s' (fun j=>(Y i (sk k j) - Y i k / Y r k * Y r (sk k j)) * v' j) = sm s' (fun j=>Y i (sk k j) * v' j) - Y i k / Y r k * sm s' (fun j=>Y r (sk k j) * v' j):=by
     rw [<- Zdu]
     have:∀ (f g:Nat->F),sm s' (fun j=>f j - g j) = sm s' f - sm s' g:=fun f g=>by
      have e1:=Zjr s' (fun j=>f j - g j) g
      rw [show (fun j=>f j - g j + g j) = f from funext fun j=>by grind] at e1
      rw [e1]
      grind
     rw [<- this]
     exact Zaq fun j _=>by grind
    rw [h3] at h2
    generalize sm s' (fun j=>Y i (sk k j) * v' j) = S1 at *
    generalize sm s' (fun j=>Y r (sk k j) * v' j) = S2 at *
    grind
abbrev del (i k:Nat):F:=if i = k then 1 else 0
theorem dim_le {r s:Nat} {X Y:Nat->Nat->F} (h:∀ i k,i < s->k < s->sm r (fun t=>X i t * Y t k) = del i k):s<=r:=by
 apply Classical.byContradiction
 intro z
 obtain ⟨v,⟨j,hj,hv⟩,he⟩:=Zo0 r s Y (by omega)
 apply hv
 have h1:sm s (fun k=>sm r (fun t=>X j t * Y t k) * v k) = v j:=by
  rw [Zaq (g:=fun k=>del j k * v k) fun k hk=>by rw [h j k hj hk]]
  rw [show (fun k=>del j k * v k) = fun k=>v k * (if j = k then 1 else 0) from funext fun k=>by grind]
  exact Zfp v hj
 rw [<- h1]
 rw [Zaq (g:=fun k=>sm r (fun t=>X j t * Y t k * v k)) fun k _=>by rw [Zir],Zfg]
 rw [Zaq (g:=fun _=>0) fun t ht=>?_,Zef]
 rw [show (fun k=>X j t * Y t k * v k) = fun k=>X j t * (Y t k * v k) from funext fun k=>by grind,Zdu,he t ht]
 grind
structure Rk (A:Nat->Nat->F) (m n r:Nat):Prop where
 fac:∃ B C:Nat->Nat->F,∀ i j,i < m->j < n->A i j = sm r fun k=>B i k * C k j
 piv:∃ P Q:Nat->Nat->F,∀ i k,i < r->k < r->sm m (fun a=>P i a * sm n fun b=>A a b * Q b k) = del i k
theorem Zin {m n r s:Nat} {A B C P Q:Nat->Nat->F} (hf:∀ i j,i < m->j < n->A i j = sm r fun k=>B i k * C k j) (hp:∀ i k,i < s->k < s->sm m (fun a=>P i a * sm n fun b=>A a b * Q b k) = del i k):s<=r:=by
 refine dim_le (X:=fun i t=>sm m fun a=>P i a * B a t) (Y:=fun t k=>sm n fun b=>C t b * Q b k) fun i k hi hk=>?_
 rw [<- hp i k hi hk]
 have e1:∀ a,a < m->(sm n fun b=>A a b * Q b k) = sm r fun t=>B a t * sm n fun b=>C t b * Q b k:=fun a ha=>by
  rw [Zaq (g:=fun b=>sm r fun t=>B a t * (C t b * Q b k)) fun b hb=>?_,Zfg]
  ·exact Zaq fun t _=>Zdu _ _ _
  ·rw [hf a b ha hb,<- Zir]
   exact Zaq fun t _=>by grind
 rw [Zaq (n:=m) (g:=fun a=>sm r fun t=>P i a * B a t * sm n fun b=>C t b * Q b k) fun a ha=>?_,Zfg]
 ·exact Zaq fun t _=>by rw [Zir]
 ·rw [e1 a ha,<- Zdu]
  exact Zaq fun t _=>by grind
theorem Rk.uniq {A:Nat->Nat->F} {m n r s:Nat} (h:Rk A m n r) (h':Rk A m n s):r = s:=by
 obtain ⟨B,C,hf⟩:=h.fac
 obtain ⟨P,Q,hp⟩:=h.piv
 obtain ⟨B',C',hf'⟩:=h'.fac
 obtain ⟨P',Q',hp'⟩:=h'.piv
 have:=Zin hf hp'
 have:=Zin hf' hp
 omega
theorem Rk.congr {A B:Nat->Nat->F} {m n r:Nat} (h:Rk A m n r) (e:∀ i j,i < m->j < n->A i j = B i j):Rk B m n r:=by
 obtain ⟨X,Y,hf⟩:=h.fac
 obtain ⟨P,Q,hp⟩:=h.piv
 refine ⟨⟨X,Y,fun i j hi hj=>by rw [<- e i j hi hj]; exact hf i j hi hj⟩,⟨P,Q,fun i k hi hk=>?_⟩⟩
 rw [<- hp i k hi hk]
 exact Zaq fun a ha=>by rw [Zaq (n:=n) fun b hb=>by rw [<- e a b ha hb]]
theorem Rk.turn {A:Nat->Nat->F} {m n r:Nat} (h:Rk A m n r):Rk (fun i j=>A j i) n m r:=by
 obtain ⟨X,Y,hf⟩:=h.fac
 obtain ⟨P,Q,hp⟩:=h.piv
 refine ⟨⟨fun i k=>Y k i,fun k j=>X j k,fun i j hi hj=>?_⟩,⟨fun i a=>Q a i,fun b k=>P k b,fun i k hi hk=>?_⟩⟩
 ·rw [hf j i hj hi]
  exact Zaq fun k _=>by grind
 ·have:=hp k i hk hi
  rw [show (del i k:F) = del k i by by_cases e:i = k <;> grind,<- this]
  rw [Zaq (n:=n) (g:=fun a=>sm m fun b=>P k b * (A b a * Q a i)) fun a _=>?_,Zfg]
  ·exact Zaq fun b _=>Zdu _ _ _
  ·rw [<- Zdu]
   exact Zaq fun b _=>by grind
abbrev mm (n:Nat) (A B:Nat->Nat->F):Nat->Nat->F:=fun i j=>sm n fun k=>A i k * B k j
theorem Zrd (n l:Nat) (A B C:Nat->Nat->F) (i j:Nat):mm l (mm n A B) C i j = mm n A (mm l B C) i j:=by
 show sm l (fun k=>sm n (fun t=>A i t * B t k) * C k j) = sm n fun t=>A i t * sm l fun k=>B t k * C k j
 rw [Zaq (n:=l) (g:=fun k=>sm n fun t=>A i t * (B t k * C k j)) fun k _=>?_,Zfg]
 ·exact Zaq fun t _=>Zdu _ _ _
 ·rw [<- Zir]
  exact Zaq fun t _=>by grind
theorem Rk.mul_l {A B:Nat->Nat->F} {m n l r s:Nat} (h:Rk A m n r) (h':Rk (mm n A B) m l s):s<=r:=by
 obtain ⟨X,Y,hf⟩:=h.fac
 obtain ⟨P,Q,hp⟩:=h'.piv
 refine Zin (A:=mm n A B) (B:=X) (C:=mm n Y B) (fun i j hi hj=>?_) hp
 show mm n A B i j = mm r X (mm n Y B) i j
 rw [<- Zrd]
 exact Zaq fun k hk=>by rw [hf i k hi hk]
theorem Rk.of_left {A P:Nat->Nat->F} {m n:Nat} (e:∀ i j,i < n->j < n->mm m P A i j = del i j):Rk A m n n:=by
 refine ⟨⟨A,fun k j=>del k j,fun i j hi hj=>(Zgz _ hj).symm⟩,⟨P,fun b k=>del b k,fun i k hi hk=>?_⟩⟩
 rw [<- e i k hi hk]
 exact Zaq fun a _=>by rw [Zgz _ hk]
abbrev zv:Nat->F:=fun _=>0
inductive Sp (S:(Nat->F)->Prop):(Nat->F)->Prop
 | mem {v:Nat->F}:S v->Sp S v
 | zero:Sp S zv
 | comb {u v:Nat->F} (a b:F):Sp S u->Sp S v->Sp S fun j=>a * u j + b * v j
theorem Sp.trans {S T:(Nat->F)->Prop} {v:Nat->F} (h:Sp S v) (k:∀ u,S u->Sp T u):Sp T v:=by
 induction h with
 | mem h=>exact k _ h
 | zero=>exact .zero
 | comb a b _ _ h1 h2=>exact .comb a b h1 h2
theorem Sp.smul {S:(Nat->F)->Prop} {v:Nat->F} (a:F) (h:Sp S v):Sp S fun j=>a * v j:=by
 have:=Sp.comb a 0 h Sp.zero
 rwa [show (fun j=>a * v j + 0 * (zv j:F)) = fun j=>a * v j from funext fun j=>by grind] at this
abbrev SpL (L:List (Nat->F)) (v:Nat->F):Prop:=Sp (· ∈ L) v
structure SpEq (L L':List (Nat->F)):Prop where
 le:∀ v ∈ L,SpL L' v
 ge:∀ v ∈ L',SpL L v
theorem SpEq.refl (L:List (Nat->F)):SpEq L L:=⟨fun _ h=>.mem h,fun _ h=>.mem h⟩
theorem SpEq.symm {L L':List (Nat->F)} (h:SpEq L L'):SpEq L' L:=⟨h.ge,h.le⟩
theorem SpEq.trans {L L' L'':List (Nat->F)} (h:SpEq L L') (h':SpEq L' L''):SpEq L L'':=⟨fun v hv=>(h.le v hv).trans fun u hu=>h'.le u hu,fun v hv=>(h'.ge v hv).trans fun u hu=>h.ge u hu⟩
theorem SpEq.mems {L L':List (Nat->F)} (h:∀ v,v ∈ L ↔ v ∈ L'):SpEq L L':=⟨fun v hv=>.mem ((h v).mp hv),fun v hv=>.mem ((h v).mpr hv)⟩
abbrev at' (L:List (Nat->F)) (i:Nat):Nat->F:=L.getD i zv
theorem Zca {L:List (Nat->F)} {i:Nat} (h:i < L.length):at' L i ∈ L:=by
 unfold at'
 rw [List.getD_eq_getElem?_getD,List.getElem?_eq_getElem h]
 exact List.getElem_mem h
theorem Sp.coef {L:List (Nat->F)} {v:Nat->F} (h:SpL L v):∃ c:Nat->F,∀ j,v j = sm L.length fun i=>c i * at' L i j:=by
 induction h with
 | mem h=>
  obtain ⟨i,hi,rfl⟩:=List.mem_iff_getElem.mp h
  refine ⟨fun k=>del k i,fun j=>?_⟩
  rw [Zr4 (fun k=>at' L k j) hi]
  unfold at'
  rw [List.getD_eq_getElem?_getD,List.getElem?_eq_getElem hi]
  rfl
 | zero=>exact ⟨fun _=>0,fun j=>by rw [Zaq (g:=fun _=>0) fun i _=>by grind,Zef]⟩
 | comb a b _ _ h1 h2=>
  obtain ⟨c,hc⟩:=h1
  obtain ⟨d,hd⟩:=h2
  refine ⟨fun i=>a * c i + b * d i,fun j=>?_⟩
  show a * _ + b * _ = _
  rw [hc j,hd j,<- Zdu,<- Zdu,<- Zjr]
  exact Zaq fun i _=>by grind
structure RR (L:List (Nat->F)) (n r:Nat) (c:Nat->Nat):Prop where
 rl:r<=L.length
 cn:∀ i,i < r->c i < n
 mono:∀ i k,i < k->k < r->c i < c k
 piv:∀ i k,i < r->k < r->at' L i (c k) = del i k
 low:∀ i j,i < r->j < c i->at' L i j = 0
 zer:∀ i j,r<=i->i < L.length->j < n->at' L i j = 0
theorem RR.expand {L:List (Nat->F)} {n r:Nat} {c:Nat->Nat} (R:RR L n r c) {v:Nat->F} (h:SpL L v):∀ j,j < n->v j = sm r fun i=>v (c i) * at' L i j:=by
 induction h with
 | mem h=>
  obtain ⟨i,hi,rfl⟩:=List.mem_iff_getElem.mp h
  have e:L[i] = at' L i:=by unfold at'; rw [List.getD_eq_getElem?_getD,List.getElem?_eq_getElem hi]; rfl
  rw [e]
  intro j hj
  by_cases hr:i < r
  ·rw [Zaq (g:=fun k=>at' L k j * (if i = k then 1 else 0)) fun k hk=>by rw [R.piv i k hr hk]; grind,Zfp _ hr]
  ·rw [R.zer i j (by omega) hi hj,Zaq (g:=fun _=>0) fun k hk=>by rw [R.zer i (c k) (by omega) hi (R.cn k hk)]; grind,Zef]
 | zero=>exact fun j _=>by rw [Zaq (g:=fun _=>0) fun i _=>by grind,Zef]
 | comb a b _ _ h1 h2=>
  intro j hj
  show a * _ + b * _ = _
  rw [h1 j hj,h2 j hj,<- Zdu,<- Zdu,<- Zjr]
  exact Zaq fun i _=>by grind
theorem RR.rk {L L':List (Nat->F)} {n r:Nat} {c:Nat->Nat} (R:RR L n r c) (h:SpEq L' L):Rk (fun i j=>at' L' i j) L'.length n r:=by
 refine ⟨⟨fun i k=>at' L' i (c k),fun k j=>at' L k j,fun i j hi hj=>R.expand (h.le _ (Zca hi)) j hj⟩,?_⟩
 have hc:∀ k,k < r->∃ d:Nat->F,∀ j,at' L k j = sm L'.length fun i=>d i * at' L' i j:=fun k hk=>(h.ge _ (Zca (Nat.lt_of_lt_of_le hk R.rl))).coef
 refine ⟨fun k=>if hk:k < r then Classical.choose (hc k hk) else zv,fun b k=>del b (c k),fun i k hi hk=>?_⟩
 rw [Zaq (g:=fun a=>Classical.choose (hc i hi) a * at' L' a (c k)) fun a _=>by
  show (if hk:i < r then Classical.choose (hc i hk) else zv) a * sm n (fun b=>at' L' a b * (if b = c k then 1 else 0)) = _
  rw [dif_pos hi,Zgz _ (R.cn k hk)]]
 rw [<- Classical.choose_spec (hc i hi) (c k)]
 exact R.piv i k hi hk
end
end L3
namespace L3
open L2 Lean.Grind
def gcdL (zs:List Int):Nat:=zs.foldl (fun d z=>Int.gcd z d) 0
theorem Zi6:∀ (zs:List Int) (d:Nat),(zs.foldl (fun d z=>Int.gcd z d) d) ∣ d/\∀ z ∈ zs,((zs.foldl (fun d z=>Int.gcd z d) d:Nat):Int) ∣ z
 | [],d=>⟨Nat.dvd_refl _,fun z h=>by simp at h⟩
 | y :: zs,d=>by
  obtain ⟨h1,h2⟩:=Zi6 zs (Int.gcd y d)
  have h3:Int.gcd y d ∣ d:=by have:=Int.gcd_dvd_natAbs_right y d; simpa using this
  refine ⟨Nat.dvd_trans h1 h3,fun z hz=>?_⟩
  rcases List.mem_cons.mp hz with rfl | hz
  ·exact Int.dvd_trans (Int.ofNat_dvd.mpr h1) (Int.gcd_dvd_left z d)
  ·exact h2 z hz
theorem Zi5 {zs:List Int} {z:Int} (h:z ∈ zs):(gcdL zs:Int) ∣ z:=(Zi6 zs 0).2 z h
theorem Zph (zs:List Int) (i:Nat):gcdL zs ∣ gcdL (zs.take i):=by
 have e:gcdL zs = (zs.drop i).foldl (fun d z=>Int.gcd z d) (gcdL (zs.take i)):=by
  unfold gcdL
  rw [<- List.foldl_append,List.take_append_drop]
 rw [e]
 exact (Zi6 _ _).1
theorem Zpi {zs:List Int} {i:Nat} {z:Int} (h:zs[i]? = some z):gcdL (zs.take (i + 1)) = Int.gcd z (gcdL (zs.take i)):=by
 rw [List.take_add_one,h]
 unfold gcdL
 rw [List.foldl_append]
 rfl
theorem Zpg {zs:List Int} (h:gcdL zs = 0) {z:Int} (hz:z ∈ zs):z = 0:=by
 have:=Zi5 hz
 rw [h] at this
 exact Int.zero_dvd.mp this
def Zds (p:Int) (zs:List Int):List Int:=if p = 0 then zs.map (· / (gcdL zs:Int)) else zs.map (· % p)
theorem Zqc {zs:List Int} (h:gcdL zs = 1):Zds 0 zs = zs:=by
 unfold Zds
 rw [if_pos rfl,h]
 have:(fun z:Int=>z / ((1:Nat):Int)) = id:=by funext z; simp
 rw [this,List.map_id]
theorem Zgx {zs:List Int} (h:gcdL zs = 0):Zds 0 zs = zs:=by
 unfold Zds
 rw [if_pos rfl]
 have:∀ z ∈ zs,z / (gcdL zs:Int) = id z:=fun z hz=>by rw [Zpg h hz]; simp
 rw [List.map_congr_left this,List.map_id]
theorem Zqd {p:Int} {zs:List Int}:(Zds p zs).length = zs.length:=by unfold Zds; split <;> simp
theorem Zmg {f:Int->Int} (h:f 0 = 0) (zs:List Int) (j:Nat):(zs.map f).getD j 0 = f (zs.getD j 0):=by
 rw [List.getD_eq_getElem?_getD,List.getD_eq_getElem?_getD,List.getElem?_map]
 cases zs[j]? with
 | none=>exact h.symm
 | some z=>rfl
theorem Zrm {f:Int->Int->Int} (h:f 0 0 = 0) {xs ys:List Int} (hl:xs.length = ys.length) (j:Nat):(List.zipWith f xs ys).getD j 0 = f (xs.getD j 0) (ys.getD j 0):=by
 rw [List.getD_eq_getElem?_getD,List.getD_eq_getElem?_getD,List.getD_eq_getElem?_getD,List.getElem?_zipWith]
 by_cases hj:j < xs.length
 ·rw [List.getElem?_eq_getElem hj,List.getElem?_eq_getElem (show j < ys.length by omega)]
  rfl
 ·rw [List.getElem?_eq_none (by omega),List.getElem?_eq_none (by omega)]
  exact h.symm
theorem Zhl {zs:List Int} (j:Nat):zs.getD j 0 ∈ zs\/zs.getD j 0 = 0:=by
 rw [List.getD_eq_getElem?_getD]
 cases e:zs[j]? with
 | none=>exact .inr rfl
 | some z=>exact .inl (List.mem_of_getElem? e)
theorem Zkv {p:Int} (zs:List Int) (j:Nat):(Zds p zs).getD j 0 = if p = 0 then zs.getD j 0 / (gcdL zs:Int) else zs.getD j 0 % p:=by
 unfold Zds
 split
 ·exact Zmg (f:=(· / (gcdL zs:Int))) (by simp) zs j
 ·exact Zmg (f:=(· % p)) (by simp) zs j
theorem Zjl {p:Int} {zs:List Int} {j:Nat} (h:zs.getD j 0 = 0):(Zds p zs).getD j 0 = 0:=by
 rw [Zkv,h]
 split <;> simp
def Rw (p:Int) (W:Nat) (zs:List Int):Prop:=zs.length = W/\∀ z ∈ zs,Rz p z
theorem Rw.at {p:Int} {W:Nat} {zs:List Int} (h:Rw p W zs) (h0:0<=p) (j:Nat):Rz p (zs.getD j 0):=by
 rcases Zhl (zs:=zs) j with m | e
 ·exact h.2 _ m
 ·rw [e]
  rcases Int.lt_trichotomy p 0 with h | h | h
  ·omega
  ·exact .inl h
  ·exact .inr ⟨by omega,h⟩
theorem Znx {p:Int} {W:Nat} {zs:List Int} (h0:0<=p) (h:zs.length = W):Rw p W (Zds p zs):=by
 refine ⟨by rw [Zqd]; exact h,fun z hz=>?_⟩
 unfold Zds at hz
 split at hz
 ·exact .inl (by assumption)
 ·obtain ⟨y,_,rfl⟩:=List.mem_map.mp hz
  exact .inr ⟨Int.emod_nonneg _ (by assumption),Int.emod_lt_of_pos _ (by omega)⟩
def Zic (row lead:List Int) (k:Nat):List Int:=List.zipWith (fun x y=>lead.getD k 0 / (Int.gcd (row.getD k 0) (lead.getD k 0):Int) * x - row.getD k 0 / (Int.gcd (row.getD k 0) (lead.getD k 0):Int) * y) row lead
def Zbn (p:Int) (row lead:List Int) (k:Nat):List Int:=if row.getD k 0 = 0 then row else Zds p (Zic row lead k)
theorem Zl5 {p:Int} {W:Nat} {row lead:List Int} {k:Nat} (h0:0<=p) (h:Rw p W row) (h':Rw p W lead):Rw p W (Zbn p row lead k):=by
 unfold Zbn
 split
 ·exact h
 ·exact Znx h0 (by unfold Zic; rw [List.length_zipWith,h.1,h'.1]; omega)
theorem Zl6 {row lead:List Int} (hl:row.length = lead.length) (k j:Nat):(Zic row lead k).getD j 0 = lead.getD k 0 / (Int.gcd (row.getD k 0) (lead.getD k 0):Int) * row.getD j 0 - row.getD k 0 / (Int.gcd (row.getD k 0) (lead.getD k 0):Int) * lead.getD j 0:=by
 unfold Zic
 exact Zrm (by simp) hl j
theorem Zm7 {p:Int} {row lead:List Int} {k j:Nat} (hl:row.length = lead.length) (h:row.getD j 0 = 0) (h':lead.getD j 0 = 0):(Zbn p row lead k).getD j 0 = 0:=by
 unfold Zbn
 split
 ·exact h
 ·exact Zjl (by rw [Zl6 hl,h,h']; simp)
theorem Zmm {p:Int} {row lead:List Int} {k:Nat} (hl:row.length = lead.length):(Zbn p row lead k).getD k 0 = 0:=by
 unfold Zbn
 split
 ·assumption
 ·refine Zjl ?_
  rw [Zl6 hl]
  have d1:(Int.gcd (row.getD k 0) (lead.getD k 0):Int) ∣ row.getD k 0:=Int.gcd_dvd_left ..
  have d2:(Int.gcd (row.getD k 0) (lead.getD k 0):Int) ∣ lead.getD k 0:=Int.gcd_dvd_right ..
  generalize (Int.gcd (row.getD k 0) (lead.getD k 0):Int) = g at *
  have e1:=Int.ediv_mul_cancel d1
  have e2:=Int.ediv_mul_cancel d2
  generalize row.getD k 0 / g = u at *
  generalize lead.getD k 0 / g = v at *
  rw [<- e1,<- e2]
  grind
section
variable {p:Int} {F:Type} [Field F]
def vz (zs:List Int):Nat->F:=fun j=>ic (zs.getD j 0)
theorem Zm9:(1:F) ≠ 0:=fun z=>Field.zero_ne_one (α:=F) z.symm
theorem Zne (hF:FdOk p F) (zs:List Int):∃ c:F,c ≠ 0/\∀ j,c * vz (Zds p zs) j = vz zs j:=by
 by_cases hp:p = 0
 ·by_cases hg:gcdL zs = 0
  ·subst hp
   rw [Zgx hg]
   exact ⟨1,Zm9,fun j=>by grind⟩
  ·refine ⟨ic (gcdL zs:Int),hF.ne0 (.inl hp) (by omega),fun j=>?_⟩
   unfold vz
   rw [Zkv,if_pos hp,<- Zcn,Int.mul_comm,Int.ediv_mul_cancel]
   rcases Zhl (zs:=zs) j with m | e
   ·exact Zi5 m
   ·rw [e]; exact Int.dvd_zero _
 ·refine ⟨1,Zm9,fun j=>?_⟩
  unfold vz
  rw [Zkv,if_neg hp,hF.modF hp]
  grind
theorem Zfy {W:Nat} {row lead:List Int} {k:Nat} (h0:0<=p) (hF:FdOk p F) (h:Rw p W row) (h':Rw p W lead) (hk:lead.getD k 0 ≠ 0):∃ a b:F,a ≠ 0/\∀ j,vz (Zbn p row lead k) j = a * vz row j + b * vz lead j:=by
 unfold Zbn
 split
 ·exact ⟨1,0,Zm9,fun j=>by grind⟩
 ·have hl:row.length = lead.length:=h.1.trans h'.1.symm
  obtain ⟨c,hc,e⟩:=Zne hF (Zic row lead k)
  have d2:(Int.gcd (row.getD k 0) (lead.getD k 0):Int) ∣ lead.getD k 0:=Int.gcd_dvd_right ..
  have e2:=Int.ediv_mul_cancel d2
  have l0:(ic (lead.getD k 0):F) ≠ 0:=hF.ne0 (h'.at h0 k) hk
  have ek:∀ j,(vz (Zic row lead k) j:F) = ic (lead.getD k 0 / (Int.gcd (row.getD k 0) (lead.getD k 0):Int)) * vz row j - ic (row.getD k 0 / (Int.gcd (row.getD k 0) (lead.getD k 0):Int)) * vz lead j:=fun j=>by
   unfold vz
   rw [Zl6 hl,Zpc,Zcn,Zcn]
  generalize (Int.gcd (row.getD k 0) (lead.getD k 0):Int) = g at *
  have k0:(ic (lead.getD k 0 / g):F) ≠ 0:=fun z=>l0 (by rw [<- e2,Zcn,z]; grind)
  generalize (ic (lead.getD k 0 / g):F) = u at *
  generalize (ic (row.getD k 0 / g):F) = v at *
  refine ⟨u / c,-(v / c),by grind,fun j=>?_⟩
  have e3:=e j
  rw [ek j] at e3
  generalize (vz (Zds p (Zic row lead k)) j:F) = y at *
  grind
theorem Zld {Z:List (List Int)} {v:Nat->F} (h:v ∈ Z.map vz):∃ row ∈ Z,v = vz row:=by
 obtain ⟨row,h1,h2⟩:=List.mem_map.mp h
 exact ⟨row,h1,h2.symm⟩
theorem Zhz {W k:Nat} {A B:List (List Int)} {lead:List Int} (h0:0<=p) (hF:FdOk p F) (hA:∀ row ∈ A,Rw p W row) (hB:lead ∈ B) (hL:Rw p W lead) (hk:lead.getD k 0 ≠ 0):
  SpEq (F:=F) ((A.map (fun row=>Zbn p row lead k) ++ B).map vz) ((A ++ B).map vz):=by
 refine ⟨fun v hv=>?_,fun v hv=>?_⟩
 ·obtain ⟨row,hr,rfl⟩:=Zld hv
  rcases List.mem_append.mp hr with hr | hr
  ·obtain ⟨row',hr',rfl⟩:=List.mem_map.mp hr
   obtain ⟨a,b,_,e⟩:=Zfy (k:=k) h0 hF (hA _ hr') hL hk
   rw [show vz (Zbn p row' lead k) = fun j=>a * vz row' j + b * vz lead j from funext e]
   exact .comb a b (.mem (List.mem_map.mpr ⟨row',List.mem_append.mpr (.inl hr'),rfl⟩)) (.mem (List.mem_map.mpr ⟨lead,List.mem_append.mpr (.inr hB),rfl⟩))
  ·exact .mem (List.mem_map.mpr ⟨row,List.mem_append.mpr (.inr hr),rfl⟩)
 ·obtain ⟨row,hr,rfl⟩:=Zld hv
  rcases List.mem_append.mp hr with hr | hr
  ·obtain ⟨a,b,ha,e⟩:=Zfy (k:=k) h0 hF (hA _ hr) hL hk
   rw [show (vz row:Nat->F) = fun j=>(1 / a) * vz (Zbn p row lead k) j + (-(b / a)) * vz lead j from funext fun j=>by rw [e j]; grind]
   exact .comb _ _ (.mem (List.mem_map.mpr ⟨_,List.mem_append.mpr (.inl (List.mem_map.mpr ⟨row,hr,rfl⟩)),rfl⟩)) (.mem (List.mem_map.mpr ⟨lead,List.mem_append.mpr (.inr hB),rfl⟩))
  ·exact .mem (List.mem_map.mpr ⟨row,List.mem_append.mpr (.inr hr),rfl⟩)
end
inductive Sw (p:Int) (Z:List (List Int)):Nat->List (List Int)->List (List Int)->List Nat->Prop
 | start:Sw p Z 0 [] Z []
 | skip {k:Nat} {done left:List (List Int)} {pl:List Nat}:Sw p Z k done left pl->(∀ row ∈ left,row.getD k 0 = 0)->Sw p Z (k + 1) done left pl
 | take {k:Nat} {done left:List (List Int)} {pl:List Nat} (i:Nat) (lead:List Int):Sw p Z k done left pl->left[i]? = some lead->lead.getD k 0 ≠ 0->Sw p Z (k + 1) (done ++ [lead]) ((left.eraseIdx i).map fun row=>Zbn p row lead k) (pl ++ [k])
structure SwI (p:Int) (W:Nat) (Z:List (List Int)) (k:Nat) (done left:List (List Int)) (pl:List Nat):Prop where
 len:done.length = pl.length
 all:done.length + left.length = Z.length
 rw:∀ row ∈ done ++ left,Rw p W row
 asc:∀ i j,i < j->j < pl.length->pl.getD i 0 < pl.getD j 0
 lt:∀ i,i < pl.length->pl.getD i 0 < k
 piv:∀ i,i < pl.length->(done.getD i []).getD (pl.getD i 0) 0 ≠ 0
 low:∀ i j,i < pl.length->j < pl.getD i 0->(done.getD i []).getD j 0 = 0
 zer:∀ row ∈ left,∀ j,j < k->row.getD j 0 = 0
 sp:∀ (F:Type) [Field F],FdOk p F->SpEq (F:=F) ((done ++ left).map vz) (Z.map vz)
theorem Zos {α:Type} {xs:List α} {i:Nat} {x y:α} (h:xs[i]? = some x) (hy:y ∈ xs):y = x\/y ∈ xs.eraseIdx i:=by
 obtain ⟨j,hj,rfl⟩:=List.mem_iff_getElem.mp hy
 by_cases e:j = i
 ·subst e
  rw [List.getElem?_eq_getElem hj] at h
  cases h
  exact .inl rfl
 ·refine .inr ?_
  rw [List.mem_eraseIdx_iff_getElem?]
  exact ⟨j,e,List.getElem?_eq_getElem hj⟩
theorem Zc7 {α:Type} {xs:List α} {x d:α} {i:Nat}:(xs ++ [x]).getD i d = if i < xs.length then xs.getD i d else if i = xs.length then x else d:=by
 rw [List.getD_eq_getElem?_getD,List.getD_eq_getElem?_getD]
 by_cases h:i < xs.length
 ·rw [if_pos h,List.getElem?_append_left h]
 ·rw [if_neg h,List.getElem?_append_right (by omega)]
  by_cases e:i = xs.length
  ·rw [if_pos e,e,Nat.sub_self]
   rfl
  ·rw [if_neg e,List.getElem?_eq_none (by simp; omega)]
   rfl
theorem Sw.inv {p:Int} {W:Nat} {Z:List (List Int)} {k:Nat} {done left:List (List Int)} {pl:List Nat} (h0:0<=p) (hZ:∀ row ∈ Z,Rw p W row) (h:Sw p Z k done left pl):SwI p W Z k done left pl:=by
 induction h with
 | start=>exact ⟨rfl,by simp,by simpa using hZ,fun i j _ h=>by simp at h,fun i h=>by simp at h,fun i h=>by simp at h,fun i j h=>by simp at h,fun _ _ j h=>by omega,fun F _ _=>SpEq.refl _⟩
 | @skip k done left pl h hz ih=>
  refine ⟨ih.len,ih.all,ih.rw,ih.asc,fun i hi=>Nat.lt_succ_of_lt (ih.lt i hi),ih.piv,ih.low,fun row hr j hj=>?_,ih.sp⟩
  by_cases e:j = k
  ·subst e; exact hz row hr
  ·exact ih.zer row hr j (by omega)
 | @take k done left pl i lead h hi hk ih=>
  have hlm:lead ∈ left:=List.mem_of_getElem? hi
  have hil:i < left.length:=(List.getElem?_eq_some_iff.mp hi).1
  have rl:Rw p W lead:=ih.rw _ (List.mem_append.mpr (.inr hlm))
  have re:∀ row ∈ left.eraseIdx i,Rw p W row:=fun row hr=>ih.rw _ (List.mem_append.mpr (.inr (List.mem_of_mem_eraseIdx hr)))
  have hlen:=ih.len
  refine ⟨by rw [List.length_append,List.length_append,hlen]; rfl,?_,fun row hr=>?_,fun a b hab hb=>?_,fun a ha=>?_,fun a ha=>?_,fun a b ha hb=>?_,fun row hr j hj=>?_,fun F _ hF=>?_⟩
  ·rw [List.length_append,List.length_map,List.length_eraseIdx_of_lt hil]
   have:=ih.all
   simp only [List.length_cons,List.length_nil]
   omega
  ·rcases List.mem_append.mp hr with hr | hr
   ·rcases List.mem_append.mp hr with hr | hr
    ·exact ih.rw _ (List.mem_append.mpr (.inl hr))
    ·rw [List.mem_singleton.mp hr]; exact rl
   ·obtain ⟨row',hr',rfl⟩:=List.mem_map.mp hr
    exact Zl5 h0 (re _ hr') rl
  ·rw [List.length_append] at hb
   simp only [List.length_cons,List.length_nil] at hb
   rw [Zc7,Zc7,if_pos (by omega)]
   by_cases e:b < pl.length
   ·rw [if_pos e]; exact ih.asc a b hab e
   ·rw [if_neg e,if_pos (by omega)]; exact ih.lt a (by omega)
  ·rw [List.length_append] at ha
   simp only [List.length_cons,List.length_nil] at ha
   rw [Zc7]
   by_cases e:a < pl.length
   ·rw [if_pos e]; exact Nat.lt_succ_of_lt (ih.lt a e)
   ·rw [if_neg e,if_pos (by omega)]; omega
  ·rw [List.length_append] at ha
   simp only [List.length_cons,List.length_nil] at ha
   rw [Zc7,Zc7]
   by_cases e:a < pl.length
   ·rw [if_pos e,if_pos (by omega)]; exact ih.piv a e
   ·rw [if_neg e,if_neg (by omega),if_pos (by omega),if_pos (by omega)]; exact hk
  ·rw [List.length_append] at ha
   simp only [List.length_cons,List.length_nil] at ha
   rw [Zc7] at hb ⊢
   by_cases e:a < pl.length
   ·rw [if_pos e] at hb
    rw [if_pos (by omega)]
    exact ih.low a b e hb
   ·rw [if_neg e,if_pos (by omega)] at hb
    rw [if_neg (by omega),if_pos (by omega)]
    exact ih.zer _ hlm b hb
  ·obtain ⟨row',hr',rfl⟩:=List.mem_map.mp hr
   have hl:row'.length = lead.length:=(re _ hr').1.trans rl.1.symm
   by_cases e:j = k
   ·subst e; exact Zmm hl
   ·exact Zm7 hl (ih.zer _ (List.mem_of_mem_eraseIdx hr') j (by omega)) (ih.zer _ hlm j (by omega))
  ·refine SpEq.trans ?_ (ih.sp F hF)
   refine SpEq.trans (SpEq.mems (L':=((left.eraseIdx i).map (fun row=>Zbn p row lead k) ++ (done ++ [lead])).map vz) fun v=>?_) (SpEq.trans (Zhz (k:=k) h0 hF re (by simp) rl hk) (SpEq.mems fun v=>?_))
   ·simp only [List.mem_map,List.mem_append]
    exact ⟨fun ⟨a,b,c⟩=>⟨a,b.symm,c⟩,fun ⟨a,b,c⟩=>⟨a,b.symm,c⟩⟩
   ·simp only [List.mem_map,List.mem_append,List.mem_singleton]
    constructor
    ·rintro ⟨a,b,c⟩
     refine ⟨a,?_,c⟩
     rcases b with b | b | b
     ·exact .inr (List.mem_of_mem_eraseIdx b)
     ·exact .inl b
     ·rw [b]; exact .inr hlm
    ·rintro ⟨a,b,c⟩
     refine ⟨a,?_,c⟩
     rcases b with b | b
     ·exact .inr (.inl b)
     ·rcases Zos hi b with b | b
      ·exact .inr (.inr b)
      ·exact .inl b
def Zbe (p:Int) (pl:List Nat) (R0:List (List Int)):Nat->List (List Int)
 | 0=>R0
 | t + 1=>((Zbe p pl R0 t).take (pl.length - 1 - t)).map (fun row=>Zbn p row ((Zbe p pl R0 t).getD (pl.length - 1 - t) []) (pl.getD (pl.length - 1 - t) 0)) ++ (Zbe p pl R0 t).drop (pl.length - 1 - t)
theorem Za1 {α:Type} {xs:List α} {i:Nat} {d:α} (h:i < xs.length):xs.getD i d = xs[i]:=by rw [List.getD_eq_getElem?_getD,List.getElem?_eq_getElem h]; rfl
theorem back_at {p:Int} {pl:List Nat} {R0:List (List Int)} {t i:Nat}:(Zbe p pl R0 (t + 1)).getD i [] =
  if i < pl.length - 1 - t/\i < (Zbe p pl R0 t).length then Zbn p ((Zbe p pl R0 t).getD i []) ((Zbe p pl R0 t).getD (pl.length - 1 - t) []) (pl.getD (pl.length - 1 - t) 0) else (Zbe p pl R0 t).getD i []:=by
 show (((Zbe p pl R0 t).take (pl.length - 1 - t)).map (fun row=>Zbn p row ((Zbe p pl R0 t).getD (pl.length - 1 - t) []) (pl.getD (pl.length - 1 - t) 0)) ++ (Zbe p pl R0 t).drop (pl.length - 1 - t)).getD i [] = _
 generalize Zbe p pl R0 t = R
 generalize pl.length - 1 - t = a
 rw [List.getD_eq_getElem?_getD]
 by_cases h:i < a/\i < R.length
 ·rw [if_pos h,List.getElem?_append_left (by rw [List.length_map,List.length_take]; omega),List.getElem?_map,List.getElem?_take_of_lt h.1,List.getElem?_eq_getElem h.2,Za1 h.2]
  rfl
 ·rw [if_neg h,List.getElem?_append_right (by rw [List.length_map,List.length_take]; omega),List.length_map,List.length_take,List.getElem?_drop,List.getD_eq_getElem?_getD]
  by_cases h2:i < R.length
  ·congr 2
   omega
  ·rw [List.getElem?_eq_none (by omega),List.getElem?_eq_none (by omega)]
structure BkI (p:Int) (W wide:Nat) (Z:List (List Int)) (pl:List Nat) (F:Type) [Field F] (t:Nat) (R:List (List Int)):Prop where
 len:R.length = Z.length
 rw:∀ row ∈ R,Rw p W row
 piv:∀ i,i < pl.length->(vz (R.getD i []) (pl.getD i 0):F) ≠ 0
 low:∀ i j,i < pl.length->j < pl.getD i 0->(vz (R.getD i []) j:F) = 0
 zer:∀ i j,pl.length<=i->i < R.length->j < wide->(vz (R.getD i []) j:F) = 0
 up:∀ i l,i < pl.length->l < pl.length->pl.length - t<=l->l ≠ i->(vz (R.getD i []) (pl.getD l 0):F) = 0
 sp:SpEq (F:=F) (R.map vz) (Z.map vz)
theorem Zgw {F:Type} [Field F] {zs:List Int} {j:Nat} (h:zs.getD j 0 = 0):(vz zs j:F) = 0:=by unfold vz; rw [h,Zfm]
theorem Zbu {α:Type} {xs:List α} {x:α} (h:x ∈ xs) (d:α):∃ i,i < xs.length/\xs.getD i d = x:=by
 obtain ⟨i,hi,rfl⟩:=List.mem_iff_getElem.mp h
 exact ⟨i,hi,Za1 hi⟩
theorem Zas {α:Type} {xs:List α} {i:Nat} {d:α} (h:i < xs.length):xs.getD i d ∈ xs:=by rw [Za1 h]; exact List.getElem_mem h
theorem Sw.back {p:Int} {W wide:Nat} {Z:List (List Int)} {done left:List (List Int)} {pl:List Nat} (h0:0<=p) (I:SwI p W Z wide done left pl) {F:Type} [Field F] (hF:FdOk p F):
  ∀ t,t<=pl.length->BkI p W wide Z pl F t (Zbe p pl (done ++ left) t)
 | 0,_=>by
  have hlen:=I.len
  have e:∀ i,i < pl.length->(done ++ left).getD i [] = done.getD i []:=fun i hi=>by
   rw [List.getD_eq_getElem?_getD,List.getElem?_append_left (by omega),List.getD_eq_getElem?_getD]
  refine ⟨by show (done ++ left).length = _; rw [List.length_append]; exact I.all,I.rw,fun i hi=>?_,fun i j hi hj=>?_,fun i j hi hi2 hj=>?_,fun i l hi hl h=>by omega,I.sp F hF⟩
  ·show (ic (((done ++ left).getD i []).getD (pl.getD i 0) 0):F) ≠ 0
   have hr:(done ++ left).getD i [] ∈ done ++ left:=Zas (by rw [List.length_append]; omega)
   exact hF.ne0 ((I.rw _ hr).at h0 _) (by rw [e i hi]; exact I.piv i hi)
  ·exact Zgw (by show ((done ++ left).getD i []).getD j 0 = 0; rw [e i hi]; exact I.low i j hi hj)
  ·have hi2':i < done.length + left.length:=by rw [<- List.length_append]; exact hi2
   refine Zgw (I.zer _ ?_ j hj)
   show (done ++ left).getD i [] ∈ left
   rw [List.getD_eq_getElem?_getD,List.getElem?_append_right (by omega),<- List.getD_eq_getElem?_getD]
   exact Zas (by omega)
 | t + 1,ht=>by
  have B:=Sw.back h0 I hF t (by omega)
  have hlen:=I.len
  have hall:=I.all
  have bat:∀ i,(Zbe p pl (done ++ left) (t + 1)).getD i [] = _:=fun i=>back_at (p:=p) (pl:=pl) (R0:=done ++ left) (t:=t) (i:=i)
  have bdef:Zbe p pl (done ++ left) (t + 1) = ((Zbe p pl (done ++ left) t).take (pl.length - 1 - t)).map (fun row=>Zbn p row ((Zbe p pl (done ++ left) t).getD (pl.length - 1 - t) []) (pl.getD (pl.length - 1 - t) 0)) ++ (Zbe p pl (done ++ left) t).drop (pl.length - 1 - t):=rfl
  generalize Zbe p pl (done ++ left) (t + 1) = R' at *
  generalize Zbe p pl (done ++ left) t = R at *
  have bl:=B.len
  have ha:pl.length - 1 - t < R.length:=by omega
  have hap:pl.length - 1 - t < pl.length:=by omega
  have hla:R.getD (pl.length - 1 - t) [] ∈ R:=Zas ha
  have rl:=B.rw _ hla
  have pa:=B.piv _ hap
  have ka:(R.getD (pl.length - 1 - t) []).getD (pl.getD (pl.length - 1 - t) 0) 0 ≠ 0:=fun z=>pa (Zgw z)
  -- the place of each
  have lowA:=B.low (pl.length - 1 - t)
  have upA:=B.up (pl.length - 1 - t)
  generalize hla':R.getD (pl.length - 1 - t) [] = lead at *
  have ascA:∀ i,i < pl.length - 1 - t->pl.getD i 0 < pl.getD (pl.length - 1 - t) 0:=fun i hi=>I.asc i _ hi hap
  have ri:∀ i,i < R.length->Rw p W (R.getD i []):=fun i hi=>B.rw _ (Zas hi)
  refine ⟨?_,fun row hr=>?_,fun i hi=>?_,fun i j hi hj=>?_,fun i j hi hi2 hj=>?_,fun i l hi hl h hne=>?_,?_⟩
  ·rw [bdef,List.length_append,List.length_map,List.length_take,List.length_drop]
   omega
  ·rw [bdef] at hr
   rcases List.mem_append.mp hr with hr | hr
   ·obtain ⟨row',hr',rfl⟩:=List.mem_map.mp hr
    exact Zl5 h0 (B.rw _ (List.mem_of_mem_take hr')) rl
   ·exact B.rw _ (List.mem_of_mem_drop hr)
  ·rw [bat]
   split
   ·rename_i hc
    obtain ⟨a,b,ha0,e⟩:=Zfy (k:=pl.getD (pl.length - 1 - t) 0) h0 hF (ri i hc.2) rl ka
    rw [e,lowA _ hap (ascA i hc.1)]
    have:=B.piv i hi
    grind
   ·exact B.piv i hi
  ·rw [bat]
   split
   ·rename_i hc
    obtain ⟨a,b,ha0,e⟩:=Zfy (k:=pl.getD (pl.length - 1 - t) 0) h0 hF (ri i hc.2) rl ka
    have:=ascA i hc.1
    rw [e,lowA j hap (by omega),B.low i j hi hj]
    grind
   ·exact B.low i j hi hj
  ·rw [bat,if_neg (by omega)]
   refine B.zer i j hi ?_ hj
   have:R'.length = R.length:=by
    rw [bdef,List.length_append,List.length_map,List.length_take,List.length_drop]
    omega
   omega
  ·rw [bat]
   by_cases hla2:l = pl.length - 1 - t
   ·subst hla2
    by_cases hc:i < pl.length - 1 - t
    ·rw [if_pos ⟨hc,by omega⟩]
     exact Zgw (Zmm ((ri i (by omega)).1.trans rl.1.symm))
    ·rw [if_neg (by omega)]
     exact B.low i _ hi (I.asc _ _ (by omega) hi)
   ·have hu:=B.up i l hi hl (by omega) hne
    split
    ·rename_i hc
     obtain ⟨a,b,ha0,e⟩:=Zfy (k:=pl.getD (pl.length - 1 - t) 0) h0 hF (ri i hc.2) rl ka
     rw [e,hu,upA l hap hl (by omega) (by omega)]
     grind
    ·exact hu
  ·refine SpEq.trans ?_ B.sp
   rw [bdef]
   have hm:lead ∈ R.drop (pl.length - 1 - t):=by
    rw [<- hla',Za1 ha,List.drop_eq_getElem_cons ha]
    exact List.mem_cons_self
   have:=Zhz (A:=R.take (pl.length - 1 - t)) (B:=R.drop (pl.length - 1 - t)) (k:=pl.getD (pl.length - 1 - t) 0) h0 hF (fun row hr=>B.rw _ (List.mem_of_mem_take hr)) hm rl ka
   rwa [List.take_append_drop] at this
def Za4 (pl:List Nat) (R:List (List Int)) (i:Nat):Int:=if i < pl.length then (R.getD i []).getD (pl.getD i 0) 0 else 1
theorem BkI.lead {p:Int} {W wide:Nat} {Z:List (List Int)} {pl:List Nat} {F:Type} [Field F] {R:List (List Int)} (B:BkI p W wide Z pl F pl.length R) (i:Nat):(ic (Za4 pl R i):F) ≠ 0:=by
 unfold Za4
 split
 ·exact B.piv i (by assumption)
 ·rw [Zdz]; exact Zm9
theorem BkI.rr {p:Int} {W wide:Nat} {Z:List (List Int)} {pl:List Nat} {F:Type} [Field F] {R:List (List Int)} (B:BkI p W wide Z pl F pl.length R) (asc:∀ i j,i < j->j < pl.length->pl.getD i 0 < pl.getD j 0) (lt:∀ i,i < pl.length->pl.getD i 0 < wide) (hr:pl.length<=Z.length)
  {L:List (Nat->F)} (hl:L.length = Z.length) (he:∀ i,i < Z.length->at' L i = fun j=>vz (R.getD i []) j / ic (Za4 pl R i)):RR L wide pl.length (fun i=>pl.getD i 0)/\SpEq L (Z.map vz):=by
 have bl:=B.len
 refine ⟨⟨by omega,lt,fun i k h1 h2=>asc i k h1 h2,fun i k hi hk=>?_,fun i j hi hj=>?_,fun i j hi hi2 hj=>?_⟩,?_⟩
 ·rw [he i (by omega)]
  show (vz (R.getD i []) (pl.getD k 0):F) / ic (Za4 pl R i) = if i = k then 1 else 0
  by_cases e:i = k
  ·subst e
   rw [if_pos rfl]
   have:=B.piv i hi
   have e2:(ic (Za4 pl R i):F) = vz (R.getD i []) (pl.getD i 0):=by unfold Za4 vz; rw [if_pos hi]
   rw [e2]
   grind
  ·rw [if_neg e,B.up i k hi hk (by omega) (fun z=>e z.symm)]
   have:=B.lead i
   grind
 ·rw [he i (by omega)]
  show (vz (R.getD i []) j:F) / ic (Za4 pl R i) = 0
  rw [B.low i j hi hj]
  have:=B.lead i
  grind
 ·rw [he i (by omega)]
  show (vz (R.getD i []) j:F) / ic (Za4 pl R i) = 0
  rw [B.zer i j hi (by omega) hj]
  have:=B.lead i
  grind
 ·refine SpEq.trans ⟨fun v hv=>?_,fun v hv=>?_⟩ B.sp
  ·obtain ⟨i,hi,e⟩:=Zbu hv zv
   have e':v = at' L i:=e.symm
   rw [e',he i (by omega)]
   have hm:SpL (R.map vz) (vz (R.getD i []):Nat->F):=.mem (List.mem_map.mpr ⟨_,Zas (by omega),rfl⟩)
   have:=hm.smul (1 / ic (Za4 pl R i))
   rwa [show (fun j=>1 / ic (Za4 pl R i) * vz (R.getD i []) j:Nat->F) = fun j=>vz (R.getD i []) j / ic (Za4 pl R i) from funext fun j=>by have:=B.lead i; grind] at this
  ·obtain ⟨row,hr,rfl⟩:=Zld hv
   obtain ⟨i,hi,rfl⟩:=Zbu hr []
   have hm:SpL L (at' L i):=.mem (Zca (by omega))
   have:=hm.smul (ic (Za4 pl R i))
   rwa [show (fun j=>ic (Za4 pl R i) * at' L i j:Nat->F) = vz (R.getD i []) from funext fun j=>by rw [he i (by omega)]; have:=B.lead i; grind] at this
def SmallR (n:Nat) (row:List Int):Prop:=∀ z ∈ row,Bt n z
theorem SmallR.le {n m:Nat} {row:List Int} (h:SmallR n row) (hm:n<=m):SmallR m row:=fun z hz=>(h z hz).le hm
theorem SmallR.at {n:Nat} {row:List Int} (h:SmallR n row) (j:Nat):Bt n (row.getD j 0):=by
 rcases Zhl (zs:=row) j with m | e
 ·exact h _ m
 ·rw [e]; exact Zhq n
theorem Zh2 {p:Int} {n:Nat} {row:List Int} (hp:0<=p) (p97:p<=97) (h7:7<=n) (h:p = 0->SmallR n row):SmallR n (Zds p row):=fun z hz=>by
 unfold Zds at hz
 split at hz
 ·rename_i h0
  obtain ⟨y,hy,rfl⟩:=List.mem_map.mp hz
  exact (h h0 y hy).quo (Zi5 hy)
 ·rename_i h0
  obtain ⟨y,hy,rfl⟩:=List.mem_map.mp hz
  have h1:=Int.emod_nonneg y h0
  have h2:=Int.emod_lt_of_pos y (show 0 < p by omega)
  exact Za5 h7 (by omega)
theorem Zjp {n:Nat} {row lead:List Int} {k:Nat} (h:SmallR n row) (h':SmallR n lead):SmallR (2 * n + 1) (Zic row lead k):=fun z hz=>by
 obtain ⟨j,hj0,rfl⟩:=List.mem_iff_getElem.mp hz
 have hj:j < min row.length lead.length:=by have:=hj0; unfold Zic at this; rwa [List.length_zipWith] at this
 have e:(Zic row lead k)[j]'(by unfold Zic; rw [List.length_zipWith]; exact hj) = lead.getD k 0 / (Int.gcd (row.getD k 0) (lead.getD k 0):Int) * row[j]'(by omega) - row.getD k 0 / (Int.gcd (row.getD k 0) (lead.getD k 0):Int) * lead[j]'(by omega):=by
  unfold Zic
  rw [List.getElem_zipWith]
 rw [e]
 have b1:=((h'.at k).quo (Int.gcd_dvd_right (row.getD k 0) (lead.getD k 0))).mul (h _ (List.getElem_mem (show j < row.length by omega)))
 have b2:=((h.at k).quo (Int.gcd_dvd_left (row.getD k 0) (lead.getD k 0))).mul (h' _ (List.getElem_mem (show j < lead.length by omega)))
 have:=Bt.sub b1 b2
 rwa [show n + n + 1 = 2 * n + 1 by omega] at this
theorem Zgy {p:Int} {n:Nat} {row lead:List Int} {k:Nat} (hp:0<=p) (p97:p<=97) (h7:7<=n) (h:SmallR n row) (h':SmallR n lead):SmallR (2 * n + 1) (Zbn p row lead k):=by
 unfold Zbn
 split
 ·exact h.le (by omega)
 ·exact Zh2 hp p97 (by omega) fun _=>Zjp h h'
theorem Sw.dbl {p:Int} {Z:List (List Int)} {k n:Nat} {done left:List (List Int)} {pl:List Nat} (hp:0<=p) (p97:p<=97) (h7:7<=n) (hZ:∀ row ∈ Z,SmallR n row) (h:Sw p Z k done left pl):∀ row ∈ done ++ left,SmallR ((n + 1) * 2 ^ k - 1) row:=by
 induction h with
 | start=>simpa using hZ
 | @skip k done left pl h hz ih=>
  intro row hr
  refine (ih row hr).le ?_
  rw [Nat.pow_succ]
  have:0 < (n + 1) * 2 ^ k:=Nat.mul_pos (by omega) (Nat.two_pow_pos k)
  rw [<- Nat.mul_assoc]
  omega
 | @take k done left pl i lead h hi hk ih=>
  have e:(n + 1) * 2 ^ (k + 1) - 1 = 2 * ((n + 1) * 2 ^ k - 1) + 1:=by
   rw [Nat.pow_succ,<- Nat.mul_assoc]
   have:0 < (n + 1) * 2 ^ k:=Nat.mul_pos (by omega) (Nat.two_pow_pos k)
   omega
  have h7':7<=(n + 1) * 2 ^ k - 1:=by
   have:(n + 1) * 1<=(n + 1) * 2 ^ k:=Nat.mul_le_mul (Nat.le_refl _) (Nat.two_pow_pos k)
   omega
  have sl:=ih lead (List.mem_append.mpr (.inr (List.mem_of_getElem? hi)))
  intro row hr
  rw [e]
  rcases List.mem_append.mp hr with hr | hr
  ·rcases List.mem_append.mp hr with hr | hr
   ·exact (ih row (List.mem_append.mpr (.inl hr))).le (by omega)
   ·rw [List.mem_singleton.mp hr]; exact sl.le (by omega)
  ·obtain ⟨row',hr',rfl⟩:=List.mem_map.mp hr
   exact Zgy hp p97 h7' (ih _ (List.mem_append.mpr (.inr (List.mem_of_mem_eraseIdx hr')))) sl
theorem Zjg {p:Int} {n:Nat} {pl:List Nat} {R0:List (List Int)} (hp:0<=p) (p97:p<=97) (h7:7<=n) (hZ:∀ row ∈ R0,SmallR n row):∀ t,∀ row ∈ Zbe p pl R0 t,SmallR ((n + 1) * 2 ^ t - 1) row
 | 0=>by simpa [Zbe] using hZ
 | t + 1=>by
  have ih:=Zjg (pl:=pl) hp p97 h7 hZ t
  have e:(n + 1) * 2 ^ (t + 1) - 1 = 2 * ((n + 1) * 2 ^ t - 1) + 1:=by
   rw [Nat.pow_succ,<- Nat.mul_assoc]
   have:0 < (n + 1) * 2 ^ t:=Nat.mul_pos (by omega) (Nat.two_pow_pos t)
   omega
  have h7':7<=(n + 1) * 2 ^ t - 1:=by
   have:(n + 1) * 1<=(n + 1) * 2 ^ t:=Nat.mul_le_mul (Nat.le_refl _) (Nat.two_pow_pos t)
   omega
  have sl:SmallR ((n + 1) * 2 ^ t - 1) ((Zbe p pl R0 t).getD (pl.length - 1 - t) []):=by
   by_cases h:pl.length - 1 - t < (Zbe p pl R0 t).length
   ·exact ih _ (Zas h)
   ·rw [List.getD_eq_getElem?_getD,List.getElem?_eq_none (by omega)]
    exact fun z hz=>by simp at hz
  intro row hr
  rw [e]
  rcases List.mem_append.mp hr with hr | hr
  ·obtain ⟨row',hr',rfl⟩:=List.mem_map.mp hr
   exact Zgy hp p97 h7' (ih _ (List.mem_of_mem_take hr')) sl
  ·exact (ih row (List.mem_of_mem_drop hr)).le (by omega)
end L3
set_option maxHeartbeats 4000000
open PySem L2 PyProof.Rows
local macro_rules | `(tactic| walk_at "wp")=>`(tactic| simp only [Zkt,tIfS,tTest,tOp,tUn,tVar,tC,tCB,tCons,tNil,tRet,tRetN,tNext,tDrop,tAsg,tAug,ipI,Zc8,gTup,Zkc,gNil,gSub,tTup,tLst,tSl,Znf,tPart,Zr3,Zqf,tBM,tBM0,tPar,tB,tAnd,tOr,tNot,tAndV,tOrV,tNotV,tIf,Zht,Zqe,tMeth,tFld,sFld,tAugS,rGetL,rI0,rI,rU,rIxL,rIxT,rSetL,rSlL,Zny,Zr8,iEnm,iRvl,tLE,gSl0,tMinL,rBits,rCat,rEq,rNe,rEqL,Zr9,rIn,scal_ii,scal_bb,scal_ss,iList,iTup,iRng1,iRng2,cV,cx_K,in_K,wish_K,E0,L2.start,List.map,List.length,List.replicate,List.cons_append,List.nil_append,List.append_nil,List.getElem?_cons_zero,List.getElem?_cons_succ,List.set_cons_zero,List.set_cons_succ,Option.some.injEq,exists_eq_left',exists_eq_left,exists_and_left,V.int.injEq,V.bl.injEq,V.ref.injEq,V.ty.injEq,List.cons.injEq,reduceCtorEq,false_and,and_false,exists_false,or_false,false_or,and_true,true_and,Nat.reduceSub,Nat.reduceAdd,Nat.reduceLT,if_true,if_false,Bool.false_eq_true])
namespace Pf
open PySem L2 PyProof.Rows
def top (i:Nat):Stmt:=PySem.Challenge.pw_limbtables_k10_nought_made_and_left.main.body.getD i (.Pass ⟨0,0,0,0⟩)
abbrev Zdl:Stmt:=top 8
abbrev Zbm:Stmt:=top 9
abbrev Zbo:Stmt:=top 10
abbrev Zcr:Stmt:=top 11
abbrev Zbp:Stmt:=top 12
abbrev Zbj:Stmt:=top 13
abbrev Zcp:Stmt:=top 16
abbrev Ze3:Stmt:=top 18
abbrev Zeb:Stmt:=top 19
abbrev Zbs:Stmt:=top 20
abbrev Zf1:Stmt:=top 21
abbrev Zbz:Stmt:=top 22
abbrev Zd5:Stmt:=top 15
abbrev Zdm:Stmt:=top 29
abbrev Zby:Stmt:=top 30
abbrev Zdn:Stmt:=top 31
abbrev Zea:Stmt:=top 32
abbrev Zd4:Stmt:=top 33
abbrev Zb9:Stmt:=Zpb (top 34) 0
abbrev Zaz:Stmt:=Zpb (top 34) 1
abbrev Zdj:Stmt:=top 36
abbrev Zd9:Stmt:=top 37
abbrev Zdh:Stmt:=top 38
abbrev Zd8:Stmt:=top 39
abbrev Zbr:Stmt:=top 40
abbrev Zcs:Stmt:=top 41
abbrev Zcv:Stmt:=top 42
abbrev Zcg:Stmt:=top 43
abbrev Zdq:Stmt:=top 44
abbrev Zdp:Stmt:=top 45
abbrev Zd7:Stmt:=top 46
abbrev Zde:Stmt:=top 47
abbrev Zdk:Stmt:=top 48
abbrev Zdf:Stmt:=top 49
abbrev Zct:Stmt:=top 50
abbrev Zdi:Stmt:=top 51
abbrev Zb7:Stmt:=top 52
abbrev Zdg:Stmt:=top 53
abbrev Zb6:Stmt:=top 54
abbrev Zcw:Stmt:=top 56
abbrev Zcu:Stmt:=top 59
abbrev Zit:Stmt:=top 60
abbrev Zbc:Stmt:=top 23
abbrev Zcq:Stmt:=top 24
abbrev Zd6:Stmt:=top 25
abbrev Zb5:Stmt:=top 26
abbrev Zbx:Stmt:=top 17
abbrev Zb0:Stmt:=top 57
abbrev Zb8:Stmt:=top 58
abbrev Zcf:Stmt:=top 55
theorem Zg8:FnScope ["thing"] ["thing"] (Zae Zdl):=⟨rfl,rfl,rfl,by decide +kernel,rfl,by decide +kernel,by decide +kernel⟩
theorem Zd3:FnScope ["one","other"] ["one","other"] (Zae Zbm):=⟨rfl,rfl,rfl,by decide +kernel,rfl,by decide +kernel,by decide +kernel⟩
theorem Zel:FnScope ["one","other"] ["one","other"] (Zae Zbo):=⟨rfl,rfl,rfl,by decide +kernel,rfl,by decide +kernel,by decide +kernel⟩
theorem Zf9:FnScope ["one","other","shift","a","b","c","d"] ["one","other"] (Zae Zcr):=⟨rfl,rfl,rfl,by decide +kernel,rfl,by decide +kernel,by decide +kernel⟩
theorem Zem:FnScope ["one","other","a","b","c","d","many"] ["one","other"] (Zae Zbp):=⟨rfl,rfl,rfl,by decide +kernel,rfl,by decide +kernel,by decide +kernel⟩
theorem Zdv:FnScope ["one","other"] ["one","other"] (Zae Zbj):=⟨rfl,rfl,rfl,by decide +kernel,rfl,by decide +kernel,by decide +kernel⟩
theorem Zf7:FnScope ["ground","row","bottom","number"] ["ground","row"] (Zae Zcp):=⟨rfl,rfl,rfl,by decide +kernel,rfl,by decide +kernel,by decide +kernel⟩
theorem Zjt:FnScope ["ground","row","divisor","number"] ["ground","row"] (Zae Ze3):=⟨rfl,rfl,rfl,by decide +kernel,rfl,by decide +kernel,by decide +kernel⟩
theorem Zib:FnScope ["ground","row","lead","place","divisor","keep","take"] ["ground","row","lead","place"] (Zae Zeb):=⟨rfl,rfl,rfl,by decide +kernel,rfl,by decide +kernel,by decide +kernel⟩
theorem Ze7:FnScope ["rows","place","found"] ["rows","place"] (Zae Zbs):=⟨rfl,rfl,rfl,by decide +kernel,rfl,by decide +kernel,by decide +kernel⟩
theorem Zl4:FnScope ["ground","rows","wide","done","left","places","place","at","lead"] ["ground","rows","wide"] (Zae Zf1):=⟨rfl,rfl,rfl,by decide +kernel,rfl,by decide +kernel,by decide +kernel⟩
theorem Zeq:FnScope ["ground","rows","wide","found","places","at","place","leads"] ["ground","rows","wide"] (Zae Zbz):=⟨rfl,rfl,rfl,by decide +kernel,rfl,by decide +kernel,by decide +kernel⟩
theorem Zh5:FnScope ["ground","high","wide"] ["ground","high","wide"] (Zae Zd5):=⟨rfl,rfl,rfl,by decide +kernel,rfl,by decide +kernel,by decide +kernel⟩
theorem Zg9:FnScope ["number"] ["number"] (Zae Zdm):=⟨rfl,rfl,rfl,by decide +kernel,rfl,by decide +kernel,by decide +kernel⟩
theorem Zep:FnScope ["thing"] ["thing"] (Zae Zby):=⟨rfl,rfl,rfl,by decide +kernel,rfl,by decide +kernel,by decide +kernel⟩
theorem Zha:FnScope ["top","bottom","divisor"] ["top","bottom"] (Zae Zdn):=⟨rfl,rfl,rfl,by decide +kernel,rfl,by decide +kernel,by decide +kernel⟩
theorem Zia:FnScope ["rest","prime","low","high","low_times","high_times","many"] ["rest","prime"] (Zae Zea):=⟨rfl,rfl,rfl,by decide +kernel,rfl,by decide +kernel,by decide +kernel⟩
theorem Zh4:FnScope ["top","bottom","prime","below"] ["top","bottom","prime"] (Zae Zd4):=⟨rfl,rfl,rfl,by decide +kernel,rfl,by decide +kernel,by decide +kernel⟩
theorem Zfb:FnScope ["self","prime"] ["self","prime"] (Zae Zb9):=⟨rfl,rfl,rfl,by decide +kernel,rfl,by decide +kernel,by decide +kernel⟩
theorem Zen:FnScope ["self","top","bottom"] ["self","top","bottom"] (Zae Zaz):=⟨rfl,rfl,rfl,by decide +kernel,rfl,by decide +kernel,by decide +kernel⟩
theorem Zg6:FnScope ["_law_script","_law_k"] ["_law_script","_law_k"] (Zae Zdj):=⟨rfl,rfl,rfl,by decide +kernel,rfl,by decide +kernel,by decide +kernel⟩
theorem Zh9:FnScope ["_law_cell_here"] ["_law_cell_here"] (Zae Zd9):=⟨rfl,rfl,rfl,by decide +kernel,rfl,by decide +kernel,by decide +kernel⟩
theorem Zg4:FnScope ["_law_bag_here","_law_many","_law_found"] ["_law_bag_here","_law_many"] (Zae Zdh):=⟨rfl,rfl,rfl,by decide +kernel,rfl,by decide +kernel,by decide +kernel⟩
theorem Zh8:FnScope ["_law_one","_law_two","_law_rest"] ["_law_one","_law_two"] (Zae Zd8):=⟨rfl,rfl,rfl,by decide +kernel,rfl,by decide +kernel,by decide +kernel⟩
theorem Zdb:FnScope ["_law_top","_law_bottom","_law_both"] ["_law_top","_law_bottom"] (Zae Zbr):=⟨rfl,rfl,rfl,by decide +kernel,rfl,by decide +kernel,by decide +kernel⟩
theorem Zga:FnScope ["_law_found"] ["_law_found"] (Zae Zcs):=⟨rfl,rfl,rfl,by decide +kernel,rfl,by decide +kernel,by decide +kernel⟩
theorem Zgd:FnScope ["_law_bag_here","_law_way"] ["_law_bag_here"] (Zae Zcv):=⟨rfl,rfl,rfl,by decide +kernel,rfl,by decide +kernel,by decide +kernel⟩
theorem Zfr:FnScope ["_law_bag_here","_law_p","_law_way"] ["_law_bag_here","_law_p"] (Zae Zcg):=⟨rfl,rfl,rfl,by decide +kernel,rfl,by decide +kernel,by decide +kernel⟩
theorem Ze2:FnScope ["_law_p","_law_a","_law_b"] ["_law_p","_law_a","_law_b"] (Zae Zdq):=⟨rfl,rfl,rfl,by decide +kernel,rfl,by decide +kernel,by decide +kernel⟩
theorem Ze1:FnScope ["_law_p","_law_a","_law_b"] ["_law_p","_law_a","_law_b"] (Zae Zdp):=⟨rfl,rfl,rfl,by decide +kernel,rfl,by decide +kernel,by decide +kernel⟩
theorem Zh7:FnScope ["_law_p","_law_k"] ["_law_p","_law_k"] (Zae Zd7):=⟨rfl,rfl,rfl,by decide +kernel,rfl,by decide +kernel,by decide +kernel⟩
theorem Zg1:FnScope ["_law_p","_law_found","_law_due"] ["_law_p","_law_found","_law_due"] (Zae Zde):=⟨rfl,rfl,rfl,by decide +kernel,rfl,by decide +kernel,by decide +kernel⟩
theorem Zg7:FnScope ["_law_p","_law_a"] ["_law_p","_law_a"] (Zae Zdk):=⟨rfl,rfl,rfl,by decide +kernel,rfl,by decide +kernel,by decide +kernel⟩
theorem Zg2:FnScope ["_law_bag_here","_law_p","_law_high","_law_wide","_law_thin","_law_rows_here","_law_i","_law_row","_law_j","_law_number_here"] ["_law_bag_here","_law_p","_law_high","_law_wide"] (Zae Zdf):=⟨rfl,rfl,rfl,by decide +kernel,rfl,by decide +kernel,by decide +kernel⟩
theorem Zgb:FnScope ["_law_bag_here","_law_p","_law_high","_law_wide","_law_rows_here","_law_a"] ["_law_bag_here","_law_p","_law_high","_law_wide"] (Zae Zct):=⟨rfl,rfl,rfl,by decide +kernel,rfl,by decide +kernel,by decide +kernel⟩
theorem Zg5:FnScope ["_law_table_here"] ["_law_table_here"] (Zae Zdi):=⟨rfl,rfl,rfl,by decide +kernel,rfl,by decide +kernel,by decide +kernel⟩
theorem Ze9:FnScope ["_law_p","_law_one","_law_other","_law_rows_here","_law_row","_law_made","_law_j","_law_number_here","_law_k"] ["_law_p","_law_one","_law_other"] (Zae Zb7):=⟨rfl,rfl,rfl,by decide +kernel,rfl,by decide +kernel,by decide +kernel⟩
theorem Zg3:FnScope ["_law_p","_law_found","_law_due","_law_row"] ["_law_p","_law_found","_law_due"] (Zae Zdg):=⟨rfl,rfl,rfl,by decide +kernel,rfl,by decide +kernel,by decide +kernel⟩
theorem Ze8:FnScope ["_law_p","_law_table_here","_law_high","_law_wide","_law_rows_here","_law_done","_law_column","_law_some","_law_back_here","_law_k","_law_less"] ["_law_p","_law_table_here"] (Zae Zb6):=⟨rfl,rfl,rfl,by decide +kernel,rfl,by decide +kernel,by decide +kernel⟩
theorem Zge:FnScope ["_law_bag_here","_law_number_here","_law_p","_law_most","_law_high","_law_wide"] ["_law_bag_here","_law_number_here"] (Zae Zcw):=⟨rfl,rfl,rfl,by decide +kernel,rfl,by decide +kernel,by decide +kernel⟩
theorem Zgc:FnScope ["_law_ground","_law_p","_law_table_here","_law_due","_law_high","_law_wide","_law_nought","_law_made","_law_left","_law_row"] ["_law_ground","_law_p","_law_table_here","_law_due"] (Zae Zcu):=⟨rfl,rfl,rfl,by decide +kernel,rfl,by decide +kernel,by decide +kernel⟩
theorem Zr6:FnScope ["_law_script","_law_number_here","_law_cell_here","_law_p","_law_table_here","_law_handed","_law_due","_law_again"] ["_law_script"] (Zae Zit):=⟨rfl,rfl,rfl,by decide +kernel,rfl,by decide +kernel,by decide +kernel⟩
theorem Zdo:FnScope ["ground","number"] ["ground","number"] (Zae Zbc):=⟨rfl,rfl,rfl,by decide +kernel,rfl,by decide +kernel,by decide +kernel⟩
theorem Zf8:FnScope ["ground","table","high","wide","given","rows","places","free","found","row","place","at"] ["ground","table"] (Zae Zcq):=⟨rfl,rfl,rfl,by decide +kernel,rfl,by decide +kernel,by decide +kernel⟩
theorem Zh6:FnScope ["ground","table","high","wide","rows","places"] ["ground","table"] (Zae Zd6):=⟨rfl,rfl,rfl,by decide +kernel,rfl,by decide +kernel,by decide +kernel⟩
theorem Ze6:FnScope ["ground","table"] ["ground","table"] (Zae Zb5):=⟨rfl,rfl,rfl,by decide +kernel,rfl,by decide +kernel,by decide +kernel⟩
theorem Zeo:FnScope ["table","high","wide","rows"] ["table"] (Zae Zbx):=⟨rfl,rfl,rfl,by decide +kernel,rfl,by decide +kernel,by decide +kernel⟩
theorem Zer:FnScope ["_law_p","_law_found","_law_high","_law_wide"] ["_law_p","_law_found","_law_high","_law_wide"] (Zae Zb0):=⟨rfl,rfl,rfl,by decide +kernel,rfl,by decide +kernel,by decide +kernel⟩
theorem Zfa:FnScope ["_law_p","_law_high","_law_wide"] ["_law_p","_law_high","_law_wide"] (Zae Zb8):=⟨rfl,rfl,rfl,by decide +kernel,rfl,by decide +kernel,by decide +kernel⟩
theorem Zfq:FnScope ["_law_one","_law_other"] ["_law_one","_law_other"] (Zae Zcf):=⟨rfl,rfl,rfl,by decide +kernel,rfl,by decide +kernel,by decide +kernel⟩
structure Txt (K:PySem.W.Frag) (mg:Str->Option Value) (C:Addr):Prop where
 cl_Ground:Cls K C
 nP:NoAttr K C "prime"
 n_abs:mg "abs" = none
 n_all:mg "all" = none
 n_isinstance:mg "isinstance" = none
 n_int:mg "int" = none
 n_bool:mg "bool" = none
 n_tuple:mg "tuple" = none
 n_range:mg "range" = none
 n_len:mg "len" = none
 n_list:mg "list" = none
 n_zip:mg "zip" = none
 n_sum:mg "sum" = none
 n_enumerate:mg "enumerate" = none
 n_min:mg "min" = none
 n_reversed:mg "reversed" = none
 n_max:mg "max" = none
 g_LARGEST_PRIME:∃ t,mg "LARGEST_PRIME" = some (.int 97 t)
 g_LONG:∃ t,mg "LONG" = some (.int 4000 t)
 g_LEADING:∃ t,mg "LEADING" = some (.int 126 t)
def BagV (a b:Int):HO:=.lst [.int a,.int b]
def Bag (H:Hp) (l:Addr):Prop:=∃ a b:Int,H l = some (BagV a b)/\0<=b/\b < 2147483647
def Znt (K:PySem.W.Frag):Sp:=fun vs H Q _=>∃ (a:Addr) (ns:List Int) (k:Int),vs = [.ref a,.int k]/\SqL K H a (ns.map V.int)/\ns.length<=63/\0<=k/\∀ c,Q (.int c) H
def spBag:Sp:=fun vs H Q _=>∃ c:Int,vs = [.int c]/\∀ (l:Addr) (a b:Int),H l = none->0<=b->b < 2147483647->Q (.ref l) (upd H l (BagV a b))
def Zf6:Sp:=fun vs H Q _=>∃ (l:Addr) (a b n:Int),vs = [.ref l,.int n]/\H l = some (BagV a b)/\0<=b/\b < 2147483647/\0 < n/\n < 1000000000 /\
 ∀ (r a' b':Int),0<=r->r < n->0<=b'->b' < 2147483647->Q (.int r) (upd H l (BagV a' b'))
section
variable {P:Program} {w:World} {K:PySem.W.Frag} {mg:Str->Option Value} {base:Heap} {C:Addr}
theorem ok_cell {f:Addr} {fd:FuncData} (F:Fun K "_law_cell" "_law_cell" Zdj f fd) (T:Txt K mg C):FnOk P w K mg base CX0 1 f fd ["_law_script","_law_k"] (Znt K):=by
 have nd:=Zg6.nd
 refine F.ok Zg6 (fun vs H Q E h=>?_) (fun cdv A outer s H vs Q E hr h=>?_)
 ·obtain ⟨a,ns,k,rfl,_⟩:=h
  rfl
 ·obtain ⟨a,ns,k,rfl,hS,hl,h0,q⟩:=h
  refine ⟨_,(@Zab _ _ _ _ _ (@Zbf _ _ _ _ _ _ _ _ (Zal Ziz (pv 1) (Zcj Zbi rfl T.n_len PySem.boot_len (@Zag _ _ _ _ _ (pv 0) Zaa (by rfl))) (Zau _)) (@Zaf _ _ _ (@Zaj _ _ _ _ (@Zat _ _ _ _ _ _ _ Za0 (pv 0) (pv 1) (fun _ _=>rfl)))) Zav) (@Zaf _ _ _ (@Zaj _ _ _ _ Zac))),?_⟩
  walk_at "wp"
  refine ⟨_,.inl hS,Zdy (fun hc=>?_) (fun _=>q 0)⟩
  have hc:=of_decide_eq_true hc
  rw [List.length_map] at hc
  refine ⟨_,hS,V.int (ns[k.toNat]'(by omega)),Zbl h0 ?_,q _⟩
  rw [List.getElem?_map,List.getElem?_eq_getElem (by omega)]
  rfl
theorem cpow (k:Int) (h0:0<=k) (h1:k<=1000):CPow 10 k:=⟨h0,by omega,by decide⟩
theorem Zj5 (c n:Int) (h:0 < n):0<=c % n:=Int.emod_nonneg _ (by omega)
theorem Zj6 (c n:Int) (h:0 < n):c % n < n:=Int.emod_lt_of_pos _ h
theorem ok_bag {f:Addr} {fd:FuncData} (F:Fun K "_law_bag" "_law_bag" Zd9 f fd) (T:Txt K mg C):FnOk P w K mg base CX0 1 f fd ["_law_cell_here"] spBag:=by
 have nd:=Zh9.nd
 refine F.ok Zh9 (fun vs H Q E h=>?_) (fun cdv A outer s H vs Q E hr h=>?_)
 ·obtain ⟨c,rfl,_⟩:=h
  rfl
 ·obtain ⟨c,rfl,q⟩:=h
  refine ⟨_,(@Zab _ _ _ _ _ (@Zbf _ _ _ _ _ _ _ _ (Zal op_ge (pv 0) (@Zar _ _ _ _ _ _ _ _ Zse Zac Zac) (Zau _)) (@Zaf _ _ _ (@Zaj _ _ _ _ (@Zc4 _ _ _ _ (@Zag _ _ _ _ _ (pv 0) (@Zag _ _ _ _ _ (@Zar _ _ _ _ _ _ _ _ Zci (pv 0) Zac) Zaa (by rfl)) (by rfl))))) Zav) (@Zaf _ _ _ (@Zaj _ _ _ _ (@Zc4 _ _ _ _ (@Zag _ _ _ _ _ Zac (@Zag _ _ _ _ _ (@Zar _ _ _ _ _ _ _ _ Zci (@Zar _ _ _ _ _ _ _ _ Zc6 (@Zar _ _ _ _ _ _ _ _ Zig (@Zar _ _ _ _ _ _ _ _ Zci (pv 0) Zac) Zac) Zac) Zac) Zaa (by rfl)) (by rfl)))))),?_⟩
  walk_at "wp"
  refine ⟨cpow _ (by decide) (by decide),Zdy (fun _=>?_) (fun _=>?_)⟩
  ·exact ⟨by decide,by decide,fun p hp=>q p _ _ hp (Zj5 _ _ (by decide)) (Zj6 _ _ (by decide))⟩
  ·exact ⟨by decide,.inr ⟨by decide,by decide⟩,by decide,by decide,fun p hp=>q p _ _ hp (Zj5 _ _ (by decide)) (Zj6 _ _ (by decide))⟩
theorem ok_draw {f:Addr} {fd:FuncData} (F:Fun K "_law_draw" "_law_draw" Zdh f fd) (T:Txt K mg C):FnOk P w K mg base CX0 1 f fd ["_law_bag_here","_law_many"] Zf6:=by
 have nd:=Zg4.nd
 refine F.ok Zg4 (fun vs H Q E h=>?_) (fun cdv A outer s H vs Q E hr h=>?_)
 ·obtain ⟨l,a,b,n,rfl,_⟩:=h
  rfl
 ·obtain ⟨l,a,b,n,rfl,hl,b0,b1,n0,n1,q⟩:=h
  refine ⟨_,(@Zab _ _ _ _ _ (@Zbf _ _ _ _ _ _ _ _ (Zal Zeu (@Zat _ _ _ _ _ _ _ Za0 (pv 0) Zac (fun _ _=>rfl)) Zac (Zau _)) (@Zab _ _ _ _ _ (Zax (i:=2) nd rfl (Or.inl rfl) (@Zar _ _ _ _ _ _ _ _ Zci (@Zat _ _ _ _ _ _ _ Za0 (pv 0) Zac (fun _ _=>rfl)) (pv 1))) (@Zab _ _ _ _ _ (Zb2 (@Zar _ _ _ _ _ _ _ _ Zi0 (@Zat _ _ _ _ _ _ _ Za0 (pv 0) Zac (fun _ _=>rfl)) (pv 1)) (Zfd (pv 0) Zac Zcz)) (@Zaf _ _ _ (@Zaj _ _ _ _ (pv 2))))) Zav) (@Zab _ _ _ _ _ (Zb2 (@Zar _ _ _ _ _ _ _ _ Zci (@Zar _ _ _ _ _ _ _ _ Zc6 (@Zar _ _ _ _ _ _ _ _ Zig (@Zat _ _ _ _ _ _ _ Za0 (pv 0) Zac (fun _ _=>rfl)) Zac) Zac) Zac) (Zfd (pv 0) Zac Zcz)) (@Zaf _ _ _ (@Zaj _ _ _ _ (@Zar _ _ _ _ _ _ _ _ Zci (@Zar _ _ _ _ _ _ _ _ Zi0 (@Zar _ _ _ _ _ _ _ _ Zci (@Zar _ _ _ _ _ _ _ _ Zig (@Zat _ _ _ _ _ _ _ Za0 (pv 0) Zac (fun _ _=>rfl)) (@Zar _ _ _ _ _ _ _ _ Zc6 (@Zar _ _ _ _ _ _ _ _ Zi0 (@Zat _ _ _ _ _ _ _ Za0 (pv 0) Zac (fun _ _=>rfl)) Zac) Zac)) Zac) Zac) (pv 1)))))),?_⟩
  walk_at "wp"
  refine ⟨_,SqL.of hl,_,rfl,_,rfl,Zdy (fun hc=>?_) (fun hc=>?_)⟩
  ·refine ⟨_,SqL.of hl,_,rfl,_,rfl,n0,_,SqL.of hl,_,rfl,_,rfl,⟨n0,by omega⟩,_,hl,_,rfl,?_⟩
   exact q _ _ _ (Zj5 _ _ n0) (Zj6 _ _ n0) b0 b1
  ·refine ⟨_,SqL.of hl,_,rfl,_,rfl,.inr ⟨by decide,by decide⟩,by decide,_,hl,_,rfl,_,SqL.of Zad,_,rfl,_,SqL.of Zad,_,rfl,_,rfl,⟨by decide,by decide⟩,_,rfl,?_⟩
   have h1:=Zj5 (b * 48271 + 4099) 2147483647 (by decide)
   have h2:=Zj6 (b * 48271 + 4099) 2147483647 (by decide)
   refine ⟨.inl ⟨by omega,by omega⟩,by decide,⟨by decide,by decide⟩,n0,?_⟩
   exact q _ _ _ (Zj5 _ _ n0) (Zj6 _ _ n0) h1 h2
theorem Bag.ne {H:Hp} {l p:Addr} (h:Bag H l) (hp:H p = none):p ≠ l:=by
 obtain ⟨a,b,e,_⟩:=h
 exact (Zan e hp).symm
theorem Bag.new {H:Hp} {l p:Addr} {o:HO} (h:Bag H l) (hp:p ≠ l):Bag (upd H p o) l:=by
 obtain ⟨a,b,e,h1,h2⟩:=h
 exact ⟨a,b,by rw [Zap hp.symm]; exact e,h1,h2⟩
theorem Bag.set {H:Hp} {l:Addr} {a b:Int} (h1:0<=b) (h2:b < 2147483647):Bag (upd H l (BagV a b)) l:=⟨a,b,Zad,h1,h2⟩
theorem Bag.same {H H':Hp} {l:Addr} (b:Bag H l) (s:Same H H'):Bag H' l:=by
 obtain ⟨x,y,e,h1,h2⟩:=b
 exact ⟨x,y,s _ _ e,h1,h2⟩
theorem Bag.draw {H:Hp} {l:Addr} {n:Int} {Q:VK} {E:XK} (b:Bag H l) (h0:0 < n) (h1:n < 1000000000) (q:∀ (r:Int) (H':Hp),0<=r->r < n->Ext l H H'->Bag H' l->Q (.int r) H'):Zf6 [.ref l,.int n] H Q E:=by
 obtain ⟨x,y,e,y0,y1⟩:=b
 exact ⟨l,x,y,n,rfl,e,y0,y1,h0,h1,fun r a' b' r0 r1 c0 c1=>q r _ r0 r1 Ext.set (Bag.set c0 c1)⟩
theorem iteP {c A B:Prop} [Decidable c] (hc:c) (h:A):if c then A else B:=by rw [if_pos hc]; exact h
theorem Zhw {c A B:Prop} [Decidable c] (hc:¬ c) (h:B):if c then A else B:=by rw [if_neg hc]; exact h
theorem Zkj {a D:Addr} {xs:List V} {fr:List (Str × Nat)} {σ:L2.St} {te:TE} {H1:Hp} {Q:VK} (fb:Nat->Bool) (ha:H1 a = some (.lst xs)) (hD:H1 D = none) (hn:xs.length<=1000)
  (h:∀ (i:Nat) x H (Q:VK),xs[i]? = some x->Same H1 H->(∀ H',Same H H'->Q (.bl (fb i)) H')->te (some x :: Zcb fr σ) H Q)
  (hQ:∀ H',Same H1 H'->H' D = some (.lst (((List.range xs.length).map fb).map V.bl))->Q (.ref D) H'):Zcl (Zc8 0) Zht te (Itl K a) D (Zgt 1 fr σ) H1 Q:=by
 refine Zi9 (xs:=xs) (fun i vs H=>Same H1 H/\H D = some (.lst vs)/\vs = ((List.range i).map fb).map V.bl) ⟨Same.new hD,Zad,rfl⟩ (fun i vs H _ p=>SqL.of (p.1 _ _ ha)) ?_ (fun vs H ⟨s,e,hv⟩=>hQ H s (by rw [e,hv]))
 rintro i x vs σ' H hi hx sh ⟨s,e,rfl⟩
 obtain ⟨z,rfl⟩:=sh.one
 simp only [Zfo,Zc8,Zht,List.set_cons_zero,if_true]
 refine h i x H _ hx s fun H' s'=>?_
 exact Zox (ws:=((List.range (i + 1)).map fb).map V.bl) hi Sh.mk1 (s' _ _ e) (Za2 (by rw [List.length_map,List.length_map,List.length_range]; omega)) ⟨(s.trans s').upd hD,by rw [Zad,List.range_succ,List.map_append,List.map_append]; rfl,rfl⟩
theorem Zmp (n:Nat):((List.range n).map fun _=>true).all id = true:=by
 rw [List.all_eq_true]
 intro b hb
 obtain ⟨_,_,rfl⟩:=List.mem_map.mp hb
 rfl
def Zff:Sp:=fun vs H Q _=>∃ i:Int,vs = [.int i]/\Q (.bl true) H
theorem Zqy {f:Addr} {fd:FuncData} (F:Fun K "is_whole" "is_whole" Zdl f fd) (T:Txt K mg C):FnOk P w K mg base CX0 1 f fd ["thing"] Zff:=by
 have nd:=Zg8.nd
 refine F.ok Zg8 (fun vs H Q E h=>?_) (fun cdv A outer s H vs Q E hr h=>?_)
 ·obtain ⟨i,rfl,_⟩:=h
  rfl
 ·obtain ⟨i,rfl,q⟩:=h
  refine ⟨_,(@Zaf _ _ _ (@Zaj _ _ _ _ (Zie (Zcj Zb4 rfl T.n_isinstance boot_isinstance (@Zag _ _ _ _ _ (pv 0) (@Zag _ _ _ _ _ (Zjz rfl T.n_int boot_int) Zaa (by rfl)) (by rfl))) (Zid (Zsa (Zcj Zb4 rfl T.n_isinstance boot_isinstance (@Zag _ _ _ _ _ (pv 0) (@Zag _ _ _ _ _ (Zjz rfl T.n_bool boot_bool) Zaa (by rfl)) (by rfl)))))))),?_⟩
  walk_at "wp"
  exact ⟨_,_,⟨rfl,rfl⟩,_,rfl,_,.int i,_,Zj9 K,iteT ⟨_,_,⟨rfl,rfl⟩,_,rfl,_,.int i,_,Zih K,q⟩⟩
theorem Zmx {k:Nat} {A:Around} (hr:Room k A):A.units + 8 < cLine:=by have:=hr.units; omega
theorem Zps {lo:Int} {n:Nat} {D:Addr} {fr:List (Str × Nat)} {σ:L2.St} {te:TE} {H1:Hp} {Q:VK} (fb:Nat->Bool) (hD:H1 D = none) (hn:n<=1000)
  (h:∀ (i:Nat) H (Q:VK),i < n->Same H1 H->(∀ H',Same H H'->Q (.bl (fb i)) H')->te (some (.int (lo + (i:Nat))) :: Zcb fr σ) H Q)
  (hQ:∀ H',Same H1 H'->H' D = some (.lst (((List.range n).map fb).map V.bl))->Q (.ref D) H'):Zcl (Zc8 0) Zht te (Itr lo n) D (Zgt 1 fr σ) H1 Q:=by
 refine Zgs (fun i vs H=>Same H1 H/\H D = some (.lst vs)/\vs = ((List.range i).map fb).map V.bl) ⟨Same.new hD,Zad,rfl⟩ ?_ (fun vs H ⟨s,e,hv⟩=>hQ H s (by rw [e,hv]))
 rintro i x vs σ' H hi rfl sh ⟨s,e,rfl⟩
 obtain ⟨z,rfl⟩:=sh.one
 simp only [Zfo,Zc8,Zht,List.set_cons_zero,if_true]
 refine h i H _ hi s fun H' s'=>?_
 exact Zox (ws:=((List.range (i + 1)).map fb).map V.bl) hi Sh.mk1 (s' _ _ e) (Za2 (by rw [List.length_map,List.length_map,List.length_range]; omega)) ⟨(s.trans s').upd hD,by rw [Zad,List.range_succ,List.map_append,List.map_append]; rfl,rfl⟩
def Top (a:Int):Prop:=a.natAbs < 2 ^ 4000
theorem Top.of {a:Int} (h:a.natAbs<=100000000000000000000000000000000000000000000000000000000000000000000000000000000):Top a:=Nat.lt_of_le_of_lt h (by decide +kernel)
def Zey (p:Int):Prop:=1 < p/\p<=97/\∀ d:Int,2<=d->d < p->p % d ≠ 0
def Zk1:Sp:=fun vs H Q _=>∃ p:Int,vs = [.int p]/\Zey p/\∀ H',Same H H'->Q (.bl true) H'
theorem Zq4 {f:Addr} {fd:FuncData} (F:Fun K "is_prime" "is_prime" Zdm f fd) (T:Txt K mg C):FnOk P w K mg base CX0 1 f fd ["number"] Zk1:=by
 have nd:=Zg9.nd
 refine F.ok Zg9 (fun vs H Q E h=>?_) (fun cdv A outer s H vs Q E hr h=>?_)
 ·obtain ⟨p,rfl,_⟩:=h
  rfl
 ·obtain ⟨p,rfl,⟨p1,p2,p3⟩,q⟩:=h
  refine ⟨_,(@Zaf _ _ _ (@Zaj _ _ _ _ (Zie (Zet Zeu (pv 0) Zac (Zau _)) (Zid (Zcj (Zje rfl) rfl T.n_all boot_all (@Zag _ _ _ _ _ (Zbg (own:=["divisor"]) (fr:=[("number",0)]) rfl (Zck (by kernel_rfl)) (pi_r2 rfl T.n_range (@Zag _ _ _ _ _ Zac (@Zag _ _ _ _ _ (pv 0) Zaa (by rfl)) (by rfl))) (fun _ _ _ _=>⟨(@Zah _ _ 0 _ (show (["divisor","number"]:List Str).Nodup by decide +kernel) rfl (Or.inl rfl) (Or.inr rfl)),Za9,(Zet Zfj (@Zar _ _ _ _ _ _ _ _ Zci (pv 1) (pv 0)) Zac (Zau _))⟩)) Zaa (by rfl))))))),?_⟩
  walk_at "wp"
  refine iteP (decide_eq_true p1) ⟨_,rfl,2,p,rfl,⟨by decide,by decide,by omega,by omega⟩,fun D hD=>Zps (fun _=>true) hD (by omega) (fun i H' Q' hi s' q'=>?_) fun H' s' e'=>⟨D,rfl,_,SqL.of e',?_⟩⟩
  ·have h0:(0:Int) < 2 + (i:Int):=by omega
   have hne:=p3 (2 + (i:Int)) (by omega) (by omega)
   refine ⟨_,rfl,_,rfl,_,_,rfl,rfl,h0,rfl,?_⟩
   have:(!decide (V.int (p % (2 + (i:Int))) = V.int 0)) = true:=by simp only [V.int.injEq,decide_eq_false hne]; rfl
   rw [this]
   exact q' H' (Same.refl _)
  ·rw [Zmp]
   exact q H' s'
def GroundP (p:Int):Prop:=p = 0\/Zey p
def Zkx:Sp:=fun vs H Q _=>∃ p:Int,vs = [.int p]/\GroundP p/\∀ H',Same H H'->Q (.bl true) H'
theorem Zqz {f:Addr} {fd:FuncData} (F:Fun K "tells_ground" "tells_ground" Zby f fd) (T:Txt K mg C) (C_is_whole:Cal P w K mg base "is_whole" 1 Zff) (C_is_prime:Cal P w K mg base "is_prime" 1 Zk1):FnOk P w K mg base CX0 2 f fd ["thing"] Zkx:=by
 have nd:=Zep.nd
 refine F.ok Zep (fun vs H Q E h=>?_) (fun cdv A outer s H vs Q E hr h=>?_)
 ·obtain ⟨p,rfl,_⟩:=h
  rfl
 ·obtain ⟨p,rfl,hp,q⟩:=h
  have p0:0<=p:=by rcases hp with rfl | ⟨h,_⟩ <;> omega
  have p97:p<=97:=by rcases hp with rfl | ⟨_,h,_⟩ <;> omega
  refine ⟨_,(@Zab _ _ _ _ _ (@Zbf _ _ _ _ _ _ _ _ (PW.pt (Zf2 (Zdr (Zdw (Zbb C_is_whole hr.m rfl (@Zag _ _ _ _ _ (pv 0) Zaa (by rfl))))) (Zfc (Zdr (Zqq op_le op_le Zac (pv 0) (Zgp rfl T.g_LARGEST_PRIME)))))) (@Zaf _ _ _ (@Zaj _ _ _ _ Ze5)) Zav) (@Zaf _ _ _ (@Zaj _ _ _ _ (pe_or (Zet Zeh (pv 0) Zac (Zau _)) (Zid (Zbb C_is_prime hr.m rfl (@Zag _ _ _ _ _ (pv 0) Zaa (by rfl)))))))),?_⟩
  walk_at "wp"
  refine ⟨p,rfl,true,rfl,Zlj (iteP (decide_eq_true p0) (Zhw (by rw [decide_eq_true p97]; decide) (Zdy (fun _=>q H (Same.refl _)) (fun hc=>?_))))⟩
  rcases hp with rfl | hp
  ·exact absurd (decide_eq_true rfl) hc
  ·exact ⟨p,rfl,hp,q⟩
def Zh1:Sp:=fun vs H Q _=>∃ a b:Int,vs = [.int a,.int b]/\Top a/\0 < b/\b.natAbs<=100000000000000000000000000000000/\∀ t,H t = none->Q (.ref t) (upd H t (.tup [.int (nrm a b).1,.int (nrm a b).2]))
def flds (p:Int):List (Str × V):=Zjv "prime" (.int p) []
theorem Zcy (p:Int):(flds p).lookup ("prime" : Str) = some (.int p):=by
 unfold flds
 rw [Zei,if_pos rfl]
theorem Zpl (p:Int) {x:Str} (h1:¬ x = "prime"):(flds p).lookup x = none:=by
 unfold flds
 rw [Zei,if_neg h1]
 rfl
def Znq (C:Addr):Sp:=fun vs H Q _=>∃ (g dx:Addr) (p:Int),vs = [.ref g,.int p]/\H g = some (.ins C dx [])/\GroundP p/\∀ (H':Hp),Ext g H H'->H' g = some (.ins C dx (flds p))->Q .non H'
theorem ok_init {f:Addr} {fd:FuncData} (F:Fun K "__init__" "Ground.__init__" Zb9 f fd) (T:Txt K mg C) (C_tells_ground:Cal P w K mg base "tells_ground" 2 Zkx):FnOk P w K mg base CX0 3 f fd ["self","prime"] (Znq C):=by
 have nd:=Zfb.nd
 refine F.ok Zfb (fun vs H Q E h=>?_) (fun cdv A outer s H vs Q E hr h=>?_)
 ·obtain ⟨g,dx,p,rfl,_⟩:=h
  rfl
 ·obtain ⟨g,dx,p,rfl,hg,hp,q⟩:=h
  refine ⟨_,(@Zab _ _ _ _ _ (@Zbf _ _ _ _ _ _ _ _ (Zdr (Zdw (Zbb C_tells_ground hr.m rfl (@Zag _ _ _ _ _ (pv 1) Zaa (by rfl))))) (@Zaf _ _ _ Zgn) Zav) (@Zaf _ _ _ (ps_fld (pv 0) (pv 1) rfl))),?_⟩
  walk_at "wp"
  refine ⟨p,rfl,hp,fun H1 s1=>⟨true,rfl,Zlj ⟨C,dx,[],s1 _ _ hg,T.cl_Ground,T.nP,by show 0 < 1000; decide,?_⟩⟩⟩
  exact q _ (fun b o nb e=>by rw [Zap nb]; exact s1 _ _ e) Zad
def Zns:Sp:=fun vs H Q _=>∃ a b:Int,vs = [.int a,.int b]/\Q (.int (Int.gcd a b:Int)) H
theorem ok_gcd {f:Addr} {fd:FuncData} (F:Fun K "_law_gcd" "_law_gcd" Zd8 f fd) (T:Txt K mg C):FnOk P w K mg base CX0 1 f fd ["_law_one","_law_two"] Zns:=by
 have nd:=Zh8.nd
 refine F.ok Zh8 (fun vs H Q E h=>?_) (fun cdv A outer s H vs Q E hr h=>?_)
 ·obtain ⟨a,b,rfl,_⟩:=h
  rfl
 ·obtain ⟨a,b,rfl,q⟩:=h
  refine ⟨_,(@Zab _ _ _ _ _ (Zax (i:=0) nd rfl (Or.inl rfl) (Zcj Zd0 rfl T.n_abs boot_abs (@Zag _ _ _ _ _ (pv 0) Zaa (by rfl)))) (@Zab _ _ _ _ _ (Zax (i:=1) nd rfl (Or.inl rfl) (Zcj Zd0 rfl T.n_abs boot_abs (@Zag _ _ _ _ _ (pv 1) Zaa (by rfl)))) (@Zab _ _ _ _ _ (Zfs PassesOwn.never (Zal Zeu (pv 1) Zac (Zau _)) (@Zab _ _ _ _ _ (Zax (i:=2) nd rfl (Or.inl rfl) (@Zar _ _ _ _ _ _ _ _ Zci (pv 0) (pv 1))) (@Zab _ _ _ _ _ (Zax (i:=0) nd rfl (Or.inl rfl) (pv 1)) (@Zaf _ _ _ (Zax (i:=1) nd rfl (Or.inl rfl) (pv 2)))))) (@Zaf _ _ _ (@Zaj _ _ _ _ (pv 0)))))),?_⟩
  walk_at "wp"
  have ea:(if a < 0 then -a else a) = (a.natAbs:Int):=by split <;> omega
  have eb:(if b < 0 then -b else b) = (b.natAbs:Int):=by split <;> omega
  rw [ea,eb]
  refine ⟨fun n σ H2=>∃ (x y:Int) (v:Option V),σ = [some (.int x),some (.int y),v]/\H2 = H/\0<=x/\0<=y/\n = y.toNat/\Int.gcd x y = Int.gcd a b,⟨_,_,_,none,rfl,rfl,by omega,by omega,rfl,by unfold Int.gcd; rfl⟩,?_⟩
  rintro n σ H2 ⟨x,y,v,rfl,rfl,hx,hy,rfl,hg⟩
  walk_at "wp"
  refine Zdy (fun hc=>?_) (fun hc=>?_)
  ·have y1:0 < y:=of_decide_eq_true hc
   have l1:=Int.emod_nonneg x (show y ≠ 0 by omega)
   have l2:=Int.emod_lt_of_pos x y1
   refine ⟨_,fun _ _ h=>h,?_⟩
   walk_at "wp"
   exact ⟨y1,_,by omega,y,x % y,_,⟨rfl,rfl,rfl⟩,by omega,l1,rfl,by rw [Zmh]; exact hg⟩
  ·have hy0:¬ 0 < y:=fun z=>hc (decide_eq_true z)
   have hy0:y = 0:=by omega
   subst hy0
   have e:x = (Int.gcd a b:Int):=by
    rw [<- hg,Int.gcd_zero]
    omega
   rw [<- e] at q
   exact q
theorem Zoe {f:Addr} {fd:FuncData} (F:Fun K "_law_whole" "_law_whole" Zcs f fd) (T:Txt K mg C):FnOk P w K mg base CX0 1 f fd ["_law_found"] Zff:=by
 have nd:=Zga.nd
 refine F.ok Zga (fun vs H Q E h=>?_) (fun cdv A outer s H vs Q E hr h=>?_)
 ·obtain ⟨i,rfl,_⟩:=h
  rfl
 ·obtain ⟨i,rfl,q⟩:=h
  refine ⟨_,(@Zaf _ _ _ (@Zaj _ _ _ _ (Zie (Zcj Zb4 rfl T.n_isinstance boot_isinstance (@Zag _ _ _ _ _ (pv 0) (@Zag _ _ _ _ _ (Zjz rfl T.n_int boot_int) Zaa (by rfl)) (by rfl))) (Zid (Zsa (Zcj Zb4 rfl T.n_isinstance boot_isinstance (@Zag _ _ _ _ _ (pv 0) (@Zag _ _ _ _ _ (Zjz rfl T.n_bool boot_bool) Zaa (by rfl)) (by rfl)))))))),?_⟩
  walk_at "wp"
  exact ⟨_,_,⟨rfl,rfl⟩,_,rfl,_,.int i,_,Zj9 K,iteT ⟨_,_,⟨rfl,rfl⟩,_,rfl,_,.int i,_,Zih K,q⟩⟩
def goodB (p:Int):Bool:=p == 0 || (decide (1 < p) && decide (p<=97) && (List.range 98).all fun d=>decide ((d:Int) < 2) || decide (p<=(d:Int)) || decide (p % (d:Int) ≠ 0))
theorem Zrk {p:Int} (h:goodB p = true):GroundP p:=by
 unfold goodB at h
 simp only [Bool.or_eq_true,Bool.and_eq_true,beq_iff_eq,decide_eq_true_eq,List.all_eq_true,List.mem_range] at h
 rcases h with h | ⟨⟨h1,h2⟩,h3⟩
 ·exact .inl h
 ·refine .inr ⟨h1,h2,fun d d2 dp=>?_⟩
  have:=h3 d.toNat (by omega)
  rw [show ((d.toNat:Nat):Int) = d by omega] at this
  rcases this with (h | h) | h
  ·omega
  ·omega
  ·exact h
theorem Zjy {L:List Int} (h:L.all goodB = true) {i:Int} (i0:0<=i) (i1:i < L.length):∃ p,atI (L.map V.int) i = some (.int p)/\GroundP p:=by
 have hi:i.toNat < L.length:=by omega
 exact ⟨_,Zbl i0 (atZ_get hi),Zrk (List.all_eq_true.mp h _ (atZ_mem hi))⟩
def spPr:Sp:=fun vs H Q _=>∃ l:Addr,vs = [.ref l]/\Bag H l/\∀ (p:Int) (H':Hp),Ext l H H'->Bag H' l->GroundP p->Q (.int p) H'
theorem Zof {f:Addr} {fd:FuncData} (F:Fun K "_law_prime" "_law_prime" Zcv f fd) (T:Txt K mg C) (C_law_draw:Cal P w K mg base "_law_draw" 1 Zf6):FnOk P w K mg base CX0 2 f fd ["_law_bag_here"] spPr:=by
 have nd:=Zgd.nd
 refine F.ok Zgd (fun vs H Q E h=>?_) (fun cdv A outer s H vs Q E hr h=>?_)
 ·obtain ⟨l,rfl,_⟩:=h
  rfl
 ·obtain ⟨l,rfl,hb,q⟩:=h
  refine ⟨_,(@Zab _ _ _ _ _ (Zax (i:=1) nd rfl (Or.inl rfl) (Zbb C_law_draw hr.m rfl (@Zag _ _ _ _ _ (pv 0) (@Zag _ _ _ _ _ Zac Zaa (by rfl)) (by rfl)))) (@Zab _ _ _ _ _ (@Zbf _ _ _ _ _ _ _ _ (Zal Ziz (pv 1) Zac (Zau _)) (@Zaf _ _ _ (@Zaj _ _ _ _ (@Zat _ _ _ _ _ _ _ Za0 (@Zc4 _ _ _ _ (@Zag _ _ _ _ _ Zac (@Zag _ _ _ _ _ Zac (@Zag _ _ _ _ _ Zac (@Zag _ _ _ _ _ Zac (@Zag _ _ _ _ _ Zac Zaa (by rfl)) (by rfl)) (by rfl)) (by rfl)) (by rfl))) (pv 1) (fun _ _=>rfl)))) Zav) (@Zaf _ _ _ (@Zaj _ _ _ _ (@Zat _ _ _ _ _ _ _ Za0 (@Zc4 _ _ _ _ (@Zag _ _ _ _ _ Zac (@Zag _ _ _ _ _ Zac (@Zag _ _ _ _ _ Zac (@Zag _ _ _ _ _ Zac (@Zag _ _ _ _ _ Zac (@Zag _ _ _ _ _ Zac (@Zag _ _ _ _ _ Zac (@Zag _ _ _ _ _ Zac (@Zag _ _ _ _ _ Zac (@Zag _ _ _ _ _ Zac (@Zag _ _ _ _ _ Zac (@Zag _ _ _ _ _ Zac (@Zag _ _ _ _ _ Zac (@Zag _ _ _ _ _ Zac (@Zag _ _ _ _ _ Zac (@Zag _ _ _ _ _ Zac (@Zag _ _ _ _ _ Zac (@Zag _ _ _ _ _ Zac (@Zag _ _ _ _ _ Zac (@Zag _ _ _ _ _ Zac (@Zag _ _ _ _ _ Zac (@Zag _ _ _ _ _ Zac Zaa (by rfl)) (by rfl)) (by rfl)) (by rfl)) (by rfl)) (by rfl)) (by rfl)) (by rfl)) (by rfl)) (by rfl)) (by rfl)) (by rfl)) (by rfl)) (by rfl)) (by rfl)) (by rfl)) (by rfl)) (by rfl)) (by rfl)) (by rfl)) (by rfl)) (by rfl))) (Zbb C_law_draw hr.m rfl (@Zag _ _ _ _ _ (pv 0) (@Zag _ _ _ _ _ Zac Zaa (by rfl)) (by rfl))) (fun _ _=>rfl)))))),?_⟩
  walk_at "wp"
  refine hb.draw (by decide) (by decide) fun z H2 z0 z1 e2 b2=>⟨z,rfl,Zdy (fun hz=>?_) (fun hz=>?_)⟩
  ·have hz:=of_decide_eq_true hz
   refine ⟨by decide,fun p1 hp1=>?_⟩
   obtain ⟨p,hp,gp⟩:=Zjy (L:=[0,2,3,5,97]) (by decide +kernel) z0 (show z < (5:Nat) by omega)
   have n1:p1 ≠ l:=b2.ne hp1
   exact ⟨_,z,rfl,SqL.of Zad,_,hp,q p _ (e2.trans (Ext.new hp1)) (b2.new n1) gp⟩
  ·refine ⟨by decide,fun p1 hp1=>?_⟩
   have n1:p1 ≠ l:=b2.ne hp1
   refine (b2.new n1).draw (by decide) (by decide) fun y H3 y0 y1 e3 b3=>?_
   obtain ⟨p,hp,gp⟩:=Zjy (L:=[0,7,11,13,17,19,23,29,31,37,41,43,47,53,59,61,67,71,73,79,83,89]) (by decide +kernel) y0 (show y < (22:Nat) by omega)
   exact ⟨_,y,rfl,SqL.of (e3 _ _ n1 Zad),_,hp,q p _ ((e2.trans (Ext.new hp1)).trans e3) b3 gp⟩
def NumV (H:Hp) (p:Int) (v:V) (x:Int × Int):Prop:=if p = 0 then ∃ t,v = .ref t/\H t = some (.tup [.int x.1,.int x.2]) else v = .int x.1
theorem NumV.same {H H':Hp} {p:Int} {v:V} {x:Int × Int} (h:NumV H p v x) (s:Same H H'):NumV H' p v x:=by
 unfold NumV at *
 split
 ·rename_i hp
  rw [if_pos hp] at h
  obtain ⟨t,e,ht⟩:=h
  exact ⟨t,e,s _ _ ht⟩
 ·rename_i hp
  rw [if_neg hp] at h
  exact h
theorem NumV.tup {H:Hp} {p:Int} {t:Addr} {x:Int × Int} (hp:p = 0) (h:H t = some (.tup [.int x.1,.int x.2])):NumV H p (.ref t) x:=by
 unfold NumV
 rw [if_pos hp]
 exact ⟨t,rfl,h⟩
theorem NumV.of {H:Hp} {p:Int} {x:Int × Int} (hp:¬ p = 0):NumV H p (.int x.1) x:=by
 unfold NumV
 rw [if_neg hp]
theorem NumV.ref {H:Hp} {p:Int} {v:V} {x:Int × Int} (h:NumV H p v x) (hp:p = 0):∃ t,v = .ref t/\H t = some (.tup [.int x.1,.int x.2]):=by
 unfold NumV at h
 rw [if_pos hp] at h
 exact h
theorem NumV.int {H:Hp} {p:Int} {v:V} {x:Int × Int} (h:NumV H p v x) (hp:¬ p = 0):v = .int x.1:=by
 unfold NumV at h
 rw [if_neg hp] at h
 exact h
theorem GroundP.lo {p:Int} (h:GroundP p):0<=p:=by rcases h with rfl | ⟨h,_⟩ <;> omega
theorem GroundP.hi {p:Int} (h:GroundP p):p<=97:=by rcases h with rfl | ⟨_,h,_⟩ <;> omega
def Zqi:Sp:=fun vs H Q _=>∃ (l:Addr) (p:Int),vs = [.ref l,.int p]/\Bag H l/\GroundP p/\∀ (v:V) (x:Int × Int) (H':Hp),Ext l H H'->Bag H' l->NumV H' p v x->Isn p x->Bd 10000 x->Q v H'
theorem ok_lnum {f:Addr} {fd:FuncData} (F:Fun K "_law_number" "_law_number" Zcg f fd) (T:Txt K mg C) (C_law_draw:Cal P w K mg base "_law_draw" 1 Zf6) (C_law_lowest:Cal P w K mg base "_law_lowest" 2 Zh1):FnOk P w K mg base CX0 3 f fd ["_law_bag_here","_law_p"] Zqi:=by
 have nd:=Zfr.nd
 refine F.ok Zfr (fun vs H Q E h=>?_) (fun cdv A outer s H vs Q E hr h=>?_)
 ·obtain ⟨l,p,rfl,_⟩:=h
  rfl
 ·obtain ⟨l,p,rfl,hb,hp,q⟩:=h
  have p0:=hp.lo
  have p97:=hp.hi
  refine ⟨_,(@Zab _ _ _ _ _ (@Zbf _ _ _ _ _ _ _ _ (Zal Zeu (pv 1) Zac (Zau _)) (@Zaf _ _ _ (@Zaj _ _ _ _ (Zbb C_law_draw hr.m rfl (@Zag _ _ _ _ _ (pv 0) (@Zag _ _ _ _ _ (pv 1) Zaa (by rfl)) (by rfl))))) Zav) (@Zab _ _ _ _ _ (Zax (i:=2) nd rfl (Or.inl rfl) (Zbb C_law_draw hr.m rfl (@Zag _ _ _ _ _ (pv 0) (@Zag _ _ _ _ _ Zac Zaa (by rfl)) (by rfl)))) (@Zab _ _ _ _ _ (@Zbf _ _ _ _ _ _ _ _ (Zal Zeh (pv 2) Zac (Zau _)) (@Zaf _ _ _ (@Zaj _ _ _ _ (Zbb C_law_lowest hr.m rfl (@Zag _ _ _ _ _ (@Zar _ _ _ _ _ _ _ _ Zc5 (Zbb C_law_draw hr.m rfl (@Zag _ _ _ _ _ (pv 0) (@Zag _ _ _ _ _ Zac Zaa (by rfl)) (by rfl))) Zac) (@Zag _ _ _ _ _ (@Zar _ _ _ _ _ _ _ _ Zc6 Zac (Zbb C_law_draw hr.m rfl (@Zag _ _ _ _ _ (pv 0) (@Zag _ _ _ _ _ Zac Zaa (by rfl)) (by rfl)))) Zaa (by rfl)) (by rfl))))) Zav) (@Zab _ _ _ _ _ (@Zbf _ _ _ _ _ _ _ _ (Zal Ziz (pv 2) Zac (Zau _)) (@Zaf _ _ _ (@Zaj _ _ _ _ (Zbb C_law_lowest hr.m rfl (@Zag _ _ _ _ _ (@Zar _ _ _ _ _ _ _ _ Zc5 (Zbb C_law_draw hr.m rfl (@Zag _ _ _ _ _ (pv 0) (@Zag _ _ _ _ _ Zac Zaa (by rfl)) (by rfl))) Zac) (@Zag _ _ _ _ _ (@Zar _ _ _ _ _ _ _ _ Zc6 Zac (Zbb C_law_draw hr.m rfl (@Zag _ _ _ _ _ (pv 0) (@Zag _ _ _ _ _ Zac Zaa (by rfl)) (by rfl)))) Zaa (by rfl)) (by rfl))))) Zav) (@Zaf _ _ _ (@Zaj _ _ _ _ (@Zat _ _ _ _ _ _ _ Za0 (@Zc4 _ _ _ _ (@Zag _ _ _ _ _ (@Zbd _ _ _ _ _ (@Zag _ _ _ _ _ Zac (@Zag _ _ _ _ _ Zac Zaa (by rfl)) (by rfl))) (@Zag _ _ _ _ _ (@Zbd _ _ _ _ _ (@Zag _ _ _ _ _ Zac (@Zag _ _ _ _ _ Zac Zaa (by rfl)) (by rfl))) (@Zag _ _ _ _ _ (@Zbd _ _ _ _ _ (@Zag _ _ _ _ _ (Zgk Zek Zac) (@Zag _ _ _ _ _ Zac Zaa (by rfl)) (by rfl))) (@Zag _ _ _ _ _ (@Zbd _ _ _ _ _ (@Zag _ _ _ _ _ Zac (@Zag _ _ _ _ _ Zac Zaa (by rfl)) (by rfl))) Zaa (by rfl)) (by rfl)) (by rfl)) (by rfl))) (@Zar _ _ _ _ _ _ _ _ Zc5 (pv 2) Zac) (fun _ _=>rfl)))))))),?_⟩
  walk_at "wp"
  refine Zdy (fun hc=>?_) (fun hc=>?_)
  ·have hc:=of_decide_eq_true hc
   refine hb.draw hc (by omega) fun z H2 z0 z1 e2 b2=>?_
   exact q (.int z) (z,1) H2 e2 b2 (NumV.of (x:=(z,1)) (by omega)) (.inr ⟨hc,z0,z1,rfl⟩) ⟨by show z.natAbs<=10000; omega,by show Int.natAbs 1<=10000; decide⟩
  ·have hc:¬ 0 < p:=fun z=>hc (decide_eq_true z)
   have hp0:p = 0:=by omega
   subst hp0
   have fin:∀ (H3:Hp) (a b:Int),Ext l H H3->Bag H3 l->0 < b->a.natAbs<=10000->b.natAbs<=10000->Zh1 [.int a,.int b] H3 Q E0:=fun H3 a b e3 b3 hb0 h1 h2=>by
    refine ⟨a,b,rfl,Top.of (by omega),hb0,by omega,fun t ht=>?_⟩
    have nt:=b3.ne ht
    exact q _ (nrm a b) _ (e3.trans (Ext.new ht)) (b3.new nt) (NumV.tup rfl Zad) (Zlk rfl hb0) (Zom hb0 h1 h2)
   refine hb.draw (by decide) (by decide) fun z H2 z0 z1 e2 b2=>⟨rfl,Zdy (fun hz=>?_) (fun hz=>?_)⟩
   ·refine b2.draw (by decide) (by decide) fun a H3 a0 a1 e3 b3=>⟨a,rfl,b3.draw (by decide) (by decide) fun b H4 b0 b1 e4 b4=>⟨b,rfl,fin _ _ _ ((e2.trans e3).trans e4) b4 (by omega) (by omega) (by omega)⟩⟩
   ·refine ⟨z,rfl,Zdy (fun hz2=>?_) (fun hz2=>?_)⟩
    ·refine b2.draw (by decide) (by decide) fun a H3 a0 a1 e3 b3=>⟨a,rfl,b3.draw (by decide) (by decide) fun b H4 b0 b1 e4 b4=>⟨b,rfl,fin _ _ _ ((e2.trans e3).trans e4) b4 (by omega) (by omega) (by omega)⟩⟩
    ·have hz2:¬ z < 4:=fun w=>hz2 (decide_eq_true w)
     refine ⟨by decide,fun t1 h1=>⟨by decide,fun t2 h2=>⟨by decide,fun t3 h3=>⟨by decide,fun t4 h4=>⟨by decide,fun t5 h5=>⟨z,rfl,_,SqL.of Zad,?_⟩⟩⟩⟩⟩⟩
     have s5:=Same.new (o:=.lst [V.ref t1,V.ref t2,V.ref t3,V.ref t4]) h5
     have s4:=(Same.new (o:=.tup [V.int 2,V.int 1]) h4).trans s5
     have s3:=(Same.new (o:=.tup [V.int (-1),V.int 1]) h3).trans s4
     have s2:=(Same.new (o:=.tup [V.int 1,V.int 1]) h2).trans s3
     have s1:=(Same.new (o:=.tup [V.int 0,V.int 1]) h1).trans s2
     have hex:=e2.trans s1.ext
     have hb5:=b2.same s1
     have:z = 4\/z = 5\/z = 6\/z = 7:=by omega
     rcases this with rfl | rfl | rfl | rfl
     ·exact ⟨_,rfl,q (.ref t1) (0,1) _ hex hb5 (NumV.tup rfl (s2 _ _ Zad)) (.inl ⟨rfl,by show (0:Int) < 1; decide,by decide⟩) ⟨by decide,by decide⟩⟩
     ·exact ⟨_,rfl,q (.ref t2) (1,1) _ hex hb5 (NumV.tup rfl (s3 _ _ Zad)) (.inl ⟨rfl,by show (0:Int) < 1; decide,by decide⟩) ⟨by decide,by decide⟩⟩
     ·exact ⟨_,rfl,q (.ref t3) (-1,1) _ hex hb5 (NumV.tup rfl (s4 _ _ Zad)) (.inl ⟨rfl,by show (0:Int) < 1; decide,by decide⟩) ⟨by decide,by decide⟩⟩
     ·exact ⟨_,rfl,q (.ref t4) (2,1) _ hex hb5 (NumV.tup rfl (s5 _ _ Zad)) (.inl ⟨rfl,by show (0:Int) < 1; decide,by decide⟩) ⟨by decide,by decide⟩⟩
structure Two (H:Hp) (p:Int) (va vb:V) (x y:Int × Int):Prop where
 a:NumV H p va x
 b:NumV H p vb y
 hx:Isn p x
 hy:Isn p y
 bd:∃ B1 B2:Nat,Bd B1 x/\Bd B2 y/\2 * B1 * B2<=10000000000000000000000000000000
theorem Isn.one {p:Int} {x:Int × Int} {B:Nat} (h:Isn p x) (b:Bd B x):1<=B:=by
 have:=h.pos
 have:=b.2
 omega
theorem Zay {a b:Int} {A B:Nat} (ha:a.natAbs<=A) (hb:b.natAbs<=B):(a * b).natAbs<=A * B:=by rw [Int.natAbs_mul]; exact Nat.mul_le_mul ha hb
theorem Two.big {H:Hp} {p:Int} {va vb:V} {x y:Int × Int} (h:Two H p va vb x y):Big x.1/\Big x.2/\Big y.1/\Big y.2/\(x.2 * y.2).natAbs<=100000000000000000000000000000000:=by
 obtain ⟨B1,B2,b1,b2,hB⟩:=h.bd
 have o1:=Isn.one h.hx b1
 have o2:=Isn.one h.hy b2
 have l1:B1<=2 * B1 * B2:=by
  have:B1 * 1<=(2 * B1) * B2:=Nat.mul_le_mul (by omega) o2
  omega
 have l2:B2<=2 * B1 * B2:=by
  have:1 * B2<=(2 * B1) * B2:=Nat.mul_le_mul (by omega) (Nat.le_refl _)
  omega
 have q1:=b1.big (by omega)
 have q2:=b2.big (by omega)
 have q3:=Zay b1.2 b2.2
 have l3:B1 * B2<=2 * B1 * B2:=Nat.mul_le_mul (by omega) (Nat.le_refl _)
 exact ⟨q1.1,q1.2,q2.1,q2.2,by omega⟩
theorem Two.tops {H:Hp} {p:Int} {va vb:V} {x y:Int × Int} (h:Two H p va vb x y):Top (x.1 * y.2 + y.1 * x.2)/\Top (x.1 * y.2 - y.1 * x.2)/\Top (x.1 * y.1):=by
 obtain ⟨B1,B2,b1,b2,hB⟩:=h.bd
 have q1:=Zay b1.1 b2.2
 have q2:=Zay b2.1 b1.2
 have q3:=Zay b1.1 b2.1
 rw [Nat.mul_comm B2 B1] at q2
 have l3:2 * B1 * B2 = 2 * (B1 * B2):=Nat.mul_assoc 2 B1 B2
 exact ⟨Top.of (by omega),Top.of (by omega),Top.of (by omega)⟩
def spOp (op:Int->Int × Int->Int × Int->Int × Int):Sp:=fun vs H Q _=>∃ (p:Int) (va vb:V) (x y:Int × Int),vs = [.int p,va,vb]/\GroundP p/\Two H p va vb x y/\∀ v H',Same H H'->NumV H' p v (op p x y)->Q v H'
theorem ok_add {f:Addr} {fd:FuncData} (F:Fun K "_law_add" "_law_add" Zdq f fd) (T:Txt K mg C) (C_law_lowest:Cal P w K mg base "_law_lowest" 2 Zh1):FnOk P w K mg base CX0 3 f fd ["_law_p","_law_a","_law_b"] (spOp Zcx):=by
 have nd:=Ze2.nd
 refine F.ok Ze2 (fun vs H Q E h=>?_) (fun cdv A outer s H vs Q E hr h=>?_)
 ·obtain ⟨p,va,vb,x,y,rfl,_⟩:=h
  rfl
 ·obtain ⟨p,va,vb,x,y,rfl,hp,h2,q⟩:=h
  have p0:=hp.lo
  obtain ⟨g1,g2,g3,g4,g5⟩:=h2.big
  refine ⟨_,(@Zab _ _ _ _ _ (@Zbf _ _ _ _ _ _ _ _ (Zal Zeu (pv 0) Zac (Zau _)) (@Zaf _ _ _ (@Zaj _ _ _ _ (@Zar _ _ _ _ _ _ _ _ Zci (@Zar _ _ _ _ _ _ _ _ Zc6 (pv 1) (pv 2)) (pv 0)))) Zav) (@Zaf _ _ _ (@Zaj _ _ _ _ (Zbb C_law_lowest hr.m rfl (@Zag _ _ _ _ _ (@Zar _ _ _ _ _ _ _ _ Zc6 (@Zar _ _ _ _ _ _ _ _ Zbh (@Zat _ _ _ _ _ _ _ Zaw (pv 1) Zac (fun _ _=>rfl)) (@Zat _ _ _ _ _ _ _ Zaw (pv 2) Zac (fun _ _=>rfl))) (@Zar _ _ _ _ _ _ _ _ Zbh (@Zat _ _ _ _ _ _ _ Zaw (pv 2) Zac (fun _ _=>rfl)) (@Zat _ _ _ _ _ _ _ Zaw (pv 1) Zac (fun _ _=>rfl)))) (@Zag _ _ _ _ _ (@Zar _ _ _ _ _ _ _ _ Zbh (@Zat _ _ _ _ _ _ _ Zaw (pv 1) Zac (fun _ _=>rfl)) (@Zat _ _ _ _ _ _ _ Zaw (pv 2) Zac (fun _ _=>rfl))) Zaa (by rfl)) (by rfl)))))),?_⟩
  walk_at "wp"
  refine Zdy (fun hc=>?_) (fun hc=>?_)
  ·have hc:=of_decide_eq_true hc
   obtain rfl:=h2.a.int (by omega)
   obtain rfl:=h2.b.int (by omega)
   refine ⟨_,rfl,_,rfl,hc,q _ H (Same.refl _) ?_⟩
   have:=NumV.of (H:=H) (x:=Zcx p x y) (show ¬ p = 0 by omega)
   rw [Zcx,if_neg (by omega)] at this ⊢
   exact this
  ·have hc:¬ 0 < p:=fun z=>hc (decide_eq_true z)
   have hp0:p = 0:=by omega
   obtain ⟨ta,rfl,hta⟩:=h2.a.ref hp0
   obtain ⟨tb,rfl,htb⟩:=h2.b.ref hp0
   walk_at "wp"
   refine ⟨_,SqT.of hta,_,rfl,_,SqT.of htb,_,rfl,_,rfl,_,rfl,g1.mul g4,_,SqT.of htb,_,rfl,_,SqT.of hta,_,rfl,_,rfl,_,rfl,g3.mul g2,_,SqT.of hta,_,rfl,_,SqT.of htb,_,rfl,_,rfl,_,rfl,g2.mul g4,?_⟩
   refine ⟨_,_,rfl,h2.tops.1,Int.mul_pos h2.hx.pos h2.hy.pos,g5,fun t ht=>q _ _ (Same.new ht) ?_⟩
   rw [Zcx,if_pos hp0]
   exact NumV.tup hp0 Zad
theorem ok_mul {f:Addr} {fd:FuncData} (F:Fun K "_law_mul" "_law_mul" Zdp f fd) (T:Txt K mg C) (C_law_lowest:Cal P w K mg base "_law_lowest" 2 Zh1):FnOk P w K mg base CX0 3 f fd ["_law_p","_law_a","_law_b"] (spOp Za8):=by
 have nd:=Ze1.nd
 refine F.ok Ze1 (fun vs H Q E h=>?_) (fun cdv A outer s H vs Q E hr h=>?_)
 ·obtain ⟨p,va,vb,x,y,rfl,_⟩:=h
  rfl
 ·obtain ⟨p,va,vb,x,y,rfl,hp,h2,q⟩:=h
  have p0:=hp.lo
  have p97:=hp.hi
  obtain ⟨g1,g2,g3,g4,g5⟩:=h2.big
  refine ⟨_,(@Zab _ _ _ _ _ (@Zbf _ _ _ _ _ _ _ _ (Zal Zeu (pv 0) Zac (Zau _)) (@Zaf _ _ _ (@Zaj _ _ _ _ (@Zar _ _ _ _ _ _ _ _ Zci (@Zar _ _ _ _ _ _ _ _ Zig (pv 1) (pv 2)) (pv 0)))) Zav) (@Zaf _ _ _ (@Zaj _ _ _ _ (Zbb C_law_lowest hr.m rfl (@Zag _ _ _ _ _ (@Zar _ _ _ _ _ _ _ _ Zbh (@Zat _ _ _ _ _ _ _ Zaw (pv 1) Zac (fun _ _=>rfl)) (@Zat _ _ _ _ _ _ _ Zaw (pv 2) Zac (fun _ _=>rfl))) (@Zag _ _ _ _ _ (@Zar _ _ _ _ _ _ _ _ Zbh (@Zat _ _ _ _ _ _ _ Zaw (pv 1) Zac (fun _ _=>rfl)) (@Zat _ _ _ _ _ _ _ Zaw (pv 2) Zac (fun _ _=>rfl))) Zaa (by rfl)) (by rfl)))))),?_⟩
  walk_at "wp"
  refine Zdy (fun hc=>?_) (fun hc=>?_)
  ·have hc:=of_decide_eq_true hc
   obtain rfl:=h2.a.int (by omega)
   obtain rfl:=h2.b.int (by omega)
   have hx:0<=x.1/\x.1 < p:=by rcases h2.hx with ⟨h,_⟩ | ⟨_,h,h',_⟩ <;> omega
   refine ⟨_,rfl,_,rfl,.inl ⟨by omega,by omega⟩,hc,q _ H (Same.refl _) ?_⟩
   have:=NumV.of (H:=H) (x:=Za8 p x y) (show ¬ p = 0 by omega)
   rw [Za8,if_neg (by omega)] at this ⊢
   exact this
  ·have hc:¬ 0 < p:=fun z=>hc (decide_eq_true z)
   have hp0:p = 0:=by omega
   obtain ⟨ta,rfl,hta⟩:=h2.a.ref hp0
   obtain ⟨tb,rfl,htb⟩:=h2.b.ref hp0
   walk_at "wp"
   refine ⟨_,SqT.of hta,_,rfl,_,SqT.of htb,_,rfl,_,rfl,_,rfl,g1.mul g3,_,SqT.of hta,_,rfl,_,SqT.of htb,_,rfl,_,rfl,_,rfl,g2.mul g4,?_⟩
   refine ⟨_,_,rfl,h2.tops.2.2,Int.mul_pos h2.hx.pos h2.hy.pos,g5,fun t ht=>q _ _ (Same.new ht) ?_⟩
   rw [Za8,if_pos hp0]
   exact NumV.tup hp0 Zad
def GAt (C:Addr) (H:Hp) (g:Addr) (p:Int):Prop:=∃ dx,H g = some (.ins C dx (flds p))
theorem GAt.same {H H':Hp} {g:Addr} {p:Int} (h:GAt C H g p) (s:Same H H'):GAt C H' g p:=let ⟨dx,e⟩:=h; ⟨dx,s _ _ e⟩
def Zmu:Sp:=fun vs H Q _=>∃ p k:Int,vs = [.int p,.int k]/\GroundP p/\∀ v H',Same H H'->NumV H' p v (Zfn p k)->Q v H'
theorem ok_int {f:Addr} {fd:FuncData} (F:Fun K "_law_int" "_law_int" Zd7 f fd) (T:Txt K mg C):FnOk P w K mg base CX0 1 f fd ["_law_p","_law_k"] Zmu:=by
 have nd:=Zh7.nd
 refine F.ok Zh7 (fun vs H Q E h=>?_) (fun cdv A outer s H vs Q E hr h=>?_)
 ·obtain ⟨p,k,rfl,_⟩:=h
  rfl
 ·obtain ⟨p,k,rfl,hp,q⟩:=h
  have p0:=hp.lo
  refine ⟨_,(@Zab _ _ _ _ _ (@Zbf _ _ _ _ _ _ _ _ (Zal Zeu (pv 0) Zac (Zau _)) (@Zaf _ _ _ (@Zaj _ _ _ _ (@Zar _ _ _ _ _ _ _ _ Zci (pv 1) (pv 0)))) Zav) (@Zaf _ _ _ (@Zaj _ _ _ _ (@Zbd _ _ _ _ _ (@Zag _ _ _ _ _ (pv 1) (@Zag _ _ _ _ _ Zac Zaa (by rfl)) (by rfl)))))),?_⟩
  walk_at "wp"
  refine Zdy (fun hc=>?_) (fun hc=>?_)
  ·have hc:=of_decide_eq_true hc
   refine ⟨hc,q _ H (Same.refl _) ?_⟩
   have:=NumV.of (H:=H) (x:=Zfn p k) (show ¬ p = 0 by omega)
   rw [Zfn,if_neg (by omega)] at this ⊢
   exact this
  ·have hc:¬ 0 < p:=fun z=>hc (decide_eq_true z)
   have hp0:p = 0:=by omega
   refine ⟨by decide,fun t ht=>q _ _ (Same.new ht) ?_⟩
   rw [Zfn,if_pos hp0]
   exact NumV.tup hp0 Zad
theorem Zsg {H:Hp} {p:Int} {v u:V} {x:Int × Int} {Q:VK} (h:NumV H p v x) (h':NumV H p u x) (q:Q (.bl true) H):rEqN K v u H Q:=by
 by_cases hp:p = 0
 ·obtain ⟨t,rfl,ht⟩:=h.ref hp
  obtain ⟨t',rfl,ht'⟩:=h'.ref hp
  exact .inr (pair_eq false ht ht' q)
 ·obtain rfl:=h.int hp
  obtain rfl:=h'.int hp
  exact .inl ⟨rfl,by rw [decide_eq_true rfl]; exact q⟩
def Znj:Sp:=fun vs H Q _=>∃ (p:Int) (v u:V) (x:Int × Int),vs = [.int p,v,u]/\GroundP p/\NumV H p v x/\NumV H p u x/\Q (.bl true) H
theorem ok_same {f:Addr} {fd:FuncData} (F:Fun K "_law_same" "_law_same" Zde f fd) (T:Txt K mg C) (C_law_whole:Cal P w K mg base "_law_whole" 1 Zff):FnOk P w K mg base CX0 2 f fd ["_law_p","_law_found","_law_due"] Znj:=by
 have nd:=Zg1.nd
 refine F.ok Zg1 (fun vs H Q E h=>?_) (fun cdv A outer s H vs Q E hr h=>?_)
 ·obtain ⟨p,v,u,x,rfl,_⟩:=h
  rfl
 ·obtain ⟨p,v,u,x,rfl,hp,h1,h2,q⟩:=h
  have hu8:=Zmx hr
  have p0:=hp.lo
  refine ⟨_,(@Zab _ _ _ _ _ (@Zbf _ _ _ _ _ _ _ _ (Zal Zeu (pv 0) Zac (Zau _)) (@Zaf _ _ _ (@Zaj _ _ _ _ (Zie (Zbb C_law_whole hr.m rfl (@Zag _ _ _ _ _ (pv 1) Zaa (by rfl))) (Zid (Zet (Zsf hu8) (pv 1) (pv 2) (Zau _)))))) Zav) (@Zab _ _ _ _ _ (@Zbf _ _ _ _ _ _ _ _ (PW.pt (Zf2 (Zdr (Zdw (Zcj Zb4 rfl T.n_isinstance boot_isinstance (@Zag _ _ _ _ _ (pv 1) (@Zag _ _ _ _ _ (Zjz rfl T.n_tuple boot_tuple) Zaa (by rfl)) (by rfl))))) (Zfc (Zal Zfj (Zcj Zbi rfl T.n_len PySem.boot_len (@Zag _ _ _ _ _ (pv 1) Zaa (by rfl))) Zac (Zau _))))) (@Zaf _ _ _ (@Zaj _ _ _ _ Ze5)) Zav) (@Zaf _ _ _ (@Zaj _ _ _ _ (Zie (Zbb C_law_whole hr.m rfl (@Zag _ _ _ _ _ (@Zat _ _ _ _ _ _ _ Zaw (pv 1) Zac (fun _ _=>rfl)) Zaa (by rfl))) (Zie (Zbb C_law_whole hr.m rfl (@Zag _ _ _ _ _ (@Zat _ _ _ _ _ _ _ Zaw (pv 1) Zac (fun _ _=>rfl)) Zaa (by rfl))) (Zid (Zet (Zsf hu8) (pv 1) (pv 2) (Zau _))))))))),?_⟩
  walk_at "wp"
  refine Zdy (fun hc=>?_) (fun hc=>?_)
  ·have hc:=of_decide_eq_true hc
   obtain rfl:=h1.int (by omega)
   exact ⟨x.1,rfl,true,rfl,iteT (Zsg h1 h2 q)⟩
  ·have hc:¬ 0 < p:=fun z=>hc (decide_eq_true z)
   have hp0:p = 0:=by omega
   obtain ⟨t,rfl,ht⟩:=h1.ref hp0
   walk_at "wp"
   exact ⟨_,_,⟨rfl,rfl⟩,_,rfl,_,.tup ht,_,Zj8 K,Zlj ⟨_,.inr (SqT.of ht),Zlj ⟨_,SqT.of ht,_,rfl,_,rfl,true,rfl,iteT ⟨_,SqT.of ht,_,rfl,_,rfl,true,rfl,iteT (Zsg h1 h2 q)⟩⟩⟩⟩
theorem bd97 {p:Int} {x:Int × Int} {B:Nat} (hp:0 < p) (p97:p<=97) (h:Isn p x) (hB:97<=B):Bd B x:=by
 rcases h with ⟨h,_⟩ | ⟨_,h1,h2,h3⟩
 ·omega
 ·exact ⟨by omega,by rw [h3]; show 1<=B; omega⟩
theorem bd_plus {p:Int} {x y:Int × Int} {B1 B2:Nat} (hp:GroundP p) (hx:Isn p x) (hy:Isn p y) (h1:Bd B1 x) (h2:Bd B2 y) (hB:97<=2 * B1 * B2):Bd (2 * B1 * B2) (Zcx p x y):=by
 by_cases h0:p = 0
 ·unfold Zcx
  rw [if_pos h0]
  have a1:=Zay h1.1 h2.2
  have a2:=Zay h2.1 h1.2
  have a3:=Zay h1.2 h2.2
  have c:B2 * B1 = B1 * B2:=Nat.mul_comm ..
  have d:2 * B1 * B2 = B1 * B2 + B1 * B2:=by rw [Nat.mul_assoc,Nat.two_mul]
  exact Zom (Int.mul_pos hx.pos hy.pos) (by omega) (by omega)
 ·have:=hp.lo
  exact bd97 (by omega) hp.hi (Ze4 hp.lo hx hy) hB
theorem Zrz {p:Int} {x y:Int × Int} {B1 B2:Nat} (hp:GroundP p) (hx:Isn p x) (hy:Isn p y) (h1:Bd B1 x) (h2:Bd B2 y) (hB:97<=B1 * B2):Bd (B1 * B2) (Za8 p x y):=by
 by_cases h0:p = 0
 ·unfold Za8
  rw [if_pos h0]
  exact Zom (Int.mul_pos hx.pos hy.pos) (Zay h1.1 h2.1) (Zay h1.2 h2.2)
 ·have:=hp.lo
  exact bd97 (by omega) hp.hi (Zbq hp.lo hx hy) hB
def NumO (H:Hp) (p:Int) (B:Nat) (v:V):Prop:=∃ x,NumV H p v x/\Isn p x/\Bd B x
theorem NumO.same {H H':Hp} {p:Int} {B:Nat} {v:V} (h:NumO H p B v) (s:Same H H'):NumO H' p B v:=let ⟨x,a,b,c⟩:=h; ⟨x,a.same s,b,c⟩
theorem NumO.weak {H:Hp} {p:Int} {B B':Nat} {v:V} (h:NumO H p B v) (hB:B<=B'):NumO H p B' v:=let ⟨x,a,b,c⟩:=h; ⟨x,a,b,Nat.le_trans c.1 hB,Nat.le_trans c.2 hB⟩
theorem NumO.put {H:Hp} {D:Addr} {l:List V} {o:HO} {p:Int} {B:Nat} {v:V} (h:NumO H p B v) (hD:H D = some (.lst l)):NumO (upd H D o) p B v:=by
 obtain ⟨x,a,b,c⟩:=h
 refine ⟨x,?_,b,c⟩
 by_cases hp:p = 0
 ·obtain ⟨t,rfl,ht⟩:=a.ref hp
  exact NumV.tup hp (by rw [Zap (Zrb ht hD (by intro z; cases z))]; exact ht)
 ·obtain rfl:=a.int hp
  exact NumV.of hp
theorem NumV.ext {l:Addr} {H H':Hp} {p:Int} {v:V} {x:Int × Int} (h:NumV H p v x) (b:Bag H l) (e:Ext l H H'):NumV H' p v x:=by
 by_cases hp:p = 0
 ·obtain ⟨t,rfl,ht⟩:=h.ref hp
  obtain ⟨a,c,hb,_⟩:=b
  exact NumV.tup hp (e _ _ (Zrb ht hb (by intro z; cases z)) ht)
 ·obtain rfl:=h.int hp
  exact NumV.of hp
theorem NumO.ext {l:Addr} {H H':Hp} {p:Int} {B:Nat} {v:V} (h:NumO H p B v) (b:Bag H l) (e:Ext l H H'):NumO H' p B v:=let ⟨x,a,c,d⟩:=h; ⟨x,a.ext b e,c,d⟩
def RowO (H:Hp) (p:Int) (B:Nat) (wd:Int) (a:Addr):Prop:=∃ xs,H a = some (.lst xs)/\(xs.length:Int) = wd/\∀ x ∈ xs,NumO H p B x
theorem RowO.same {H H':Hp} {p wd:Int} {B:Nat} {a:Addr} (h:RowO H p B wd a) (s:Same H H'):RowO H' p B wd a:=let ⟨xs,h1,h2,h3⟩:=h; ⟨xs,s _ _ h1,h2,fun x hx=>(h3 x hx).same s⟩
theorem RowO.weak {H:Hp} {p wd:Int} {B B':Nat} {a:Addr} (h:RowO H p B wd a) (hB:B<=B'):RowO H p B' wd a:=let ⟨xs,h1,h2,h3⟩:=h; ⟨xs,h1,h2,fun x hx=>(h3 x hx).weak hB⟩
theorem RowO.ext {l:Addr} {H H':Hp} {p wd:Int} {B:Nat} {a:Addr} (h:RowO H p B wd a) (b:Bag H l) (e:Ext l H H') (n:a ≠ l):RowO H' p B wd a:=let ⟨xs,h1,h2,h3⟩:=h; ⟨xs,e _ _ n h1,h2,fun x hx=>(h3 x hx).ext b e⟩
theorem RowO.put {H:Hp} {D:Addr} {l:List V} {o:HO} {p wd:Int} {B:Nat} {a:Addr} (h:RowO H p B wd a) (hD:H D = some (.lst l)) (n:a ≠ D):RowO (upd H D o) p B wd a:=let ⟨xs,h1,h2,h3⟩:=h; ⟨xs,by rw [Zap n]; exact h1,h2,fun x hx=>(h3 x hx).put hD⟩
theorem Zdx (rs:List Addr) (a:Addr):rs.map V.ref ++ [.ref a] = (rs ++ [a]).map V.ref:=by rw [List.map_append]; rfl
theorem bd_int0 {p:Int} (hp:GroundP p):Bd 10000 (Zfn p 0):=by
 by_cases h0:p = 0
 ·unfold Zfn
  rw [if_pos h0]
  exact ⟨by decide,by decide⟩
 ·unfold Zfn
  rw [if_neg h0,Int.zero_emod]
  exact ⟨by decide,by decide⟩
def Znk:Sp:=fun vs H Q _=>∃ (l:Addr) (p hh wd:Int),vs = [.ref l,.int p,.int hh,.int wd]/\Bag H l/\GroundP p/\0<=hh/\hh<=24/\0<=wd/\wd<=24 /\
 ∀ (r:Addr) (rs:List Addr) (H':Hp),Ext l H H'->Bag H' l->H r = none->(∀ a ∈ rs,H a = none)->r ∉ rs->H' r = some (.lst (rs.map V.ref))->(rs.length:Int) = hh->(∀ a ∈ rs,RowO H' p 10000 wd a)->Q (.ref r) H'
theorem ok_rows {f:Addr} {fd:FuncData} (F:Fun K "_law_rows" "_law_rows" Zdf f fd) (T:Txt K mg C) (C_law_draw:Cal P w K mg base "_law_draw" 1 Zf6) (C_law_number:Cal P w K mg base "_law_number" 3 Zqi) (C_law_int:Cal P w K mg base "_law_int" 1 Zmu):FnOk P w K mg base CX0 4 f fd ["_law_bag_here","_law_p","_law_high","_law_wide"] Znk:=by
 have nd:=Zg2.nd
 refine F.ok Zg2 (fun vs H Q E h=>?_) (fun cdv A outer s H vs Q E hr h=>?_)
 ·obtain ⟨l,p,hh,wd,rfl,_⟩:=h
  rfl
 ·obtain ⟨l,p,hh,wd,rfl,hb,hp,h0,h24,w0,w24,q⟩:=h
  refine ⟨_,(@Zab _ _ _ _ _ (Zax (i:=4) nd rfl (Or.inl rfl) (@Zar _ _ _ _ _ _ _ _ Zc6 Zac (Zbb C_law_draw hr.m rfl (@Zag _ _ _ _ _ (pv 0) (@Zag _ _ _ _ _ Zac Zaa (by rfl)) (by rfl))))) (@Zab _ _ _ _ _ (Zax (i:=5) nd rfl (Or.inl rfl) (@Zc4 _ _ _ _ Zaa)) (@Zab _ _ _ _ _ (Zc3 PassesOwn.never rfl (Zgj rfl T.n_range (@Zag _ _ _ _ _ (pv 2) Zaa (by rfl))) (@Zah _ _ 6 _ nd rfl (Or.inl rfl) (Or.inl rfl)) (@Zab _ _ _ _ _ (Zax (i:=7) nd rfl (Or.inl rfl) (@Zc4 _ _ _ _ Zaa)) (@Zab _ _ _ _ _ (Zc3 PassesOwn.never rfl (Zgj rfl T.n_range (@Zag _ _ _ _ _ (pv 3) Zaa (by rfl))) (@Zah _ _ 8 _ nd rfl (Or.inl rfl) (Or.inl rfl)) (@Zab _ _ _ _ _ (Zax (i:=9) nd rfl (Or.inl rfl) (Zbb C_law_number hr.m rfl (@Zag _ _ _ _ _ (pv 0) (@Zag _ _ _ _ _ (pv 1) Zaa (by rfl)) (by rfl)))) (@Zaf _ _ _ (@Zbf _ _ _ _ _ _ _ _ (Zal Ziz (Zbb C_law_draw hr.m rfl (@Zag _ _ _ _ _ (pv 0) (@Zag _ _ _ _ _ Zac Zaa (by rfl)) (by rfl))) (pv 4) (Zau _)) (@Zaf _ _ _ (Zeg (Zhv PySem.F.plainAttrs_list PySem.F.slot_list_append PySem.F.type_list_append Zcm (pv 7) (@Zag _ _ _ _ _ (pv 9) Zaa (by rfl))))) (@Zaf _ _ _ (Zeg (Zhv PySem.F.plainAttrs_list PySem.F.slot_list_append PySem.F.type_list_append Zcm (pv 7) (@Zag _ _ _ _ _ (Zbb C_law_int hr.m rfl (@Zag _ _ _ _ _ (pv 1) (@Zag _ _ _ _ _ Zac Zaa (by rfl)) (by rfl))) Zaa (by rfl))))))))) (@Zaf _ _ _ (Zeg (Zhv PySem.F.plainAttrs_list PySem.F.slot_list_append PySem.F.type_list_append Zcm (pv 5) (@Zag _ _ _ _ _ (pv 7) Zaa (by rfl)))))))) (@Zaf _ _ _ (@Zaj _ _ _ _ (pv 5)))))),?_⟩
  walk_at "wp"
  refine hb.draw (by decide) (by decide) fun z H2 z0 z1 e2 b2=>⟨z,rfl,by decide,fun r hr0=>?_⟩
  have nr:r ≠ l:=b2.ne hr0
  have fr:H r = none:=e2.free nr hr0
  refine ⟨_,rfl,hh,rfl,by omega,by omega,Zc9 (fun i σ H3=>∃ (v6 v7 v8 v9:Option V) (rs:List Addr),σ = [some (.ref l),some (.int p),some (.int hh),some (.int wd),some (.int (1 + z)),some (.ref r),v6,v7,v8,v9]/\Ext l H H3/\Bag H3 l/\(∀ a ∈ rs,H a = none)/\r ∉ rs/\H3 r = some (.lst (rs.map V.ref))/\rs.length = i/\∀ a ∈ rs,RowO H3 p 10000 wd a)
   ⟨none,none,none,none,[],rfl,e2.trans (Ext.new hr0),b2.new nr,by simp,by simp,Zad,rfl,by simp⟩ ?_ ?_⟩
  ·rintro i σ H3 hi ⟨v6,v7,v8,v9,rs,rfl,e3,b3,hf,nm,hr3,hln,hro⟩
   walk_at "wp"
   refine ⟨by decide,fun a ha=>?_⟩
   have na:a ≠ l:=b3.ne ha
   have fa:H a = none:=e3.free na ha
   have nar:r ≠ a:=Zan hr3 ha
   have nas:a ∉ rs:=fun z=>by obtain ⟨xs,h1,_⟩:=hro a z; rw [ha] at h1; cases h1
   refine ⟨_,rfl,wd,rfl,by omega,by omega,Zc9 (fun j σ H4=>∃ (v8 v9:Option V) (xs:List V),σ = [some (.ref l),some (.int p),some (.int hh),some (.int wd),some (.int (1 + z)),some (.ref r),some (.int (0 + (i:Int))),some (.ref a),v8,v9]/\Ext l H H4/\Bag H4 l/\H4 r = some (.lst (rs.map V.ref))/\(∀ a ∈ rs,RowO H4 p 10000 wd a)/\H4 a = some (.lst xs)/\xs.length = j/\∀ x ∈ xs,NumO H4 p 10000 x)
    ⟨v8,v9,[],rfl,e3.trans (Ext.new ha),b3.new na,by rw [Zap nar]; exact hr3,fun b hb=>(hro b hb).same (Same.new ha),Zad,rfl,by simp⟩ ?_ ?_⟩
   ·rintro j σ H4 hj ⟨u8,u9,xs,rfl,e4,b4,hr4,hro4,ha4,hlx,hnx⟩
    walk_at "wp"
    have step:∀ (v:V) (H5:Hp),Ext l H4 H5->Bag H5 l->NumO H5 p 10000 v->(Ext l H (upd H5 a (.lst (xs ++ [v])))/\Bag (upd H5 a (.lst (xs ++ [v]))) l/\upd H5 a (.lst (xs ++ [v])) r = some (.lst (rs.map V.ref))/\(∀ b ∈ rs,RowO (upd H5 a (.lst (xs ++ [v]))) p 10000 wd b) /\
      ∃ ys,upd H5 a (.lst (xs ++ [v])) a = some (.lst ys)/\ys.length = j + 1/\∀ x ∈ ys,NumO (upd H5 a (.lst (xs ++ [v]))) p 10000 x):=by
     intro v H5 e5 b5 nv
     have ha5:=e5 _ _ na ha4
     refine ⟨(e4.trans e5).upd fa,b5.new na,by rw [Zap nar]; exact e5 _ _ nr hr4,fun b hbm=>?_,_,Zad,by rw [List.length_append,hlx]; rfl,fun x hx=>?_⟩
     ·have nb:b ≠ l:=hb.ne (hf b hbm)
      exact ((hro4 b hbm).ext b4 e5 nb).put ha5 (fun z=>nas (z ▸ hbm))
     ·rcases List.mem_append.mp hx with hx | hx
      ·exact ((hnx x hx).ext b4 e5).put ha5
      ·rw [List.mem_singleton.mp hx]; exact nv.put ha5
    have hsz:xs.length < sizeLine:=Za2 (by omega)
    refine ⟨l,p,rfl,b4,hp,fun v x H5 e5 b5 nv iv bv=>?_⟩
    refine b5.draw (by decide) (by decide) fun y H6 y0 y1 e6 b6=>⟨y,rfl,Zdy (fun _=>?_) (fun _=>?_)⟩
    ·have ha6:=(e5.trans e6) _ _ na ha4
     exact ⟨.inl ⟨rfl,_,SqL.of ha6⟩,xs,ha6,hsz,_,_,⟨rfl,rfl⟩,step v H6 (e5.trans e6) b6 ⟨x,nv.ext b5 e6,iv,bv⟩⟩
    ·have ha6:=(e5.trans e6) _ _ na ha4
     refine ⟨.inl ⟨rfl,_,SqL.of ha6⟩,p,0,rfl,hp,fun v0 H7 s7 n0=>?_⟩
     have ha7:=s7 _ _ ha6
     exact ⟨xs,ha7,hsz,_,_,⟨rfl,rfl⟩,step v0 H7 ((e5.trans e6).trans s7.ext) (b6.same s7) ⟨_,n0,Zda hp.lo,bd_int0 hp⟩⟩
   ·rintro σ H4 ⟨u8,u9,xs,rfl,e4,b4,hr4,hro4,ha4,hlx,hnx⟩
    walk_at "wp"
    refine ⟨.inl ⟨rfl,_,SqL.of hr4⟩,_,hr4,Za2 (by rw [List.length_map]; omega),_,_,_,_,⟨rfl,rfl,rfl,rfl⟩,e4.upd fr,b4.new nr,rs ++ [a],?_,?_,?_,by rw [List.length_append,hln]; rfl,?_⟩
    ·intro b hbm
     rcases List.mem_append.mp hbm with h | h
     ·exact hf b h
     ·rw [List.mem_singleton.mp h]; exact fa
    ·intro z
     rcases List.mem_append.mp z with h | h
     ·exact nm h
     ·exact nar (List.mem_singleton.mp h)
    ·rw [Zad,Zdx]
    ·intro b hbm
     rcases List.mem_append.mp hbm with h | h
     ·exact (hro4 b h).put hr4 (fun z=>nm (z ▸ h))
     ·rw [List.mem_singleton.mp h]
      exact RowO.put ⟨xs,ha4,by omega,hnx⟩ hr4 nar.symm
  ·rintro σ H3 ⟨v6,v7,v8,v9,rs,rfl,e3,b3,hf,nm,hr3,hln,hro⟩
   exact ⟨_,rfl,q r rs H3 e3 b3 fr hf nm hr3 (by omega) hro⟩
theorem Zru {a D:Addr} {xs:List V} {fr:List (Str × Nat)} {σ:L2.St} {te:TE} {H1:Hp} {Q:VK} (R:Hp->V->Prop) (hS:∀ {H H' y},R H y->Same H H'->R H' y) (hP:∀ {H y l o},R H y->H D = some (.lst l)->R (upd H D o) y)
  (ha:H1 a = some (.lst xs)) (hD:H1 D = none) (hn:xs.length<=1000)
  (h:∀ (i:Nat) x H (Q:VK),xs[i]? = some x->Same H1 H->(∀ y H',Same H H'->R H' y->Q y H')->te (some x :: Zcb fr σ) H Q)
  (hQ:∀ ys H',Same H1 H'->H' D = some (.lst ys)->ys.length = xs.length->(∀ y ∈ ys,R H' y)->Q (.ref D) H'):Zcl (Zc8 0) Zht te (Itl K a) D (Zgt 1 fr σ) H1 Q:=by
 refine Zi9 (xs:=xs) (fun i vs H=>Same H1 H/\H D = some (.lst vs)/\vs.length = i/\∀ y ∈ vs,R H y) ⟨Same.new hD,Zad,rfl,by simp⟩ (fun i vs H _ p=>SqL.of (p.1 _ _ ha)) ?_ (fun vs H ⟨s,e,hl,hr⟩=>hQ vs H s e hl hr)
 rintro i x vs σ' H hi hx sh ⟨s,e,hl,hr⟩
 obtain ⟨z,rfl⟩:=sh.one
 simp only [Zfo,Zc8,Zht,List.set_cons_zero,if_true]
 refine h i x H _ hx s fun y H' s' ry=>?_
 refine Zox (ws:=vs ++ [y]) hi Sh.mk1 (s' _ _ e) (Za2 (by omega)) ⟨(s.trans s').upd hD,Zad,by rw [List.length_append,hl]; rfl,fun u hu=>?_⟩
 rcases List.mem_append.mp hu with hu | hu
 ·exact hP (hS (hr u hu) s') (s' _ _ e)
 ·rw [List.mem_singleton.mp hu]; exact hP ry (s' _ _ e)
theorem Zm5 {a b D:Addr} {xs ys:List V} {fr:List (Str × Nat)} {σ:L2.St} {te:TE} {H1:Hp} {Q:VK} (R:Hp->V->Prop) (hS:∀ {H H' y},R H y->Same H H'->R H' y) (hP:∀ {H y l o},R H y->H D = some (.lst l)->R (upd H D o) y)
  (ha:H1 a = some (.lst xs)) (hb:H1 b = some (.lst ys)) (hlen:ys.length = xs.length) (hD:H1 D = none) (hn:xs.length<=1000)
  (h:∀ (i:Nat) x y H (Q:VK),xs[i]? = some x->ys[i]? = some y->Same H1 H->(∀ u H',Same H H'->R H' u->Q u H')->te (some x :: some y :: Zcb fr σ) H Q)
  (hQ:∀ zs H',Same H1 H'->H' D = some (.lst zs)->zs.length = xs.length->(∀ y ∈ zs,R H' y)->Q (.ref D) H'):Zcl (gTup K 2 (Zkc (Zc8 0) (Zkc (Zc8 1) gNil))) Zht te (Itz K a b) D (Zgt 2 fr σ) H1 Q:=by
 refine Zmk (xs:=xs) (ys:=ys) (fun i vs H=>Same H1 H/\H D = some (.lst vs)/\vs.length = i/\∀ y ∈ vs,R H y) hlen ⟨Same.new hD,Zad,rfl,by simp⟩ (fun i vs H _ p=>⟨SqL.of (p.1 _ _ ha),SqL.of (p.1 _ _ hb)⟩) ?_ (fun vs H ⟨s,e,hl,hr⟩=>hQ vs H s e hl hr)
 rintro i x y p vs σ' H hi hx hy hp sh ⟨s,e,hl,hr⟩
 obtain ⟨z1,z2,rfl⟩:=sh.two
 have s0:=Same.new (o:=.tup [x,y]) hp
 refine ⟨p,_,rfl,SqT.of Zad,rfl,_,_,rfl,_,_,rfl,rfl,?_⟩
 simp only [Zht,List.set_cons_zero,List.set_cons_succ,if_true]
 refine h i x y _ _ hx hy (s.trans s0) fun u H' s' ru=>?_
 have s1:=s0.trans s'
 refine Zox (ws:=vs ++ [u]) hi Sh.mk2 (s1 _ _ e) (Za2 (by omega)) ⟨(s.trans s1).upd hD,Zad,by rw [List.length_append,hl]; rfl,fun v hv=>?_⟩
 rcases List.mem_append.mp hv with hv | hv
 ·exact hP (hS (hr v hv) s1) (s1 _ _ e)
 ·rw [List.mem_singleton.mp hv]; exact hP ru (s1 _ _ e)
abbrev BB:Nat:=20000000000000000
theorem Zgr {n:Nat} (h:0 < n):ixN n (-1) = some (n - 1):=by
 unfold ixN
 rw [if_neg (by omega),if_pos (by omega)]
 congr 1
 omega
theorem Ze0 (rs:List Addr) (j:Nat) (a:Addr):(rs.map V.ref).set j (.ref a) = (rs.set j a).map V.ref:=(List.map_set).symm
theorem Zi4 {rs:List Addr} {j:Nat} (h:j < rs.length):(rs.map V.ref)[j]? = some (.ref rs[j]):=by rw [List.getElem?_map,List.getElem?_eq_getElem h]; rfl
theorem Zp0 {rs:List Addr} (h:0 < rs.length):atI (rs.map V.ref) (-1) = some (.ref (rs[rs.length - 1]'(by omega))):=by
 unfold atI
 rw [List.length_map,Zgr h]
 exact Zi4 (by omega)
structure Tab (H:Hp) (p:Int) (hh wd:Int) (t r:Addr) (rs:List Addr):Prop where
 tup:H t = some (.tup [.int hh,.int wd,.ref r])
 lst:H r = some (.lst (rs.map V.ref))
 len:(rs.length:Int) = hh
 row:∀ a ∈ rs,RowO H p BB wd a
 nin:r ∉ rs
def spTb:Sp:=fun vs H Q _=>∃ (l:Addr) (p hh wd:Int),vs = [.ref l,.int p,.int hh,.int wd]/\Bag H l/\GroundP p/\0<=hh/\hh<=24/\0<=wd/\wd<=24 /\
 ∀ (t r:Addr) (rs:List Addr) (H':Hp),Ext l H H'->Bag H' l->H t = none->H r = none->(∀ a ∈ rs,H a = none)->Tab H' p hh wd t r rs->Q (.ref t) H'
theorem ok_tb {f:Addr} {fd:FuncData} (F:Fun K "_law_table" "_law_table" Zct f fd) (T:Txt K mg C) (C_law_rows:Cal P w K mg base "_law_rows" 4 Znk) (C_law_draw:Cal P w K mg base "_law_draw" 1 Zf6) (C_law_number:Cal P w K mg base "_law_number" 3 Zqi) (C_law_mul:Cal P w K mg base "_law_mul" 3 (spOp Za8)) (C_law_add:Cal P w K mg base "_law_add" 3 (spOp Zcx)):FnOk P w K mg base CX0 5 f fd ["_law_bag_here","_law_p","_law_high","_law_wide"] spTb:=by
 have nd:=Zgb.nd
 refine F.ok Zgb (fun vs H Q E h=>?_) (fun cdv A outer s H vs Q E hr h=>?_)
 ·obtain ⟨l,p,hh,wd,rfl,_⟩:=h
  rfl
 ·obtain ⟨l,p,hh,wd,rfl,hb,hp,h0,h24,w0,w24,q⟩:=h
  refine ⟨_,(@Zab _ _ _ _ _ (Zax (i:=4) nd rfl (Or.inl rfl) (Zbb C_law_rows hr.m rfl (@Zag _ _ _ _ _ (pv 0) (@Zag _ _ _ _ _ (pv 1) (@Zag _ _ _ _ _ (pv 2) (@Zag _ _ _ _ _ (pv 3) Zaa (by rfl)) (by rfl)) (by rfl)) (by rfl)))) (@Zab _ _ _ _ _ (@Zbf _ _ _ _ _ _ _ _ (PW.pt (Zju (Zal Zeu (pv 2) Zac (Zau _)) (Ziv (Zal Zeh (Zbb C_law_draw hr.m rfl (@Zag _ _ _ _ _ (pv 0) (@Zag _ _ _ _ _ Zac Zaa (by rfl)) (by rfl))) Zac (Zau _))))) (@Zab _ _ _ _ _ (Zax (i:=5) nd rfl (Or.inr rfl) (Zbb C_law_number hr.m rfl (@Zag _ _ _ _ _ (pv 0) (@Zag _ _ _ _ _ (pv 1) Zaa (by rfl)) (by rfl)))) (@Zab _ _ _ _ _ (Zb2 (Zbg (own:=["_law_number_here"]) (fr:=[("_law_p",1),("_law_a",5)]) rfl (Zck (by kernel_rfl)) (Zbt (@Zat _ _ _ _ _ _ _ Za0 (pv 4) Zac (fun _ _=>rfl))) (fun _ _ _ _=>⟨(@Zah _ _ 0 _ (show (["_law_number_here","_law_p","_law_a"]:List Str).Nodup by decide +kernel) rfl (Or.inl rfl) (Or.inr rfl)),Za9,(Zbb C_law_mul hr.m rfl (@Zag _ _ _ _ _ (pv 1) (@Zag _ _ _ _ _ (pv 2) (@Zag _ _ _ _ _ (pv 0) Zaa (by rfl)) (by rfl)) (by rfl)))⟩)) (Zfd (pv 4) (Zgk Zek Zac) Zcz)) (@Zaf _ _ _ (@Zbf _ _ _ _ _ _ _ _ (PW.pt (Zju (Zal Zeu (pv 2) Zac (Zau _)) (Ziv (Zal Zeh (Zbb C_law_draw hr.m rfl (@Zag _ _ _ _ _ (pv 0) (@Zag _ _ _ _ _ Zac Zaa (by rfl)) (by rfl))) Zac (Zau _))))) (@Zaf _ _ _ (Zb2 (Zbg (own:=["_law_b","_law_c"]) (fr:=[("_law_p",1)]) rfl (Zck (by kernel_rfl)) (Zhe rfl T.n_zip (@Zag _ _ _ _ _ (@Zat _ _ _ _ _ _ _ Za0 (pv 4) (Zgk Zek Zac) (fun _ _=>rfl)) (@Zag _ _ _ _ _ (@Zat _ _ _ _ _ _ _ Za0 (pv 4) Zac (fun _ _=>rfl)) Zaa (by rfl)) (by rfl))) (fun _ _ _ _=>⟨(@Zfi _ K rfl _ _ _ _ 2 rfl (@Zai _ _ _ _ _ (@Zah _ _ 0 _ (show (["_law_b","_law_c","_law_p"]:List Str).Nodup by decide +kernel) rfl (Or.inl rfl) (Or.inr rfl)) (@Zai _ _ _ _ _ (@Zah _ _ 1 _ (show (["_law_b","_law_c","_law_p"]:List Str).Nodup by decide +kernel) rfl (Or.inl rfl) (Or.inr rfl)) (@Zba _) (by rfl)) (by rfl)) (by rfl) (by rfl)),Za9,(Zbb C_law_add hr.m rfl (@Zag _ _ _ _ _ (pv 2) (@Zag _ _ _ _ _ (pv 0) (@Zag _ _ _ _ _ (pv 1) Zaa (by rfl)) (by rfl)) (by rfl)))⟩)) (Zfd (pv 4) (Zgk Zek Zac) Zcz))) Zav)))) Zav) (@Zaf _ _ _ (@Zaj _ _ _ _ (@Zbd _ _ _ _ _ (@Zag _ _ _ _ _ (pv 2) (@Zag _ _ _ _ _ (pv 3) (@Zag _ _ _ _ _ (pv 4) Zaa (by rfl)) (by rfl)) (by rfl))))))),?_⟩
  walk_at "wp"
  refine ⟨l,p,hh,wd,rfl,hb,hp,h0,h24,w0,w24,fun r rs H1 e1 b1 fr hf nin hr1 hln hro=>?_⟩
  have nr:r ≠ l:=hb.ne fr
  have fin:∀ (H2:Hp) (rs2:List Addr),Ext l H H2->Bag H2 l->H2 r = some (.lst (rs2.map V.ref))->(rs2.length:Int) = hh->(∀ a ∈ rs2,RowO H2 p BB wd a)->r ∉ rs2->(∀ a ∈ rs2,H a = none)->
    (3<=sizeLine/\∀ t,H2 t = none->Q (.ref t) (upd H2 t (.tup [.int hh,.int wd,.ref r]))):=by
   intro H2 rs2 e2 b2 hr2 hl2 hro2 nin2 hf2
   refine ⟨by decide,fun t ht=>?_⟩
   have nt:=b2.ne ht
   exact q t r rs2 _ (e2.trans (Ext.new ht)) (b2.new nt) (e2.free nt ht) fr hf2 ⟨Zad,by rw [Zap (Zan hr2 ht)]; exact hr2,hl2,fun a ha=>(hro2 a ha).same (Same.new ht),nin2⟩
  have hroB:∀ H2,Ext l H1 H2->∀ B:Nat,10000<=B->∀ a ∈ rs,RowO H2 p B wd a:=fun H2 e2 B hB a ha=>((hro a ha).ext b1 e2 (hb.ne (hf a ha))).weak hB
  refine Zdy (fun hc1=>?_) (fun _=>fin H1 rs e1 b1 hr1 hln (hroB H1 (Ext.refl _ _) BB (by decide)) nin hf)
  have hc1:=of_decide_eq_true hc1
  refine b1.draw (by decide) (by decide) fun z H2 z0 z1 e2 b2=>⟨rfl,Zdy (fun _=>?_) (fun _=>fin H2 rs (e1.trans e2) b2 (e2 _ _ nr hr1) hln (hroB H2 e2 BB (by decide)) nin hf)⟩
  refine ⟨l,p,rfl,b2,hp,fun va x H3 e3 b3 na ia ba=>?_⟩
  have hr3:=(e2.trans e3) _ _ nr hr1
  have hro3:=hroB H3 (e2.trans e3) 10000 (by decide)
  have hn0:0 < rs.length:=by omega
  obtain ⟨xs0,hx0,lx0,nx0⟩:=hro3 (rs[0]) (List.getElem_mem hn0)
  refine ⟨_,rfl,r,_,0,_,rfl,rfl,SqL.of hr3,Zbl (by decide) (Zi4 hn0),_,rfl,⟨_,SqL.of hx0⟩,fun D hD=>Zru (fun H y=>NumO H p 100000000 y) (fun h s=>h.same s) (fun h e=>h.put e) hx0 hD (by omega) (fun i y H' Q' hy s' q'=>?_) fun ys H4 s4 hD4 ly hys=>?_⟩
  ·obtain ⟨xy,ny,iy,byy⟩:=nx0 y (List.mem_of_getElem? hy)
   exact ⟨_,rfl,_,rfl,_,rfl,p,va,y,x,xy,rfl,hp,⟨na.same s',ny.same s',ia,iy,10000,10000,ba,byy,by decide⟩,fun v H5 s5 n5=>q' v H5 s5 ⟨_,n5,Zbq hp.lo ia iy,Zrz hp ia iy ba byy (by decide)⟩⟩
  have hr4:=s4 _ _ hr3
  have nDl:D ≠ l:=b3.ne hD
  have fD:H D = none:=((e1.trans e2).trans e3).free nDl hD
  have nDr:r ≠ D:=Zan hr3 hD
  refine ⟨r,rfl,_,hr4,_,Zgr (by rw [List.length_map]; exact hn0),?_⟩
  rw [List.length_map,Ze0]
  have b4:=b3.same s4
  have e4:Ext l H H4:=((e1.trans e2).trans e3).trans s4.ext
  have e5:Ext l H (upd H4 r (.lst ((rs.set (rs.length - 1) D).map V.ref))):=e4.upd fr
  have b5:Bag (upd H4 r (.lst ((rs.set (rs.length - 1) D).map V.ref))) l:=b4.new nr
  have ro5:∀ a ∈ rs.set (rs.length - 1) D,RowO (upd H4 r (.lst ((rs.set (rs.length - 1) D).map V.ref))) p 100000000 wd a:=fun a ha=>by
   rcases List.mem_or_eq_of_mem_set ha with ha | rfl
   ·exact (((hro3 a ha).same s4).weak (by decide)).put hr4 (fun z=>nin (z ▸ ha))
   ·exact RowO.put ⟨ys,hD4,by omega,hys⟩ hr4 nDr.symm
  have nin5:r ∉ rs.set (rs.length - 1) D:=fun z=>by
   rcases List.mem_or_eq_of_mem_set z with z | z
   ·exact nin z
   ·exact nDr z
  have hf5:∀ a ∈ rs.set (rs.length - 1) D,H a = none:=fun a ha=>by
   rcases List.mem_or_eq_of_mem_set ha with ha | rfl
   ·exact hf a ha
   ·exact fD
  have ln5:((rs.set (rs.length - 1) D).length:Int) = hh:=by rw [List.length_set]; exact hln
  have r5:(upd H4 r (.lst ((rs.set (rs.length - 1) D).map V.ref))) r = some (.lst ((rs.set (rs.length - 1) D).map V.ref)):=Zad
  generalize upd H4 r (.lst ((rs.set (rs.length - 1) D).map V.ref)) = H5 at *
  generalize rs.set (rs.length - 1) D = rs5 at *
  refine Zdy (fun hc2=>?_) (fun _=>fin H5 rs5 e5 b5 r5 ln5 (fun a ha=>(ro5 a ha).weak (by decide)) nin5 hf5)
  have hc2:=of_decide_eq_true hc2
  refine b5.draw (by decide) (by decide) fun z2 H6 _ _ e6 b6=>⟨rfl,Zdy (fun _=>?_) (fun _=>fin H6 rs5 (e5.trans e6) b6 (e6 _ _ nr r5) ln5 (fun a ha=>((ro5 a ha).ext b5 e6 (hb.ne (hf5 a ha))).weak (by decide)) nin5 hf5)⟩
  have r6:=e6 _ _ nr r5
  have ro6:∀ a ∈ rs5,RowO H6 p 100000000 wd a:=fun a ha=>(ro5 a ha).ext b5 e6 (hb.ne (hf5 a ha))
  have hn5:0 < rs5.length:=by omega
  have hn1:1 < rs5.length:=by omega
  obtain ⟨xa,hxa,lxa,nxa⟩:=ro6 (rs5[rs5.length - 1]'(by omega)) (List.getElem_mem _)
  obtain ⟨xb,hxb,lxb,nxb⟩:=ro6 (rs5[1]) (List.getElem_mem hn1)
  refine ⟨_,rfl,_,rfl,r,_,-1,_,rfl,rfl,SqL.of r6,Zp0 hn5,_,rfl,r,_,1,_,rfl,rfl,SqL.of r6,Zbl (by decide) (Zi4 hn1),_,_,rfl,⟨_,SqL.of hxa⟩,⟨_,SqL.of hxb⟩,fun D2 hD2=>Zm5 (fun H y=>NumO H p BB y) (fun h s=>h.same s) (fun h e=>h.put e) hxa hxb (by omega) hD2 (by omega) (fun i y u H' Q' hy hu s' q'=>?_) fun ys2 H7 s7 hD7 ly2 hys2=>?_⟩
  ·obtain ⟨xy,ny,iy,byy⟩:=nxa y (List.mem_of_getElem? hy)
   obtain ⟨xu,nu,iu,bu⟩:=nxb u (List.mem_of_getElem? hu)
   exact ⟨_,rfl,_,rfl,_,rfl,p,y,u,xy,xu,rfl,hp,⟨ny.same s',nu.same s',iy,iu,100000000,100000000,byy,bu,by decide⟩,fun v H8 s8 n8=>q' v H8 s8 ⟨_,n8,Ze4 hp.lo iy iu,bd_plus hp iy iu byy bu (by decide)⟩⟩
  have r7:=s7 _ _ r6
  have nDl2:D2 ≠ l:=b6.ne hD2
  have fD2:H D2 = none:=(e5.trans e6).free nDl2 hD2
  have nDr2:r ≠ D2:=Zan r6 hD2
  refine ⟨r,rfl,_,r7,_,Zgr (by rw [List.length_map]; exact hn5),?_⟩
  rw [List.length_map,Ze0]
  refine fin _ (rs5.set (rs5.length - 1) D2) (((e5.trans e6).trans s7.ext).upd fr) ((b6.same s7).new nr) Zad (by rw [List.length_set]; exact ln5) (fun a ha=>?_) (fun z=>?_) (fun a ha=>?_)
  ·rcases List.mem_or_eq_of_mem_set ha with ha | rfl
   ·exact (((ro6 a ha).same s7).weak (by decide)).put r7 (fun z=>nin5 (z ▸ ha))
   ·exact RowO.put ⟨ys2,hD7,by omega,hys2⟩ r7 nDr2.symm
  ·rcases List.mem_or_eq_of_mem_set z with z | z
   ·exact nin5 z
   ·exact nDr2 z
  ·rcases List.mem_or_eq_of_mem_set ha with ha | rfl
   ·exact hf5 a ha
   ·exact fD2
abbrev Nv:=Int × Int
abbrev Mv:=List (List Nv)
def All2 {α β:Type} (P:α->β->Prop) (xs:List α) (ys:List β):Prop:=xs.length = ys.length/\∀ (i:Nat) x y,xs[i]? = some x->ys[i]? = some y->P x y
theorem All2.nil {α β:Type} {P:α->β->Prop}:All2 P [] []:=⟨rfl,fun i x y e=>by simp at e⟩
theorem All2.take {α β:Type} {P:α->β->Prop} {xs:List α} {ys:List β} (h:All2 P xs ys) (n:Nat):All2 P (xs.take n) (ys.take n):=⟨by rw [List.length_take,List.length_take,h.1],fun i x y e1 e2=>by
 by_cases hi:i < n
 ·rw [List.getElem?_take_of_lt hi] at e1 e2
  exact h.2 i x y e1 e2
 ·rw [List.getElem?_eq_none (by rw [List.length_take]; omega)] at e1
  cases e1⟩
theorem All2.drop {α β:Type} {P:α->β->Prop} {xs:List α} {ys:List β} (h:All2 P xs ys) (n:Nat):All2 P (xs.drop n) (ys.drop n):=⟨by rw [List.length_drop,List.length_drop,h.1],fun i x y e1 e2=>by
 rw [List.getElem?_drop] at e1 e2
 exact h.2 _ x y e1 e2⟩
theorem All2.app {α β:Type} {P:α->β->Prop} {xs xs':List α} {ys ys':List β} (h:All2 P xs ys) (h':All2 P xs' ys'):All2 P (xs ++ xs') (ys ++ ys'):=⟨by rw [List.length_append,List.length_append,h.1,h'.1],fun i x y e1 e2=>by
 have hl:=h.1
 by_cases hi:i < xs.length
 ·rw [List.getElem?_append_left hi] at e1
  rw [List.getElem?_append_left (by omega)] at e2
  exact h.2 i x y e1 e2
 ·rw [List.getElem?_append_right (by omega)] at e1 e2
  rw [<- hl] at e2
  exact h'.2 _ x y e1 e2⟩
theorem All2.one {α β:Type} {P:α->β->Prop} {x:α} {y:β} (h:P x y):All2 P [x] [y]:=⟨rfl,fun i a b e1 e2=>by
 cases i with
 | zero=>cases e1; cases e2; exact h
 | succ i=>simp at e1⟩
theorem All2.mono {α β:Type} {P P':α->β->Prop} {xs:List α} {ys:List β} (h:All2 P xs ys) (k:∀ x y,P x y->P' x y):All2 P' xs ys:=⟨h.1,fun i x y e1 e2=>k x y (h.2 i x y e1 e2)⟩
theorem All2.monoM {α β:Type} {P P':α->β->Prop} {xs:List α} {ys:List β} (h:All2 P xs ys) (k:∀ x y,x ∈ xs->P x y->P' x y):All2 P' xs ys:=⟨h.1,fun i x y e1 e2=>k x y (List.mem_of_getElem? e1) (h.2 i x y e1 e2)⟩
theorem All2.set {α β:Type} {P:α->β->Prop} {xs:List α} {ys:List β} (h:All2 P xs ys) (n:Nat) {x:α} {y:β} (hp:P x y):All2 P (xs.set n x) (ys.set n y):=⟨by rw [List.length_set,List.length_set,h.1],fun i a b e1 e2=>by
 rw [List.getElem?_set] at e1 e2
 by_cases hi:n = i
 ·rw [if_pos hi] at e1 e2
  split at e1
  ·split at e2
   ·cases e1; cases e2; exact hp
   ·cases e2
  ·cases e1
 ·rw [if_neg hi] at e1 e2
  exact h.2 i a b e1 e2⟩
theorem All2.rep {α β:Type} {P:α->β->Prop} {x:α} {y:β} (h:P x y) (n:Nat):All2 P (List.replicate n x) (List.replicate n y):=⟨by simp,fun i a b e1 e2=>by
 rw [List.getElem?_replicate] at e1 e2
 split at e1
 ·rename_i hi
  rw [if_pos hi] at e2
  cases e1; cases e2; exact h
 ·cases e1⟩
theorem All2.at {α β:Type} {P:α->β->Prop} {xs:List α} {ys:List β} (h:All2 P xs ys) {i:Nat} {y:β} (e:ys[i]? = some y):∃ x,xs[i]? = some x/\P x y:=by
 have hi:i < ys.length:=(List.getElem?_eq_some_iff.mp e).1
 have hx:xs[i]? = some (xs[i]'(by have:=h.1; omega)):=List.getElem?_eq_getElem _
 exact ⟨_,hx,h.2 i _ y hx e⟩
theorem All2.at' {α β:Type} {P:α->β->Prop} {xs:List α} {ys:List β} (h:All2 P xs ys) {i:Nat} {x:α} (e:xs[i]? = some x):∃ y,ys[i]? = some y/\P x y:=by
 have hi:i < xs.length:=(List.getElem?_eq_some_iff.mp e).1
 have hy:ys[i]? = some (ys[i]'(by have:=h.1; omega)):=List.getElem?_eq_getElem _
 exact ⟨_,hy,h.2 i x _ e hy⟩
theorem All2.pick {α β:Type} {P:α->β->Prop}:∀ {xs:List α},(∀ x ∈ xs,∃ y,P x y)->∃ ys,All2 P xs ys
 | [],_=>⟨[],All2.nil⟩
 | x :: xs,h=>by
  obtain ⟨y,hy⟩:=h x (by simp)
  obtain ⟨ys,hys⟩:=All2.pick (xs:=xs) fun z hz=>h z (by simp [hz])
  exact ⟨y :: ys,(All2.one hy).app hys⟩
def RowV (H:Hp) (p:Int) (a:Addr) (xs:List Nv):Prop:=∃ vs,H a = some (.lst vs)/\All2 (NumV H p) vs xs
theorem RowV.same {H H':Hp} {p:Int} {a:Addr} {xs:List Nv} (h:RowV H p a xs) (s:Same H H'):RowV H' p a xs:=let ⟨vs,h1,h2⟩:=h; ⟨vs,s _ _ h1,h2.mono fun _ _ k=>k.same s⟩
theorem NumV.put {H:Hp} {D:Addr} {l:List V} {o:HO} {p:Int} {v:V} {x:Nv} (h:NumV H p v x) (hD:H D = some (.lst l)):NumV (upd H D o) p v x:=by
 by_cases hp:p = 0
 ·obtain ⟨t,rfl,ht⟩:=h.ref hp
  exact NumV.tup hp (by rw [Zap (Zrb ht hD (by intro z; cases z))]; exact ht)
 ·obtain rfl:=h.int hp
  exact NumV.of hp
theorem RowV.put {H:Hp} {D:Addr} {l:List V} {o:HO} {p:Int} {a:Addr} {xs:List Nv} (h:RowV H p a xs) (hD:H D = some (.lst l)) (n:a ≠ D):RowV (upd H D o) p a xs:=let ⟨vs,h1,h2⟩:=h; ⟨vs,by rw [Zap n]; exact h1,h2.mono fun _ _ k=>k.put hD⟩
structure TabV (H:Hp) (p hh wd:Int) (t r:Addr) (rs:List Addr) (M:Mv):Prop where
 tup:H t = some (.tup [.int hh,.int wd,.ref r])
 lst:H r = some (.lst (rs.map V.ref))
 row:All2 (RowV H p) rs M
 nin:r ∉ rs
theorem TabV.same {H H':Hp} {p hh wd:Int} {t r:Addr} {rs:List Addr} {M:Mv} (h:TabV H p hh wd t r rs M) (s:Same H H'):TabV H' p hh wd t r rs M:=⟨s _ _ h.tup,s _ _ h.lst,h.row.mono fun _ _ k=>k.same s,h.nin⟩
def Shp (hh wd:Int) (M:Mv):Prop:=(M.length:Int) = hh/\∀ row ∈ M,(row.length:Int) = wd
def GoodM (p:Int) (B:Nat) (M:Mv):Prop:=∀ row ∈ M,∀ x ∈ row,Isn p x/\Bd B x
theorem Tab.byV {H:Hp} {p hh wd:Int} {t r:Addr} {rs:List Addr} (h:Tab H p hh wd t r rs):∃ M,TabV H p hh wd t r rs M/\Shp hh wd M/\GoodM p BB M:=by
 obtain ⟨M,hM⟩:=All2.pick (P:=fun a xs=>RowV H p a xs/\(xs.length:Int) = wd/\∀ x ∈ xs,Isn p x/\Bd BB x) (xs:=rs) fun a ha=>by
  obtain ⟨vs,h1,h2,h3⟩:=h.row a ha
  obtain ⟨xs,hxs⟩:=All2.pick (P:=fun v x=>NumV H p v x/\Isn p x/\Bd BB x) (xs:=vs) fun v hv=>h3 v hv
  refine ⟨xs,⟨vs,h1,hxs.mono fun _ _ k=>k.1⟩,by rw [<- hxs.1]; exact h2,fun x hx=>?_⟩
  obtain ⟨j,hj,rfl⟩:=List.mem_iff_getElem.mp hx
  obtain ⟨v,_,hv⟩:=hxs.at (List.getElem?_eq_getElem hj)
  exact hv.2
 have at':∀ row ∈ M,∃ a,RowV H p a row/\(row.length:Int) = wd/\∀ x ∈ row,Isn p x/\Bd BB x:=fun row hr=>by
  obtain ⟨j,hj,rfl⟩:=List.mem_iff_getElem.mp hr
  obtain ⟨a,_,ha⟩:=hM.at (List.getElem?_eq_getElem hj)
  exact ⟨a,ha⟩
 exact ⟨M,⟨h.tup,h.lst,hM.mono fun _ _ k=>k.1,h.nin⟩,⟨by rw [<- hM.1]; exact h.len,fun row hr=>let ⟨_,_,b,_⟩:=at' row hr; b⟩,fun row hr=>let ⟨_,_,_,c⟩:=at' row hr; c⟩
theorem Zdc {H:Hp} {n:Nat} {i:Int}:EqD K H n (.int i) (.int i) true:=by
 have:=EqD.flat (K:=K) (H:=H) (n:=n) (x:=.int i) (y:=.int i) rfl rfl
 rwa [show eqV (.int i) (.int i) = true by simp [eqV]] at this
theorem Zfh (n:Nat):(List.replicate n true).all id = true:=by simp
theorem Zlf {H:Hp} {n:Nat} {a c:Addr} {xs ys:List V} (ha:H a = some (.lst xs)) (hc:H c = some (.lst ys)) (hl:xs.length = ys.length) (he:∀ (j:Nat) x y,xs[j]? = some x->ys[j]? = some y->EqD K H n x y true):EqD K H (n + 1) (.ref a) (.ref c) true:=by
 by_cases h:a = c
 ·subst h; exact EqD.same
 ·have:=EqD.list (bs:=List.replicate xs.length true) h (SqL.of ha) (SqL.of hc) hl List.length_replicate (fun j x y b e1 e2 e3=>by
   rw [List.getElem?_replicate] at e3
   split at e3
   ·cases e3; exact he j x y e1 e2
   ·cases e3)
  rwa [Zfh] at this
theorem tup_eq {H:Hp} {n:Nat} {a c:Addr} {xs ys:List V} (ha:H a = some (.tup xs)) (hc:H c = some (.tup ys)) (hl:xs.length = ys.length) (he:∀ (j:Nat) x y,xs[j]? = some x->ys[j]? = some y->EqD K H n x y true):EqD K H (n + 1) (.ref a) (.ref c) true:=by
 by_cases h:a = c
 ·subst h; exact EqD.same
 ·have:=EqD.tuple (bs:=List.replicate xs.length true) h (SqT.of ha) (SqT.of hc) hl List.length_replicate (fun j x y b e1 e2 e3=>by
   rw [List.getElem?_replicate] at e3
   split at e3
   ·cases e3; exact he j x y e1 e2
   ·cases e3)
  rwa [Zfh] at this
theorem Zi2 {H:Hp} {n:Nat} {xs ys:List V} (hl:xs.length = ys.length) (he:∀ (j:Nat) x y,xs[j]? = some x->ys[j]? = some y->EqD K H n x y true):Zjh K H n xs ys (List.replicate xs.length true):=
 ⟨hl,List.length_replicate,fun j x y b e1 e2 e3=>by
  rw [List.getElem?_replicate] at e3
  split at e3
  ·cases e3; exact he j x y e1 e2
  ·cases e3⟩
theorem num_eqD {H:Hp} {n:Nat} {p:Int} {v u:V} {x:Nv} (h:NumV H p v x) (h':NumV H p u x):EqD K H (n + 1) v u true:=by
 by_cases hp:p = 0
 ·obtain ⟨t,rfl,ht⟩:=h.ref hp
  obtain ⟨t',rfl,ht'⟩:=h'.ref hp
  refine tup_eq ht ht' rfl fun j x y e1 e2=>?_
  rw [e1] at e2
  cases e2
  match j,e1 with
  | 0,e1=>cases e1; exact Zdc
  | 1,e1=>cases e1; exact Zdc
  | j + 2,e1=>cases e1
 ·obtain rfl:=h.int hp
  obtain rfl:=h'.int hp
  exact Zdc
theorem Zlw {α:Type} {H:Hp} {n:Nat} {R R':V->α->Prop} {vs us:List V} {xs:List α} (h:All2 R vs xs) (h':All2 R' us xs) (k:∀ v u x,R v x->R' u x->EqD K H n v u true):vs.length = us.length/\∀ (j:Nat) v u,vs[j]? = some v->us[j]? = some u->EqD K H n v u true:=
 ⟨h.1.trans h'.1.symm,fun j v u e1 e2=>by
  obtain ⟨x,ex,hx⟩:=h.at' e1
  exact k v u x hx (h'.2 j u x e2 ex)⟩
theorem Za7 {α:Type} {R:Addr->α->Prop} {rs:List Addr} {xs:List α} (h:All2 R rs xs):All2 (fun v x=>∃ a,v = .ref a/\R a x) (rs.map V.ref) xs:=⟨by rw [List.length_map]; exact h.1,fun i v x e1 e2=>by
 rw [List.getElem?_map] at e1
 cases e:rs[i]? with
 | none=>rw [e] at e1; cases e1
 | some a=>rw [e] at e1; cases e1; exact ⟨a,rfl,h.2 i a x e e2⟩⟩
theorem RowV.eq {H:Hp} {n:Nat} {p:Int} {a c:Addr} {xs:List Nv} (h:RowV H p a xs) (h':RowV H p c xs):EqD K H (n + 2) (.ref a) (.ref c) true:=by
 obtain ⟨vs,h1,h2⟩:=h
 obtain ⟨us,h3,h4⟩:=h'
 obtain ⟨e1,e2⟩:=Zlw (K:=K) (H:=H) (n:=n + 1) h2 h4 fun v u x a b=>num_eqD a b
 exact Zlf h1 h3 e1 e2
theorem Zco {a D:Addr} {xs:List V} {fr:List (Str × Nat)} {σ:L2.St} {te:TE} {H1:Hp} {Q:VK} (R:Nat->Hp->V->Prop) (hS:∀ {i H H' y},R i H y->Same H H'->R i H' y) (hP:∀ {i H y l o},R i H y->H D = some (.lst l)->R i (upd H D o) y)
  (ha:H1 a = some (.lst xs)) (hD:H1 D = none) (hn:xs.length<=1000)
  (h:∀ (i:Nat) x H (Q:VK),xs[i]? = some x->Same H1 H->(∃ l,H D = some (.lst l))->(∀ y H',Same H H'->R i H' y->Q y H')->te (some x :: Zcb fr σ) H Q)
  (hQ:∀ ys H',Same H1 H'->H' D = some (.lst ys)->ys.length = xs.length->(∀ (i:Nat) y,ys[i]? = some y->R i H' y)->Q (.ref D) H'):Zcl (Zc8 0) Zht te (Itl K a) D (Zgt 1 fr σ) H1 Q:=by
 refine Zi9 (xs:=xs) (fun i vs H=>Same H1 H/\H D = some (.lst vs)/\vs.length = i/\∀ (j:Nat) y,vs[j]? = some y->R j H y) ⟨Same.new hD,Zad,rfl,fun j y e=>by simp at e⟩ (fun i vs H _ p=>SqL.of (p.1 _ _ ha)) ?_ (fun vs H ⟨s,e,hl,hr⟩=>hQ vs H s e hl hr)
 rintro i x vs σ' H hi hx sh ⟨s,e,hl,hr⟩
 obtain ⟨z,rfl⟩:=sh.one
 simp only [Zfo,Zc8,Zht,List.set_cons_zero,if_true]
 refine h i x H _ hx s ⟨_,e⟩ fun y H' s' ry=>?_
 refine Zox (ws:=vs ++ [y]) hi Sh.mk1 (s' _ _ e) (Za2 (by omega)) ⟨(s.trans s').upd hD,Zad,by rw [List.length_append,hl]; rfl,fun j u hu=>?_⟩
 by_cases hj:j < vs.length
 ·rw [List.getElem?_append_left hj] at hu
  exact hP (hS (hr j u hu) s') (s' _ _ e)
 ·rw [List.getElem?_append_right (by omega)] at hu
  have hj0:j - vs.length = 0:=by
   by_cases z:j - vs.length = 0
   ·exact z
   ·rw [List.getElem?_eq_none (by simp; omega)] at hu; cases hu
  rw [hj0] at hu
  cases hu
  rw [show j = i by omega]
  exact hP ry (s' _ _ e)
theorem Zpq {lo:Int} {n:Nat} {D:Addr} {fr:List (Str × Nat)} {σ:L2.St} {te:TE} {H1:Hp} {Q:VK} (R:Nat->Hp->V->Prop) (hS:∀ {i H H' y},R i H y->Same H H'->R i H' y) (hP:∀ {i H y l o},R i H y->H D = some (.lst l)->R i (upd H D o) y)
  (hD:H1 D = none) (hn:n<=1000)
  (h:∀ (i:Nat) H (Q:VK),i < n->Same H1 H->(∃ l,H D = some (.lst l))->(∀ y H',Same H H'->R i H' y->Q y H')->te (some (.int (lo + (i:Nat))) :: Zcb fr σ) H Q)
  (hQ:∀ ys H',Same H1 H'->H' D = some (.lst ys)->ys.length = n->(∀ (i:Nat) y,ys[i]? = some y->R i H' y)->Q (.ref D) H'):Zcl (Zc8 0) Zht te (Itr lo n) D (Zgt 1 fr σ) H1 Q:=by
 refine Zgs (n:=n) (fun i vs H=>Same H1 H/\H D = some (.lst vs)/\vs.length = i/\∀ (j:Nat) y,vs[j]? = some y->R j H y) ⟨Same.new hD,Zad,rfl,fun j y e=>by simp at e⟩ ?_ (fun vs H ⟨s,e,hl,hr⟩=>hQ vs H s e hl hr)
 rintro i x vs σ' H hi rfl sh ⟨s,e,hl,hr⟩
 obtain ⟨z,rfl⟩:=sh.one
 simp only [Zfo,Zc8,Zht,List.set_cons_zero,if_true]
 refine h i H _ hi s ⟨_,e⟩ fun y H' s' ry=>?_
 refine Zox (ws:=vs ++ [y]) hi Sh.mk1 (s' _ _ e) (Za2 (by omega)) ⟨(s.trans s').upd hD,Zad,by rw [List.length_append,hl]; rfl,fun j u hu=>?_⟩
 by_cases hj:j < vs.length
 ·rw [List.getElem?_append_left hj] at hu
  exact hP (hS (hr j u hu) s') (s' _ _ e)
 ·rw [List.getElem?_append_right (by omega)] at hu
  have hj0:j - vs.length = 0:=by
   by_cases z:j - vs.length = 0
   ·exact z
   ·rw [List.getElem?_eq_none (by simp; omega)] at hu; cases hu
  rw [hj0] at hu
  cases hu
  rw [show j = i by omega]
  exact hP ry (s' _ _ e)
theorem Zo9 {ys:List V} {g:Nat->Int} {n:Nat} (hl:ys.length = n) (h:∀ (i:Nat) y,ys[i]? = some y->y = .int (g i)):ys = ((List.range n).map g).map V.int:=by
 apply List.ext_getElem?
 intro i
 by_cases hi:i < n
 ·rw [List.getElem?_eq_getElem (by omega),h i _ (List.getElem?_eq_getElem (by omega)),List.getElem?_map,List.getElem?_map,List.getElem?_range hi]
  rfl
 ·rw [List.getElem?_eq_none (by omega),List.getElem?_eq_none (by simp; omega)]
theorem Zhb {P:Nat->Addr->Prop}:∀ {ys:List V},(∀ (i:Nat) y,ys[i]? = some y->∃ b,y = .ref b/\P i b)->∃ bs:List Addr,ys = bs.map V.ref/\∀ (i:Nat) b,bs[i]? = some b->P i b:=by
 intro ys
 induction ys generalizing P with
 | nil=>exact fun _=>⟨[],rfl,fun i b e=>by simp at e⟩
 | cons y ys ih=>
  intro h
  obtain ⟨b,rfl,hb⟩:=h 0 y rfl
  obtain ⟨bs,rfl,hbs⟩:=ih (P:=fun i b=>P (i + 1) b) fun i u e=>h (i + 1) u (by simpa using e)
  exact ⟨b :: bs,rfl,fun i u e=>by
   cases i with
   | zero=>cases e; exact hb
   | succ i=>exact hbs i u (by simpa using e)⟩
theorem Ziu {D:Addr} {H1 H':Hp} {p:Int} {M:Mv} {ys:List V} (hl:ys.length = M.length) (h:∀ (i:Nat) y,ys[i]? = some y->∃ a,y = .ref a/\RowV H' p a (M.getD i [])/\a ≠ D/\H1 a = none):∃ rs:List Addr,ys = rs.map V.ref/\All2 (RowV H' p) rs M/\D ∉ rs/\∀ a ∈ rs,H1 a = none:=by
 obtain ⟨rs,rfl,hr⟩:=Zhb (P:=fun i a=>RowV H' p a (M.getD i [])/\a ≠ D/\H1 a = none) h
 rw [List.length_map] at hl
 refine ⟨rs,rfl,⟨hl,fun i a xs e1 e2=>?_⟩,fun z=>?_,fun a ha=>?_⟩
 ·have:=(hr i a e1).1
  rwa [List.getD_eq_getElem?_getD,e2] at this
 ·obtain ⟨j,hj,e⟩:=List.mem_iff_getElem.mp z
  exact (hr j D (by rw [List.getElem?_eq_getElem hj,e])).2.1 rfl
 ·obtain ⟨j,hj,rfl⟩:=List.mem_iff_getElem.mp ha
  exact (hr j _ (List.getElem?_eq_getElem hj)).2.2
structure New (H:Hp) (t r:Addr) (rs:List Addr):Prop where
 t:H t = none
 r:H r = none
 rs:∀ a ∈ rs,H a = none
theorem Zak {α:Type} {xs:List α} {i:Nat} {x d:α} (h:xs[i]? = some x):xs.getD i d = x:=by rw [List.getD_eq_getElem?_getD,h]; rfl
def Zl2:Sp:=fun vs H Q _=>∃ (p hh wd:Int) (t r:Addr) (rs:List Addr) (M:Mv),vs = [.ref t]/\TabV H p hh wd t r rs M/\M.length<=200/\∀ (t' r':Addr) (rs':List Addr) (H':Hp),Same H H'->New H t' r' rs'->TabV H' p hh wd t' r' rs' M->Q (.ref t') H'
theorem ok_copy {f:Addr} {fd:FuncData} (F:Fun K "_law_copy" "_law_copy" Zdi f fd) (T:Txt K mg C):FnOk P w K mg base CX0 1 f fd ["_law_table_here"] Zl2:=by
 have nd:=Zg5.nd
 refine F.ok Zg5 (fun vs H Q E h=>?_) (fun cdv A outer s H vs Q E hr h=>?_)
 ·obtain ⟨p,hh,wd,t,r,rs,M,rfl,_⟩:=h
  rfl
 ·obtain ⟨p,hh,wd,t,r,rs,M,rfl,tb,ml,q⟩:=h
  have hln:=tb.row.1
  refine ⟨_,(@Zaf _ _ _ (@Zaj _ _ _ _ (@Zbd _ _ _ _ _ (@Zag _ _ _ _ _ (@Zat _ _ _ _ _ _ _ Zaw (pv 0) Zac (fun _ _=>rfl)) (@Zag _ _ _ _ _ (@Zat _ _ _ _ _ _ _ Zaw (pv 0) Zac (fun _ _=>rfl)) (@Zag _ _ _ _ _ (Zbg (own:=["_law_row"]) (fr:=[]) rfl (Zck (by kernel_rfl)) (Zbt (@Zat _ _ _ _ _ _ _ Zaw (pv 0) Zac (fun _ _=>rfl))) (fun _ _ _ _=>⟨(@Zah _ _ 0 _ (show (["_law_row"]:List Str).Nodup by decide +kernel) rfl (Or.inl rfl) (Or.inr rfl)),Za9,(Zqw (Zjc K rfl) rfl T.n_list boot_list (@Zag _ _ _ _ _ (pv 0) Zaa (by rfl)))⟩)) Zaa (by rfl)) (by rfl)) (by rfl))))),?_⟩
  walk_at "wp"
  refine ⟨_,SqT.of tb.tup,_,rfl,_,SqT.of tb.tup,_,rfl,?_⟩
  refine ⟨_,rfl,t,_,2,_,rfl,rfl,SqT.of tb.tup,rfl,r,rfl,⟨_,SqL.of tb.lst⟩,fun D hD=>?_⟩
  refine Zco (fun i Hc y=>∃ a,y = .ref a/\RowV Hc p a (M.getD i [])/\a ≠ D/\H a = none) (fun ⟨a,e,b,c⟩ s=>⟨a,e,b.same s,c⟩) (fun ⟨a,e,b,c,d⟩ hD=>⟨a,e,b.put hD c,c,d⟩) tb.lst hD (by rw [List.length_map]; omega) (fun i x H' Q' hx s' ⟨lD,hlD⟩ q'=>?_) (fun ys H' s' h' hyl hys=>?_)
  ·obtain ⟨row,er,a,rfl,vs,h1,h2⟩:=(Za7 tb.row).at' hx
   refine ⟨_,rfl,_,rfl,vs,.inl (SqL.of (s' _ _ h1)),fun c hc=>?_⟩
   have sc:=s'.trans (Same.new (o:=.lst vs) hc)
   exact q' _ _ (Same.new hc) ⟨c,rfl,⟨vs,Zad,by rw [Zak er]; exact h2.mono fun _ _ k=>k.same sc⟩,(Zan hlD hc).symm,s'.free hc⟩
  ·rw [List.length_map] at hyl
   obtain ⟨rs',rfl,a2,nD,fr⟩:=Ziu (D:=D) (H1:=H) (p:=p) (M:=M) (by omega) hys
   refine ⟨by show 3<=sizeLine; decide,fun t' ht'=>?_⟩
   have s2:=Same.new (o:=.tup [.int hh,.int wd,.ref D]) ht'
   exact q t' D rs' _ (s'.trans s2) ⟨s'.free ht',hD,fr⟩ ⟨Zad,s2 _ _ h',a2.mono fun _ _ k=>k.same s2,nD⟩
def Znr:Sp:=fun vs H Q _=>∃ (p hh wd:Int) (t r t' r':Addr) (rs rs':List Addr) (M:Mv),vs = [.int p,.ref t,.ref t']/\GroundP p/\TabV H p hh wd t r rs M/\TabV H p hh wd t' r' rs' M/\(∀ row ∈ M,row.length<=900)/\∀ H',Same H H'->Q (.bl true) H'
theorem ok_good {f:Addr} {fd:FuncData} (F:Fun K "_law_good" "_law_good" Zdg f fd) (T:Txt K mg C) (C_law_whole:Cal P w K mg base "_law_whole" 1 Zff) (C_law_same:Cal P w K mg base "_law_same" 2 Znj):FnOk P w K mg base CX0 3 f fd ["_law_p","_law_found","_law_due"] Znr:=by
 have nd:=Zg3.nd
 refine F.ok Zg3 (fun vs H Q E h=>?_) (fun cdv A outer s H vs Q E hr h=>?_)
 ·obtain ⟨p,hh,wd,t,r,t',r',rs,rs',M,rfl,_⟩:=h
  rfl
 ·obtain ⟨p,hh,wd,t,r,t',r',rs,rs',M,rfl,hp,tb,tb',ml,q⟩:=h
  have hu8:=Zmx hr
  refine ⟨_,(@Zab _ _ _ _ _ (@Zbf _ _ _ _ _ _ _ _ (PW.pt (Zf2 (Zdr (Zdw (Zcj Zb4 rfl T.n_isinstance boot_isinstance (@Zag _ _ _ _ _ (pv 1) (@Zag _ _ _ _ _ (Zjz rfl T.n_tuple boot_tuple) Zaa (by rfl)) (by rfl))))) (Zf2 (Zal Zfj (Zcj Zbi rfl T.n_len PySem.boot_len (@Zag _ _ _ _ _ (pv 1) Zaa (by rfl))) Zac (Zau _)) (Zf2 (Zdr (Zdw (Zbb C_law_whole hr.m rfl (@Zag _ _ _ _ _ (@Zat _ _ _ _ _ _ _ Zaw (pv 1) Zac (fun _ _=>rfl)) Zaa (by rfl))))) (Zfc (Zdr (Zdw (Zbb C_law_whole hr.m rfl (@Zag _ _ _ _ _ (@Zat _ _ _ _ _ _ _ Zaw (pv 1) Zac (fun _ _=>rfl)) Zaa (by rfl)))))))))) (@Zaf _ _ _ (@Zaj _ _ _ _ Ze5)) Zav) (@Zab _ _ _ _ _ (@Zbf _ _ _ _ _ _ _ _ (PW.pt (Zf2 (Zdr (Zdw (Zcj Zb4 rfl T.n_isinstance boot_isinstance (@Zag _ _ _ _ _ (@Zat _ _ _ _ _ _ _ Zaw (pv 1) Zac (fun _ _=>rfl)) (@Zag _ _ _ _ _ (Zjz rfl T.n_list boot_list) Zaa (by rfl)) (by rfl))))) (Zfc (Zal (op_neTs hu8) (pv 1) (pv 2) (Zau _))))) (@Zaf _ _ _ (@Zaj _ _ _ _ Ze5)) Zav) (@Zab _ _ _ _ _ (Zc3 PassesOwn.never rfl (Zbt (@Zat _ _ _ _ _ _ _ Zaw (pv 1) Zac (fun _ _=>rfl))) (@Zah _ _ 3 _ nd rfl (Or.inl rfl) (Or.inl rfl)) (@Zaf _ _ _ (@Zbf _ _ _ _ _ _ _ _ (PW.pt (Zf2 (Zdr (Zdw (Zcj Zb4 rfl T.n_isinstance boot_isinstance (@Zag _ _ _ _ _ (pv 3) (@Zag _ _ _ _ _ (Zjz rfl T.n_list boot_list) Zaa (by rfl)) (by rfl))))) (Zfc (Zdr (Zdw (Zcj (Zje rfl) rfl T.n_all boot_all (@Zag _ _ _ _ _ (Zbg (own:=["_law_number_here"]) (fr:=[("_law_p",0)]) rfl (Zck (by kernel_rfl)) (Zbt (pv 3)) (fun _ _ _ _=>⟨(@Zah _ _ 0 _ (show (["_law_number_here","_law_p"]:List Str).Nodup by decide +kernel) rfl (Or.inl rfl) (Or.inr rfl)),Za9,(Zbb C_law_same hr.m rfl (@Zag _ _ _ _ _ (pv 1) (@Zag _ _ _ _ _ (pv 0) (@Zag _ _ _ _ _ (pv 0) Zaa (by rfl)) (by rfl)) (by rfl)))⟩)) Zaa (by rfl)))))))) (@Zaf _ _ _ (@Zaj _ _ _ _ Ze5)) Zav))) (@Zaf _ _ _ (@Zaj _ _ _ _ Ze5))))),?_⟩
  walk_at "wp"
  refine ⟨_,_,⟨rfl,rfl⟩,_,rfl,_,.tup tb.tup,_,Zj8 K,Zlj ⟨_,.inr (SqT.of tb.tup),Zlj ⟨_,SqT.of tb.tup,_,rfl,_,rfl,true,rfl,Zlj ⟨_,SqT.of tb.tup,_,rfl,_,rfl,true,rfl,Zlj ⟨_,SqT.of tb.tup,_,rfl,_,_,⟨rfl,rfl⟩,_,rfl,_,.lst tb.lst,true,by kernel_rfl,Zlj ?_⟩⟩⟩⟩⟩
  refine .inr ⟨t,t',_,_,_,rfl,rfl,SqT.of tb.tup,SqT.of tb'.tup,Zi2 rfl (fun j x y e1 e2=>?_),⟨_,rfl,Zhw (by rw [Zfh]; decide) ?_⟩⟩
  ·match j,e1,e2 with
   | 0,e1,e2=>cases e1; cases e2; exact Zdc
   | 1,e1,e2=>cases e1; cases e2; exact Zdc
   | 2,e1,e2=>
    cases e1; cases e2
    obtain ⟨f1,f2⟩:=Zlw (K:=K) (H:=H) (n:=5) (Za7 tb.row) (Za7 tb'.row) fun v u x ⟨a,ea,ha⟩ ⟨b,eb,hb⟩=>by subst ea; subst eb; exact ha.eq hb
    exact Zlf tb.lst tb'.lst f1 f2
   | j + 3,e1,e2=>cases e1
  refine ⟨_,rfl,t,_,2,_,rfl,rfl,SqT.of tb.tup,rfl,r,rfl,⟨_,SqL.of tb.lst⟩,Zfu (xs:=rs.map V.ref) (fun i σ H2=>∃ v3:Option V,σ = [some (.int p),some (.ref t),some (.ref t'),v3]/\Same H H2) ⟨none,rfl,Same.refl _⟩ (fun i σ H2 _ ⟨_,_,s2⟩=>SqL.of (s2 _ _ tb.lst)) ?_ ?_⟩
  ·rintro i x σ H2 hi ⟨v3,rfl,s2⟩
   obtain ⟨row,er,a,rfl,vs,h1,h2⟩:=(Za7 tb.row).at' hi
   have rl:=ml row (List.mem_of_getElem? er)
   walk_at "wp"
   have h1':=s2 _ _ h1
   have h2l:=h2.1
   refine ⟨_,_,⟨rfl,rfl⟩,_,rfl,_,.lst h1',true,Zlh K,Zlj ⟨_,rfl,a,rfl,⟨_,SqL.of h1'⟩,fun D hD=>Zkj (fun _=>true) h1' hD (by omega) (fun i y H' Q' hy s' q'=>?_) fun H' s' e'=>⟨D,rfl,_,SqL.of e',Zhw (by simp) (s2.trans s')⟩⟩⟩
   obtain ⟨x,_,hx⟩:=h2.at' hy
   have hx':=hx.same (s2.trans s')
   exact ⟨_,rfl,_,rfl,_,rfl,p,y,y,x,rfl,hp,hx',hx',q' H' (Same.refl _)⟩
  ·rintro σ H2 ⟨v3,rfl,s2⟩
   exact q H2 s2
abbrev Tv:=Int × Int × Mv
abbrev t0:Tv:=(0,0,[])
abbrev hF (cs:List Tv) (i:Nat):Int:=(cs.getD i t0).1
abbrev wF (cs:List Tv) (i:Nat):Int:=(cs.getD i t0).2.1
abbrev mF (cs:List Tv) (i:Nat):Mv:=(cs.getD i t0).2.2
theorem Zhp {a D:Addr} {xs:List V} {fr:List (Str × Nat)} {σ:L2.St} {te:TE} {H1:Hp} {Q:VK} (g:Nat->Int) (ha:H1 a = some (.lst xs)) (hD:H1 D = none) (hn:xs.length<=1000)
  (h:∀ (i:Nat) x H (Q:VK),xs[i]? = some x->Same H1 H->(∀ H',Same H H'->Q (.int (g i)) H')->te (some x :: Zcb fr σ) H Q)
  (hQ:∀ H',Same H1 H'->H' D = some (.lst (((List.range xs.length).map g).map V.int))->Q (.ref D) H'):Zcl (Zc8 0) Zht te (Itl K a) D (Zgt 1 fr σ) H1 Q:=
 Zco (fun i _ y=>y = .int (g i)) (fun r _=>r) (fun r _=>r) ha hD hn (fun i x H Q hx s _ k=>h i x H Q hx s fun H' s'=>k _ H' s' rfl) (fun ys H' s e hl hr=>hQ H' s (by rw [e,Zo9 hl hr]))
structure FewC (cs:List Tv):Prop where
 few:cs.length<=9
 bd:∀ i,i < cs.length->0<=hF cs i/\hF cs i<=24/\0<=wF cs i/\wF cs i<=24/\Shp (hF cs i) (wF cs i) (mF cs i)
structure TbsV (H:Hp) (p:Int) (a:Addr) (ts:List Addr) (cs:List Tv):Prop where
 lst:H a = some (.lst (ts.map V.ref))
 tab:All2 (fun t c=>∃ r rs,TabV H p c.1 c.2.1 t r rs c.2.2) ts cs
theorem cut1 {A X:TS} {D:Ends} {σ:L2.St} {H:Hp} (h:∀ X',X' = X->Zkt A X' D σ H):Zkt A X D σ H:=h X rfl
theorem Zls {z:Int} (h:z.natAbs < 170141183460469231731687303715884105728):Bt 127 z:=Nat.lt_of_lt_of_le h (by decide +kernel)
def Znp:Sp:=fun vs H Q _=>∃ x0 y0:Int,vs = [.int x0,.int y0]/\18446744073709551616<=x0/\x0 < 85070591730234615865843651857942052864/\0<=y0/\y0<=x0 /\
 ∀ (a b c d x y:Int) (t:Addr) (H':Hp),Same H H'->H' t = some (.tup [.int a,.int b,.int c,.int d])->Steps x0 y0 a b c d x y->Q (.ref t) H'
theorem ok_lead {f:Addr} {fd:FuncData} (F:Fun K "leading_steps" "leading_steps" Zbp f fd) (T:Txt K mg C) (hpt:P.given.tree = none):FnOk P w K mg base CX0 1 f fd ["one","other"] Znp:=by
 have nd:=Zem.nd
 refine F.ok Zem (fun vs H Q E h=>?_) (fun cdv A outer s H vs Q E hr h=>?_)
 ·obtain ⟨x0,y0,rfl,_⟩:=h
  rfl
 ·obtain ⟨x0,y0,rfl,hx64,hx,hy0,hyx,q⟩:=h
  refine ⟨_,(@Zab _ _ _ _ _ (Zb2 (@Zbd _ _ _ _ _ (@Zag _ _ _ _ _ Zac (@Zag _ _ _ _ _ Zac (@Zag _ _ _ _ _ Zac (@Zag _ _ _ _ _ Zac Zaa (by rfl)) (by rfl)) (by rfl)) (by rfl))) (@Zch _ _ _ _ _ 4 rfl (@Zai _ _ _ _ _ (@Zah _ _ 2 _ nd rfl (Or.inl rfl) (Or.inl rfl)) (@Zai _ _ _ _ _ (@Zah _ _ 3 _ nd rfl (Or.inl rfl) (Or.inl rfl)) (@Zai _ _ _ _ _ (@Zah _ _ 4 _ nd rfl (Or.inl rfl) (Or.inl rfl)) (@Zai _ _ _ _ _ (@Zah _ _ 5 _ nd rfl (Or.inl rfl) (Or.inl rfl)) (@Zba _) (by rfl)) (by rfl)) (by rfl)) (by rfl)) (by rfl) (by rfl))) (@Zab _ _ _ _ _ (Zfs PassesOwn.never (Zal op_ge (pv 1) (@Zar _ _ _ _ _ _ _ _ Zse Zac Zac) (Zau _)) (@Zab _ _ _ _ _ (Zax (i:=6) nd rfl (Or.inl rfl) (@Zar _ _ _ _ _ _ _ _ (Zcd hpt (Zbw hr)) (pv 0) (pv 1))) (@Zab _ _ _ _ _ (Zhd (i:=0) (j:=1) rfl nd rfl rfl (by decide) rfl rfl (@Zag _ _ _ _ _ (pv 1) (@Zag _ _ _ _ _ (@Zar _ _ _ _ _ _ _ _ Zc5 (pv 0) (@Zar _ _ _ _ _ _ _ _ Zbh (pv 6) (pv 1))) Zaa (by rfl)) (by rfl)) rfl) (@Zaf _ _ _ (Zb2 (@Zbd _ _ _ _ _ (@Zag _ _ _ _ _ (pv 4) (@Zag _ _ _ _ _ (pv 5) (@Zag _ _ _ _ _ (@Zar _ _ _ _ _ _ _ _ Zc5 (pv 2) (@Zar _ _ _ _ _ _ _ _ Zbh (pv 6) (pv 4))) (@Zag _ _ _ _ _ (@Zar _ _ _ _ _ _ _ _ Zc5 (pv 3) (@Zar _ _ _ _ _ _ _ _ Zbh (pv 6) (pv 5))) Zaa (by rfl)) (by rfl)) (by rfl)) (by rfl))) (@Zch _ _ _ _ _ 4 rfl (@Zai _ _ _ _ _ (@Zah _ _ 2 _ nd rfl (Or.inl rfl) (Or.inl rfl)) (@Zai _ _ _ _ _ (@Zah _ _ 3 _ nd rfl (Or.inl rfl) (Or.inl rfl)) (@Zai _ _ _ _ _ (@Zah _ _ 4 _ nd rfl (Or.inl rfl) (Or.inl rfl)) (@Zai _ _ _ _ _ (@Zah _ _ 5 _ nd rfl (Or.inl rfl) (Or.inl rfl)) (@Zba _) (by rfl)) (by rfl)) (by rfl)) (by rfl)) (by rfl) (by rfl))))))) (@Zaf _ _ _ (@Zaj _ _ _ _ (@Zbd _ _ _ _ _ (@Zag _ _ _ _ _ (pv 2) (@Zag _ _ _ _ _ (pv 3) (@Zag _ _ _ _ _ (pv 4) (@Zag _ _ _ _ _ (pv 5) Zaa (by rfl)) (by rfl)) (by rfl)) (by rfl))))))),?_⟩
  walk_at "wp"
  refine ⟨by decide,fun p hp=>⟨_,SqT.of Zad,rfl,_,_,rfl,_,_,rfl,_,_,rfl,_,_,rfl,rfl,?_⟩⟩
  refine ⟨fun n σ H2=>∃ (a b c d x y:Int) (o:Option V),σ = [some (.int x),some (.int y),some (.int a),some (.int b),some (.int c),some (.int d),o]/\Same H H2/\n = y.natAbs/\Steps x0 y0 a b c d x y,
   ⟨_,1,0,0,1,x0,y0,none,rfl,Same.new hp,rfl,⟨by omega,by omega,⟨1,by decide,by decide,by decide,by decide,by decide,by decide⟩,hx64,hy0,hyx,by decide,.inl ⟨rfl,rfl,rfl,rfl⟩⟩⟩,?_⟩
  rintro n σ H2 ⟨a,b,c,d,x,y,o,rfl,s2,rfl,st⟩
  walk_at "wp"
  have e64:(2:Int) ^ Int.toNat 64 = 18446744073709551616:=by decide +kernel
  rw [e64]
  refine ⟨⟨by decide,by decide,by decide⟩,Zdy (fun hc=>?_) (fun hc=>?_)⟩
  ·have hc:=of_decide_eq_true hc
   have nx:=st.next hx hyx hc
   obtain ⟨c1,c2⟩:=st.cd hx hyx
   have hxs:x<=x0 + y0:=by
    rcases st.pr with ⟨rfl,rfl,rfl,rfl⟩ | ⟨_,h⟩
    ·have:=st.hx
     omega
    ·have:=st.yn
     omega
   have hyx':=st.yx
   have hx0:=st.x64
   have q0:0<=x / y:=Int.ediv_nonneg (by omega) (by omega)
   have q1:x / y<=x:=Int.ediv_le_self _ (by omega)
   have hr0:=nx.yn
   have hr1:x - x / y * y < y:=by
    have h1:=Int.emod_lt_of_pos x (show 0 < y by omega)
    have h2:=Int.emod_add_mul_ediv x y
    rw [Int.mul_comm y] at h2
    omega
   refine ⟨_,fun _ _ h=>h,by omega,?_⟩
   rw [Zc2 (by omega)]
   refine ⟨(Zls (by omega)).ok (Zls (by omega)) (by decide),_,_,⟨rfl,rfl⟩,(Zls (by omega)).ok (Zls (by omega)) (by decide),(Zls (by omega)).ok (Zls (by omega)) (by decide),by decide,fun p2 hp2=>⟨_,SqT.of Zad,rfl,_,_,rfl,_,_,rfl,_,_,rfl,_,_,rfl,rfl,?_⟩⟩
   exact ⟨_,by omega,_,_,_,_,_,_,_,rfl,s2.trans (Same.new hp2),rfl,nx⟩
  ·exact ⟨by decide,fun t ht=>q a b c d x y t _ (s2.trans (Same.new ht)) Zad st⟩
theorem Zrp (x:Int) {y:Int} (h:y ≠ 0):(x.fmod y).natAbs < y.natAbs:=by
 rcases Int.lt_or_gt_of_ne h with h | h
 ·have e:x.fmod y = -((-x).fmod (-y)):=by rw [Int.neg_fmod_neg,Int.neg_neg]
  have h1:=Int.fmod_nonneg_of_pos (-x) (show 0 < -y by omega)
  have h2:=Int.fmod_lt_of_pos (-x) (show 0 < -y by omega)
  omega
 ·have h1:=Int.fmod_nonneg_of_pos x (show 0 < y by omega)
  have h2:=Int.fmod_lt_of_pos x (show 0 < y by omega)
  omega
theorem Zkb (a b:Int):Int.gcd b (a.fmod b) = Int.gcd a b:=by
 rw [Int.fmod_def,Int.sub_eq_add_neg,<- Int.mul_neg,Int.gcd_add_mul_left_right,Int.gcd_comm]
abbrev NB1:Nat:=67000002
abbrev NB:Nat:=67000001
theorem Zqk {x y S a b c d X Y:Int} (hS:0 < S) (st:Steps (x / S) (y / S) a b c d X Y) (hx:x / S < 85070591730234615865843651857942052864) (hyx:y / S<=x / S) (hb:b ≠ 0) (y0:0<=y) (x0:0<=x):(a * x + b * y).natAbs + (c * x + d * y).natAbs < (x + y).natAbs:=by
 obtain ⟨c1,d1⟩:=st.cd hx hyx
 obtain ⟨a1,b1⟩:=st.ab
 obtain ⟨_,hs⟩:=st.pr.resolve_left fun z=>hb z.2.1
 have ex:x = S * (x / S) + x % S:=(Int.mul_ediv_add_emod x S).symm
 have ey:y = S * (y / S) + y % S:=(Int.mul_ediv_add_emod y S).symm
 have rx0:=Int.emod_nonneg x (show S ≠ 0 by omega)
 have rx1:=Int.emod_lt_of_pos x hS
 have ry0:=Int.emod_nonneg y (show S ≠ 0 by omega)
 have ry1:=Int.emod_lt_of_pos y hS
 have hX:=st.x64
 have hY:=st.yn
 have e1:a * x + b * y = S * X + (a * (x % S) + b * (y % S)):=by
  rw [<- st.hx]
  grind
 have e2:c * x + d * y = S * Y + (c * (x % S) + d * (y % S)):=by
  rw [<- st.hy]
  grind
 rw [e1,e2]
 generalize x / S = x' at *
 generalize y / S = y' at *
 generalize x % S = rx at *
 generalize y % S = ry at *
 have p1:=Zay (show a.natAbs<=4611686018427387903 by omega) (show rx.natAbs<=S.natAbs by omega)
 have p2:=Zay (show b.natAbs<=4611686018427387903 by omega) (show ry.natAbs<=S.natAbs by omega)
 have p3:=Zay (show c.natAbs<=4611686018427387903 by omega) (show rx.natAbs<=S.natAbs by omega)
 have p4:=Zay (show d.natAbs<=4611686018427387903 by omega) (show ry.natAbs<=S.natAbs by omega)
 have m1:S * (X + Y + 18446744073709551616)<=S * (x' + y'):=Int.mul_le_mul_of_nonneg_left hs (by omega)
 rw [Int.mul_add,Int.mul_add,Int.mul_add] at m1
 have m2:0<=S * X:=Int.mul_nonneg (by omega) (by omega)
 have m3:0<=S * Y:=Int.mul_nonneg (by omega) hY
 have tri:∀ u v z:Int,(u + (v + z)).natAbs<=u.natAbs + (v.natAbs + z.natAbs):=fun u v z=>Nat.le_trans (Int.natAbs_add_le _ _) (Nat.add_le_add_left (Int.natAbs_add_le _ _) _)
 have t1:=tri (S * X) (a * rx) (b * ry)
 have t2:=tri (S * Y) (c * rx) (d * ry)
 have q1:=Int.natAbs_of_nonneg m2
 have q2:=Int.natAbs_of_nonneg m3
 have q3:=Int.natAbs_of_nonneg (show 0<=S by omega)
 have q4:=Int.natAbs_of_nonneg (show 0<=x + y by omega)
 clear e1 e2 hs st a1 b1 c1 d1 hx hyx hX hY
 generalize (S * X + (a * rx + b * ry)).natAbs = N1 at *
 generalize (S * Y + (c * rx + d * ry)).natAbs = N2 at *
 generalize (a * rx).natAbs = n1 at *
 generalize (b * ry).natAbs = n2 at *
 generalize (c * rx).natAbs = n3 at *
 generalize (d * ry).natAbs = n4 at *
 generalize (S * X).natAbs = n5 at *
 generalize (S * Y).natAbs = n6 at *
 generalize (x + y).natAbs = n7 at *
 generalize S.natAbs = n8 at *
 generalize S * X = zX at *
 generalize S * Y = zY at *
 generalize S * x' = zx at *
 generalize S * y' = zy at *
 omega
theorem Zry {x:Int} {n:Nat} (h0:0<=x) (h:Builtin.Int.intBits x = n) (hn:126<=n):18446744073709551616<=x / 2 ^ (n - 126)/\x / 2 ^ (n - 126) < 85070591730234615865843651857942052864:=by
 have hp:(0:Int) < 2 ^ (n - 126):=Int.pow_pos (by decide)
 have hu:x.natAbs < 2 ^ n:=PySem.intBits_le_iff.mp (by omega)
 have hl:¬ x.natAbs < 2 ^ (n - 1):=fun z=>by have:=PySem.intBits_le_iff.mpr z; omega
 constructor
 ·refine (Int.le_ediv_iff_mul_le hp).mpr ?_
  have e:(18446744073709551616:Int) * 2 ^ (n - 126) = 2 ^ (n - 62):=by
   rw [show (18446744073709551616:Int) = 2 ^ 64 by decide +kernel,<- Int.pow_add]
   congr 1
   omega
  have e2:(2:Int) ^ (n - 62) = ((2 ^ (n - 62):Nat):Int):=by rw [Int.natCast_pow]; rfl
  have e3:(2:Nat) ^ (n - 62)<=2 ^ (n - 1):=Nat.pow_le_pow_right (by decide) (by omega)
  rw [e,e2]
  omega
 ·refine Int.ediv_lt_of_lt_mul hp ?_
  have e:(85070591730234615865843651857942052864:Int) * 2 ^ (n - 126) = 2 ^ n:=by
   rw [show (85070591730234615865843651857942052864:Int) = 2 ^ 126 by decide +kernel,<- Int.pow_add]
   congr 1
   omega
  have e2:(2:Int) ^ n = ((2 ^ n:Nat):Int):=by rw [Int.natCast_pow]; rfl
  rw [e,e2]
  omega
def Zky:Sp:=fun vs H Q _=>∃ x y:Int,vs = [.int x,.int y]/\0<=x/\0<=y/\4000 < Builtin.Int.intBits x/\4000 < Builtin.Int.intBits y/\Bt NB1 x/\Bt NB1 y /\
 ∀ (u v:Int) (t:Addr) (H':Hp),Same H H'->H' t = some (.tup [.int u,.int v])->0<=u->0<=v->u + v < x + y->Int.gcd u v = Int.gcd x y->Q (.ref t) H'
theorem Zq1 {f:Addr} {fd:FuncData} (F:Fun K "shortened" "shortened" Zcr f fd) (T:Txt K mg C) (C_leading_steps:Cal P w K mg base "leading_steps" 1 Znp):FnOk P w K mg base CX0 2 f fd ["one","other"] Zky:=by
 have nd:=Zf9.nd
 refine F.ok Zf9 (fun vs H Q E h=>?_) (fun cdv A outer s H vs Q E hr h=>?_)
 ·obtain ⟨x0,y0,rfl,_⟩:=h
  rfl
 ·obtain ⟨x,y,rfl,x0,y0,xb,yb,bx,by',q⟩:=h
  refine ⟨_,(@Zab _ _ _ _ _ (@Zbf _ _ _ _ _ _ _ _ (Zal Ziz (pv 0) (pv 1) (Zau _)) (@Zaf _ _ _ (Zhd (i:=0) (j:=1) rfl nd rfl rfl (by decide) rfl rfl (@Zag _ _ _ _ _ (pv 1) (@Zag _ _ _ _ _ (pv 0) Zaa (by rfl)) (by rfl)) rfl)) Zav) (@Zab _ _ _ _ _ (Zax (i:=2) nd rfl (Or.inl rfl) (@Zar _ _ _ _ _ _ _ _ Zc5 (Zn7 PySem.F.plainAttrs_int PySem.F.slot_int_bit_length PySem.F.type_int_bit_length Zlc (pv 0)) (Zgp rfl T.g_LEADING))) (@Zab _ _ _ _ _ (Zb2 (Zbb C_leading_steps hr.m rfl (@Zag _ _ _ _ _ (@Zar _ _ _ _ _ _ _ _ Zsd (pv 0) (pv 2)) (@Zag _ _ _ _ _ (@Zar _ _ _ _ _ _ _ _ Zsd (pv 1) (pv 2)) Zaa (by rfl)) (by rfl))) (@Zch _ _ _ _ _ 4 rfl (@Zai _ _ _ _ _ (@Zah _ _ 3 _ nd rfl (Or.inl rfl) (Or.inl rfl)) (@Zai _ _ _ _ _ (@Zah _ _ 4 _ nd rfl (Or.inl rfl) (Or.inl rfl)) (@Zai _ _ _ _ _ (@Zah _ _ 5 _ nd rfl (Or.inl rfl) (Or.inl rfl)) (@Zai _ _ _ _ _ (@Zah _ _ 6 _ nd rfl (Or.inl rfl) (Or.inl rfl)) (@Zba _) (by rfl)) (by rfl)) (by rfl)) (by rfl)) (by rfl) (by rfl))) (@Zab _ _ _ _ _ (@Zbf _ _ _ _ _ _ _ _ (Zal Zeh (pv 4) Zac (Zau _)) (@Zaf _ _ _ (@Zaj _ _ _ _ (@Zbd _ _ _ _ _ (@Zag _ _ _ _ _ (pv 1) (@Zag _ _ _ _ _ (@Zar _ _ _ _ _ _ _ _ Zob (pv 0) (pv 1)) Zaa (by rfl)) (by rfl))))) Zav) (@Zaf _ _ _ (@Zaj _ _ _ _ (@Zbd _ _ _ _ _ (@Zag _ _ _ _ _ (Zcj Zd0 rfl T.n_abs boot_abs (@Zag _ _ _ _ _ (@Zar _ _ _ _ _ _ _ _ Zc6 (@Zar _ _ _ _ _ _ _ _ Zbh (pv 3) (pv 0)) (@Zar _ _ _ _ _ _ _ _ Zbh (pv 4) (pv 1))) Zaa (by rfl))) (@Zag _ _ _ _ _ (Zcj Zd0 rfl T.n_abs boot_abs (@Zag _ _ _ _ _ (@Zar _ _ _ _ _ _ _ _ Zc6 (@Zar _ _ _ _ _ _ _ _ Zbh (pv 5) (pv 0)) (@Zar _ _ _ _ _ _ _ _ Zbh (pv 6) (pv 1))) Zaa (by rfl))) Zaa (by rfl)) (by rfl))))))))),?_⟩
  refine cut1 fun X hX=>?_
  walk_at "wp"
  have aft:∀ x y:Int,0<=y->y<=x->4000 < Builtin.Int.intBits x->4000 < Builtin.Int.intBits y->Bt NB1 x->Bt NB1 y->(∀ (u v:Int) (t:Addr) (H':Hp),Same H H'->H' t = some (.tup [.int u,.int v])->0<=u->0<=v->u + v < x + y->Int.gcd u v = Int.gcd x y->Q (.ref t) H')->
    X { nx:=fun x H'=>Q V.non H',rt:=Q } [some (.int x),some (.int y),none,none,none,none,none] H:=by
   intro x y y0 yx xb yb bx by' q
   subst hX
   walk_at "wp"
   have x0:0<=x:=by omega
   obtain ⟨b1,b2⟩:=Zry x0 rfl (show 126<=Builtin.Int.intBits x by omega)
   have en:((Builtin.Int.intBits x:Int) - 126).toNat = Builtin.Int.intBits x - 126:=by omega
   rw [en]
   have hS:(0:Int) < 2 ^ (Builtin.Int.intBits x - 126):=Int.pow_pos (by decide)
   generalize (2:Int) ^ (Builtin.Int.intBits x - 126) = S at *
   have yn:y ≠ 0:=fun z=>by
    subst z
    have:Builtin.Int.intBits 0 = 0:=rfl
    omega
   have hyx:y / S<=x / S:=Int.ediv_le_ediv hS yx
   refine ⟨rfl,by omega,by omega,_,_,rfl,b1,b2,Int.ediv_nonneg y0 (by omega),hyx,fun a b c d X' Y' t H1 s1 ht st=>?_⟩
   refine ⟨t,rfl,_,SqT.of ht,rfl,_,_,rfl,_,_,rfl,_,_,rfl,_,_,rfl,rfl,rfl,Zdy (fun hb=>?_) (fun hb=>?_)⟩
   ·refine ⟨yn,by decide,fun p hp=>?_⟩
    have f0:=Int.fmod_nonneg_of_pos x (show 0 < y by omega)
    have f1:=Int.fmod_lt_of_pos x (show 0 < y by omega)
    exact q _ _ p _ (s1.trans (Same.new hp)) Zad y0 f0 (by omega) (Zkb x y)
   ·have hb:b ≠ 0:=fun z=>hb (decide_eq_true (by rw [z]))
    obtain ⟨a1,a2⟩:=st.ab
    obtain ⟨c1,c2⟩:=st.cd b2 hyx
    have sm:∀ z:Int,z.natAbs < 4611686018427387904->Bt 127 z:=fun z hz=>Zls (by omega)
    have lt:=Zqk hS st b2 hyx hb y0 x0
    refine ⟨_,rfl,(sm a a1).ok bx (by decide),_,rfl,(sm b a2).ok by' (by decide),_,rfl,(sm c c1).ok bx (by decide),_,rfl,(sm d c2).ok by' (by decide),by decide,fun p hp=>?_⟩
    have ab:∀ z:Int,(if z < 0 then -z else z) = (z.natAbs:Int):=fun z=>by split <;> omega
    rw [ab,ab]
    refine q _ _ p _ (s1.trans (Same.new hp)) Zad (by omega) (by omega) (by omega) ?_
    obtain ⟨e,he,det,_⟩:=st.sg
    have eg:∀ u v:Int,Int.gcd (u.natAbs:Int) (v.natAbs:Int) = Int.gcd u v:=fun u v=>by simp [Int.gcd]
    rw [eg,Zrn (by rcases he with rfl | rfl <;> omega)]
  refine Zdy (fun hc=>?_) (fun hc=>?_)
  ·have hc:=of_decide_eq_true hc
   exact ⟨_,_,⟨rfl,rfl⟩,aft y x x0 (by omega) yb xb by' bx fun u v t H' s' ht u0 v0 huv hg=>q u v t H' s' ht u0 v0 (by omega) (by rw [hg,Int.gcd_comm])⟩
  ·have hc:¬ x < y:=fun z=>hc (decide_eq_true z)
   exact aft x y y0 (by omega) xb yb bx by' q
theorem Zkm {x y:Int} (h:x.natAbs<=y.natAbs):Builtin.Int.intBits x<=Builtin.Int.intBits y:=PySem.intBits_le_iff.mpr (Nat.lt_of_le_of_lt h (PySem.intBits_le_iff.mp (Nat.le_refl _)))
def spNbl:Sp:=fun vs H Q _=>∃ x y:Int,vs = [.int x,.int y]/\0<=x/\0<=y/\Bt NB x/\Bt NB y /\
 ∀ (u v:Int) (t:Addr) (H':Hp),Same H H'->H' t = some (.tup [.int u,.int v])->Int.gcd u v = Int.gcd x y->Q (.ref t) H'
theorem ok_nbl {f:Addr} {fd:FuncData} (F:Fun K "not_both_long" "not_both_long" Zbo f fd) (T:Txt K mg C) (C_shortened:Cal P w K mg base "shortened" 2 Zky):FnOk P w K mg base CX0 3 f fd ["one","other"] spNbl:=by
 have nd:=Zel.nd
 refine F.ok Zel (fun vs H Q E h=>?_) (fun cdv A outer s H vs Q E hr h=>?_)
 ·obtain ⟨x0,y0,rfl,_⟩:=h
  rfl
 ·obtain ⟨x,y,rfl,x0,y0,bx,by',q⟩:=h
  refine ⟨_,(@Zab _ _ _ _ _ (Zfs PassesOwn.never (Zal Zeu (Zn7 PySem.F.plainAttrs_int PySem.F.slot_int_bit_length PySem.F.type_int_bit_length Zlc (Zcj (Zpy rfl) rfl T.n_min boot_min (@Zag _ _ _ _ _ (pv 0) (@Zag _ _ _ _ _ (pv 1) Zaa (by rfl)) (by rfl)))) (Zgp rfl T.g_LONG) (Zau _)) (@Zaf _ _ _ (Zb2 (Zbb C_shortened hr.m rfl (@Zag _ _ _ _ _ (pv 0) (@Zag _ _ _ _ _ (pv 1) Zaa (by rfl)) (by rfl))) (@Zch _ _ _ _ _ 2 rfl (@Zai _ _ _ _ _ (@Zah _ _ 0 _ nd rfl (Or.inl rfl) (Or.inl rfl)) (@Zai _ _ _ _ _ (@Zah _ _ 1 _ nd rfl (Or.inl rfl) (Or.inl rfl)) (@Zba _) (by rfl)) (by rfl)) (by rfl) (by rfl))))) (@Zaf _ _ _ (@Zaj _ _ _ _ (@Zbd _ _ _ _ _ (@Zag _ _ _ _ _ (pv 0) (@Zag _ _ _ _ _ (pv 1) Zaa (by rfl)) (by rfl)))))),?_⟩
  walk_at "wp"
  refine ⟨fun n σ H2=>∃ u v:Int,σ = [some (.int u),some (.int v)]/\Same H H2/\n = (u + v).toNat/\0<=u/\0<=v/\u + v<=x + y/\Int.gcd u v = Int.gcd x y,⟨_,x,y,rfl,Same.refl _,rfl,x0,y0,Int.le_refl _,rfl⟩,?_⟩
  rintro n σ H2 ⟨u,v,rfl,s2,rfl,u0,v0,huv,hg⟩
  walk_at "wp"
  have hb:∀ z:Int,0<=z->z<=x + y->Bt NB1 z:=fun z z0 z1=>(Bt.add bx by').abs_le (by omega)
  refine ⟨_,_,⟨rfl,rfl⟩,rfl,Zdy (fun hc=>?_) (fun hc=>?_)⟩
  ·have hc:=of_decide_eq_true hc
   have bu:4000 < Builtin.Int.intBits u:=by
    by_cases h:v < u
    ·rw [if_pos h] at hc
     exact Nat.lt_of_lt_of_le (by omega) (Zkm (show v.natAbs<=u.natAbs by omega))
    ·rw [if_neg h] at hc
     omega
   have bv:4000 < Builtin.Int.intBits v:=by
    by_cases h:v < u
    ·rw [if_pos h] at hc
     omega
    ·rw [if_neg h] at hc
     exact Nat.lt_of_lt_of_le (by omega) (Zkm (show u.natAbs<=v.natAbs by omega))
   refine ⟨_,fun _ _ h=>h,u,v,rfl,u0,v0,bu,bv,hb u u0 (by omega),hb v v0 (by omega),fun u' v' t H3 s3 ht u0' v0' lt hg'=>⟨t,rfl,_,SqT.of ht,rfl,_,_,rfl,_,_,rfl,rfl,(u' + v').toNat,by omega,u',v',rfl,s2.trans s3,rfl,u0',v0',by omega,hg'.trans hg⟩⟩
  ·exact ⟨by decide,fun t ht=>q u v t _ (s2.trans (Same.new ht)) Zad hg⟩
def Zmv:Sp:=fun vs H Q _=>∃ a b:Int,vs = [.int a,.int b]/\Bt NB a/\Bt NB b/\∀ H',Same H H'->Q (.int (Int.gcd a b:Int)) H'
theorem ok_cdB {f:Addr} {fd:FuncData} (F:Fun K "common_divisor" "common_divisor" Zbm f fd) (T:Txt K mg C) (C_not_both_long:Cal P w K mg base "not_both_long" 3 spNbl):FnOk P w K mg base CX0 4 f fd ["one","other"] Zmv:=by
 have nd:=Zd3.nd
 refine F.ok Zd3 (fun vs H Q E h=>?_) (fun cdv A outer s H vs Q E hr h=>?_)
 ·obtain ⟨a,b,rfl,_⟩:=h
  rfl
 ·obtain ⟨a,b,rfl,ha,hb,q⟩:=h
  refine ⟨_,(@Zab _ _ _ _ _ (@Zbf _ _ _ _ _ _ _ _ (Zal Zeu (Zn7 PySem.F.plainAttrs_int PySem.F.slot_int_bit_length PySem.F.type_int_bit_length Zlc (pv 0)) (Zgp rfl T.g_LONG) (Zau _)) (@Zaf _ _ _ (Zb2 (Zbb C_not_both_long hr.m rfl (@Zag _ _ _ _ _ (Zcj Zd0 rfl T.n_abs boot_abs (@Zag _ _ _ _ _ (pv 0) Zaa (by rfl))) (@Zag _ _ _ _ _ (Zcj Zd0 rfl T.n_abs boot_abs (@Zag _ _ _ _ _ (pv 1) Zaa (by rfl))) Zaa (by rfl)) (by rfl))) (@Zch _ _ _ _ _ 2 rfl (@Zai _ _ _ _ _ (@Zah _ _ 0 _ nd rfl (Or.inl rfl) (Or.inl rfl)) (@Zai _ _ _ _ _ (@Zah _ _ 1 _ nd rfl (Or.inl rfl) (Or.inl rfl)) (@Zba _) (by rfl)) (by rfl)) (by rfl) (by rfl)))) Zav) (@Zab _ _ _ _ _ (Zfs PassesOwn.never (Zal Zfj (pv 1) Zac (Zau _)) (@Zaf _ _ _ (Zhd (i:=0) (j:=1) rfl nd rfl rfl (by decide) rfl rfl (@Zag _ _ _ _ _ (pv 1) (@Zag _ _ _ _ _ (@Zar _ _ _ _ _ _ _ _ Zob (pv 0) (pv 1)) Zaa (by rfl)) (by rfl)) rfl))) (@Zaf _ _ _ (@Zaj _ _ _ _ (Zcj Zd0 rfl T.n_abs boot_abs (@Zag _ _ _ _ _ (pv 0) Zaa (by rfl))))))),?_⟩
  refine cut1 fun X hX=>?_
  walk_at "wp"
  have aft:∀ (x y:Int) (H1:Hp),Same H H1->Int.gcd x y = Int.gcd a b->X { nx:=fun x H'=>Q V.non H',rt:=Q } [some (.int x),some (.int y)] H1:=by
   intro x y H1 s1 hg
   subst hX
   walk_at "wp"
   refine ⟨fun n σ H2=>∃ x y:Int,σ = [some (.int x),some (.int y)]/\H2 = H1/\n = y.natAbs/\Int.gcd x y = Int.gcd a b,⟨_,x,y,rfl,rfl,rfl,hg⟩,?_⟩
   rintro n σ H2 ⟨x,y,rfl,rfl,rfl,hg⟩
   walk_at "wp"
   refine Zdy (fun hc=>?_) (fun hc=>?_)
   ·have hy0:¬ y = 0:=by simpa using hc
    exact ⟨_,fun _ _ h=>h,hy0,_,_,⟨rfl,rfl⟩,(x.fmod y).natAbs,Zrp x hy0,y,x.fmod y,rfl,rfl,rfl,by rw [Zkb]; exact hg⟩
   ·have hy0:y = 0:=by simpa using hc
    subst hy0
    have e:(if x < 0 then -x else x) = (Int.gcd a b:Int):=by
     rw [<- hg,Int.gcd_zero]
     split <;> omega
    rw [e]
    exact q _ s1
  have ab:∀ z:Int,(if z < 0 then -z else z) = (z.natAbs:Int):=fun z=>by split <;> omega
  refine ⟨rfl,Zdy (fun hc=>?_) (fun hc=>aft a b H (Same.refl _) rfl)⟩
  rw [ab,ab]
  exact ⟨_,_,rfl,by omega,by omega,ha.abs_le (by simp),hb.abs_le (by simp),fun u v t H1 s1 ht hg=>⟨t,rfl,_,SqT.of ht,rfl,_,_,rfl,_,_,rfl,rfl,aft u v H1 s1 (by rw [hg]; simp [Int.gcd])⟩⟩
end
end Pf
namespace Pf
open PySem L2 L3 PyProof.Rows
section
variable {P:Program} {w:World} {K:PySem.W.Frag} {mg:Str->Option Value} {base:Heap} {C:Addr}
def nrS (a b:Int):Int × Int:=if b < 0 then nrm (-a) (-b) else nrm a b
theorem nrS_eq {a b:Int} (h:b ≠ 0):((a.fdiv (if b < 0 then -(Int.gcd a b:Int) else (Int.gcd a b:Int)),b.fdiv (if b < 0 then -(Int.gcd a b:Int) else (Int.gcd a b:Int))):Int × Int) = nrS a b:=by
 unfold nrS nrm
 by_cases hb:b < 0
 ·simp only [if_pos hb]
  have e1:∀ z g:Int,z.fdiv (-g) = (-z).fdiv g:=fun z g=>by rw [<- Int.neg_fdiv_neg (-z) g,Int.neg_neg]
  have e2:Int.gcd (-a) (-b) = Int.gcd a b:=by rw [Int.gcd_neg,Int.neg_gcd]
  rw [e1,e1,e2,Int.fdiv_eq_ediv_of_nonneg _ (by omega),Int.fdiv_eq_ediv_of_nonneg _ (by omega)]
 ·simp only [if_neg hb]
  rw [Int.fdiv_eq_ediv_of_nonneg _ (by omega),Int.fdiv_eq_ediv_of_nonneg _ (by omega)]
def Zk3:Sp:=fun vs H Q _=>∃ a b:Int,vs = [.int a,.int b]/\Bt NB a/\Bt NB b/\b ≠ 0/\∀ t H',Same H H'->H' t = some (.tup [.int (nrS a b).1,.int (nrS a b).2])->Q (.ref t) H'
theorem Zq6 {f:Addr} {fd:FuncData} (F:Fun K "fraction" "fraction" Zdn f fd) (T:Txt K mg C) (hpt:P.given.tree = none) (C_common_divisor:Cal P w K mg base "common_divisor" 4 Zmv):FnOk P w K mg base CX0 5 f fd ["top","bottom"] Zk3:=by
 have nd:=Zha.nd
 refine F.ok Zha (fun vs H Q E h=>?_) (fun cdv A outer s H vs Q E hr h=>?_)
 ·obtain ⟨a,b,rfl,_⟩:=h
  rfl
 ·obtain ⟨a,b,rfl,ha,hb,b0,q⟩:=h
  refine ⟨_,(@Zab _ _ _ _ _ (@Zbf _ _ _ _ _ _ _ _ (Zal Zeh (pv 1) Zac (Zau _)) (@Zaf _ _ _ Zgn) Zav) (@Zab _ _ _ _ _ (Zax (i:=2) nd rfl (Or.inl rfl) (Zbb C_common_divisor hr.m rfl (@Zag _ _ _ _ _ (pv 0) (@Zag _ _ _ _ _ (pv 1) Zaa (by rfl)) (by rfl)))) (@Zab _ _ _ _ _ (@Zbf _ _ _ _ _ _ _ _ (Zal Ziz (pv 1) Zac (Zau _)) (@Zaf _ _ _ (Zax (i:=2) nd rfl (Or.inl rfl) (Zgk Zek (pv 2)))) Zav) (@Zaf _ _ _ (@Zaj _ _ _ _ (@Zbd _ _ _ _ _ (@Zag _ _ _ _ _ (@Zar _ _ _ _ _ _ _ _ (Zcd hpt (Zbw hr)) (pv 0) (pv 2)) (@Zag _ _ _ _ _ (@Zar _ _ _ _ _ _ _ _ (Zcd hpt (Zbw hr)) (pv 1) (pv 2)) Zaa (by rfl)) (by rfl)))))))),?_⟩
  walk_at "wp"
  have Zhw:∀ {c A B:Prop} [Decidable c],¬ c->B->if c then A else B:=fun hc h=>by rw [if_neg hc]; exact h
  refine Zhw (by rw [decide_eq_false b0]; decide) ⟨a,b,rfl,ha,hb,fun H1 s1=>?_⟩
  have g0:0 < Int.gcd a b:=Int.gcd_pos_of_ne_zero_right _ b0
  have e:=nrS_eq (a:=a) b0
  refine Zdy (fun hc=>?_) (fun hc=>?_)
  ·have hc:=of_decide_eq_true hc
   rw [if_pos hc] at e
   refine ⟨_,rfl,by omega,by omega,by decide,fun t ht=>q t _ (s1.trans (Same.new ht)) ?_⟩
   rw [Zad,<- e]
  ·have hc:¬ b < 0:=fun z=>hc (decide_eq_true z)
   rw [if_neg hc] at e
   refine ⟨_,rfl,by omega,_,rfl,by omega,by decide,fun t ht=>q t _ (s1.trans (Same.new ht)) ?_⟩
   rw [Zad,<- e]
theorem Znz {b p:Int} (hp:Zey p) (h0:0 < b) (h1:b < p):Int.gcd b p = 1:=by
 have hd1:((Int.gcd b p:Nat):Int) ∣ b:=Int.gcd_dvd_left b p
 have hd2:((Int.gcd b p:Nat):Int) ∣ p:=Int.gcd_dvd_right b p
 have hle:=Int.le_of_dvd h0 hd1
 have hpos:0 < Int.gcd b p:=Int.gcd_pos_of_ne_zero_left _ (by omega)
 by_cases h:Int.gcd b p = 1
 ·exact h
 ·exact absurd (Int.emod_eq_zero_of_dvd hd2) (hp.2.2 _ (by omega) (by omega))
theorem inv_end {p z b c:Int} (h:p ∣ z * b - c):(z % p * b) % p = c % p:=by
 obtain ⟨k,hk⟩:=h
 have e:z % p * b = c + p * (k - z / p * b):=by rw [Int.emod_def]; grind
 rw [e,Int.add_mul_emod_self_left]
theorem Zmc {a b:Int} (ha:1<=a) (hb:0<=b):b<=a * b:=by
 have:=Int.mul_le_mul_of_nonneg_right ha hb
 omega
theorem Zpz {x:Int} (h:x.natAbs<=97):Bt 7 x:=Nat.lt_of_le_of_lt h (by decide)
def spInv:Sp:=fun vs H Q _=>∃ b p:Int,vs = [.int b,.int p]/\Zey p/\0 < b/\b < p/\∀ r H',Same H H'->0<=r->r < p->(r * b) % p = 1->Q (.int r) H'
theorem ok_inv {f:Addr} {fd:FuncData} (F:Fun K "inverse" "inverse" Zea f fd) (T:Txt K mg C):FnOk P w K mg base CX0 1 f fd ["rest","prime"] spInv:=by
 have nd:=Zia.nd
 refine F.ok Zia (fun vs H Q E h=>?_) (fun cdv A outer s H vs Q E hr h=>?_)
 ·obtain ⟨b,p,rfl,_⟩:=h
  rfl
 ·obtain ⟨b,p,rfl,hp,b0,b1,q⟩:=h
  have p1:=hp.1
  have p97:=hp.2.1
  refine ⟨_,(@Zab _ _ _ _ _ (Zhd (i:=2) (j:=3) rfl nd rfl rfl (by decide) rfl rfl (@Zag _ _ _ _ _ (pv 0) (@Zag _ _ _ _ _ (pv 1) Zaa (by rfl)) (by rfl)) rfl) (@Zab _ _ _ _ _ (Zb2 (@Zbd _ _ _ _ _ (@Zag _ _ _ _ _ Zac (@Zag _ _ _ _ _ Zac Zaa (by rfl)) (by rfl))) (@Zch _ _ _ _ _ 2 rfl (@Zai _ _ _ _ _ (@Zah _ _ 4 _ nd rfl (Or.inl rfl) (Or.inl rfl)) (@Zai _ _ _ _ _ (@Zah _ _ 5 _ nd rfl (Or.inl rfl) (Or.inl rfl)) (@Zba _) (by rfl)) (by rfl)) (by rfl) (by rfl))) (@Zab _ _ _ _ _ (Zfs PassesOwn.never (Zal Zeu (pv 2) Zac (Zau _)) (@Zab _ _ _ _ _ (Zax (i:=6) nd rfl (Or.inl rfl) (@Zar _ _ _ _ _ _ _ _ Zi0 (pv 3) (pv 2))) (@Zab _ _ _ _ _ (Zhd (i:=2) (j:=3) rfl nd rfl rfl (by decide) rfl rfl (@Zag _ _ _ _ _ (@Zar _ _ _ _ _ _ _ _ Zc5 (pv 3) (@Zar _ _ _ _ _ _ _ _ Zbh (pv 6) (pv 2))) (@Zag _ _ _ _ _ (pv 2) Zaa (by rfl)) (by rfl)) rfl) (@Zaf _ _ _ (Zhd (i:=4) (j:=5) rfl nd rfl rfl (by decide) rfl rfl (@Zag _ _ _ _ _ (@Zar _ _ _ _ _ _ _ _ Zc5 (pv 5) (@Zar _ _ _ _ _ _ _ _ Zbh (pv 6) (pv 4))) (@Zag _ _ _ _ _ (pv 4) Zaa (by rfl)) (by rfl)) rfl))))) (@Zaf _ _ _ (@Zaj _ _ _ _ (@Zar _ _ _ _ _ _ _ _ Zci (pv 4) (pv 1))))))),?_⟩
  walk_at "wp"
  refine ⟨_,_,⟨rfl,rfl⟩,by decide,fun t ht=>⟨_,SqT.of Zad,rfl,_,_,rfl,_,_,rfl,rfl,?_⟩⟩
  refine ⟨fun n σ H2=>∃ (lo hi lt ht':Int) (o:Option V),σ = [some (V.int b),some (V.int p),some (V.int lo),some (V.int hi),some (V.int lt),some (V.int ht'),o]/\H2 = upd H t (.tup [V.int 1,V.int 0])/\n = lo.toNat/\1<=lo/\lo < hi/\hi<=p/\Int.gcd lo hi = 1/\p ∣ lt * b - lo/\p ∣ ht' * b - hi /\
    ∃ u v:Int,0<=u/\0<=v/\lo * v + hi * u = p/\((lt = u/\ht' = -v)\/(lt = -u/\ht' = v)),
   ⟨_,b,p,1,0,none,rfl,rfl,rfl,by omega,b1,Int.le_refl _,Znz hp b0 b1,⟨0,by omega⟩,⟨-1,by omega⟩,1,0,by decide,by decide,by omega,.inl ⟨rfl,rfl⟩⟩,?_⟩
  rintro n σ H2 ⟨lo,hi,lt,ht',o,rfl,rfl,rfl,l1,l2,l3,hg,d1,d2,u,v,u0,v0,huv,hs⟩
  walk_at "wp"
  refine Zdy (fun hc=>?_) (fun hc=>?_)
  ·have hc:=of_decide_eq_true hc
   have hm:hi - hi / lo * lo = hi % lo:=by rw [Int.emod_def,Int.mul_comm lo]
   have m0:0<=hi / lo:=Int.ediv_nonneg (by omega) (by omega)
   have m1:hi / lo<=hi:=Int.ediv_le_self _ (by omega)
   have r0:=Int.emod_nonneg hi (show lo ≠ 0 by omega)
   have r1:=Int.emod_lt_of_pos hi (show 0 < lo by omega)
   have hg':Int.gcd (hi % lo) lo = 1:=by rw [Int.gcd_comm,Zmh,Int.gcd_comm]; exact hg
   have r2:1<=hi % lo:=by
    by_cases z:hi % lo = 0
    ·rw [z,Int.zero_gcd] at hg'
     omega
    ·omega
   have u1:=Zmc (a:=hi) (by omega) u0
   have v1:=Zmc (a:=lo) (by omega) v0
   have um:u<=97:=by omega
   have vm:v<=97:=by omega
   have e3:(hi - hi / lo * lo) * u + lo * (v + hi / lo * u) = p:=by rw [<- huv]; grind
   have mu:0<=hi / lo * u:=Int.mul_nonneg m0 u0
   refine ⟨_,fun _ _ h=>h,⟨by omega,by omega⟩,(Zpz (by omega)).ok (Zpz (by omega)) (by decide),_,_,⟨rfl,rfl⟩,(Zpz (by omega)).ok (Zpz (by rcases hs with ⟨h,_⟩ | ⟨h,_⟩ <;> omega)) (by decide),_,_,⟨rfl,rfl⟩,(hi % lo).toNat,by omega,
    hi - hi / lo * lo,lo,ht' - hi / lo * lt,lt,_,rfl,rfl,by rw [hm],by rw [hm]; exact r2,by rw [hm]; exact r1,by omega,by rw [hm]; exact hg',?_,d1,v + hi / lo * u,by omega,u,u0,e3,?_⟩
   ·have e:(ht' - hi / lo * lt) * b - (hi - hi / lo * lo) = (ht' * b - hi) - hi / lo * (lt * b - lo):=by grind
    rw [e]
    exact Int.dvd_sub d2 (Int.dvd_mul_of_dvd_right d1)
   ·rcases hs with ⟨h1,h2⟩ | ⟨h1,h2⟩
    ·subst h1 h2
     exact .inr ⟨by grind,rfl⟩
    ·subst h1 h2
     exact .inl ⟨by grind,rfl⟩
  ·have hc:¬ 1 < lo:=fun z=>hc (decide_eq_true z)
   have hl:lo = 1:=by omega
   subst hl
   refine ⟨by omega,q _ _ (Same.new ht) (Int.emod_nonneg _ (by omega)) (Int.emod_lt_of_pos _ (by omega)) ?_⟩
   rw [inv_end d1,Int.emod_eq_of_lt (by decide) p1]
def Zk0:Sp:=fun vs H Q E=>∃ a b p:Int,vs = [.int a,.int b,.int p]/\Zey p/\Bt NB a/\b % p ≠ 0/\∀ r H',Same H H'->0<=r->r < p->(r * b - a) % p = 0->Q (.int r) H'
theorem Zq3 {f:Addr} {fd:FuncData} (F:Fun K "rest_of" "rest_of" Zd4 f fd) (T:Txt K mg C) (C_inverse:Cal P w K mg base "inverse" 1 spInv):FnOk P w K mg base CX0 2 f fd ["top","bottom","prime"] Zk0:=by
 have nd:=Zh4.nd
 refine F.ok Zh4 (fun vs H Q E h=>?_) (fun cdv A outer s H vs Q E hr h=>?_)
 ·obtain ⟨a,b,p,rfl,_⟩:=h
  rfl
 ·obtain ⟨a,b,p,rfl,hp,ha,hb,q⟩:=h
  have p1:=hp.1
  have p97:=hp.2.1
  have b0:=Int.emod_nonneg b (show p ≠ 0 by omega)
  have b1:=Int.emod_lt_of_pos b (show 0 < p by omega)
  refine ⟨_,(@Zab _ _ _ _ _ (Zax (i:=3) nd rfl (Or.inl rfl) (@Zar _ _ _ _ _ _ _ _ Zci (pv 1) (pv 2))) (@Zab _ _ _ _ _ (@Zbf _ _ _ _ _ _ _ _ (Zal Zeh (pv 3) Zac (Zau _)) (@Zaf _ _ _ Zgn) Zav) (@Zaf _ _ _ (@Zaj _ _ _ _ (@Zar _ _ _ _ _ _ _ _ Zci (@Zar _ _ _ _ _ _ _ _ Zbh (pv 0) (Zbb C_inverse hr.m rfl (@Zag _ _ _ _ _ (pv 3) (@Zag _ _ _ _ _ (pv 2) Zaa (by rfl)) (by rfl)))) (pv 2)))))),?_⟩
  walk_at "wp"
  have Zhw:∀ {c A B:Prop} [Decidable c],¬ c->B->if c then A else B:=fun hc h=>by rw [if_neg hc]; exact h
  refine ⟨by omega,Zhw (by rw [decide_eq_false hb]; decide) ?_⟩
  refine ⟨_,p,rfl,hp,by omega,b1,fun r H' s' r0 r1 hr1=>⟨r,rfl,ha.ok (Zpz (by omega)) (by decide),by omega,q _ H' s' (Int.emod_nonneg _ (by omega)) (Int.emod_lt_of_pos _ (by omega)) ?_⟩⟩
  have k1:p ∣ r * (b % p) - 1:=Int.dvd_of_emod_eq_zero (by rw [Int.sub_emod,hr1,Int.emod_eq_of_lt (by decide) p1]; rfl)
  obtain ⟨k,hk⟩:=k1
  have e:(a * r % p) * b - a = p * (a * k + a * r * (b / p) - a * r / p * b):=by
   rw [Int.emod_def] at hk ⊢
   grind
  rw [e,Int.mul_emod_right]
structure IsQ (p a b:Int) (x:Int × Int):Prop where
 is:Isn p x
 fd:∀ (F:Type) [Lean.Grind.Field F],FdOk p F->(nm x:F) = ic a / ic b
 bt:∀ n:Nat,7<=n->Bt n a->Bt n b->Bt n x.1/\Bt n x.2
theorem Zmd {a b:Int} (b0:b ≠ 0):IsQ 0 a b (nrS a b):=by
 have key:∀ a b:Int,0 < b->IsQ 0 a b (nrm a b):=fun a b h=>by
  refine ⟨.inl ⟨rfl,?_⟩,fun F _ hF=>hF.nrmF rfl h,fun n _ ha hb=>?_⟩
  ·exact Zok h
  ·have g0:=Zdd (a:=a) h
   exact ⟨ha.quo (Int.gcd_dvd_left ..),hb.quo (Int.gcd_dvd_right ..)⟩
 unfold nrS
 by_cases h:b < 0
 ·rw [if_pos h]
  obtain ⟨h1,h2,h3⟩:=key (-a) (-b) (by omega)
  refine ⟨h1,fun F _ hF=>?_,fun n h7 ha hb=>h3 n h7 ha.neg hb.neg⟩
  rw [h2 F hF,Zka,Zka]
  have:(ic b:F) ≠ 0:=hF.ne0 (.inl rfl) b0
  grind
 ·rw [if_neg h]
  exact key a b (by omega)
theorem Zo4 {p a b r:Int} (hp:Zey p) (hb:b % p ≠ 0) (r0:0<=r) (r1:r < p) (h:(r * b - a) % p = 0):IsQ p a b (r,1):=by
 have p1:=hp.1
 have p97:=hp.2.1
 refine ⟨.inr ⟨by omega,r0,r1,rfl⟩,fun F _ hF=>?_,fun n h7 _ _=>⟨Za5 h7 (by show r.natAbs < 128; omega),Za5 h7 (by show (1:Int).natAbs < 128; decide)⟩⟩
 have e1:(ic b:F) ≠ 0:=by
  rw [<- hF.modF (by omega)]
  exact hF.ne0 (.inr ⟨Int.emod_nonneg _ (by omega),Int.emod_lt_of_pos _ (by omega)⟩) hb
 have e2:(ic (r * b - a):F) = 0:=by rw [<- hF.modF (by omega),h,Zfm]
 rw [Zpc,Zcn] at e2
 rw [hF.one]
 grind
def Zh0 (C:Addr):Sp:=fun vs H Q _=>∃ (g:Addr) (p a b:Int),vs = [.ref g,.int a,.int b]/\GAt C H g p/\GroundP p/\Bt NB a/\Bt NB b/\(p = 0->b ≠ 0)/\(p ≠ 0->b % p ≠ 0)/\∀ v x H',Same H H'->NumV H' p v x->IsQ p a b x->Q v H'
theorem Zod {f D:Addr} {fd:FuncData} (F:FunD K "number" "Ground.number" Zaz f fd D) (T:Txt K mg C) (C_fraction:Cal P w K mg base "fraction" 5 Zk3) (C_rest_of:Cal P w K mg base "rest_of" 2 Zk0):FnOk P w K mg base CX0 6 f fd ["self","top","bottom"] (Zh0 C):=by
 have nd:=Zen.nd
 refine F.ok Zen (fun vs H Q E h=>?_) (fun cdv A outer s H vs Q E hr h=>?_)
 ·obtain ⟨g,p,a,b,rfl,_⟩:=h
  rfl
 ·obtain ⟨g,p,a,b,rfl,⟨dx,hg⟩,hp,ha,hb,h0,h1,q⟩:=h
  refine ⟨_,(@Zab _ _ _ _ _ (@Zbf _ _ _ _ _ _ _ _ (Zal Zeh (Zhf (pv 0) rfl) Zac (Zau _)) (@Zaf _ _ _ (@Zaj _ _ _ _ (Zbb C_fraction hr.m rfl (@Zag _ _ _ _ _ (pv 1) (@Zag _ _ _ _ _ (pv 2) Zaa (by rfl)) (by rfl))))) Zav) (@Zaf _ _ _ (@Zaj _ _ _ _ (Zbb C_rest_of hr.m rfl (@Zag _ _ _ _ _ (pv 1) (@Zag _ _ _ _ _ (pv 2) (@Zag _ _ _ _ _ (Zhf (pv 0) rfl) Zaa (by rfl)) (by rfl)) (by rfl)))))),?_⟩
  walk_at "wp"
  refine ⟨C,dx,_,hg,T.cl_Ground,T.nP,_,Zcy p,rfl,Zdy (fun hc=>?_) (fun hc=>?_)⟩
  ·have hp0:p = 0:=by simpa using hc
   subst hp0
   exact ⟨a,b,rfl,ha,hb,h0 rfl,fun t H' s' ht=>q _ _ _ s' (NumV.tup rfl ht) (Zmd (h0 rfl))⟩
  ·have hp0:¬ p = 0:=by simpa using hc
   have hp1:Zey p:=hp.resolve_left hp0
   exact ⟨C,dx,_,hg,T.cl_Ground,T.nP,_,Zcy p,a,b,p,rfl,hp1,ha,h1 hp0,fun r H' s' r0 r1 hr=>q _ (r,1) H' s' (NumV.of (x:=(r,1)) hp0) (Zo4 hp1 (h1 hp0) r0 r1 hr)⟩
def spCmB:Sp:=fun vs H Q _=>∃ a b:Int,vs = [.int a,.int b]/\0 < a/\0 < b/\Bt NB a/\Bt NB b/\∀ m H',Same H H'->0 < m->a ∣ m->b ∣ m->m<=a * b->Q (.int m) H'
theorem ok_cmB {f:Addr} {fd:FuncData} (F:Fun K "common_multiple" "common_multiple" Zbj f fd) (T:Txt K mg C) (hpt:P.given.tree = none) (C_common_divisor:Cal P w K mg base "common_divisor" 4 Zmv):FnOk P w K mg base CX0 5 f fd ["one","other"] spCmB:=by
 have nd:=Zdv.nd
 refine F.ok Zdv (fun vs H Q E h=>?_) (fun cdv A outer s H vs Q E hr h=>?_)
 ·obtain ⟨a,b,rfl,_⟩:=h
  rfl
 ·obtain ⟨a,b,rfl,ha,hb,ta,tb,q⟩:=h
  refine ⟨_,(@Zaf _ _ _ (@Zaj _ _ _ _ (@Zar _ _ _ _ _ _ _ _ Zbh (@Zar _ _ _ _ _ _ _ _ (Zcd hpt (Zbw hr)) (pv 0) (Zbb C_common_divisor hr.m rfl (@Zag _ _ _ _ _ (pv 0) (@Zag _ _ _ _ _ (pv 1) Zaa (by rfl)) (by rfl)))) (pv 1)))),?_⟩
  walk_at "wp"
  have g0:=Zdd (a:=a) hb
  have e1:a / (Int.gcd a b:Int) * (Int.gcd a b:Int) = a:=Int.ediv_mul_cancel (Int.gcd_dvd_left ..)
  obtain ⟨k,hk⟩:(Int.gcd a b:Int) ∣ b:=Int.gcd_dvd_right ..
  have dpos:0 < a / (Int.gcd a b:Int):=by
   rcases Int.lt_trichotomy 0 (a / (Int.gcd a b:Int)) with h | h | h
   ·exact h
   ·rw [<- h,Int.zero_mul] at e1; omega
   ·have:=Int.mul_neg_of_neg_of_pos h g0; omega
  have bd:Bt NB (a / (Int.gcd a b:Int)):=ta.quo (Int.gcd_dvd_left ..)
  have dle:(a / (Int.gcd a b:Int)).natAbs<=a.natAbs:=Zc0 a g0 (Int.gcd_dvd_left ..)
  refine ⟨a,b,rfl,ta,tb,fun H' s'=>⟨_,rfl,by omega,?_⟩⟩
  rw [Zc2 g0]
  refine ⟨bd.ok tb (by decide),q _ _ s' (Int.mul_pos dpos hb) ⟨k,?_⟩ ⟨_,Int.mul_comm ..⟩ (Int.mul_le_mul_of_nonneg_right (by omega) (by omega))⟩
  generalize (Int.gcd a b:Int) = g at *
  generalize a / g = d at *
  rw [hk,<- e1,Int.mul_assoc]
abbrev HB:Nat:=33500000
def RowZ (H:Hp) (a:Addr) (zs:List Int):Prop:=H a = some (.lst (zs.map V.int))
theorem RowZ.same {H H':Hp} {a:Addr} {zs:List Int} (h:RowZ H a zs) (s:Same H H'):RowZ H' a zs:=s _ _ h
theorem RowZ.put {H:Hp} {D:Addr} {o:HO} {a:Addr} {zs:List Int} (h:RowZ H a zs) (n:a ≠ D):RowZ (upd H D o) a zs:=by unfold RowZ; rw [Zap n]; exact h
theorem Zfw {a b D:Addr} {xs ys:List V} {fr:List (Str × Nat)} {σ:L2.St} {te:TE} {H1:Hp} {Q:VK} (R:Nat->Hp->V->Prop) (hS:∀ {i H H' y},R i H y->Same H H'->R i H' y) (hP:∀ {i H y l o},R i H y->H D = some (.lst l)->R i (upd H D o) y)
  (ha:H1 a = some (.lst xs)) (hb:H1 b = some (.lst ys)) (hlen:ys.length = xs.length) (hD:H1 D = none) (hn:xs.length<=1000)
  (h:∀ (i:Nat) x y H (Q:VK),xs[i]? = some x->ys[i]? = some y->Same H1 H->(∃ l,H D = some (.lst l))->(∀ u H',Same H H'->R i H' u->Q u H')->te (some x :: some y :: Zcb fr σ) H Q)
  (hQ:∀ zs H',Same H1 H'->H' D = some (.lst zs)->zs.length = xs.length->(∀ (i:Nat) y,zs[i]? = some y->R i H' y)->Q (.ref D) H'):Zcl (gTup K 2 (Zkc (Zc8 0) (Zkc (Zc8 1) gNil))) Zht te (Itz K a b) D (Zgt 2 fr σ) H1 Q:=by
 refine Zmk (xs:=xs) (ys:=ys) (fun i vs H=>Same H1 H/\H D = some (.lst vs)/\vs.length = i/\∀ (j:Nat) y,vs[j]? = some y->R j H y) hlen ⟨Same.new hD,Zad,rfl,fun j y e=>by simp at e⟩ (fun i vs H _ p=>⟨SqL.of (p.1 _ _ ha),SqL.of (p.1 _ _ hb)⟩) ?_ (fun vs H ⟨s,e,hl,hr⟩=>hQ vs H s e hl hr)
 rintro i x y p vs σ' H hi hx hy hp sh ⟨s,e,hl,hr⟩
 obtain ⟨z1,z2,rfl⟩:=sh.two
 have s0:=Same.new (o:=.tup [x,y]) hp
 refine ⟨p,_,rfl,SqT.of Zad,rfl,_,_,rfl,_,_,rfl,rfl,?_⟩
 simp only [Zht,List.set_cons_zero,List.set_cons_succ,if_true]
 refine h i x y _ _ hx hy (s.trans s0) ⟨_,s0 _ _ e⟩ fun u H' s' ru=>?_
 have s1:=s0.trans s'
 refine Zox (ws:=vs ++ [u]) hi Sh.mk2 (s1 _ _ e) (Za2 (by omega)) ⟨(s.trans s1).upd hD,Zad,by rw [List.length_append,hl]; rfl,fun j v hv=>?_⟩
 by_cases hj:j < vs.length
 ·rw [List.getElem?_append_left hj] at hv
  exact hP (hS (hr j v hv) s1) (s1 _ _ e)
 ·rw [List.getElem?_append_right (by omega)] at hv
  have hj0:j - vs.length = 0:=by
   by_cases z:j - vs.length = 0
   ·exact z
   ·rw [List.getElem?_eq_none (by simp; omega)] at hv; cases hv
  rw [hj0] at hv
  cases hv
  rw [show j = i by omega]
  exact hP ru (s1 _ _ e)
theorem Zqp {H:Hp} {p:Int} {vs:List V} {xs:List Nv} (hp:p ≠ 0) (h:All2 (NumV H p) vs xs):vs = (xs.map fun x=>x.1).map V.int:=by
 apply List.ext_getElem?
 intro i
 have hl:=h.1
 by_cases hi:i < vs.length
 ·have e2:xs[i]? = some (xs[i]'(by omega)):=List.getElem?_eq_getElem _
  have:=(h.2 i _ _ (List.getElem?_eq_getElem hi) e2).int hp
  rw [List.getElem?_eq_getElem hi,this,List.getElem?_map,List.getElem?_map,e2]
  rfl
 ·rw [List.getElem?_eq_none (by omega),List.getElem?_eq_none (by simp; omega)]
structure WRz (p:Int) (xs:List Nv) (zs:List Int) (b:Int):Prop where
 len:zs.length = xs.length
 pos:0 < b
 one:p ≠ 0->b = 1
 eq:∀ i,zs.getD i 0 * (xs.getD i (0,1)).2 = (xs.getD i (0,1)).1 * b
def Zce (p:Int) (k:Nat) (xs:List Nv):Prop:=∀ x ∈ xs,Isn p x/\Bt k x.1/\Bt k x.2
def spWrZ (C:Addr):Sp:=fun vs H Q _=>∃ (g a:Addr) (p:Int) (xs:List Nv) (k:Nat),vs = [.ref g,.ref a]/\GAt C H g p/\GroundP p/\RowV H p a xs/\xs.length<=900/\Zce p k xs/\1<=k/\(xs.length + 1) * k<=NB /\
 ∀ (t l:Addr) (zs:List Int) (b:Int) H',Same H H'->H l = none->H' t = some (.tup [.ref l,.int b])->RowZ H' l zs->WRz p xs zs b->SmallR ((xs.length + 1) * k) zs->Bt ((xs.length + 1) * k) b->Q (.ref t) H'
theorem ok_wrZ {f:Addr} {fd:FuncData} (F:Fun K "whole_row" "whole_row" Zcp f fd) (T:Txt K mg C) (hpt:P.given.tree = none) (C_common_multiple:Cal P w K mg base "common_multiple" 5 spCmB):FnOk P w K mg base CX0 6 f fd ["ground","row"] (spWrZ C):=by
 have nd:=Zf7.nd
 refine F.ok Zf7 (fun vs H Q E h=>?_) (fun cdv A outer s H vs Q E hr h=>?_)
 ·obtain ⟨g,a,p,xs,k,rfl,_⟩:=h
  rfl
 ·obtain ⟨g,a,p,xs,k,rfl,⟨dx,hg⟩,hp,⟨vs,hv,al⟩,xl,gd,k1,kb,q⟩:=h
  have vl:=al.1
  refine ⟨_,(@Zab _ _ _ _ _ (@Zbf _ _ _ _ _ _ _ _ (Zal Zfj (Zhf (pv 0) rfl) Zac (Zau _)) (@Zaf _ _ _ (@Zaj _ _ _ _ (@Zbd _ _ _ _ _ (@Zag _ _ _ _ _ (Zqw Zgg rfl T.n_list boot_list (@Zag _ _ _ _ _ (pv 1) Zaa (by rfl))) (@Zag _ _ _ _ _ Zac Zaa (by rfl)) (by rfl))))) Zav) (@Zab _ _ _ _ _ (Zax (i:=2) nd rfl (Or.inr rfl) Zac) (@Zab _ _ _ _ _ (Zc3 PassesOwn.never rfl (Zbt (pv 1)) (@Zah _ _ 3 _ nd rfl (Or.inl rfl) (Or.inl rfl)) (@Zaf _ _ _ (Zax (i:=2) nd rfl (Or.inr rfl) (Zbb C_common_multiple hr.m rfl (@Zag _ _ _ _ _ (pv 2) (@Zag _ _ _ _ _ (@Zat _ _ _ _ _ _ _ Zaw (pv 3) Zac (fun _ _=>rfl)) Zaa (by rfl)) (by rfl)))))) (@Zaf _ _ _ (@Zaj _ _ _ _ (@Zbd _ _ _ _ _ (@Zag _ _ _ _ _ (Zbg (own:=["number"]) (fr:=[("bottom",2)]) rfl (Zck (by kernel_rfl)) (Zbt (pv 1)) (fun _ _ _ _=>⟨(@Zah _ _ 0 _ (show (["number","bottom"]:List Str).Nodup by decide +kernel) rfl (Or.inl rfl) (Or.inr rfl)),Za9,(@Zar _ _ _ _ _ _ _ _ Zbh (@Zat _ _ _ _ _ _ _ (Zli K rfl) (pv 0) Zac (fun _ _=>rfl)) (@Zar _ _ _ _ _ _ _ _ (Zcd hpt (Zbw hr)) (pv 1) (@Zat _ _ _ _ _ _ _ (Zli K rfl) (pv 0) Zac (fun _ _=>rfl))))⟩)) (@Zag _ _ _ _ _ (pv 2) Zaa (by rfl)) (by rfl)))))))),?_⟩
  walk_at "wp"
  refine ⟨C,dx,_,hg,T.cl_Ground,T.nP,_,Zcy p,rfl,Zdy (fun hc=>?_) (fun hc=>?_)⟩
  ·have hp0:¬ p = 0:=by simpa using hc
   refine ⟨_,.inl (SqL.of hv),fun l hl=>⟨by decide,fun t ht=>?_⟩⟩
   have s1:=Same.new (o:=.lst vs) hl
   have s2:=Same.new (o:=.tup [V.ref l,V.int 1]) ht
   have ev:=Zqp hp0 al
   refine q t l (xs.map fun x=>x.1) 1 _ (s1.trans s2) hl Zad (by show upd (upd H l (.lst vs)) t _ l = _; rw [s2 _ _ Zad,ev]) ⟨by rw [List.length_map],by decide,fun _=>rfl,fun i=>?_⟩ (fun z hz=>?_) (by
    show (1:Int).natAbs < 2 ^ _
    exact Nat.one_lt_two_pow (by rw [Nat.add_mul]; omega))
   ·rw [List.getD_eq_getElem?_getD,List.getD_eq_getElem?_getD,List.getElem?_map]
    cases e:xs[i]? with
    | none=>rfl
    | some x=>
     rcases (gd _ (List.mem_of_getElem? e)).1 with ⟨h,_⟩ | ⟨_,_,_,h⟩
     ·exact absurd h hp0
     ·show x.1 * x.2 = x.1 * 1
      rw [h]
   ·obtain ⟨x,hx,rfl⟩:=List.mem_map.mp hz
    refine (gd x hx).2.1.le ?_
    rw [Nat.add_mul]
    omega
  ·have hp0:p = 0:=by simpa using hc
   refine ⟨_,rfl,a,rfl,⟨_,SqL.of hv⟩,Zfu (xs:=vs) (fun i σ H2=>∃ (v3:Option V) (b:Int),σ = [some (.ref g),some (.ref a),some (.int b),v3]/\Same H H2/\0 < b/\b.natAbs<=2 ^ (i * k)/\∀ j,j < i->(xs.getD j (0,1)).2 ∣ b)
    ⟨none,1,rfl,Same.refl _,by decide,by simp,fun j hj=>by omega⟩ (fun i σ H2 _ ⟨_,_,_,e,_⟩=>SqL.of (e _ _ hv)) ?_ ?_⟩
   ·rintro i x σ H2 hi ⟨v3,b,rfl,s2,b0,bB,dv⟩
    obtain ⟨y,ey,hy⟩:=al.at' hi
    obtain ⟨ty,rfl,hty⟩:=hy.ref hp0
    obtain ⟨iy,by1,by2⟩:=gd y (List.mem_of_getElem? ey)
    have hil:i < vs.length:=(List.getElem?_eq_some_iff.mp hi).1
    have kik:i * k + k<=(xs.length + 1) * k:=by
     rw [show i * k + k = (i + 1) * k by rw [Nat.add_mul,Nat.one_mul]]
     exact Nat.mul_le_mul (by omega) (Nat.le_refl _)
    have bT:Bt NB b:=Nat.lt_of_le_of_lt bB (Nat.pow_lt_pow_right (by decide) (by omega))
    have yT:Bt NB y.2:=by2.le (by omega)
    walk_at "wp"
    refine ⟨_,SqT.of (s2 _ _ hty),_,rfl,b,y.2,rfl,b0,iy.pos,bT,yT,fun m H3 s3 m0 d1 d2 ml=>⟨_,m,⟨rfl,rfl⟩,s2.trans s3,m0,?_,fun j hj=>?_⟩⟩
    ·have h1:(b * y.2).natAbs<=2 ^ (i * k) * 2 ^ k:=Zay bB (Nat.le_of_lt by2)
     rw [Nat.add_mul,Nat.one_mul,Nat.pow_add]
     omega
    ·by_cases h:j = i
     ·subst h; rw [Zak ey]; exact d2
     ·exact Int.dvd_trans (dv j (by omega)) d1
   ·rintro σ H2 ⟨v3,b,rfl,s2,b0,bB,dv⟩
    rw [vl] at bB dv
    walk_at "wp"
    refine ⟨_,rfl,a,rfl,⟨_,SqL.of (s2 _ _ hv)⟩,fun D hD=>Zhp (fun i=>(xs.getD i (0,1)).1 * (b / (xs.getD i (0,1)).2)) (s2 _ _ hv) hD (by omega) (fun i x H' Q' hx s' q'=>?_) fun H1 s1 e1=>?_⟩
    ·obtain ⟨y,ey,hy⟩:=al.at' hx
     obtain ⟨ty,rfl,hty⟩:=hy.ref hp0
     obtain ⟨iy,by1,by2⟩:=gd y (List.mem_of_getElem? ey)
     have hil:i < vs.length:=(List.getElem?_eq_some_iff.mp hx).1
     have d2:=dv i (by omega)
     have q2:=q' H' (Same.refl _)
     rw [Zak ey] at d2 q2
     have hty':=(s2.trans s') _ _ hty
     have bT:Bt NB b:=Nat.lt_of_le_of_lt bB (Nat.pow_lt_pow_right (by decide) (by rw [Nat.add_mul] at kb; omega))
     have fe:=Zc2 (i:=b) iy.pos
     refine ⟨_,rfl,ty,_,_,_,rfl,rfl,SqT.of hty',rfl,_,rfl,_,rfl,ty,_,_,_,rfl,rfl,SqT.of hty',rfl,_,_,rfl,rfl,(by have:=iy.pos; omega),_,_,rfl,rfl,?_,?_⟩
     ·rw [fe]
      exact (by1.le (m:=NB) (by rw [Nat.add_mul] at kb; omega)).ok (bT.quo d2) (by decide)
     ·rw [fe]
      exact q2
    ·rw [vl] at e1
     refine ⟨by decide,fun t ht=>?_⟩
     have s3:=Same.new (o:=.tup [V.ref D,V.int b]) ht
     refine q t D ((List.range xs.length).map fun i=>(xs.getD i (0,1)).1 * (b / (xs.getD i (0,1)).2)) b _ ((s2.trans s1).trans s3) (s2.free hD) Zad (s3 _ _ e1) ⟨by rw [List.length_map,List.length_range],b0,fun h=>absurd hp0 h,fun i=>?_⟩ (fun z hz=>?_) (Nat.lt_of_le_of_lt bB (Nat.pow_lt_pow_right (by decide) (by rw [Nat.add_mul]; omega)))
     ·rw [List.getD_eq_getElem?_getD,List.getElem?_map]
      by_cases hi:i < xs.length
      ·have e:xs[i]? = some xs[i]:=List.getElem?_eq_getElem hi
       have d2:=dv i hi
       rw [List.getElem?_range hi]
       show (xs.getD i (0,1)).1 * (b / (xs.getD i (0,1)).2) * (xs.getD i (0,1)).2 = _
       rw [Int.mul_assoc,Int.ediv_mul_cancel d2]
      ·rw [List.getElem?_eq_none (by simp; omega),List.getD_eq_getElem?_getD,List.getElem?_eq_none (by omega)]
       simp
     ·obtain ⟨i,hi,rfl⟩:=List.mem_map.mp hz
      have hi:=List.mem_range.mp hi
      have e:xs[i]? = some xs[i]:=List.getElem?_eq_getElem hi
      have d2:=dv i hi
      rw [Zak e] at d2 ⊢
      obtain ⟨iy,by1,by2⟩:=gd _ (List.getElem_mem hi)
      have h1:(b / xs[i].2).natAbs<=b.natAbs:=Zc0 b iy.pos d2
      have h2:=Zay (Nat.le_refl xs[i].1.natAbs) (Nat.le_trans h1 bB)
      show (xs[i].1 * (b / xs[i].2)).natAbs < 2 ^ ((xs.length + 1) * k)
      rw [Nat.add_mul,Nat.one_mul,Nat.pow_add,Nat.mul_comm]
      exact Nat.lt_of_le_of_lt h2 (Nat.mul_lt_mul_of_pos_right by1 (Nat.two_pow_pos _))
theorem Zfl {zs:List Int} {i:Nat} {x:V} (h:(zs.map V.int)[i]? = some x):∃ z,zs[i]? = some z/\x = .int z:=by
 rw [List.getElem?_map] at h
 cases e:zs[i]? with
 | none=>rw [e] at h; cases h
 | some z=>rw [e] at h; cases h; exact ⟨z,rfl,rfl⟩
theorem Zhc {zs:List Int} (f:Int->Int):(List.range zs.length).map (fun i=>f (zs.getD i 0)) = zs.map f:=by
 apply List.ext_getElem?
 intro i
 rw [List.getElem?_map,List.getElem?_map]
 by_cases hi:i < zs.length
 ·rw [List.getElem?_range hi,List.getElem?_eq_getElem hi]
  show some (f (zs.getD i 0)) = some (f zs[i])
  rw [Zak (List.getElem?_eq_getElem hi)]
 ·rw [List.getElem?_eq_none (by simp; omega),List.getElem?_eq_none (by omega)]
  rfl
def Zl0 (C:Addr):Sp:=fun vs H Q _=>∃ (g a:Addr) (p:Int) (zs:List Int),vs = [.ref g,.ref a]/\GAt C H g p/\GroundP p/\RowZ H a zs/\zs.length<=900/\(p = 0->SmallR NB zs) /\
 ∀ (a':Addr) H',Same H H'->RowZ H' a' (Zds p zs)->(a' = a\/H a' = none)->Q (.ref a') H'
theorem ok_tidy {f:Addr} {fd:FuncData} (F:Fun K "tidied" "tidied" Ze3 f fd) (T:Txt K mg C) (hpt:P.given.tree = none) (C_common_divisor:Cal P w K mg base "common_divisor" 4 Zmv):FnOk P w K mg base CX0 5 f fd ["ground","row"] (Zl0 C):=by
 have nd:=Zjt.nd
 refine F.ok Zjt (fun vs H Q E h=>?_) (fun cdv A outer s H vs Q E hr h=>?_)
 ·obtain ⟨g,a,p,zs,rfl,_⟩:=h
  rfl
 ·obtain ⟨g,a,p,zs,rfl,⟨dx,hg⟩,hp,rz,zl,sm,q⟩:=h
  refine ⟨_,(@Zab _ _ _ _ _ (@Zbf _ _ _ _ _ _ _ _ (Zal Zfj (Zhf (pv 0) rfl) Zac (Zau _)) (@Zaf _ _ _ (@Zaj _ _ _ _ (Zbg (own:=["number"]) (fr:=[("ground",0)]) rfl (Zck (by kernel_rfl)) (Zbt (pv 1)) (fun _ _ _ _=>⟨(@Zah _ _ 0 _ (show (["number","ground"]:List Str).Nodup by decide +kernel) rfl (Or.inl rfl) (Or.inr rfl)),Za9,(@Zar _ _ _ _ _ _ _ _ Zci (pv 0) (pe_fldK K rfl (pv 1) rfl))⟩)))) Zav) (@Zab _ _ _ _ _ (Zax (i:=2) nd rfl (Or.inr rfl) Zac) (@Zab _ _ _ _ _ (Zc3 PassesOwn.never rfl (Zbt (pv 1)) (@Zah _ _ 3 _ nd rfl (Or.inl rfl) (Or.inl rfl)) (@Zab _ _ _ _ _ (Zax (i:=2) nd rfl (Or.inr rfl) (Zbb C_common_divisor hr.m rfl (@Zag _ _ _ _ _ (pv 3) (@Zag _ _ _ _ _ (pv 2) Zaa (by rfl)) (by rfl)))) (@Zaf _ _ _ (@Zbf _ _ _ _ _ _ _ _ (Zal Zeh (pv 2) Zac (Zau _)) (@Zaf _ _ _ (@Zaj _ _ _ _ (pv 1))) Zav)))) (@Zab _ _ _ _ _ (@Zbf _ _ _ _ _ _ _ _ (Zal Zeh (pv 2) Zac (Zau _)) (@Zaf _ _ _ (@Zaj _ _ _ _ (pv 1))) Zav) (@Zaf _ _ _ (@Zaj _ _ _ _ (Zbg (own:=["number"]) (fr:=[("divisor",2)]) rfl (Zck (by kernel_rfl)) (Zbt (pv 1)) (fun _ _ _ _=>⟨(@Zah _ _ 0 _ (show (["number","divisor"]:List Str).Nodup by decide +kernel) rfl (Or.inl rfl) (Or.inr rfl)),Za9,(@Zar _ _ _ _ _ _ _ _ (Zcd hpt (Zbw hr)) (pv 0) (pv 1))⟩)))))))),?_⟩
  walk_at "wp"
  refine ⟨C,dx,_,hg,T.cl_Ground,T.nP,_,Zcy p,rfl,Zdy (fun hc=>?_) (fun hc=>?_)⟩
  ·have hp0:¬ p = 0:=by simpa using hc
   have p0:=hp.lo
   refine ⟨_,rfl,a,rfl,⟨_,SqL.of rz⟩,fun D hD=>Zhp (fun i=>zs.getD i 0 % p) rz hD (by rw [List.length_map]; omega) (fun i x H' Q' hx s' q'=>?_) fun H1 s1 e1=>?_⟩
   ·obtain ⟨z,ez,rfl⟩:=Zfl hx
    have q2:=q' H' (Same.refl _)
    rw [Zak ez] at q2
    simp only [Zcb]
    walk_at "wp"
    exact ⟨_,rfl,_,rfl,C,dx,_,s' _ _ hg,T.cl_Ground,T.nP,_,Zcy p,_,rfl,by omega,q2⟩
   ·rw [List.length_map,Zhc (· % p)] at e1
    refine q D H1 s1 ?_ (.inr hD)
    unfold Zds
    rw [if_neg hp0]
    exact e1
  ·have hp0:p = 0:=by simpa using hc
   have sm:=sm hp0
   refine ⟨_,rfl,a,rfl,⟨_,SqL.of rz⟩,Zfu (xs:=zs.map V.int) (fun i σ H2=>∃ (v3:Option V),σ = [some (.ref g),some (.ref a),some (.int (gcdL (zs.take i):Nat)),v3]/\Same H H2/\Bt NB (gcdL (zs.take i):Nat))
    ⟨none,rfl,Same.refl _,Zhq _⟩ (fun i σ H2 _ ⟨_,_,e,_⟩=>SqL.of (e _ _ rz)) ?_ ?_⟩
   ·rintro i x σ H2 hi ⟨v3,rfl,s2,bg⟩
    obtain ⟨z,ez,rfl⟩:=Zfl hi
    walk_at "wp"
    have eg:=Zpi ez
    have bz:=sm z (List.mem_of_getElem? ez)
    refine ⟨z,_,rfl,bz,bg,fun H3 s3=>?_⟩
    rw [<- eg]
    refine ⟨rfl,Zdy (fun hc=>?_) (fun hc=>?_)⟩
    ·have hc:(gcdL (zs.take (i + 1)):Int) = 1:=by simpa using hc
     have h1:gcdL zs = 1:=Nat.dvd_one.mp (by have:=Zph zs (i + 1); rwa [show gcdL (zs.take (i + 1)) = 1 by omega] at this)
     refine q a H3 (s2.trans s3) ?_ (.inl rfl)
     subst hp0
     rw [Zqc h1]
     exact rz.same (s2.trans s3)
    ·refine ⟨_,⟨rfl,rfl⟩,s2.trans s3,?_⟩
     rw [eg]
     by_cases z0:z = 0
     ·subst z0
      refine bg.abs_le ?_
      simp [Int.gcd]
     ·refine bz.abs_le ?_
      have:=Int.gcd_le_natAbs_left (gcdL (zs.take i):Int) z0
      omega
   ·rintro σ H2 ⟨v3,rfl,s2,bg⟩
    rw [List.length_map,List.take_length] at *
    walk_at "wp"
    refine Zdy (fun hc=>?_) (fun hc=>?_)
    ·have hc:(gcdL zs:Int) = 0:=by simpa using hc
     refine q a H2 s2 ?_ (.inl rfl)
     subst hp0
     rw [Zgx (by omega)]
     exact rz.same s2
    ·have hc:¬ (gcdL zs:Int) = 0:=by simpa using hc
     refine ⟨_,rfl,a,rfl,⟨_,SqL.of (s2 _ _ rz)⟩,fun D hD=>Zhp (fun i=>zs.getD i 0 / (gcdL zs:Int)) (s2 _ _ rz) hD (by rw [List.length_map]; omega) (fun i x H' Q' hx s' q'=>?_) fun H1 s1 e1=>?_⟩
     ·obtain ⟨z,ez,rfl⟩:=Zfl hx
      have q2:=q' H' (Same.refl _)
      rw [Zak ez,<- Zc2 (by omega)] at q2
      exact ⟨_,rfl,_,rfl,z,_,rfl,rfl,hc,q2⟩
     ·rw [List.length_map,Zhc (· / (gcdL zs:Int))] at e1
      refine q D H1 (s2.trans s1) ?_ (.inr (s2.free hD))
      unfold Zds
      rw [if_pos hp0]
      exact e1
def Zip (C:Addr):Sp:=fun vs H Q _=>∃ (g a l:Addr) (p:Int) (row lead:List Int) (k:Nat),vs = [.ref g,.ref a,.ref l,.int k]/\GAt C H g p/\GroundP p/\RowZ H a row/\RowZ H l lead/\row.length = lead.length/\row.length<=900/\k < row.length/\lead.getD k 0 ≠ 0/\SmallR HB row/\SmallR HB lead /\
 ∀ (a':Addr) H',Same H H'->RowZ H' a' (Zbn p row lead k)->(a' = a\/H a' = none)->Q (.ref a') H'
theorem Zq8 {f:Addr} {fd:FuncData} (F:Fun K "cleared" "cleared" Zeb f fd) (T:Txt K mg C) (hpt:P.given.tree = none) (C_common_divisor:Cal P w K mg base "common_divisor" 4 Zmv) (C_tidied:Cal P w K mg base "tidied" 5 (Zl0 C)):FnOk P w K mg base CX0 6 f fd ["ground","row","lead","place"] (Zip C):=by
 have nd:=Zib.nd
 refine F.ok Zib (fun vs H Q E h=>?_) (fun cdv A outer s H vs Q E hr h=>?_)
 ·obtain ⟨g,a,l,p,row,lead,k,rfl,_⟩:=h
  rfl
 ·obtain ⟨g,a,l,p,row,lead,k,rfl,hg,hp,ra,rl,hl,wl,kl,k0,s1,s2,q⟩:=h
  refine ⟨_,(@Zab _ _ _ _ _ (@Zbf _ _ _ _ _ _ _ _ (Zal Zeh (@Zat _ _ _ _ _ _ _ Za0 (pv 1) (pv 3) (fun _ _=>rfl)) Zac (Zau _)) (@Zaf _ _ _ (@Zaj _ _ _ _ (pv 1))) Zav) (@Zab _ _ _ _ _ (Zax (i:=4) nd rfl (Or.inl rfl) (Zbb C_common_divisor hr.m rfl (@Zag _ _ _ _ _ (@Zat _ _ _ _ _ _ _ Za0 (pv 1) (pv 3) (fun _ _=>rfl)) (@Zag _ _ _ _ _ (@Zat _ _ _ _ _ _ _ Za0 (pv 2) (pv 3) (fun _ _=>rfl)) Zaa (by rfl)) (by rfl)))) (@Zab _ _ _ _ _ (Zax (i:=5) nd rfl (Or.inr rfl) (@Zar _ _ _ _ _ _ _ _ (Zcd hpt (Zbw hr)) (@Zat _ _ _ _ _ _ _ Za0 (pv 2) (pv 3) (fun _ _=>rfl)) (pv 4))) (@Zab _ _ _ _ _ (Zax (i:=6) nd rfl (Or.inr rfl) (@Zar _ _ _ _ _ _ _ _ (Zcd hpt (Zbw hr)) (@Zat _ _ _ _ _ _ _ Za0 (pv 1) (pv 3) (fun _ _=>rfl)) (pv 4))) (@Zaf _ _ _ (@Zaj _ _ _ _ (Zbb C_tidied hr.m rfl (@Zag _ _ _ _ _ (pv 0) (@Zag _ _ _ _ _ (Zbg (own:=["number","other"]) (fr:=[("keep",5),("take",6)]) rfl (Zck (by kernel_rfl)) (Zhe rfl T.n_zip (@Zag _ _ _ _ _ (pv 1) (@Zag _ _ _ _ _ (pv 2) Zaa (by rfl)) (by rfl))) (fun _ _ _ _=>⟨(@Zfi _ K rfl _ _ _ _ 2 rfl (@Zai _ _ _ _ _ (@Zah _ _ 0 _ (show (["number","other","keep","take"]:List Str).Nodup by decide +kernel) rfl (Or.inl rfl) (Or.inr rfl)) (@Zai _ _ _ _ _ (@Zah _ _ 1 _ (show (["number","other","keep","take"]:List Str).Nodup by decide +kernel) rfl (Or.inl rfl) (Or.inr rfl)) (@Zba _) (by rfl)) (by rfl)) (by rfl) (by rfl)),Za9,(@Zar _ _ _ _ _ _ _ _ Zc5 (@Zar _ _ _ _ _ _ _ _ Zbh (pv 2) (pv 0)) (@Zar _ _ _ _ _ _ _ _ Zbh (pv 3) (pv 1)))⟩)) Zaa (by rfl)) (by rfl))))))))),?_⟩
  walk_at "wp"
  have at_:∀ {zs:List Int},k < zs.length->atI (zs.map V.int) (k:Int) = some (.int (zs.getD k 0)):=fun {zs} h=>by
   refine Zbl (by omega) ?_
   rw [Int.toNat_natCast,List.getElem?_map,List.getElem?_eq_getElem h,Za1 h]
   rfl
  refine ⟨_,SqL.of ra,_,at_ kl,rfl,Zdy (fun hc=>?_) (fun hc=>?_)⟩
  ·have hc:row.getD k 0 = 0:=by simpa using hc
   refine q a H (Same.refl _) ?_ (.inl rfl)
   unfold Zbn
   rw [if_pos hc]
   exact ra
  ·have hc:¬ row.getD k 0 = 0:=by simpa using hc
   have cz:Zbn p row lead k = Zds p (Zic row lead k):=by unfold Zbn; rw [if_neg hc]
   refine ⟨_,SqL.of ra,_,at_ kl,_,SqL.of rl,_,at_ (by omega),_,_,rfl,(s1.at k).le (by decide),(s2.at k).le (by decide),fun H1 t1=>?_⟩
   have g0:(0:Int) < (Int.gcd (row.getD k 0) (lead.getD k 0):Int):=by have:=Int.gcd_pos_of_ne_zero_right (row.getD k 0) k0; omega
   refine ⟨_,SqL.of (t1 _ _ rl),_,at_ (by omega),_,rfl,_,rfl,by omega,_,SqL.of (t1 _ _ ra),_,at_ kl,_,rfl,_,rfl,by omega,?_⟩
   rw [Zc2 g0,Zc2 g0]
   have bl:=(s2.at k).quo (Int.gcd_dvd_right (row.getD k 0) (lead.getD k 0))
   have br:=(s1.at k).quo (Int.gcd_dvd_left (row.getD k 0) (lead.getD k 0))
   have rlen:(Zic row lead k).length = row.length:=by unfold Zic; rw [List.length_zipWith]; omega
   refine ⟨_,rfl,_,rfl,a,l,rfl,⟨_,SqL.of (t1 _ _ ra)⟩,⟨_,SqL.of (t1 _ _ rl)⟩,fun D hD=>Zfw (fun i _ y=>y = .int ((Zic row lead k).getD i 0)) (fun r _=>r) (fun r _=>r) (t1 _ _ ra) (t1 _ _ rl) (by rw [List.length_map,List.length_map]; omega) hD (by rw [List.length_map]; omega) (fun i x y H' Q' hx hy s' _ q'=>?_) fun ys H2 t2 e2 hyl hys=>?_⟩
   ·obtain ⟨z,ez,rfl⟩:=Zfl hx
    obtain ⟨u,eu,rfl⟩:=Zfl hy
    simp only [Zcb]
    walk_at "wp"
    refine ⟨_,rfl,_,rfl,bl.ok (s1 z (List.mem_of_getElem? ez)) (by decide),_,rfl,_,rfl,br.ok (s2 u (List.mem_of_getElem? eu)) (by decide),q' _ H' (Same.refl _) ?_⟩
    rw [Zl6 hl,Zak ez,Zak eu]
   ·rw [List.length_map] at hyl
    have e3:ys = (Zic row lead k).map V.int:=by
     have e4:=Zhc (zs:=Zic row lead k) id
     rw [List.map_id] at e4
     rw [Zo9 hyl hys,<- rlen]
     exact congrArg (List.map V.int) e4
    rw [e3] at e2
    have sr:SmallR NB (Zic row lead k):=(Zjp s1 s2).le (by decide)
    have t12:=t1.trans t2
    refine ⟨g,D,p,Zic row lead k,rfl,hg.same t12,hp,e2,by omega,fun _=>sr,fun a' H3 t3 r3 fr=>q a' H3 (t12.trans t3) (by rw [cz]; exact r3) ?_⟩
    rcases fr with rfl | fr
    ·exact .inr (t1.free hD)
    ·exact .inr (t12.free fr)
end
end Pf
namespace Pf
open PySem L2 L3 PyProof.Rows
section
variable {P:Program} {w:World} {K:PySem.W.Frag} {mg:Str->Option Value} {base:Heap} {C PL cL:Addr}
abbrev Zp3:HO:=(HO.tab 76 26 ("leading_row.<locals>." ++ "<lambda>"))
def nzs (Z:List (List Int)) (k n:Nat):List Nat:=(List.range n).filter fun j=>decide ((Z.getD j []).getD k 0 ≠ 0)
theorem Zla {Z:List (List Int)} {k n j:Nat}:j ∈ nzs Z k n ↔ j < n/\(Z.getD j []).getD k 0 ≠ 0:=by
 unfold nzs
 rw [List.mem_filter,List.mem_range,decide_eq_true_iff]
theorem Zq9 {Z:List (List Int)} {k n:Nat}:nzs Z k (n + 1) = nzs Z k n ++ (if (Z.getD n []).getD k 0 ≠ 0 then [n] else []):=by
 unfold nzs
 rw [List.range_succ,List.filter_append]
 congr 1
 by_cases h:(Z.getD n []).getD k 0 ≠ 0
 ·rw [if_pos h,List.filter_cons,if_pos (by simpa using h)]
  rfl
 ·rw [if_neg h,List.filter_cons,if_neg (by simpa using h)]
  rfl
def spLr (PL:Addr):L2.Sp:=fun vs H Q _=>∃ (L:Addr) (as:List Addr) (Z:List (List Int)) (k:Nat),vs = [.ref L,.int k]/\H L = some (.lst (as.map V.ref))/\All2 (RowZ H) as Z/\(∀ row ∈ Z,k < row.length)/\Z.length<=900/\H PL = some Zp3 /\
 (∀ H',Same H H'->(∀ row ∈ Z,row.getD k 0 = 0)->Q .non H')/\(∀ (i:Nat) row H',Same H H'->Z[i]? = some row->row.getD k 0 ≠ 0->Q (.int i) H')
theorem ok_lr {f:Addr} {fd:FuncData} (F:FunC K "leading_row" "leading_row" Zbs f fd cL) (T:Txt K mg C) (hcb:PySem.W.CodeHd base cL PL):FnOk P w K mg base CX0 1 f fd ["rows","place"] (spLr PL):=by
 have nd:=Ze7.nd
 refine F.ok Ze7 (fun vs H Q E h=>?_) (fun A outer s H vs Q E hr h=>?_)
 ·obtain ⟨L,as,Z,k,rfl,_⟩:=h
  rfl
 ·obtain ⟨L,as,Z,k,rfl,hL,al,wd,zl,hP,q0,q1⟩:=h
  have hdep:(A.deeper (envOfC "leading_row" (Zae Zbs) s.heap.objs.size f (.ref cL))).depth < recursionLimit:=by have:=hr.dp; omega
  refine ⟨_,(@Zab _ _ _ _ _ (Zf3 (i:=2) (own:=["at","row"]) (fr:=[("place",1)]) rfl (Zck (by kernel_rfl)) (Zn4 rfl T.n_enumerate (@Zag _ _ _ _ _ (pv 0) Zaa (by rfl))) (fun _ _ _ _=>⟨(@Zfi _ K rfl _ _ _ _ 2 rfl (@Zai _ _ _ _ _ (@Zah _ _ 0 _ (show (["at","row","place"]:List Str).Nodup by decide +kernel) rfl (Or.inl rfl) (Or.inr rfl)) (@Zai _ _ _ _ _ (@Zah _ _ 1 _ (show (["at","row","place"]:List Str).Nodup by decide +kernel) rfl (Or.inl rfl) (Or.inr rfl)) (@Zba _) (by rfl)) (by rfl)) (by rfl) (by rfl)),(Ziw (Zal Zfj (@Zat _ _ _ _ _ _ _ (Zc1 K rfl) (pv 1) (pv 2) (fun _ _=>rfl)) Zac (Zau _))),(pv 0)⟩) nd rfl rfl rfl) (@Zaf _ _ _ (@Zaj _ _ _ _ (pe_minL (x:="at") (fr:=[("rows",0),("place",1)]) rfl hdep rfl T.n_min (lam_of (by kernel_rfl)) rfl hcb rfl (fun _ _ _ _ _=>rfl) (pv 2) (fun _ _ _ _ _=>(Zcj Zd0 rfl T.n_abs boot_abs (@Zag _ _ _ _ _ (@Zat _ _ _ _ _ _ _ (Zc1 K rfl) (@Zat _ _ _ _ _ _ _ (Zc1 K rfl) (pv 1) (pv 0) (fun _ _=>rfl)) (pv 2) (fun _ _=>rfl)) Zaa (by rfl)))))))),?_⟩
  refine cut1 fun X hX=>?_
  walk_at "wp"
  have zal:=al.1
  have aft:∀ (D:Addr) (H1:Hp),Same H H1->H1 D = some (.lst ((nzs Z k as.length).map fun (j:Nat)=>V.int j))->X { nx:=fun x H'=>Q V.non H',rt:=Q } [some (.ref L),some (.int k),some (.ref D)] H1:=by
   intro D H1 t1 hD
   subst hX
   walk_at "wp"
   refine ⟨_,SqL.of hD,t1 _ _ hP,fun i=>((((Z.getD ((nzs Z k as.length).getD i 0) []).getD k 0).natAbs:Nat):Int),fun i v H2 hi t2=>?_,fun e H2 t2=>?_,fun i v H2 _ hi t2=>?_⟩
   ·rw [List.getElem?_map] at hi
    cases e:(nzs Z k as.length)[i]? with
    | none=>rw [e] at hi; cases hi
    | some j=>
     rw [e] at hi
     cases hi
     obtain ⟨h1,h2⟩:=Zla.mp (List.mem_of_getElem? e)
     have ea:as[j]? = some as[j]:=List.getElem?_eq_getElem h1
     obtain ⟨row,er,ha⟩:=al.at' ea
     have kr:=wd row (List.mem_of_getElem? er)
     have t12:=t1.trans t2
     have ew:(nzs Z k as.length).getD i 0 = j:=by rw [List.getD_eq_getElem?_getD,e]; rfl
     have ez:Z.getD j [] = row:=by rw [List.getD_eq_getElem?_getD,er]; rfl
     refine ⟨_,rfl,L,rfl,_,_,rfl,SqL.of (t12 _ _ hL),_,Zbl (by omega) (by rw [Int.toNat_natCast,List.getElem?_map,ea]; rfl),_,rfl,as[j],rfl,_,_,rfl,SqL.of (t12 _ _ ha),_,Zbl (by omega) (by rw [Int.toNat_natCast,List.getElem?_map,List.getElem?_eq_getElem kr]; rfl),row[k],rfl,?_,Same.refl _⟩
     show _ = ((((Z.getD ((nzs Z k as.length).getD i 0) []).getD k 0).natAbs:Nat):Int)
     rw [ew,ez,Za1 kr]
     split <;> omega
   ·have e0:nzs Z k as.length = []:=List.map_eq_nil_iff.mp e
    refine q0 H2 (t1.trans t2) fun row hr=>?_
    obtain ⟨j,hj,rfl⟩:=Zbu hr []
    apply Classical.byContradiction
    intro z
    have:j ∈ nzs Z k as.length:=Zla.mpr ⟨by omega,z⟩
    rw [e0] at this
    simp at this
   ·rw [List.getElem?_map] at hi
    cases e:(nzs Z k as.length)[i]? with
    | none=>rw [e] at hi; cases hi
    | some j=>
     rw [e] at hi
     cases hi
     obtain ⟨h1,h2⟩:=Zla.mp (List.mem_of_getElem? e)
     exact q1 j (Z.getD j []) H2 (t1.trans t2) (by rw [Za1 (by omega)]; exact List.getElem?_eq_getElem _) h2
  refine ⟨_,rfl,L,rfl,⟨_,SqL.of hL⟩,fun D hD=>Zrv (xs:=as.map V.ref) (fun i vs H2=>Same H H2/\H2 D = some (.lst vs)/\vs = (nzs Z k i).map fun (j:Nat)=>V.int j) ⟨Same.new hD,Zad,rfl⟩ (fun i vs H2 _ p=>SqL.of (p.1 _ _ hL)) ?_ fun vs H2 ⟨t2,e2,e3⟩=>?_⟩
  ·rintro i x q' vs σ' H2 hi hx hq sh ⟨t2,e2,e3⟩
   obtain ⟨z1,z2,rfl⟩:=sh.two
   have s0:=Same.new (o:=.tup [.int i,x]) hq
   rw [List.getElem?_map] at hx
   cases ea:as[i]? with
   | none=>rw [ea] at hx; cases hx
   | some a=>
    rw [ea] at hx
    cases hx
    obtain ⟨row,er,ha⟩:=al.at' ea
    have kr:=wd row (List.mem_of_getElem? er)
    have ez:Z.getD i [] = row:=by rw [List.getD_eq_getElem?_getD,er]; rfl
    have hln:vs.length<=900:=by
     rw [e3,List.length_map]
     refine Nat.le_trans (List.length_filter_le _ _) ?_
     rw [List.length_range]
     rw [List.length_map] at hi
     omega
    simp only [Zfo]
    refine ⟨q',_,rfl,SqT.of Zad,rfl,_,_,rfl,_,_,rfl,rfl,?_⟩
    simp only [List.set_cons_zero,List.set_cons_succ,Zcb]
    walk_at "wp"
    refine ⟨_,rfl,_,_,rfl,SqL.of ((t2.trans s0) _ _ ha),_,Zbl (by omega) (by rw [Int.toNat_natCast,List.getElem?_map,List.getElem?_eq_getElem kr]; rfl),rfl,?_⟩
    have nx:=Zq9 (Z:=Z) (k:=k) (n:=i)
    rw [ez,Za1 kr] at nx
    refine Zdy (fun hc=>?_) (fun hc=>?_)
    ·have hc:row[k] ≠ 0:=by simpa using hc
     rw [if_pos hc] at nx
     refine Zox (ws:=vs ++ [V.int i]) hi Sh.mk2 (s0 _ _ e2) (Za2 (by omega)) ⟨(t2.trans s0).upd hD,Zad,?_⟩
     rw [e3,nx,List.map_append]
     rfl
    ·have hc:¬ row[k] ≠ 0:=by simpa using hc
     rw [if_neg hc,List.append_nil] at nx
     exact leaf0 (ws:=vs) hi Sh.mk2 ⟨t2.trans s0,s0 _ _ e2,by rw [e3,nx]⟩
  ·rw [List.length_map] at e3
   rw [e3] at e2
   exact aft D H2 t2 e2
def Zks (p:Int) (k:Nat) (zs:List Int) (xs:List Nv):Prop:=∃ ws b,WRz p xs ws b/\SmallR ((xs.length + 1) * k) ws/\zs = Zds p ws
def Zd2 (p:Int) (k:Nat) (Z:List (List Int)) (M:Mv):Prop:=All2 (Zks p k) Z M
def Zlx (p:Int) (k wide:Nat) (M:Mv):Prop:=∀ Z,Zd2 p k Z M->∀ j done left pl,j<=wide->Sw p Z j done left pl->∀ row ∈ done ++ left,SmallR HB row
structure RowsB (H:Hp) (p:Int) (k W:Nat) (L:Addr) (as:List Addr) (M:Mv):Prop where
 lst:H L = some (.lst (as.map V.ref))
 row:All2 (RowV H p) as M
 wd:∀ xs ∈ M,xs.length = W
 gd:∀ xs ∈ M,Zce p k xs
 h900:M.length<=900
 w900:W<=900
 k1:1<=k
 kb:(W + 1) * k<=NB
structure SwH (H H2:Hp) (dA lA pA:Addr) (ds ls:List Addr) (done left:List (List Int)) (pl:List Nat):Prop where
 sm:Same H H2
 fd:H dA = none
 fl:H lA = none
 fp:H pA = none
 ne1:dA ≠ lA
 ne2:dA ≠ pA
 ne3:lA ≠ pA
 hd:H2 dA = some (.lst (ds.map V.ref))
 hl:H2 lA = some (.lst (ls.map V.ref))
 hp:H2 pA = some (.lst (pl.map fun (j:Nat)=>V.int j))
 rd:All2 (RowZ H2) ds done
 rl:All2 (RowZ H2) ls left
 nd:∀ a ∈ ds,H a = none/\a ≠ dA/\a ≠ lA/\a ≠ pA
 nl:∀ a ∈ ls,H a = none/\a ≠ dA/\a ≠ lA/\a ≠ pA
theorem SwH.same {H H2 H3:Hp} {dA lA pA:Addr} {ds ls:List Addr} {done left:List (List Int)} {pl:List Nat} (h:SwH H H2 dA lA pA ds ls done left pl) (s:Same H2 H3):SwH H H3 dA lA pA ds ls done left pl:=
 ⟨h.sm.trans s,h.fd,h.fl,h.fp,h.ne1,h.ne2,h.ne3,s _ _ h.hd,s _ _ h.hl,s _ _ h.hp,h.rd.mono fun _ _ k=>k.same s,h.rl.mono fun _ _ k=>k.same s,h.nd,h.nl⟩
theorem All2.eraseIdx {α β:Type} {P:α->β->Prop} {xs:List α} {ys:List β} (h:All2 P xs ys) (n:Nat):All2 P (xs.eraseIdx n) (ys.eraseIdx n):=by
 rw [List.eraseIdx_eq_take_drop_succ,List.eraseIdx_eq_take_drop_succ]
 exact (h.take n).app (h.drop (n + 1))
theorem All2.of_get {α β:Type} {P:α->β->Prop} {xs:List α} {ys:List β} {d:β} (hl:xs.length = ys.length) (h:∀ (i:Nat) x,xs[i]? = some x->P x (ys.getD i d)):All2 P xs ys:=⟨hl,fun i x y e1 e2=>by
 have:=h i x e1
 rwa [List.getD_eq_getElem?_getD,e2] at this⟩
theorem Zb1 {p:Int} {k W:Nat} {Z:List (List Int)} {M:Mv} (h0:0<=p) (h:Zd2 p k Z M) (wd:∀ xs ∈ M,xs.length = W):∀ row ∈ Z,Rw p W row:=fun row hr=>by
 obtain ⟨i,hi,e⟩:=List.mem_iff_getElem.mp hr
 obtain ⟨xs,ex,ws,b,w1,_,rfl⟩:=h.at' (i:=i) (x:=row) (by rw [List.getElem?_eq_getElem hi,e])
 exact Znx h0 (w1.len.trans (wd xs (List.mem_of_getElem? ex)))
theorem tyL {H:Hp} {p:Addr} {xs:List V} (h:H p = some (.lst xs)):tyV K "list" (.ref p) H:=.inl ⟨rfl,_,SqL.of h⟩
theorem seqIx {j n:Nat} (h:j < n):PySem.seqIndex? (j:Int) n = some j:=by
 unfold PySem.seqIndex?
 simp only [show ¬ ((j:Int) < 0) by omega,if_false]
 rw [if_pos (by simp; omega)]
 rfl
theorem Zke {α β:Type} (f:α->β) (xs:List α) (n:Nat):(xs.map f).eraseIdx n = (xs.eraseIdx n).map f:=by
 rw [List.eraseIdx_eq_take_drop_succ,List.eraseIdx_eq_take_drop_succ,List.map_append,List.map_take,List.map_drop]
def Zio (C PL:Addr):L2.Sp:=fun vs H Q _=>∃ (g L:Addr) (p:Int) (as:List Addr) (M:Mv) (k W wide:Nat),vs = [.ref g,.ref L,.int wide]/\GAt C H g p/\GroundP p/\RowsB H p k W L as M/\wide<=W/\H PL = some Zp3/\Zlx p k wide M /\
 ∀ (t F pA:Addr) (rs:List Addr) (Z done left:List (List Int)) (pl:List Nat) H',Same H H'->H' t = some (.tup [.ref F,.ref pA])->H F = none->H pA = none->F ≠ pA->H' pA = some (.lst (pl.map fun (j:Nat)=>V.int j))->H' F = some (.lst (rs.map V.ref))->All2 (RowZ H') rs (done ++ left)->(∀ a ∈ rs,H a = none/\a ≠ F/\a ≠ pA)->
  Zd2 p k Z M->Sw p Z wide done left pl->Q (.ref t) H'
theorem Zq0 {f:Addr} {fd:FuncData} (F:Fun K "swept" "swept" Zf1 f fd) (T:Txt K mg C) (C_whole_row:Cal P w K mg base "whole_row" 6 (spWrZ C)) (C_tidied:Cal P w K mg base "tidied" 5 (Zl0 C)) (C_cleared:Cal P w K mg base "cleared" 6 (Zip C)) (C_leading_row:Cal P w K mg base "leading_row" 1 (spLr PL)):FnOk P w K mg base CX0 7 f fd ["ground","rows","wide"] (Zio C PL):=by
 have nd:=Zl4.nd
 refine F.ok Zl4 (fun vs H Q E h=>?_) (fun cdv A outer s H vs Q E hr h=>?_)
 ·obtain ⟨g,L,p,as,M,k,W,wide,rfl,_⟩:=h
  rfl
 ·obtain ⟨g,L,p,as,M,k,W,wide,rfl,hg,hp,R,hw,hPL,sw,q⟩:=h
  refine ⟨_,(@Zab _ _ _ _ _ (Zax (i:=3) nd rfl (Or.inl rfl) (@Zc4 _ _ _ _ Zaa)) (@Zab _ _ _ _ _ (Zf3 (i:=4) (own:=["row"]) (fr:=[("ground",0)]) rfl (Zck (by kernel_rfl)) (Zbt (pv 1)) (fun _ _ _ _=>⟨(@Zah _ _ 0 _ (show (["row","ground"]:List Str).Nodup by decide +kernel) rfl (Or.inl rfl) (Or.inr rfl)),Za9,(Zbb C_tidied hr.m rfl (@Zag _ _ _ _ _ (pv 1) (@Zag _ _ _ _ _ (@Zat _ _ _ _ _ _ _ (Zli K rfl) (Zbb C_whole_row hr.m rfl (@Zag _ _ _ _ _ (pv 1) (@Zag _ _ _ _ _ (pv 0) Zaa (by rfl)) (by rfl))) Zac (fun _ _=>rfl)) Zaa (by rfl)) (by rfl)))⟩) nd rfl rfl rfl) (@Zab _ _ _ _ _ (Zax (i:=5) nd rfl (Or.inl rfl) (@Zc4 _ _ _ _ Zaa)) (@Zab _ _ _ _ _ (Zc3 PassesOwn.never rfl (Zgj rfl T.n_range (@Zag _ _ _ _ _ (pv 2) Zaa (by rfl))) (@Zah _ _ 6 _ nd rfl (Or.inr rfl) (Or.inl rfl)) (@Zab _ _ _ _ _ (Zax (i:=7) nd rfl (Or.inl rfl) (Zbb C_leading_row hr.m rfl (@Zag _ _ _ _ _ (pv 4) (@Zag _ _ _ _ _ (pv 6) Zaa (by rfl)) (by rfl)))) (@Zaf _ _ _ (@Zbf _ _ _ _ _ _ _ _ (Zal op_notN (pv 7) Zsb (Zau _)) (@Zab _ _ _ _ _ (Zax (i:=8) nd rfl (Or.inr rfl) (Zhv PySem.F.plainAttrs_list PySem.F.slot_list_pop PySem.F.type_list_pop Zrc (pv 4) (@Zag _ _ _ _ _ (pv 7) Zaa (by rfl)))) (@Zab _ _ _ _ _ (Zf3 (i:=4) (own:=["row"]) (fr:=[("ground",0),("lead",8),("place",6)]) rfl (Zck (by kernel_rfl)) (Zbt (pv 4)) (fun _ _ _ _=>⟨(@Zah _ _ 0 _ (show (["row","ground","lead","place"]:List Str).Nodup by decide +kernel) rfl (Or.inl rfl) (Or.inr rfl)),Za9,(Zbb C_cleared hr.m rfl (@Zag _ _ _ _ _ (pv 1) (@Zag _ _ _ _ _ (pv 0) (@Zag _ _ _ _ _ (pv 2) (@Zag _ _ _ _ _ (pv 3) Zaa (by rfl)) (by rfl)) (by rfl)) (by rfl)))⟩) nd rfl rfl rfl) (@Zab _ _ _ _ _ (Zeg (Zhv PySem.F.plainAttrs_list PySem.F.slot_list_append PySem.F.type_list_append Zcm (pv 3) (@Zag _ _ _ _ _ (pv 8) Zaa (by rfl)))) (@Zaf _ _ _ (Zeg (Zhv PySem.F.plainAttrs_list PySem.F.slot_list_append PySem.F.type_list_append Zcm (pv 5) (@Zag _ _ _ _ _ (pv 6) Zaa (by rfl)))))))) Zav)))) (@Zaf _ _ _ (@Zaj _ _ _ _ (@Zbd _ _ _ _ _ (@Zag _ _ _ _ _ (@Zar _ _ _ _ _ _ _ _ Zj1 (pv 3) (pv 4)) (@Zag _ _ _ _ _ (pv 5) Zaa (by rfl)) (by rfl))))))))),?_⟩
  walk_at "wp"
  have p0:=hp.lo
  have ml:=R.row.1
  have h9:=R.h900
  have w9:=R.w900
  have k1:=R.k1
  have kb:=R.kb
  refine ⟨by decide,fun dA hdA=>?_⟩
  have s1:=Same.new (o:=.lst []) hdA
  refine ⟨_,rfl,L,rfl,⟨_,SqL.of (s1 _ _ R.lst)⟩,fun lA hlA=>Zco (fun i Hc y=>∃ (a:Addr) (zs:List Int),y = .ref a/\RowZ Hc a zs/\Zks p k zs (M.getD i [])/\H a = none/\a ≠ dA/\a ≠ lA) (fun ⟨a,zs,e,b,c⟩ s=>⟨a,zs,e,b.same s,c⟩) (fun ⟨a,zs,e,b,c,d,e',f⟩ hD=>⟨a,zs,e,b.put f,c,d,e',f⟩) (s1 _ _ R.lst) hlA (by rw [List.length_map]; omega) (fun i x H' Q' hx s' ⟨lD,hlD⟩ q'=>?_) (fun ys H1 s2 e2 hyl hys=>?_)⟩
  ·obtain ⟨row,er,a,rfl,rv⟩:=(Za7 R.row).at' hx
   have hrow:=List.mem_of_getElem? er
   have wr:=R.wd row hrow
   have t1:=s1.trans s'
   refine ⟨_,rfl,_,rfl,_,rfl,g,a,p,row,k,rfl,hg.same t1,hp,rv.same t1,by omega,R.gd row hrow,k1,by rw [wr]; exact kb,fun t l zs b H2 s3 fl ht rz wz sz _=>?_⟩
   refine ⟨t,_,0,_,rfl,rfl,SqT.of ht,rfl,g,l,p,zs,rfl,hg.same (t1.trans s3),hp,rz,by rw [wz.len]; omega,fun _=>sz.le (by rw [wr]; exact kb),fun a' H3 s4 rz' fr=>?_⟩
   have hn:H' a' = none:=by
    rcases fr with rfl | fr
    ·exact fl
    ·exact s3.free fr
   refine q' _ H3 (s3.trans s4) ⟨a',_,rfl,rz',⟨zs,b,?_,?_,rfl⟩,t1.free hn,fun z=>?_,fun z=>?_⟩
   ·rw [Zak er]; exact wz
   ·rw [Zak er]; exact sz
   ·rw [z,s' _ _ Zad] at hn; cases hn
   ·rw [z,hlD] at hn; cases hn
  rw [List.length_map] at hyl
  obtain ⟨ls,rfl,hls⟩:=Zhb (P:=fun i a=>∃ zs,RowZ H1 a zs/\Zks p k zs (M.getD i [])/\H a = none/\a ≠ dA/\a ≠ lA) fun i y e=>let ⟨a,zs,h1,h2⟩:=hys i y e; ⟨a,h1,zs,h2⟩
  rw [List.length_map] at hyl
  obtain ⟨Z,hZ⟩:=All2.pick (P:=fun (ai:Addr × Nat) zs=>RowZ H1 ai.1 zs/\Zks p k zs (M.getD ai.2 [])/\H ai.1 = none/\ai.1 ≠ dA/\ai.1 ≠ lA) (xs:=ls.zipIdx) fun ai hai=>by
   obtain ⟨a,i⟩:=ai
   have hi:=List.mk_mem_zipIdx_iff_getElem?.mp hai
   exact hls i a hi
  have zlen:Z.length = ls.length:=by have:=hZ.1; rw [List.length_zipIdx] at this; omega
  have zat:∀ (i:Nat) (a:Addr) (zs:List Int),ls[i]? = some a->Z[i]? = some zs->RowZ H1 a zs/\Zks p k zs (M.getD i [])/\H a = none/\a ≠ dA/\a ≠ lA:=fun i a zs e1 e2=>by
   have:=hZ.2 i (a,i) zs (by rw [List.getElem?_zipIdx,e1]; simp) e2
   exact this
  have IR:Zd2 p k Z M:=⟨by omega,fun i zs xs e1 e2=>by
   have hi:i < ls.length:=by have:=(List.getElem?_eq_some_iff.mp e1).1; omega
   have:=(zat i _ zs (List.getElem?_eq_getElem hi) e1).2.1
   rwa [Zak e2] at this⟩
  have rlZ:All2 (RowZ H1) ls Z:=⟨by omega,fun i a zs e1 e2=>(zat i a zs e1 e2).1⟩
  have nlZ:∀ a ∈ ls,H a = none/\a ≠ dA/\a ≠ lA:=fun a ha=>by
   obtain ⟨i,hi,rfl⟩:=List.mem_iff_getElem.mp ha
   exact (zat i _ _ (List.getElem?_eq_getElem hi) (List.getElem?_eq_getElem (show i < Z.length by omega))).2.2
  have rwZ:=Zb1 p0 IR R.wd
  refine ⟨by decide,fun pA hpA=>?_⟩
  have s3:=Same.new (o:=.lst []) hpA
  have t1:=s1.trans s2
  have t13:=t1.trans s3
  have nel:dA ≠ lA:=fun z=>by rw [<- z,Zad] at hlA; cases hlA
  have H1d:H1 dA = some (.lst []):=s2 _ _ Zad
  have nep:∀ {b:Addr} {o:HO},H1 b = some o->b ≠ pA:=fun {b o} e z=>by rw [z,hpA] at e; cases e
  have S0:SwH H (upd H1 pA (.lst [])) dA lA pA [] ls [] Z []:=⟨t13,hdA,s1.free hlA,t1.free hpA,nel,nep H1d,nep e2,by rw [Zap (nep H1d)]; exact H1d,by rw [Zap (nep e2)]; exact e2,Zad,All2.nil,rlZ.mono fun _ _ r=>r.same s3,fun a ha=>by simp at ha,fun a ha=>⟨(nlZ a ha).1,(nlZ a ha).2.1,(nlZ a ha).2.2,by
   obtain ⟨i,hi,rfl⟩:=List.mem_iff_getElem.mp ha
   obtain ⟨zs,_,hz⟩:=rlZ.at' (List.getElem?_eq_getElem hi)
   exact nep hz⟩⟩
  refine ⟨_,rfl,_,rfl,by omega,by omega,Zc9 (n:=wide) (fun i σ H2=>∃ (lA:Addr) (ds ls:List Addr) (done left:List (List Int)) (pl:List Nat) (v6 v7 v8:Option V),σ = [some (.ref g),some (.ref L),some (.int wide),some (.ref dA),some (.ref lA),some (.ref pA),v6,v7,v8]/\SwH H H2 dA lA pA ds ls done left pl/\Sw p Z i done left pl)
   ⟨lA,[],ls,[],Z,[],none,none,none,rfl,S0,Sw.start⟩ ?_ ?_⟩
  ·rintro i σ H2 hi ⟨lA,ds,ls,done,left,pl,v6,v7,v8,rfl,S,sw1⟩
   have I:=sw1.inv p0 rwZ
   have rwl:∀ row ∈ left,Rw p W row:=fun row hr=>I.rw row (List.mem_append.mpr (.inr hr))
   have zl:=zlen
   have ill:=I.all
   have idl:=I.len
   have smA:=sw Z IR i done left pl (by omega) sw1
   walk_at "wp"
   have ei:(0:Int) + (i:Int) = (i:Int):=by omega
   rw [ei]
   refine ⟨lA,ls,left,i,rfl,S.hl,S.rl,fun row hr=>by rw [(rwl row hr).1]; omega,by omega,S.sm _ _ hPL,fun H3 s3 hz=>?_,fun j lead H3 s3 hj hk=>?_⟩
   ·exact ⟨_,_,_,_,_,_,_,_,_,⟨rfl,rfl,rfl,rfl⟩,S.same s3,Sw.skip sw1 hz⟩
   ·have S3:=S.same s3
    have hjl:j < left.length:=(List.getElem?_eq_some_iff.mp hj).1
    have hjs:j < ls.length:=by have:=S3.rl.1; omega
    have ej:ls[j]? = some ls[j]:=List.getElem?_eq_getElem hjs
    have rlead:=S3.rl.2 j _ _ ej hj
    have nlead:=S3.nl _ (List.mem_of_getElem? ej)
    generalize ls[j] = aL at *
    have hlm:lead ∈ left:=List.mem_of_getElem? hj
    refine ⟨tyL S3.hl,_,_,rfl,S3.hl,by omega,by omega,j,by rw [List.length_map]; exact seqIx hjs,.ref aL,by rw [List.getElem?_map,ej]; rfl,?_⟩
    rw [Zke]
    have hlp:upd H3 lA (.lst ((ls.eraseIdx j).map V.ref)) lA = some (.lst ((ls.eraseIdx j).map V.ref)):=Zad
    have keep:∀ {b:Addr} {o:HO},b ≠ lA->H3 b = some o->upd H3 lA (.lst ((ls.eraseIdx j).map V.ref)) b = some o:=fun n e=>by rw [Zap n]; exact e
    have sm4:Same H (upd H3 lA (.lst ((ls.eraseIdx j).map V.ref))):=S3.sm.upd S3.fl
    have re:All2 (RowZ (upd H3 lA (.lst ((ls.eraseIdx j).map V.ref)))) (ls.eraseIdx j) (left.eraseIdx j):=(S3.rl.eraseIdx j).monoM fun a _ ha r=>keep (S3.nl a (List.mem_of_mem_eraseIdx ha)).2.2.1 r
    have hd4:=keep S3.ne1 S3.hd
    have hp4:=keep (Ne.symm S3.ne3) S3.hp
    have rl4:RowZ (upd H3 lA (.lst ((ls.eraseIdx j).map V.ref))) aL lead:=keep nlead.2.2.1 rlead
    have rd4:All2 (RowZ (upd H3 lA (.lst ((ls.eraseIdx j).map V.ref)))) ds done:=S3.rd.monoM fun a _ ha r=>keep (S3.nd a ha).2.2.1 r
    generalize upd H3 lA (.lst ((ls.eraseIdx j).map V.ref)) = H4 at *
    have elen:(ls.eraseIdx j).length = (left.eraseIdx j).length:=re.1
    refine ⟨_,rfl,lA,rfl,⟨_,SqL.of hlp⟩,fun D hD=>Zco (fun i' Hc y=>∃ a:Addr,y = .ref a/\RowZ Hc a (Zbn p ((left.eraseIdx j).getD i' []) lead i)/\H a = none/\a ≠ dA/\a ≠ D/\a ≠ pA) (fun ⟨a,e,b,c⟩ s=>⟨a,e,b.same s,c⟩) (fun ⟨a,e,b,c,d,e',f⟩ hD=>⟨a,e,b.put e',c,d,e',f⟩) hlp hD (by rw [List.length_map]; have:=List.length_eraseIdx_le ls j; have:=S3.rl.1; omega) (fun i' x H' Q' hx s' ⟨lD,hlD⟩ q'=>?_) (fun ys H5 s5 e5 hyl hys=>?_)⟩
    ·obtain ⟨row,er,a,rfl,rz⟩:=(Za7 re).at' hx
     have hm:row ∈ left:=List.mem_of_mem_eraseIdx (List.mem_of_getElem? er)
     have ha:a ∈ ls.eraseIdx j:=by
      have:=List.mem_of_getElem? hx
      obtain ⟨b,hb,e⟩:=List.mem_map.mp this
      cases e
      exact hb
     have nla:=S3.nl a (List.mem_of_mem_eraseIdx ha)
     have rw1:=rwl row hm
     have rw2:=rwl lead hlm
     refine ⟨_,rfl,_,rfl,_,rfl,_,rfl,g,a,aL,p,row,lead,i,rfl,hg.same (sm4.trans s'),hp,rz.same s',rl4.same s',rw1.1.trans rw2.1.symm,by rw [rw1.1]; omega,by rw [rw1.1]; omega,hk,smA row (List.mem_append.mpr (.inr hm)),smA lead (List.mem_append.mpr (.inr hlm)),fun a' H6 s6 rz' fr=>q' _ H6 s6 ⟨a',rfl,?_,?_⟩⟩
     ·rw [Zak er]; exact rz'
     ·rcases fr with rfl | fr
      ·exact ⟨nla.1,nla.2.1,fun z=>(by have e1:H4 a' = some _:=rz; rw [z,hD] at e1; cases e1),nla.2.2.2⟩
      ·exact ⟨(sm4.trans s').free fr,fun z=>(by rw [z,s' _ _ hd4] at fr; cases fr),fun z=>(by rw [z,hlD] at fr; cases fr),fun z=>(by rw [z,s' _ _ hp4] at fr; cases fr)⟩
    ·rw [List.length_map] at hyl
     obtain ⟨bs,rfl,hbs⟩:=Zhb (P:=fun i' a=>RowZ H5 a (Zbn p ((left.eraseIdx j).getD i' []) lead i)/\H a = none/\a ≠ dA/\a ≠ D/\a ≠ pA) hys
     rw [List.length_map] at hyl
     have neD:∀ {b:Addr} {o:HO},H4 b = some o->b ≠ D:=fun {b o} e z=>by rw [z,hD] at e; cases e
     have hd5:=s5 _ _ hd4
     have hp5:=s5 _ _ hp4
     have dlen:=S3.rd.1
     have hp6:upd H5 dA (.lst (ds.map V.ref ++ [V.ref aL])) pA = some (.lst (pl.map fun (j:Nat)=>V.int j)):=by rw [Zap (Ne.symm S3.ne2)]; exact hp5
     refine ⟨tyL hd5,_,hd5,by rw [List.length_map]; exact Za2 (by omega),tyL hp6,_,hp6,by rw [List.length_map]; exact Za2 (by omega),?_⟩
     refine ⟨D,ds ++ [aL],bs,done ++ [lead],(left.eraseIdx j).map (fun row=>Zbn p row lead i),pl ++ [i],_,_,_,⟨rfl,rfl,rfl,rfl⟩,⟨?_,hdA,sm4.free hD,S3.fp,neD hd4,S3.ne2,Ne.symm (neD hp4),?_,?_,?_,?_,?_,?_,?_⟩,Sw.take j lead sw1 hj hk⟩
     ·exact ((sm4.trans s5).upd hdA).upd S3.fp
     ·rw [Zap S3.ne2,Zad,List.map_append]; rfl
     ·rw [Zap (Ne.symm (neD hp4)),Zap (Ne.symm (neD hd4))]; exact e5
     ·rw [Zad,List.map_append]; rfl
     ·refine All2.app (rd4.monoM fun a _ ha r=>?_) (All2.one ?_)
      ·exact ((r.same s5).put (S3.nd a ha).2.1).put (S3.nd a ha).2.2.2
      ·exact ((rl4.same s5).put nlead.2.1).put nlead.2.2.2
     ·refine All2.of_get (d:=[]) (by rw [List.length_map]; omega) fun i' b e=>?_
      have hi':i' < (left.eraseIdx j).length:=by have:=(List.getElem?_eq_some_iff.mp e).1; omega
      obtain ⟨h1,h2,h3,h4,h5⟩:=hbs i' b e
      rw [Zak (show _ = some _ by rw [List.getElem?_map,List.getElem?_eq_getElem hi']; rfl)]
      rw [Za1 hi'] at h1
      exact (h1.put h3).put h5
     ·intro a ha
      rcases List.mem_append.mp ha with ha | ha
      ·have hn:=S3.nd a ha
       refine ⟨hn.1,hn.2.1,?_,hn.2.2.2⟩
       obtain ⟨i',hi',rfl⟩:=List.mem_iff_getElem.mp ha
       obtain ⟨zs,_,hz⟩:=rd4.at' (List.getElem?_eq_getElem hi')
       exact neD hz
      ·rw [List.mem_singleton.mp ha]
       exact ⟨nlead.1,nlead.2.1,neD rl4,nlead.2.2.2⟩
     ·intro a ha
      obtain ⟨i',hi',rfl⟩:=List.mem_iff_getElem.mp ha
      obtain ⟨h1,h2,h3,h4,h5⟩:=hbs i' _ (List.getElem?_eq_getElem hi')
      exact ⟨h2,h3,h4,h5⟩
  ·rintro σ H2 ⟨lA,ds,ls,done,left,pl,v6,v7,v8,rfl,S,sw1⟩
   have I:=sw1.inv p0 rwZ
   have d1:=S.rd.1
   have d2:=S.rl.1
   have ill:=I.all
   have zl:=zlen
   walk_at "wp"
   refine ⟨_,S.hd,_,S.hl,by rw [List.length_map,List.length_map]; exact Nat.le_of_lt (Za2 (by omega)),fun F hF=>⟨by decide,fun t ht=>?_⟩⟩
   have s4:=Same.new (o:=.lst (ds.map V.ref ++ ls.map V.ref)) hF
   have s5:=Same.new (o:=.tup [V.ref F,V.ref pA]) ht
   have s45:=s4.trans s5
   have neF:∀ {b:Addr} {o:HO},H2 b = some o->b ≠ F:=fun {b o} e z=>by rw [z,hF] at e; cases e
   refine q t F pA (ds ++ ls) Z done left pl _ (S.sm.trans s45) Zad (S.sm.free hF) S.fp (Ne.symm (neF S.hp)) (s45 _ _ S.hp) (s5 _ _ (by rw [Zad,List.map_append])) ((S.rd.app S.rl).mono fun _ _ r=>r.same s45) (fun a ha=>?_) IR sw1
   have hn:H a = none/\a ≠ dA/\a ≠ lA/\a ≠ pA:=by
    rcases List.mem_append.mp ha with ha | ha
    ·exact S.nd a ha
    ·exact S.nl a ha
   obtain ⟨i',hi',e'⟩:=List.mem_iff_getElem.mp ha
   obtain ⟨zs,_,hz⟩:=(S.rd.app S.rl).at' (List.getElem?_eq_getElem hi')
   rw [e'] at hz
   exact ⟨hn.1,neF hz,hn.2.2.2⟩
theorem cut_loG (xs:List V) (k:Int) (h0:0<=k) (h1:k<=xs.length):Zmi xs none (some k) = xs.take k.toNat:=by
 unfold Zmi HT.sIx
 have:¬ k < 0:=by omega
 simp only [this,if_false,List.drop_zero,Nat.sub_zero]
 congr 1
 omega
theorem inv_tab:((List.range 98).all fun p=>decide (p < 2) || (List.range p).any (fun d=>decide (2<=d) && p % d == 0) || (List.range p).all fun r=>r == 0 || (List.range p).any fun k=>k * r % p == 1) = true:=by decide +kernel
theorem Zsl {p b:Int} (hp:Zey p) (hb:b % p ≠ 0):∃ k:Nat,1<=k/\(k:Int) < p/\(k:Int) * b % p = 1:=by
 obtain ⟨p1,p97,hd⟩:=hp
 have h:=List.all_eq_true.mp inv_tab p.toNat (List.mem_range.mpr (by omega))
 have ep:((p.toNat:Nat):Int) = p:=Int.toNat_of_nonneg (by omega)
 rw [Bool.or_eq_true,Bool.or_eq_true] at h
 rcases h with (h | h) | h
 ·have:=of_decide_eq_true h
  omega
 ·obtain ⟨d,d1,d2⟩:=List.any_eq_true.mp h
  have d1:=List.mem_range.mp d1
  rw [Bool.and_eq_true] at d2
  have d3:=of_decide_eq_true d2.1
  have d4:p.toNat % d = 0:=by simpa using d2.2
  refine absurd ?_ (hd d (by omega) (by omega))
  rw [<- ep,<- Int.natCast_emod,d4]
  rfl
 ·have b0:0<=b % p:=Int.emod_nonneg _ (by omega)
  have b1:b % p < p:=Int.emod_lt_of_pos _ (by omega)
  have h:=List.all_eq_true.mp h (b % p).toNat (List.mem_range.mpr (by omega))
  rw [Bool.or_eq_true] at h
  rcases h with h | h
  ·have:(b % p).toNat = 0:=by simpa using h
   omega
  ·obtain ⟨k,k1,k2⟩:=List.any_eq_true.mp h
   have k1:=List.mem_range.mp k1
   have k2:k * (b % p).toNat % p.toNat = 1:=by simpa using k2
   have k3:(k:Int) * (b % p) % p = 1:=by
    have e:(((b % p).toNat:Nat):Int) = b % p:=Int.toNat_of_nonneg b0
    have:((k * (b % p).toNat % p.toNat:Nat):Int) = 1:=by rw [k2]; rfl
    rw [Int.natCast_emod,Int.natCast_mul,e,ep] at this
    exact this
   refine ⟨k,?_,by omega,by rw [emulR] at k3; exact k3⟩
   rcases Nat.eq_zero_or_pos k with rfl | h
   ·simp at k2
   ·exact h
theorem Zn0 {p:Int} (hp:Zey p):PrimeN p.toNat:=by
 have p1:=hp.1
 have ep:((p.toNat:Nat):Int) = p:=Int.toNat_of_nonneg (by omega)
 refine ⟨by omega,fun r r0 r1=>?_⟩
 obtain ⟨k,k1,kp,kr⟩:=Zsl (b:=(r:Int)) hp (by rw [Int.emod_eq_of_lt (by omega) (by omega)]; omega)
 refine ⟨k,by omega,?_⟩
 rw [<- ep,<- Int.natCast_mul,<- Int.natCast_emod] at kr
 omega
theorem Zfv {p:Int} (hp:GroundP p):∃ (F:Type) (_:Lean.Grind.Field F),FdOk p F:=by
 rcases hp with rfl | hp
 ·exact ⟨Rat,inferInstance,fd_zero⟩
 ·have:PrimeN p.toNat:=Zn0 hp
  have h:=Zrq (n:=p.toNat)
  rw [Int.toNat_of_nonneg (by have:=hp.1; omega)] at h
  exact ⟨Zp p.toNat,inferInstance,h⟩
theorem Zm6 {a b D:Addr} {xs ys:List V} {fr:List (Str × Nat)} {σ:L2.St} {te:TE} {H1:Hp} {Q:VK} (g:Nat->Int)
  (ha:H1 a = some (.lst xs)) (hb:H1 b = some (.lst ys)) (hlen:ys.length<=xs.length) (hD:H1 D = none) (hn:ys.length<=1000)
  (h:∀ (i:Nat) x y H (Q:VK),xs[i]? = some x->ys[i]? = some y->Same H1 H->(∀ H',Same H H'->Q (.int (g i)) H')->te (some x :: some y :: Zcb fr σ) H Q)
  (hQ:∀ H',Same H1 H'->H' D = some (.lst (((List.range ys.length).map g).map V.int))->Q (.ref D) H'):Zcl (gTup K 2 (Zkc (Zc8 0) (Zkc (Zc8 1) gNil))) Zht te (Itz K a b) D (Zgt 2 fr σ) H1 Q:=by
 refine Zpr (xs:=xs) (ys:=ys) (fun i vs H=>Same H1 H/\H D = some (.lst vs)/\vs = ((List.range i).map g).map V.int) hlen ⟨Same.new hD,Zad,rfl⟩ (fun i vs H _ p=>⟨SqL.of (p.1 _ _ ha),SqL.of (p.1 _ _ hb)⟩) ?_ (fun vs H ⟨s,e,hv⟩=>hQ H s (by rw [e,hv]))
 rintro i x y p vs σ' H hi hx hy hp sh ⟨s,e,rfl⟩
 obtain ⟨z1,z2,rfl⟩:=sh.two
 have s0:=Same.new (o:=.tup [x,y]) hp
 refine ⟨p,_,rfl,SqT.of Zad,rfl,_,_,rfl,_,_,rfl,rfl,?_⟩
 simp only [Zht,List.set_cons_zero,List.set_cons_succ,if_true]
 refine h i x y _ _ hx hy (s.trans s0) fun H' s'=>?_
 have s1:=s0.trans s'
 refine Zox (ws:=((List.range (i + 1)).map g).map V.int) hi Sh.mk2 (s1 _ _ e) (Za2 (by rw [List.length_map,List.length_map,List.length_range]; omega)) ⟨(s.trans s1).upd hD,?_,rfl⟩
 rw [Zad,List.range_succ,List.map_append,List.map_append]
 rfl
def Zp2 (p:Int) (k wide:Nat) (M:Mv):Prop:=∀ Z done left pl,Zd2 p k Z M->Sw p Z wide done left pl->∀ t,t<=pl.length->∀ row ∈ Zbe p pl (done ++ left) t,SmallR HB row
structure Red (p:Int) (k wide:Nat) (M M':Mv) (pl:List Nat):Prop where
 ex:∃ Z done left,Zd2 p k Z M/\Sw p Z wide done left pl/\M'.length = (Zbe p pl (done ++ left) pl.length).length/\∀ i,i < M'.length->All2 (fun z x=>IsQ p z (Za4 pl (Zbe p pl (done ++ left) pl.length) i) x) ((Zbe p pl (done ++ left) pl.length).getD i []) (M'.getD i [])
def spRed (C PL:Addr):L2.Sp:=fun vs H Q _=>∃ (g L:Addr) (p:Int) (as:List Addr) (M:Mv) (k W wide:Nat),vs = [.ref g,.ref L,.int wide]/\GAt C H g p/\GroundP p/\RowsB H p k W L as M/\wide<=W/\H PL = some Zp3/\Zlx p k wide M/\Zp2 p k wide M /\
 ∀ (t F pA:Addr) (rs:List Addr) (M':Mv) (pl:List Nat) H',Same H H'->H' t = some (.tup [.ref F,.ref pA])->H F = none->H pA = none->F ≠ pA->H' pA = some (.lst (pl.map fun (j:Nat)=>V.int j))->H' F = some (.lst (rs.map V.ref))->All2 (RowV H' p) rs M'->(∀ a ∈ rs,H a = none/\a ≠ F/\a ≠ pA)->
  Red p k wide M M' pl->Q (.ref t) H'
theorem ok_red {f:Addr} {fd:FuncData} (F:Fun K "reduced_rows" "reduced_rows" Zbz f fd) (T:Txt K mg C) (C_swept:Cal P w K mg base "swept" 7 (Zio C PL)) (C_cleared:Cal P w K mg base "cleared" 6 (Zip C)) (C_Ground_number_F:CalD P w K mg base C "number" 6 (Zh0 C) []):FnOk P w K mg base CX0 8 f fd ["ground","rows","wide"] (spRed C PL):=by
 have nd:=Zeq.nd
 refine F.ok Zeq (fun vs H Q E h=>?_) (fun cdv A outer s H vs Q E hr h=>?_)
 ·obtain ⟨g,L,p,as,M,k,W,wide,rfl,_⟩:=h
  rfl
 ·obtain ⟨g,L,p,as,M,k,W,wide,rfl,hg,hp,R,hw,hPL,sw,sb,q⟩:=h
  refine ⟨_,(@Zab _ _ _ _ _ (Zb2 (Zbb C_swept hr.m rfl (@Zag _ _ _ _ _ (pv 0) (@Zag _ _ _ _ _ (pv 1) (@Zag _ _ _ _ _ (pv 2) Zaa (by rfl)) (by rfl)) (by rfl))) (@Zch _ _ _ _ _ 2 rfl (@Zai _ _ _ _ _ (@Zah _ _ 3 _ nd rfl (Or.inr rfl) (Or.inl rfl)) (@Zai _ _ _ _ _ (@Zah _ _ 4 _ nd rfl (Or.inl rfl) (Or.inl rfl)) (@Zba _) (by rfl)) (by rfl)) (by rfl) (by rfl))) (@Zab _ _ _ _ _ (Zc3 PassesOwn.never rfl (pi_rvl rfl T.n_reversed (@Zag _ _ _ _ _ (pe_le rfl rfl T.n_list rfl T.n_enumerate (@Zag _ _ _ _ _ (pv 4) Zaa (by rfl))) Zaa (by rfl))) (@Zch _ _ _ _ _ 2 rfl (@Zai _ _ _ _ _ (@Zah _ _ 5 _ nd rfl (Or.inr rfl) (Or.inl rfl)) (@Zai _ _ _ _ _ (@Zah _ _ 6 _ nd rfl (Or.inr rfl) (Or.inl rfl)) (@Zba _) (by rfl)) (by rfl)) (by rfl) (by rfl)) (@Zaf _ _ _ (Zb2 (Zbg (own:=["row"]) (fr:=[("ground",0),("found",3),("at",5),("place",6)]) rfl (Zck (by kernel_rfl)) (Zbt (@Zgo _ _ _ _ _ _ _ _ _ _ Znv (pv 3) Zk8 (@Zf4 _ _ _ (pv 5)))) (fun _ _ _ _=>⟨(@Zah _ _ 0 _ (show (["row","ground","found","at","place"]:List Str).Nodup by decide +kernel) rfl (Or.inl rfl) (Or.inr rfl)),Za9,(Zbb C_cleared hr.m rfl (@Zag _ _ _ _ _ (pv 1) (@Zag _ _ _ _ _ (pv 0) (@Zag _ _ _ _ _ (@Zat _ _ _ _ _ _ _ (Zc1 K rfl) (pv 2) (pv 3) (fun _ _=>rfl)) (@Zag _ _ _ _ _ (pv 4) Zaa (by rfl)) (by rfl)) (by rfl)) (by rfl)))⟩)) (Zn5 (pv 3) (@Zf4 _ _ _ (pv 5)))))) (@Zab _ _ _ _ _ (Zf3 (i:=7) (own:=["row","place"]) (fr:=[]) rfl (Zck (by kernel_rfl)) (Zhe rfl T.n_zip (@Zag _ _ _ _ _ (pv 3) (@Zag _ _ _ _ _ (pv 4) Zaa (by rfl)) (by rfl))) (fun _ _ _ _=>⟨(@Zfi _ K rfl _ _ _ _ 2 rfl (@Zai _ _ _ _ _ (@Zah _ _ 0 _ (show (["row","place"]:List Str).Nodup by decide +kernel) rfl (Or.inl rfl) (Or.inr rfl)) (@Zai _ _ _ _ _ (@Zah _ _ 1 _ (show (["row","place"]:List Str).Nodup by decide +kernel) rfl (Or.inl rfl) (Or.inr rfl)) (@Zba _) (by rfl)) (by rfl)) (by rfl) (by rfl)),Za9,(@Zat _ _ _ _ _ _ _ (Zc1 K rfl) (pv 0) (pv 1) (fun _ _=>rfl))⟩) nd rfl rfl rfl) (@Zab _ _ _ _ _ (Zeg (Zhv PySem.F.plainAttrs_list PySem.F.slot_list_extend PySem.F.type_list_extend Zoq (pv 7) (@Zag _ _ _ _ _ (@Zar _ _ _ _ _ _ _ _ Zn9 (@Zc4 _ _ _ _ (@Zag _ _ _ _ _ Zac Zaa (by rfl))) (@Zar _ _ _ _ _ _ _ _ Zc5 (Zcj Zbi rfl T.n_len PySem.boot_len (@Zag _ _ _ _ _ (pv 3) Zaa (by rfl))) (Zcj Zbi rfl T.n_len PySem.boot_len (@Zag _ _ _ _ _ (pv 4) Zaa (by rfl))))) Zaa (by rfl)))) (@Zaf _ _ _ (@Zaj _ _ _ _ (@Zbd _ _ _ _ _ (@Zag _ _ _ _ _ (Zbg (own:=["row","lead"]) (fr:=[("ground",0)]) rfl (Zck (by kernel_rfl)) (Zhe rfl T.n_zip (@Zag _ _ _ _ _ (pv 3) (@Zag _ _ _ _ _ (pv 7) Zaa (by rfl)) (by rfl))) (fun _ _ _ _=>⟨(@Zfi _ K rfl _ _ _ _ 2 rfl (@Zai _ _ _ _ _ (@Zah _ _ 0 _ (show (["row","lead","ground"]:List Str).Nodup by decide +kernel) rfl (Or.inl rfl) (Or.inr rfl)) (@Zai _ _ _ _ _ (@Zah _ _ 1 _ (show (["row","lead","ground"]:List Str).Nodup by decide +kernel) rfl (Or.inr rfl) (Or.inl rfl)) (@Zba _) (by rfl)) (by rfl)) (by rfl) (by rfl)),Za9,(Zbg (own:=["number"]) (fr:=[("ground",2),("lead",1)]) rfl (Zck (by kernel_rfl)) (Zix K rfl (pv 0)) (fun _ _ _ _=>⟨(@Zah _ _ 0 _ (show (["number","ground","lead"]:List Str).Nodup by decide +kernel) rfl (Or.inl rfl) (Or.inr rfl)),Za9,(Zk9 T.cl_Ground C_Ground_number_F hr.m (pv 1) (@Zag _ _ _ _ _ (pv 0) (@Zag _ _ _ _ _ (pv 2) Zaa (by rfl)) (by rfl)))⟩))⟩)) (@Zag _ _ _ _ _ (pv 4) Zaa (by rfl)) (by rfl))))))))),?_⟩
  walk_at "wp"
  refine ⟨g,L,p,as,M,k,W,wide,rfl,hg,hp,R,hw,hPL,sw,fun t F pA rs Z done left pl H1 s1 ht hF hpA nFp ep eF rz nrs IR sw1=>?_⟩
  refine ⟨t,rfl,_,SqT.of ht,rfl,_,_,rfl,_,_,rfl,rfl,?_⟩
  have p0:=hp.lo
  have ml:=R.row.1
  have h9:=R.h900
  have w9:=R.w900
  have rwZ:=Zb1 p0 IR R.wd
  have I:=sw1.inv p0 rwZ
  have zM:=IR.1
  have ill:=I.all
  have idl:=I.len
  have sbA:=sb Z done left pl IR sw1
  have plw:∀ j,j < pl.length->pl.getD j 0 < W:=fun j hj=>by have:=I.lt j hj; omega
  -- list(enumerate(places))
  refine ⟨_,rfl,pA,_,rfl,SqL.of ep,fun EL ps H2 s2 fE nE eE pl2 etup=>?_⟩
  rw [List.length_map] at pl2
  have pll:pl.length<=900:=by omega
  refine ⟨EL,_,rfl,SqL.of eE,for_rvl (xs:=ps.map V.ref) (fun i σ H3=>∃ (v5 v6:Option V) (rs2:List Addr),σ = [some (.ref g),some (.ref L),some (.int wide),some (.ref F),some (.ref pA),v5,v6,none]/\Same H H3/\H3 pA = some (.lst (pl.map fun (j:Nat)=>V.int j))/\H3 EL = some (.lst (ps.map V.ref))/\(∀ (j:Nat) q',ps[j]? = some q'->H3 q' = some (.tup [.int j,.int (pl.getD j 0:Nat)])) /\
    H3 F = some (.lst (rs2.map V.ref))/\All2 (RowZ H3) rs2 (Zbe p pl (done ++ left) i)/\∀ a ∈ rs2,H a = none/\a ≠ F/\a ≠ pA)
   ⟨none,none,rs,rfl,s1.trans s2,s2 _ _ ep,eE,fun j q' e=>?_,s2 _ _ eF,rz.mono fun _ _ r=>r.same s2,nrs⟩ (fun i σ H3 _ ⟨_,_,_,_,_,_,h,_⟩=>SqL.of h) ?_ ?_⟩
  ·have hj:j < pl.length:=by have:=(List.getElem?_eq_some_iff.mp e).1; omega
   refine etup j q' _ e ?_
   rw [List.getElem?_map,List.getElem?_eq_getElem hj,Za1 hj]
   rfl
  ·rintro i x σ H3 hi hx ⟨v5,v6,rs2,rfl,sm,ep3,eE3,et3,eF3,rz3,nr3⟩
   rw [List.length_map] at hi hx
   have hat:pl.length - 1 - i < ps.length:=by omega
   rw [show ps.length - 1 - i = pl.length - 1 - i by omega,List.getElem?_map,List.getElem?_eq_getElem hat] at hx
   cases hx
   have hp3:=et3 _ _ (List.getElem?_eq_getElem hat)
   walk_at "wp"
   refine ⟨_,SqT.of hp3,rfl,_,_,rfl,_,_,rfl,rfl,?_⟩
   obtain ⟨Fd,_,hFd⟩:=Zfv hp
   have B:=Sw.back p0 I hFd i (by omega)
   have bl:=B.len
   have pv:=B.piv (pl.length - 1 - i) (by omega)
   have smB:=sbA i (by omega)
   have bdef:Zbe p pl (done ++ left) (i + 1) = ((Zbe p pl (done ++ left) i).take (pl.length - 1 - i)).map (fun row=>Zbn p row ((Zbe p pl (done ++ left) i).getD (pl.length - 1 - i) []) (pl.getD (pl.length - 1 - i) 0)) ++ (Zbe p pl (done ++ left) i).drop (pl.length - 1 - i):=rfl
   rw [bdef]
   have wk:=plw (pl.length - 1 - i) (by omega)
   have hatl:pl.length - 1 - i < (Zbe p pl (done ++ left) i).length:=by omega
   generalize pl.length - 1 - i = at' at *
   generalize Zbe p pl (done ++ left) i = Ri at *
   generalize hk:pl.getD at' 0 = kk at *
   have rl3:=rz3.1
   have leadm:Ri.getD at' [] ∈ Ri:=Zas hatl
   have kz:(Ri.getD at' []).getD kk 0 ≠ 0:=fun z=>pv (Zgw z)
   have ea:rs2[at']? = some (rs2[at']'(by omega)):=List.getElem?_eq_getElem _
   have rlead:=rz3.2 at' _ _ ea (List.getElem?_eq_getElem hatl)
   rw [<- Za1 hatl (d:=[])] at rlead
   generalize rs2[at']'(by omega) = aL at *
   generalize Ri.getD at' [] = lead at *
   have rwl:=B.rw lead leadm
   have neF:∀ {b:Addr} {o:HO},H3 b = some o->∀ {D:Addr},H3 D = none->b ≠ D:=fun {b o} e {D} h z=>by rw [z,h] at e; cases e
   refine ⟨_,rfl,_,rfl,_,rfl,F,_,rfl,SqL.of eF3,fun S hS=>?_⟩
   have sS:=Same.new (o:=.lst (Zmi (rs2.map V.ref) none (some (at':Int)))) hS
   have ecut:Zmi (rs2.map V.ref) none (some (at':Int)) = (rs2.take at').map V.ref:=by
    rw [cut_loG _ _ (by omega) (by rw [List.length_map]; omega),Int.toNat_natCast,List.map_take]
   rw [ecut] at sS ⊢
   have rzT:All2 (RowZ H3) (rs2.take at') (Ri.take at'):=rz3.take at'
   refine ⟨S,rfl,⟨_,SqL.of Zad⟩,fun D hD=>Zco (fun i' Hc y=>∃ a:Addr,y = .ref a/\RowZ Hc a (Zbn p ((Ri.take at').getD i' []) lead kk)/\H a = none/\a ≠ F/\a ≠ D/\a ≠ pA) (fun ⟨a,e,b,c⟩ s=>⟨a,e,b.same s,c⟩) (fun ⟨a,e,b,c,d,e',f⟩ hD=>⟨a,e,b.put e',c,d,e',f⟩) Zad hD (by rw [List.length_map,List.length_take]; omega) (fun i' x H' Q' hx s' ⟨lD,hlD⟩ q'=>?_) (fun ys H5 s5 e5 hyl hys=>?_)⟩
   ·obtain ⟨row,er,a,rfl,rz'⟩:=(Za7 rzT).at' hx
    have hm:row ∈ Ri:=List.mem_of_mem_take (List.mem_of_getElem? er)
    have ha:a ∈ rs2:=by
     have:=List.mem_of_getElem? hx
     obtain ⟨b,hb,e⟩:=List.mem_map.mp this
     cases e
     exact List.mem_of_mem_take hb
    have nla:=nr3 a ha
    have rw1:=B.rw row hm
    have sT:=sS.trans s'
    refine ⟨_,rfl,_,rfl,_,rfl,_,rfl,F,_,_,_,rfl,rfl,SqL.of (sT _ _ eF3),Zbl (by omega) (by rw [Int.toNat_natCast,List.getElem?_map,ea]; rfl),_,rfl,g,a,aL,p,row,lead,kk,rfl,hg.same (sm.trans sT),hp,rz'.same sT,rlead.same sT,rw1.1.trans rwl.1.symm,by rw [rw1.1]; omega,by rw [rw1.1]; exact wk,kz,smB row hm,smB lead leadm,fun a' H6 s6 rz6 fr=>q' _ H6 s6 ⟨a',rfl,?_,?_⟩⟩
    ·rw [Zak er]; exact rz6
    ·rcases fr with rfl | fr
     ·exact ⟨nla.1,nla.2.1,fun z=>(by have e1:H3 a' = some _:=rz'; have e2:=sS _ _ e1; rw [z,hD] at e2; cases e2),nla.2.2⟩
     ·exact ⟨(sm.trans sT).free fr,fun z=>(by rw [z,sT _ _ eF3] at fr; cases fr),fun z=>(by rw [z,hlD] at fr; cases fr),fun z=>(by rw [z,sT _ _ ep3] at fr; cases fr)⟩
   ·rw [List.length_map,List.length_take] at hyl
    obtain ⟨bs,rfl,hbs⟩:=Zhb (P:=fun i' a=>RowZ H5 a (Zbn p ((Ri.take at').getD i' []) lead kk)/\H a = none/\a ≠ F/\a ≠ D/\a ≠ pA) hys
    rw [List.length_map] at hyl
    have sT:=sS.trans s5
    have eF5:=sT _ _ eF3
    have FneD:F ≠ D:=fun z=>by have:=sS _ _ eF3; rw [z,hD] at this; cases this
    have FnE:F ≠ EL:=fun z=>by rw [<- z,eF] at fE; cases fE
    refine ⟨_,rfl,D,rfl,_,eF5,_,e5,FneD,by omega,by rw [List.length_map]; omega,by rw [List.length_map,List.length_map]; exact Nat.le_trans (show _<=2000 by omega) (by decide),_,_,⟨rfl,rfl⟩,?_⟩
    have ed:List.map V.ref bs ++ List.drop ((at':Int)).toNat (rs2.map V.ref) = (bs ++ rs2.drop at').map V.ref:=by rw [Int.toNat_natCast,List.map_append,List.map_drop]
    rw [ed]
    refine ⟨(sm.trans sT).upd hF,by rw [Zap (Ne.symm nFp)]; exact sT _ _ ep3,by rw [Zap (Ne.symm FnE)]; exact sT _ _ eE3,fun j q' e=>?_,bs ++ rs2.drop at',Zad,?_,fun a ha=>?_⟩
    ·have h1:=sT _ _ (et3 j q' e)
     rw [Zap (Zrb h1 eF5 (by intro z; cases z))]
     exact h1
    ·refine All2.app (All2.of_get (d:=[]) (by rw [List.length_map,List.length_take]; omega) fun i' b e=>?_) ((rz3.drop at').monoM fun a _ ha r=>?_)
     ·have hi':i' < (Ri.take at').length:=by have:=(List.getElem?_eq_some_iff.mp e).1; rw [List.length_take]; omega
      obtain ⟨h1,h2,h3,h4,h5⟩:=hbs i' b e
      rw [Zak (show _ = some _ by rw [List.getElem?_map,List.getElem?_eq_getElem hi']; rfl)]
      rw [Za1 hi'] at h1
      exact h1.put h3
     ·exact (r.same sT).put (nr3 a (List.mem_of_mem_drop ha)).2.1
    ·rcases List.mem_append.mp ha with ha | ha
     ·obtain ⟨i',hi',rfl⟩:=List.mem_iff_getElem.mp ha
      obtain ⟨h1,h2,h3,h4,h5⟩:=hbs i' _ (List.getElem?_eq_getElem hi')
      exact ⟨h2,h3,h5⟩
     ·exact nr3 a (List.mem_of_mem_drop ha)
  ·rintro σ H3 ⟨v5,v6,rs2,rfl,sm,ep3,eE3,et3,eF3,rz3,nr3⟩
   rw [List.length_map,pl2] at rz3
   obtain ⟨Fd,_,hFd⟩:=Zfv hp
   have B:=Sw.back p0 I hFd pl.length (Nat.le_refl _)
   have bl:=B.len
   have smB:=sbA pl.length (Nat.le_refl _)
   have ldm:=B.lead
   have q9:∀ (t F pA:Addr) (rs:List Addr) (M':Mv) H',Same H H'->H' t = some (.tup [.ref F,.ref pA])->H F = none->H pA = none->F ≠ pA->H' pA = some (.lst (pl.map fun (j:Nat)=>V.int j))->H' F = some (.lst (rs.map V.ref))->All2 (RowV H' p) rs M'->(∀ a ∈ rs,H a = none/\a ≠ F/\a ≠ pA)->
     M'.length = (Zbe p pl (done ++ left) pl.length).length->(∀ i,i < M'.length->All2 (fun z x=>IsQ p z (Za4 pl (Zbe p pl (done ++ left) pl.length) i) x) ((Zbe p pl (done ++ left) pl.length).getD i []) (M'.getD i []))->Q (.ref t) H':=fun t F pA rs M' H' a1 a2 a3 a4 a5 a6 a7 a8 a9 b1 b2=>q t F pA rs M' pl H' a1 a2 a3 a4 a5 a6 a7 a8 a9 ⟨Z,done,left,IR,sw1,b1,b2⟩
   generalize Zbe p pl (done ++ left) pl.length = Rf at *
   have rl3:=rz3.1
   have z2:2000<=sizeLine:=by decide
   walk_at "wp"
   refine ⟨_,rfl,_,rfl,F,pA,rfl,⟨_,SqL.of eF3⟩,⟨_,SqL.of ep3⟩,fun D hD=>Zm6 (fun i=>(Rf.getD i []).getD (pl.getD i 0) 0) eF3 ep3 (by rw [List.length_map,List.length_map]; omega) hD (by rw [List.length_map]; omega) (fun i x y H' Q' hx hy s' q'=>?_) fun H4 s4 e4=>?_⟩
   ·obtain ⟨row,er,a,rfl,rz'⟩:=(Za7 rz3).at' hx
    rw [List.getElem?_map] at hy
    cases ey:pl[i]? with
    | none=>rw [ey] at hy; cases hy
    | some k'=>
     rw [ey] at hy
     cases hy
     have hil:i < pl.length:=(List.getElem?_eq_some_iff.mp ey).1
     have kw:=plw i hil
     have ek:pl.getD i 0 = k':=by rw [List.getD_eq_getElem?_getD,ey]; rfl
     have rw1:=B.rw row (List.mem_of_getElem? er)
     have q2:=q' H' (Same.refl _)
     rw [ek,show Rf.getD i [] = row by rw [List.getD_eq_getElem?_getD,er]; rfl] at q2
     rw [ek] at kw
     have kr:k' < row.length:=by rw [rw1.1]; exact kw
     rw [Za1 kr] at q2
     exact ⟨_,rfl,_,rfl,a,_,_,_,rfl,rfl,SqL.of (s' _ _ rz'),Zbl (by omega) (by rw [Int.toNat_natCast,List.getElem?_map,List.getElem?_eq_getElem kr]; rfl),q2⟩
   rw [List.length_map] at e4
   refine ⟨tyL e4,by decide,fun q1 hq1=>?_⟩
   have s5:=Same.new (o:=.lst [V.int 1]) hq1
   refine ⟨_,.inl (SqL.of (s5 _ _ (s4 _ _ eF3))),_,.inl (SqL.of (s5 _ _ (s4 _ _ ep3))),?_⟩
   rw [List.length_map,List.length_map]
   refine ⟨q1,_,_,rfl,rfl,Zad,by omega,by omega,by show 1 * _<=_; omega,fun q2 hq2=>?_⟩
   have s6:=Same.new (o:=.lst (List.replicate ((rs2.length:Int) - (pl.length:Int)).toNat [V.int 1]).flatten) hq2
   have s56:=s5.trans s6
   refine ⟨D,q2,_,_,rfl,rfl,s56 _ _ e4,Zad,by rw [List.length_map,List.length_map,List.length_range,Zow]; show pl.length + _ * 1<=_; omega,?_⟩
   have eL:((List.range pl.length).map fun i=>(Rf.getD i []).getD (pl.getD i 0) 0).map V.int ++ (List.replicate ((rs2.length:Int) - (pl.length:Int)).toNat [V.int 1]).flatten = ((List.range rs2.length).map (Za4 pl Rf)).map V.int:=by
    rw [show rs2.length = pl.length + ((rs2.length:Int) - (pl.length:Int)).toNat by omega]
    generalize ((rs2.length:Int) - (pl.length:Int)).toNat = d
    rw [show ((pl.length + d:Nat):Int) - (pl.length:Int) = d by omega,Int.toNat_natCast,List.range_add,List.map_append,List.map_append]
    congr 1
    ·refine congrArg _ (List.map_congr_left fun i hi=>?_)
     unfold Za4
     rw [if_pos (List.mem_range.mp hi)]
    ·have e1:∀ i ∈ List.range d,Za4 pl Rf (pl.length + i) = 1:=fun i _=>by
      unfold Za4
      rw [if_neg (by omega)]
     have e2:((List.range d).map fun x=>pl.length + x).map (Za4 pl Rf) = (List.range d).map fun _=>(1:Int):=by
      rw [List.map_map]
      exact List.map_congr_left fun i hi=>e1 i hi
     rw [e2]
     clear e1 e2
     induction d with
     | zero=>rfl
     | succ d ih=>rw [List.replicate_succ',List.flatten_append,ih,List.range_succ,List.map_append,List.map_append]; rfl
   rw [eL]
   have eD:upd (upd (upd H4 q1 (.lst [V.int 1])) q2 (.lst (List.replicate ((rs2.length:Int) - (pl.length:Int)).toNat [V.int 1]).flatten)) D (.lst (((List.range rs2.length).map (Za4 pl Rf)).map V.int)) D = some (.lst (((List.range rs2.length).map (Za4 pl Rf)).map V.int)):=Zad
   have nFD:F ≠ D:=fun z=>by rw [z,hD] at eF3; cases eF3
   have npD:pA ≠ D:=fun z=>by rw [z,hD] at ep3; cases ep3
   have t46:=s4.trans s56
   have sm7:Same H (upd (upd (upd H4 q1 (.lst [V.int 1])) q2 (.lst (List.replicate ((rs2.length:Int) - (pl.length:Int)).toNat [V.int 1]).flatten)) D (.lst (((List.range rs2.length).map (Za4 pl Rf)).map V.int))):=(sm.trans t46).upd (sm.free hD)
   have eF7:upd (upd (upd H4 q1 (.lst [V.int 1])) q2 (.lst (List.replicate ((rs2.length:Int) - (pl.length:Int)).toNat [V.int 1]).flatten)) D (.lst (((List.range rs2.length).map (Za4 pl Rf)).map V.int)) F = some (.lst (rs2.map V.ref)):=by rw [Zap nFD]; exact t46 _ _ eF3
   have ep7:upd (upd (upd H4 q1 (.lst [V.int 1])) q2 (.lst (List.replicate ((rs2.length:Int) - (pl.length:Int)).toNat [V.int 1]).flatten)) D (.lst (((List.range rs2.length).map (Za4 pl Rf)).map V.int)) pA = some (.lst (pl.map fun (j:Nat)=>V.int j)):=by rw [Zap npD]; exact t46 _ _ ep3
   have rz7:All2 (RowZ (upd (upd (upd H4 q1 (.lst [V.int 1])) q2 (.lst (List.replicate ((rs2.length:Int) - (pl.length:Int)).toNat [V.int 1]).flatten)) D (.lst (((List.range rs2.length).map (Za4 pl Rf)).map V.int)))) rs2 Rf:=rz3.mono fun a _ r=>(r.same t46).put fun z=>by have e1:H3 a = some _:=r; rw [z,hD] at e1; cases e1
   generalize upd (upd (upd H4 q1 (.lst [V.int 1])) q2 (.lst (List.replicate ((rs2.length:Int) - (pl.length:Int)).toNat [V.int 1]).flatten)) D (.lst (((List.range rs2.length).map (Za4 pl Rf)).map V.int)) = H7 at *
   obtain ⟨dg,hg0⟩:=hg
   refine ⟨_,rfl,_,rfl,F,D,rfl,⟨_,SqL.of eF7⟩,⟨_,SqL.of eD⟩,fun N hN=>Zfw (fun i Hc y=>∃ (a:Addr) (xs:List Nv),y = .ref a/\RowV Hc p a xs/\All2 (fun z x=>IsQ p z (Za4 pl Rf i) x) (Rf.getD i []) xs/\H a = none/\a ≠ N/\a ≠ pA) (fun ⟨a,xs,e,b,c⟩ s=>⟨a,xs,e,b.same s,c⟩) (fun ⟨a,xs,e,b,c,d,e',f⟩ hD=>⟨a,xs,e,b.put hD e',c,d,e',f⟩) eF7 eD (by simp) hN (by rw [List.length_map]; omega) (fun i x y H' Q' hx hy s' ⟨lD,hlD⟩ q'=>?_) fun ys H8 s8 e8 hyl hys=>?_⟩
   ·obtain ⟨row,er,a,rfl,rz'⟩:=(Za7 rz7).at' hx
    obtain ⟨u,hu,rfl⟩:=Zfl hy
    have hil:i < Rf.length:=(List.getElem?_eq_some_iff.mp er).1
    rw [List.getElem?_map,List.getElem?_range (by omega)] at hu
    cases hu
    have rw1:=B.rw row (List.mem_of_getElem? er)
    have sr:=smB row (List.mem_of_getElem? er)
    have eR:Rf.getD i [] = row:=by rw [List.getD_eq_getElem?_getD,er]; rfl
    have ldb:Bt HB (Za4 pl Rf i):=by
     unfold Za4
     split
     ·rw [eR]; exact sr.at _
     ·exact Za5 (by decide) (by decide)
    have ld:=ldm i
    have r0:=s' _ _ rz'
    refine ⟨_,rfl,a,rfl,⟨_,SqL.of r0⟩,fun D4 hD4=>Zco (fun j Hc v=>∃ x,NumV Hc p v x/\IsQ p (row.getD j 0) (Za4 pl Rf i) x) (fun ⟨x,a,b⟩ s=>⟨x,a.same s,b⟩) (fun ⟨x,a,b⟩ hD=>⟨x,a.put hD,b⟩) r0 hD4 (by rw [List.length_map,rw1.1]; omega) (fun j v Hc Qc hv sc _ qc=>?_) fun vs Hc sc ec vl vn=>?_⟩
    ·obtain ⟨z,ez,rfl⟩:=Zfl hv
     have hgc:=(s'.trans sc) _ _ (sm7 _ _ hg0)
     refine ⟨_,rfl,g,dg,_,rfl,hgc,Zpl _ (by decide +kernel),_,rfl,_,rfl,g,p,z,Za4 pl Rf i,rfl,⟨dg,hgc⟩,hp,(sr z (List.mem_of_getElem? ez)).le (by decide),ldb.le (by decide),fun h0 z0=>ld (by rw [z0,Zfm]),fun h0 z0=>ld (by rw [<- hFd.modF h0,z0,Zfm]),fun v x Hd sd nv iq=>qc v Hd sd ⟨x,nv,?_⟩⟩
     rw [Zak ez]
     exact iq
    ·rw [List.length_map] at vl
     obtain ⟨xs,hxs⟩:=All2.pick (P:=fun (vi:V × Nat) x=>NumV Hc p vi.1 x/\IsQ p (row.getD vi.2 0) (Za4 pl Rf i) x) (xs:=vs.zipIdx) fun vi hvi=>by
      obtain ⟨v,j⟩:=vi
      exact vn j v (List.mk_mem_zipIdx_iff_getElem?.mp hvi)
     have xl:xs.length = vs.length:=by have:=hxs.1; rw [List.length_zipIdx] at this; omega
     have hat:∀ (j:Nat) v x,vs[j]? = some v->xs[j]? = some x->NumV Hc p v x/\IsQ p (row.getD j 0) (Za4 pl Rf i) x:=fun j v x e1 e2=>hxs.2 j (v,j) x (by rw [List.getElem?_zipIdx,e1]; simp) e2
     refine q' _ Hc sc ⟨D4,xs,rfl,⟨vs,ec,by omega,fun j v x e1 e2=>(hat j v x e1 e2).1⟩,?_,(sm7.trans s').free hD4,(Zan hlD hD4).symm,fun z=>by rw [z,s' _ _ ep7] at hD4; cases hD4⟩
     rw [eR]
     refine ⟨by omega,fun j z x e1 e2=>?_⟩
     have hj:j < vs.length:=by have:=(List.getElem?_eq_some_iff.mp e2).1; omega
     have:=(hat j _ x (List.getElem?_eq_getElem hj) e2).2
     rwa [Zak e1] at this
   ·rw [List.length_map] at hyl
    obtain ⟨bs,rfl,hbs⟩:=Zhb (P:=fun i a=>∃ xs,RowV H8 p a xs/\All2 (fun z x=>IsQ p z (Za4 pl Rf i) x) (Rf.getD i []) xs/\H a = none/\a ≠ N/\a ≠ pA) fun i y e=>let ⟨a,xs,h1,h2⟩:=hys i y e; ⟨a,h1,xs,h2⟩
    rw [List.length_map] at hyl
    obtain ⟨M',hM'⟩:=All2.pick (P:=fun (ai:Addr × Nat) xs=>RowV H8 p ai.1 xs/\All2 (fun z x=>IsQ p z (Za4 pl Rf ai.2) x) (Rf.getD ai.2 []) xs/\H ai.1 = none/\ai.1 ≠ N/\ai.1 ≠ pA) (xs:=bs.zipIdx) fun ai hai=>by
     obtain ⟨a,i⟩:=ai
     exact hbs i a (List.mk_mem_zipIdx_iff_getElem?.mp hai)
    have mlen:M'.length = bs.length:=by have:=hM'.1; rw [List.length_zipIdx] at this; omega
    have mat:∀ (i:Nat) (a:Addr) xs,bs[i]? = some a->M'[i]? = some xs->RowV H8 p a xs/\All2 (fun z x=>IsQ p z (Za4 pl Rf i) x) (Rf.getD i []) xs/\H a = none/\a ≠ N/\a ≠ pA:=fun i a xs e1 e2=>hM'.2 i (a,i) xs (by rw [List.getElem?_zipIdx,e1]; simp) e2
    refine ⟨by decide,fun t' ht'=>?_⟩
    have s9:=Same.new (o:=.tup [V.ref N,V.ref pA]) ht'
    refine q9 t' N pA bs M' _ ((sm7.trans s8).trans s9) Zad (sm7.free hN) hpA (fun z=>by rw [z,ep7] at hN; cases hN) ((s8.trans s9) _ _ ep7) (s9 _ _ e8) ⟨by omega,fun i a xs e1 e2=>(mat i a xs e1 e2).1.same s9⟩ (fun a ha=>?_) (by omega) (fun i hi=>?_)
    ·obtain ⟨i,hi,rfl⟩:=List.mem_iff_getElem.mp ha
     exact (mat i _ _ (List.getElem?_eq_getElem hi) (List.getElem?_eq_getElem (show i < M'.length by omega))).2.2
    ·have:=(mat i _ _ (List.getElem?_eq_getElem (show i < bs.length by omega)) (List.getElem?_eq_getElem hi)).2.1
     rw [Za1 hi]
     exact this
theorem Zoc {p:Int} (hp:GroundP p) (h:p ≠ 0):(1:Int) % p ≠ 0:=by
 rcases hp with h' | h'
 ·exact absurd h' h
 ·rw [Int.emod_eq_of_lt (by decide) h'.1]
  decide
theorem Zo5 {p k:Int} {x:Int × Int} (hp:GroundP p) (h:IsQ p k 1 x):x = Zfn p k:=by
 obtain ⟨F,_,hF⟩:=Zfv hp
 refine hF.inj h.is (Zda hp.lo) ?_
 rw [h.fd F hF,hF.intF,Zdz]
 have:=Zm9 (F:=F)
 grind
theorem Zme {p:Int} (hp:GroundP p):Zfn p 1 = (1,1):=by
 unfold Zfn
 split
 ·rfl
 ·rw [Int.emod_eq_of_lt (by decide)]
  rcases hp with h | ⟨h,_⟩ <;> omega
theorem Zfe (p:Int):(flds p).lookup ("number" : Str) = none:=Zpl _ (by decide +kernel)
theorem Zqo {H:Hp} {p:Int} {rs:List Addr} {M:Mv} {k:Nat} {a:Addr} {us:List V} {o:HO} {row:List Nv} (h:All2 (RowV H p) rs M) (nds:rs.Nodup) (e:rs[k]? = some a) (ha:H a = some (.lst us)) (hr:RowV (upd H a o) p a row):All2 (RowV (upd H a o) p) rs (M.set k row):=by
 have hk:k < rs.length:=(List.getElem?_eq_some_iff.mp e).1
 have ek:rs[k] = a:=(List.getElem?_eq_some_iff.mp e).2
 refine ⟨by rw [List.length_set]; exact h.1,fun j c y f1 f2=>?_⟩
 rw [List.getElem?_set] at f2
 by_cases hjk:k = j
 ·subst hjk
  rw [e] at f1
  cases f1
  rw [if_pos rfl] at f2
  split at f2
  ·cases f2
   exact hr
  ·cases f2
 ·rw [if_neg hjk] at f2
  refine (h.2 j c y f1 f2).put ha fun z=>hjk ?_
  have hj:j < rs.length:=(List.getElem?_eq_some_iff.mp f1).1
  have e':rs[j] = rs[k]:=by rw [ek,<- z]; exact (List.getElem?_eq_some_iff.mp f1).2
  rcases Nat.lt_trichotomy k j with h | h | h
  ·exact absurd e'.symm (List.pairwise_iff_getElem.mp nds k j hk hj h)
  ·exact h
  ·exact absurd e' (List.pairwise_iff_getElem.mp nds j k hj hk h)
theorem Zoo {lo:Int} {n:Nat} {D:Addr} {fr:List (Str × Nat)} {σ:L2.St} {te:TE} {H1:Hp} {Q:VK} {p:Int} (M:Nat->List Nv) (hD:H1 D = none) (hn:n<=1000)
  (h:∀ (i:Nat) H (Q:VK),i < n->Same H1 H->(∀ a H',H a = none->Same H H'->RowV H' p a (M i)->Q (.ref a) H')->te (some (.int (lo + (i:Nat))) :: Zcb fr σ) H Q)
  (hQ:∀ (rs:List Addr) H',Same H1 H'->H' D = some (.lst (rs.map V.ref))->All2 (RowV H' p) rs ((List.range n).map M)->D ∉ rs->rs.Nodup->(∀ a ∈ rs,H1 a = none)->Q (.ref D) H'):Zcl (Zc8 0) Zht te (Itr lo n) D (Zgt 1 fr σ) H1 Q:=by
 refine Zgs (n:=n) (fun i vs H=>∃ rs:List Addr,vs = rs.map V.ref/\Same H1 H/\H D = some (.lst (rs.map V.ref))/\All2 (RowV H p) rs ((List.range i).map M)/\D ∉ rs/\rs.Nodup/\∀ a ∈ rs,H1 a = none) ⟨[],rfl,Same.new hD,Zad,All2.nil,by simp,by simp,by simp⟩ ?_ (fun vs H ⟨rs,e,a,b,c,d,f,g⟩=>hQ rs H a b c d f g)
 rintro i x vs σ' H hi rfl sh ⟨rs,rfl,s,e,al,nD,nd,fr⟩
 obtain ⟨z,rfl⟩:=sh.one
 simp only [Zfo,Zc8,Zht,List.set_cons_zero,if_true]
 refine h i H _ hi s fun a H' ha s' rv=>?_
 have nDa:D ≠ a:=Zan e ha
 have na:a ∉ rs:=fun z=>by
  obtain ⟨j,hj,ej⟩:=List.mem_iff_getElem.mp z
  obtain ⟨_,_,us,hu,_⟩:=al.at' (List.getElem?_eq_getElem hj)
  rw [ej,ha] at hu
  cases hu
 have l1:=al.1
 rw [List.length_map,List.length_range] at l1
 refine Zox (ws:=rs.map V.ref ++ [.ref a]) hi Sh.mk1 (s' _ _ e) (Za2 (by rw [List.length_map]; omega)) ⟨rs ++ [a],Zdx _ _,(s.trans s').upd hD,by rw [Zad,Zdx],?_,fun z=>?_,?_,fun b hb=>?_⟩
 ·rw [List.range_succ,List.map_append]
  exact (al.monoM fun c x hc k=>(k.same s').put (s' _ _ e) (fun z=>nD (z ▸ hc))).app (All2.one (rv.put (s' _ _ e) nDa.symm))
 ·rcases List.mem_append.mp z with h | h
  ·exact nD h
  ·exact nDa (List.mem_singleton.mp h)
 ·rw [List.nodup_append]
  exact ⟨nd,by simp,fun x hx y hy e=>na (by rw [<- List.mem_singleton.mp hy,<- e]; exact hx)⟩
 ·rcases List.mem_append.mp hb with h | h
  ·exact fr b h
  ·rw [List.mem_singleton.mp h]; exact s.free ha
theorem Zii {n:Nat} {k:Int} (h0:0<=k) (h1:k.toNat < n):ixN n k = some k.toNat:=by
 unfold ixN
 simp [h0]
 omega
theorem Zex (p:Int):Zfn p 0 = (0,1):=by
 unfold Zfn
 split
 ·rfl
 ·rw [Int.zero_emod]
theorem rep1 (n:Nat) (v:V):(List.replicate n [v]).flatten = List.replicate n v:=by
 induction n with
 | zero=>rfl
 | succ n ih=>rw [List.replicate_succ,List.flatten_cons,ih,List.replicate_succ]; rfl
theorem Znu {n:Nat} (h:n<=24):n<=sizeLine:=Nat.le_of_lt (Za2 (by omega))
abbrev zR (n:Nat):List Nv:=List.replicate n (0,1)
abbrev zM (h n:Nat):Mv:=(List.range h).map fun _=>zR n
def spNou (C:Addr):L2.Sp:=fun vs H Q _=>∃ (g:Addr) (p hh wd:Int),vs = [.ref g,.int hh,.int wd]/\GAt C H g p/\GroundP p/\0<=hh/\hh<=24/\0<=wd/\wd<=24 /\
 ∀ (t r:Addr) (rs:List Addr) H',Same H H'->New H t r rs->rs.Nodup->TabV H' p hh wd t r rs (zM hh.toNat wd.toNat)->Q (.ref t) H'
theorem ok_nou {f:Addr} {fd:FuncData} (F:Fun K "noughts" "noughts" Zd5 f fd) (T:Txt K mg C) (C_Ground_number:CalD P w K mg base C "number" 6 (Zh0 C) [.int 1]):FnOk P w K mg base CX0 7 f fd ["ground","high","wide"] (spNou C):=by
 have nd:=Zh5.nd
 refine F.ok Zh5 (fun vs H Q E h=>?_) (fun cdv A outer s H vs Q E hr h=>?_)
 ·obtain ⟨g,p,hh,wd,rfl,_⟩:=h
  rfl
 ·obtain ⟨g,p,hh,wd,rfl,⟨dg,hg0⟩,hp,h0,h24,w0,w24,q⟩:=h
  refine ⟨_,(@Zaf _ _ _ (@Zaj _ _ _ _ (@Zbd _ _ _ _ _ (@Zag _ _ _ _ _ (pv 1) (@Zag _ _ _ _ _ (pv 2) (@Zag _ _ _ _ _ (Zbg (own:=["row"]) (fr:=[("ground",0),("wide",2)]) rfl (Zck (by kernel_rfl)) (Zgj rfl T.n_range (@Zag _ _ _ _ _ (pv 1) Zaa (by rfl))) (fun _ _ _ _=>⟨(@Zah _ _ 0 _ (show (["row","ground","wide"]:List Str).Nodup by decide +kernel) rfl (Or.inl rfl) (Or.inr rfl)),Za9,(@Zar _ _ _ _ _ _ _ _ Zn9 (@Zc4 _ _ _ _ (@Zag _ _ _ _ _ (Zk9 T.cl_Ground C_Ground_number hr.m (pv 1) (@Zag _ _ _ _ _ Zac Zaa (by rfl))) Zaa (by rfl))) (pv 2))⟩)) Zaa (by rfl)) (by rfl)) (by rfl))))),?_⟩
  walk_at "wp"
  refine ⟨_,rfl,hh,rfl,by omega,by omega,fun D hD=>Zoo (p:=p) (fun _=>zR wd.toNat) hD (by omega) (fun i H' Q' hi s' q'=>?_) fun rs H3 s3 hD3 al3 nD nds fr=>?_⟩
  ·have wsz:1 * wd.toNat<=sizeLine:=Znu (by omega)
   refine ⟨_,rfl,g,dg,_,rfl,s' _ _ hg0,Zfe p,g,p,0,1,rfl,⟨dg,s' _ _ hg0⟩,hp,Za5 (by decide) (by decide),Za5 (by decide) (by decide),fun _=>by decide,Zoc hp,fun nv nx H2 s2 hnv iq=>⟨by show 1<=sizeLine; decide,fun o1 ho1=>?_⟩⟩
   rw [Zo5 hp iq,Zex] at hnv
   have s5:=Same.new (o:=.lst [nv]) ho1
   refine ⟨_,rfl,o1,_,_,rfl,rfl,Zad,by omega,by omega,wsz,fun o2 ho2=>?_⟩
   rw [rep1]
   have s6:=Same.new (o:=.lst (List.replicate wd.toNat nv)) ho2
   have t6:=s5.trans s6
   exact q' o2 _ ((s2.trans s5).free ho2) (s2.trans t6) ⟨_,Zad,All2.rep (hnv.same t6) _⟩
  ·refine ⟨by decide,fun t ht=>?_⟩
   have s5:=Same.new (o:=.tup [V.int hh,V.int wd,V.ref D]) ht
   exact q t D rs _ (s3.trans s5) ⟨s3.free ht,hD,fr⟩ nds ⟨Zad,s5 _ _ hD3,al3.mono fun _ _ q=>q.same s5,nD⟩
abbrev eR (n i:Nat):List Nv:=(zR n).set i (1,1)
abbrev unitM (n:Nat):Mv:=(List.range n).map fun i=>eR n i
end
end Pf
namespace Pf
open PySem L2 L3 PyProof.Rows
section
variable {p:Int} {F:Type} [Lean.Grind.Field F]
def vN (xs:List Nv):Nat->F:=fun j=>nm (xs.getD j (0,1))
theorem Zfk:(nm ((0,1):Nv):F) = 0:=by
 unfold nm
 rw [Zfm,Zdz]
 have:=Zm9 (F:=F)
 grind
theorem Zhx {xs:List Nv} {j:Nat} (h:xs.length<=j):(vN xs j:F) = 0:=by
 unfold vN
 rw [List.getD_eq_getElem?_getD,List.getElem?_eq_none h]
 exact Zfk
theorem Znc {xs:List Nv} {j:Nat} {x:Nv} (h:xs[j]? = some x):(vN xs j:F) = nm x:=by
 unfold vN
 rw [List.getD_eq_getElem?_getD,h]
 rfl
theorem Zil {α:Type} {f:α->Nat->F} {Z:List α} {i:Nat} {d:α} (h:i < Z.length):at' (Z.map f) i = f (Z.getD i d):=by
 show (Z.map f).getD i zv = _
 rw [List.getD_eq_getElem?_getD,List.getElem?_map,List.getElem?_eq_getElem h,List.getD_eq_getElem?_getD,List.getElem?_eq_getElem h]
 rfl
theorem Zmt {L L':List (Nat->F)} (hl:L.length = L'.length) (h:∀ i,i < L.length->∃ c:F,c ≠ 0/\∀ j,at' L i j = c * at' L' i j):SpEq L L':=by
 refine ⟨fun v hv=>?_,fun v hv=>?_⟩
 ·obtain ⟨i,hi,e⟩:=Zbu hv zv
  obtain ⟨c,_,hc⟩:=h i hi
  have e1:v = fun j=>c * at' L' i j:=by rw [<- e]; exact funext hc
  rw [e1]
  exact Sp.smul c (.mem (Zca (by omega)))
 ·obtain ⟨i,hi,e⟩:=Zbu hv zv
  obtain ⟨c,c0,hc⟩:=h i (by omega)
  have e1:v = fun j=>(1 / c) * at' L i j:=by
   rw [<- e]
   refine funext fun j=>?_
   rw [hc j]
   show at' L' i j = _
   grind
  rw [e1]
  exact Sp.smul _ (.mem (Zca (by omega)))
theorem wr_eq (hF:FdOk p F) {xs:List Nv} {zs:List Int} {b:Int} (h:WRz p xs zs b) (hx:∀ x ∈ xs,Isn p x) (j:Nat):(vz zs j:F) = ic b * vN xs j:=by
 have e:=h.eq j
 have e2:(ic (zs.getD j 0):F) * ic (xs.getD j (0,1)).2 = ic (xs.getD j (0,1)).1 * ic b:=by rw [<- Zcn,<- Zcn,e]
 have b2:(ic (xs.getD j (0,1)).2:F) ≠ 0:=by
  by_cases hj:j < xs.length
  ·rw [Za1 hj]
   exact hF.bot (hx _ (List.getElem_mem hj))
  ·rw [List.getD_eq_getElem?_getD,List.getElem?_eq_none (by omega)]
   show (ic 1:F) ≠ 0
   rw [Zdz]
   exact Zm9
 unfold vz vN nm
 generalize (ic (zs.getD j 0):F) = u at *
 generalize (ic (xs.getD j (0,1)).1:F) = v at *
 generalize (ic (xs.getD j (0,1)).2:F) = t at *
 grind
theorem wr_b (hF:FdOk p F) {xs:List Nv} {zs:List Int} {b:Int} (h:WRz p xs zs b):(ic b:F) ≠ 0:=by
 by_cases hp:p = 0
 ·exact hF.ne0 (.inl hp) (by have:=h.pos; omega)
 ·rw [h.one hp,Zdz]
  exact Zm9
theorem Zpa (hF:FdOk p F) {k:Nat} {Z:List (List Int)} {M:Mv} (h:Zd2 p k Z M) (hM:∀ xs ∈ M,∀ x ∈ xs,Isn p x):SpEq (F:=F) (Z.map vz) (M.map vN):=by
 have hl:=h.1
 refine Zmt (by rw [List.length_map,List.length_map]; exact hl) fun i hi=>?_
 rw [List.length_map] at hi
 obtain ⟨ws,b,w1,_,e⟩:=h.2 i _ _ (List.getElem?_eq_getElem hi) (List.getElem?_eq_getElem (show i < M.length by omega))
 rw [Zil (d:=[]) hi,Zil (d:=[]) (show i < M.length by omega),Za1 hi,Za1 (show i < M.length by omega),e]
 obtain ⟨c,c0,hc⟩:=Zne hF ws
 refine ⟨ic b / c,?_,fun j=>?_⟩
 ·have:=wr_b hF w1
  grind
 ·have e1:=hc j
  rw [wr_eq hF w1 (hM _ (List.getElem_mem _)) j] at e1
  generalize (vz (Zds p ws) j:F) = y at *
  grind
theorem Red.rr {k W wide:Nat} {M M':Mv} {pl:List Nat} (hp:GroundP p) (hF:FdOk p F) (R:Red p k wide M M' pl) (wd:∀ xs ∈ M,xs.length = W) (hM:∀ xs ∈ M,∀ x ∈ xs,Isn p x):
  RR (M'.map (vN (F:=F))) wide pl.length (fun i=>pl.getD i 0)/\SpEq (M'.map (vN (F:=F))) (M.map vN):=by
 obtain ⟨Z,done,left,IR,sw,ml,al⟩:=R.ex
 have p0:=hp.lo
 have I:=sw.inv p0 (Zb1 p0 IR wd)
 have B:=Sw.back p0 I hF pl.length (Nat.le_refl _)
 have bl:=B.len
 have zM:=IR.1
 have h1:=I.all
 have h2:=I.len
 obtain ⟨r1,r2⟩:=B.rr I.asc I.lt (by omega) (L:=M'.map vN) (by rw [List.length_map]; omega) fun i hi=>by
  have hi':i < M'.length:=by omega
  rw [Zil (d:=[]) hi']
  have a:=al i hi'
  refine funext fun j=>?_
  by_cases hj:j < (M'.getD i []).length
  ·have e1:(M'.getD i [])[j]? = some (M'.getD i [])[j]:=List.getElem?_eq_getElem hj
   obtain ⟨z,ez,iq⟩:=a.at e1
   rw [Znc e1,iq.fd F hF]
   show _ = ic (((Zbe p pl (done ++ left) pl.length).getD i []).getD j 0) / _
   rw [Zak ez]
  ·rw [Zhx (by omega)]
   show _ = ic (((Zbe p pl (done ++ left) pl.length).getD i []).getD j 0) / _
   rw [List.getD_eq_getElem?_getD,List.getElem?_eq_none (by have:=a.1; omega)]
   show 0 = ic 0 / _
   rw [Zfm]
   have:=B.lead i
   grind
 exact ⟨r1,r2.trans (Zpa hF IR hM)⟩
end
def Zdt (p:Int) (k W wide:Nat):Nat:=if p = 0 then ((W + 1) * k + 1) * 2 ^ (2 * wide) else 7
theorem Ziq {p:Int} {W:Nat} {row:List Int} (h0:p ≠ 0) (p97:p<=97) (h:Rw p W row):SmallR 7 row:=fun z hz=>by
 rcases h.2 z hz with e | ⟨e1,e2⟩
 ·exact absurd e h0
 ·exact Za5 (Nat.le_refl _) (by omega)
theorem Zej {p:Int} {k W:Nat} {Z:List (List Int)} {M:Mv} (hp:GroundP p) (h7:7<=k) (h:Zd2 p k Z M) (wd:∀ xs ∈ M,xs.length = W):∀ row ∈ Z,SmallR ((W + 1) * k) row:=fun row hr=>by
 obtain ⟨i,hi,e⟩:=List.mem_iff_getElem.mp hr
 obtain ⟨xs,ex,ws,b,w1,sm,rfl⟩:=h.at' (i:=i) (x:=row) (by rw [List.getElem?_eq_getElem hi,e])
 rw [wd xs (List.mem_of_getElem? ex)] at sm
 exact Zh2 hp.lo hp.hi (by rw [Nat.add_mul]; omega) fun _=>sm
theorem Zjw (m a b:Nat):m * 2 ^ a * 2 ^ b = m * 2 ^ (a + b):=by rw [Nat.pow_add,Nat.mul_assoc]
theorem Sw.pl_le {p:Int} {W:Nat} {Z:List (List Int)} {wide:Nat} {done left:List (List Int)} {pl:List Nat} (I:SwI p W Z wide done left pl):pl.length<=wide:=by
 -- the places rise and stay below wide
 have key:∀ i,i < pl.length->i<=pl.getD i 0:=by
  intro i
  induction i with
  | zero=>intro _; omega
  | succ i ih=>
   intro h
   have a:=ih (by omega)
   have b:=I.asc i (i + 1) (by omega) h
   omega
 by_cases h:pl.length = 0
 ·omega
 ·have a:=key (pl.length - 1) (by omega)
  have b:=I.lt (pl.length - 1) (by omega)
  omega
theorem Zlz {p:Int} {k W wide:Nat} {M:Mv} (hp:GroundP p) (h7:7<=k) (wd:∀ xs ∈ M,xs.length = W) (hb:Zdt p k W wide<=HB):Zlx p k wide M/\Zp2 p k wide M:=by
 have p0:=hp.lo
 have p97:=hp.hi
 by_cases h0:p = 0
 ·unfold Zdt at hb
  rw [if_pos h0] at hb
  have n7:7<=(W + 1) * k:=by rw [Nat.add_mul]; omega
  have mono:∀ j,j<=2 * wide->((W + 1) * k + 1) * 2 ^ j - 1<=HB:=fun j hj=>by
   have:((W + 1) * k + 1) * 2 ^ j<=((W + 1) * k + 1) * 2 ^ (2 * wide):=Nat.mul_le_mul (Nat.le_refl _) (Nat.pow_le_pow_right (by decide) hj)
   omega
  constructor
  ·intro Z IR j done left pl hj sw row hr
   exact (sw.dbl p0 p97 n7 (Zej hp h7 IR wd) row hr).le (mono j (by omega))
  ·intro Z done left pl IR sw t ht row hr
   have I:=sw.inv p0 (Zb1 p0 IR wd)
   have hpl:=Sw.pl_le I
   have s1:=sw.dbl p0 p97 n7 (Zej hp h7 IR wd)
   have pos:0 < ((W + 1) * k + 1) * 2 ^ wide:=Nat.mul_pos (by omega) (Nat.two_pow_pos _)
   have b7:7<=((W + 1) * k + 1) * 2 ^ wide - 1:=by
    have:((W + 1) * k + 1) * 1<=((W + 1) * k + 1) * 2 ^ wide:=Nat.mul_le_mul (Nat.le_refl _) (Nat.two_pow_pos _)
    omega
   have s2:=Zjg (pl:=pl) p0 p97 b7 s1 t row hr
   refine s2.le ?_
   rw [show ((W + 1) * k + 1) * 2 ^ wide - 1 + 1 = ((W + 1) * k + 1) * 2 ^ wide by omega,Zjw]
   exact mono _ (by omega)
 ·constructor
  ·intro Z IR j done left pl hj sw row hr
   exact (Ziq h0 p97 ((sw.inv p0 (Zb1 p0 IR wd)).rw row hr)).le (by decide)
  ·intro Z done left pl IR sw t ht row hr
   obtain ⟨F,_,hF⟩:=Zfv hp
   have I:=sw.inv p0 (Zb1 p0 IR wd)
   exact (Ziq h0 p97 ((Sw.back p0 I hF t ht).rw row hr)).le (by decide)
theorem Red.good {p:Int} {k W wide:Nat} {M M':Mv} {pl:List Nat} (hp:GroundP p) (h7:7<=k) (R:Red p k wide M M' pl) (wd:∀ xs ∈ M,xs.length = W):M'.length = M.length/\(∀ xs ∈ M',xs.length = W)/\∀ xs ∈ M',Zce p (Zdt p k W wide) xs:=by
 obtain ⟨Z,done,left,IR,sw,ml,al⟩:=R.ex
 have p0:=hp.lo
 have p97:=hp.hi
 obtain ⟨F,_,hF⟩:=Zfv hp
 have I:=sw.inv p0 (Zb1 p0 IR wd)
 have B:=Sw.back p0 I hF pl.length (Nat.le_refl _)
 have bl:=B.len
 have zM:=IR.1
 have n7:7<=Zdt p k W wide:=by
  unfold Zdt
  split
  ·have:((W + 1) * k + 1) * 1<=((W + 1) * k + 1) * 2 ^ (2 * wide):=Nat.mul_le_mul (Nat.le_refl _) (Nat.two_pow_pos _)
   have:7<=(W + 1) * k:=by rw [Nat.add_mul]; omega
   omega
  ·exact Nat.le_refl _
 have sm:∀ row ∈ Zbe p pl (done ++ left) pl.length,SmallR (Zdt p k W wide) row:=fun row hr=>by
  by_cases h0:p = 0
  ·have n7':7<=(W + 1) * k:=by rw [Nat.add_mul]; omega
   have hpl:=Sw.pl_le I
   have s1:=sw.dbl p0 p97 n7' (Zej hp h7 IR wd)
   have pos:0 < ((W + 1) * k + 1) * 2 ^ wide:=Nat.mul_pos (by omega) (Nat.two_pow_pos _)
   have b7:7<=((W + 1) * k + 1) * 2 ^ wide - 1:=by
    have:((W + 1) * k + 1) * 1<=((W + 1) * k + 1) * 2 ^ wide:=Nat.mul_le_mul (Nat.le_refl _) (Nat.two_pow_pos _)
    omega
   have s2:=Zjg (pl:=pl) p0 p97 b7 s1 pl.length row hr
   refine s2.le ?_
   rw [show ((W + 1) * k + 1) * 2 ^ wide - 1 + 1 = ((W + 1) * k + 1) * 2 ^ wide by omega,Zjw]
   unfold Zdt
   rw [if_pos h0]
   have:((W + 1) * k + 1) * 2 ^ (wide + pl.length)<=((W + 1) * k + 1) * 2 ^ (2 * wide):=Nat.mul_le_mul (Nat.le_refl _) (Nat.pow_le_pow_right (by decide) (by omega))
   omega
  ·exact (Ziq h0 p97 (B.rw row hr)).le n7
 refine ⟨by omega,fun xs hx=>?_,fun xs hx x hxx=>?_⟩
 ·obtain ⟨i,hi,rfl⟩:=Zbu hx []
  have a:=al i hi
  rw [<- a.1]
  exact (B.rw _ (Zas (by omega))).1
 ·obtain ⟨i,hi,rfl⟩:=Zbu hx []
  have a:=al i hi
  obtain ⟨j,hj,e⟩:=List.mem_iff_getElem.mp hxx
  obtain ⟨z,ez,iq⟩:=a.at (i:=j) (y:=x) (by rw [List.getElem?_eq_getElem hj,e])
  have hr:(Zbe p pl (done ++ left) pl.length).getD i [] ∈ Zbe p pl (done ++ left) pl.length:=Zas (by omega)
  have s1:=sm _ hr
  have ldb:Bt (Zdt p k W wide) (Za4 pl (Zbe p pl (done ++ left) pl.length) i):=by
   unfold Za4
   split
   ·exact s1.at _
   ·exact Za5 n7 (by decide)
  exact ⟨iq.is,iq.bt _ n7 (s1 z (List.mem_of_getElem? ez)) ldb⟩
end Pf
set_option maxHeartbeats 1000000
namespace Pf
open PySem L2 L3 PyProof.Rows
abbrev joinU (M:Mv) (n:Nat):Mv:=(List.range n).map fun j=>M.getD j [] ++ (unitM n).getD j []
section
variable {F:Type} [Lean.Grind.Field F]
def tr (w:Nat) (v:Nat->F):Nat->F:=fun j=>if j < w then v j else 0
theorem vN_app {xs ys:List Nv} {j:Nat}:(vN (xs ++ ys) j:F) = if j < xs.length then vN xs j else vN ys (j - xs.length):=by
 unfold vN
 split
 ·rename_i h
  rw [List.getD_eq_getElem?_getD,List.getElem?_append_left h,List.getD_eq_getElem?_getD]
 ·rename_i h
  rw [List.getD_eq_getElem?_getD,List.getElem?_append_right (by omega),List.getD_eq_getElem?_getD]
theorem Zsh:(nm ((1,1):Nv):F) = 1:=by
 unfold nm
 rw [Zdz]
 have:=Zm9 (F:=F)
 grind
end
structure IsRed (p:Int) (k n wd:Nat) (M S R:Mv) (pl:List Nat):Prop where
 ex:∃ J,Red p k wd (joinU M n) J pl/\S = J.map (fun row=>row.drop wd)/\R = J.map (fun row=>row.take wd)
theorem Zo2 {p:Int} (hp:GroundP p):Isn p (0,1)/\Isn p (1,1):=by
 have h0:=Zda (p:=p) (k:=0) hp.lo
 have h1:=Zda (p:=p) (k:=1) hp.lo
 rw [Zex] at h0
 rw [Zme hp] at h1
 exact ⟨h0,h1⟩
section
variable {p:Int} {F:Type} [Lean.Grind.Field F]
structure RedF (F:Type) [Lean.Grind.Field F] (n wd:Nat) (M S R:Mv) (pl:List Nat):Prop where
 rr:RR (R.map (vN (F:=F))) wd pl.length (fun i=>pl.getD i 0)
 sp:SpEq (R.map (vN (F:=F))) (M.map vN)
 mul:∀ i j,i < n->j < wd->(vN (R.getD i []) j:F) = sm n fun l=>vN (S.getD i []) l * vN (M.getD l []) j
 inv:∃ U:Nat->Nat->F,∀ i j,i < n->j < n->mm n U (fun l j=>vN (S.getD l []) j) i j = del i j
end
end Pf
namespace Pf
open PySem L2 L3 PyProof.Rows
section
variable {P:Program} {w:World} {K:PySem.W.Frag} {mg:Str->Option Value} {base:Heap} {C PL cL:Addr}
structure TabB (H:Hp) (p:Int) (k n wd:Nat) (t r:Addr) (rs:List Addr) (M:Mv):Prop where
 tv:TabV H p n wd t r rs M
 hl:M.length = n
 hw:∀ xs ∈ M,xs.length = wd
 gd:∀ xs ∈ M,Zce p k xs
theorem TabB.same {H H':Hp} {p:Int} {k n wd:Nat} {t r:Addr} {rs:List Addr} {M:Mv} (h:TabB H p k n wd t r rs M) (s:Same H H'):TabB H' p k n wd t r rs M:=⟨h.tv.same s,h.hl,h.hw,h.gd⟩
def Zjo:L2.Sp:=fun vs H Q _=>∃ a b:Int,vs = [.int a,.int b]/\0 < b/\∀ t,H t = none->Q (.ref t) (upd H t (.tup [.int (nrm a b).1,.int (nrm a b).2]))
theorem Zoh {f:Addr} {fd:FuncData} (F:Fun K "_law_lowest" "_law_lowest" Zbr f fd) (T:Txt K mg C) (hpt:P.given.tree = none) (C_law_gcd:Cal P w K mg base "_law_gcd" 1 Zns):FnOk P w K mg base CX0 2 f fd ["_law_top","_law_bottom"] Zjo:=by
 have nd:=Zdb.nd
 refine F.ok Zdb (fun vs H Q E h=>?_) (fun cdv A outer s H vs Q E hr h=>?_)
 ·obtain ⟨a,b,rfl,_⟩:=h
  rfl
 ·obtain ⟨a,b,rfl,hb,q⟩:=h
  have Zhw:∀ {c A B:Prop} [Decidable c],¬ c->B->if c then A else B:=fun hc h=>by rw [if_neg hc]; exact h
  refine ⟨_,(@Zab _ _ _ _ _ (@Zbf _ _ _ _ _ _ _ _ (Zal Ziz (pv 1) Zac (Zau _)) (@Zaf _ _ _ Zgn) Zav) (@Zab _ _ _ _ _ (Zax (i:=2) nd rfl (Or.inl rfl) (Zbb C_law_gcd hr.m rfl (@Zag _ _ _ _ _ (pv 0) (@Zag _ _ _ _ _ (pv 1) Zaa (by rfl)) (by rfl)))) (@Zaf _ _ _ (@Zaj _ _ _ _ (@Zbd _ _ _ _ _ (@Zag _ _ _ _ _ (@Zar _ _ _ _ _ _ _ _ (Zcd hpt (Zbw hr)) (pv 0) (pv 2)) (@Zag _ _ _ _ _ (@Zar _ _ _ _ _ _ _ _ (Zcd hpt (Zbw hr)) (pv 1) (pv 2)) Zaa (by rfl)) (by rfl))))))),?_⟩
  walk_at "wp"
  have g0:=Zdd (a:=a) hb
  refine Zhw (by rw [decide_eq_false (by omega)]; decide) ⟨a,b,rfl,_,rfl,by omega,_,rfl,by omega,by decide,fun t ht=>?_⟩
  rw [Zc2 g0,Zc2 g0]
  exact q t ht
theorem Zog {f:Addr} {fd:FuncData} (F:Fun K "_law_lowest" "_law_lowest" Zbr f fd) (T:Txt K mg C) (hpt:P.given.tree = none) (C_law_gcd:Cal P w K mg base "_law_gcd" 1 Zns):FnOk P w K mg base CX0 2 f fd ["_law_top","_law_bottom"] Zh1:=
 (Zoh F T hpt C_law_gcd).imp fun vs H Q E ⟨a,b,e,_,h1,_,q⟩=>⟨a,b,e,h1,q⟩
def Znm:L2.Sp:=fun vs H Q _=>∃ a b:Int,vs = [.int a,.int b]/\b ≠ 0/\∀ t,H t = none->Q (.ref t) (upd H t (.tup [.int (nrS a b).1,.int (nrS a b).2]))
theorem ok_lowZ {f:Addr} {fd:FuncData} (F:Fun K "_law_lowest" "_law_lowest" Zbr f fd) (T:Txt K mg C) (hpt:P.given.tree = none) (C_law_gcd:Cal P w K mg base "_law_gcd" 1 Zns) (C_law_lowest:Cal P w K mg base "_law_lowest" 2 Zjo):FnOk P w K mg base CX0 3 f fd ["_law_top","_law_bottom"] Znm:=by
 have nd:=Zdb.nd
 refine F.ok Zdb (fun vs H Q E h=>?_) (fun cdv A outer s H vs Q E hr h=>?_)
 ·obtain ⟨a,b,rfl,_⟩:=h
  rfl
 ·obtain ⟨a,b,rfl,hb,q⟩:=h
  refine ⟨_,(@Zab _ _ _ _ _ (@Zbf _ _ _ _ _ _ _ _ (Zal Ziz (pv 1) Zac (Zau _)) (@Zaf _ _ _ (@Zaj _ _ _ _ (Zbb C_law_lowest hr.m rfl (@Zag _ _ _ _ _ (Zgk Zek (pv 0)) (@Zag _ _ _ _ _ (Zgk Zek (pv 1)) Zaa (by rfl)) (by rfl))))) Zav) (@Zab _ _ _ _ _ (Zax (i:=2) nd rfl (Or.inl rfl) (Zbb C_law_gcd hr.m rfl (@Zag _ _ _ _ _ (pv 0) (@Zag _ _ _ _ _ (pv 1) Zaa (by rfl)) (by rfl)))) (@Zaf _ _ _ (@Zaj _ _ _ _ (@Zbd _ _ _ _ _ (@Zag _ _ _ _ _ (@Zar _ _ _ _ _ _ _ _ (Zcd hpt (Zbw hr)) (pv 0) (pv 2)) (@Zag _ _ _ _ _ (@Zar _ _ _ _ _ _ _ _ (Zcd hpt (Zbw hr)) (pv 1) (pv 2)) Zaa (by rfl)) (by rfl))))))),?_⟩
  walk_at "wp"
  refine Zdy (fun hc=>?_) (fun hc=>?_)
  ·have hc:=of_decide_eq_true hc
   refine ⟨-a,-b,rfl,by omega,fun t ht=>?_⟩
   have:=q t ht
   unfold nrS at this
   rw [if_pos hc] at this
   exact this
  ·have hc:¬ b < 0:=fun z=>hc (decide_eq_true z)
   have g0:=Zdd (a:=a) (show 0 < b by omega)
   refine ⟨a,b,rfl,_,rfl,by omega,_,rfl,by omega,by decide,fun t ht=>?_⟩
   rw [Zc2 g0,Zc2 g0]
   have:=q t ht
   unfold nrS at this
   rw [if_neg hc] at this
   exact this
structure TwoB (H:Hp) (p:Int) (va vb:V) (x y:Nv):Prop where
 a:NumV H p va x
 b:NumV H p vb y
 hx:Isn p x
 hy:Isn p y
 bt:∃ n m:Nat,Bt n x.1/\Bt n x.2/\Bt m y.1/\Bt m y.2/\n + m<=134000000
def Zjn (op:Int->Nv->Nv->Nv):L2.Sp:=fun vs H Q _=>∃ (p:Int) (va vb:V) (x y:Nv),vs = [.int p,va,vb]/\GroundP p/\TwoB H p va vb x y/\∀ v H',Same H H'->NumV H' p v (op p x y)->Q v H'
theorem ok_addB {f:Addr} {fd:FuncData} (F:Fun K "_law_add" "_law_add" Zdq f fd) (T:Txt K mg C) (C_law_lowest:Cal P w K mg base "_law_lowest" 2 Zjo):FnOk P w K mg base CX0 3 f fd ["_law_p","_law_a","_law_b"] (Zjn Zcx):=by
 have nd:=Ze2.nd
 refine F.ok Ze2 (fun vs H Q E h=>?_) (fun cdv A outer s H vs Q E hr h=>?_)
 ·obtain ⟨p,va,vb,x,y,rfl,_⟩:=h
  rfl
 ·obtain ⟨p,va,vb,x,y,rfl,hp,h2,q⟩:=h
  have p0:=hp.lo
  obtain ⟨n,m,b1,b2,b3,b4,nm'⟩:=h2.bt
  refine ⟨_,(@Zab _ _ _ _ _ (@Zbf _ _ _ _ _ _ _ _ (Zal Zeu (pv 0) Zac (Zau _)) (@Zaf _ _ _ (@Zaj _ _ _ _ (@Zar _ _ _ _ _ _ _ _ Zci (@Zar _ _ _ _ _ _ _ _ Zc6 (pv 1) (pv 2)) (pv 0)))) Zav) (@Zaf _ _ _ (@Zaj _ _ _ _ (Zbb C_law_lowest hr.m rfl (@Zag _ _ _ _ _ (@Zar _ _ _ _ _ _ _ _ Zc6 (@Zar _ _ _ _ _ _ _ _ Zbh (@Zat _ _ _ _ _ _ _ Zaw (pv 1) Zac (fun _ _=>rfl)) (@Zat _ _ _ _ _ _ _ Zaw (pv 2) Zac (fun _ _=>rfl))) (@Zar _ _ _ _ _ _ _ _ Zbh (@Zat _ _ _ _ _ _ _ Zaw (pv 2) Zac (fun _ _=>rfl)) (@Zat _ _ _ _ _ _ _ Zaw (pv 1) Zac (fun _ _=>rfl)))) (@Zag _ _ _ _ _ (@Zar _ _ _ _ _ _ _ _ Zbh (@Zat _ _ _ _ _ _ _ Zaw (pv 1) Zac (fun _ _=>rfl)) (@Zat _ _ _ _ _ _ _ Zaw (pv 2) Zac (fun _ _=>rfl))) Zaa (by rfl)) (by rfl)))))),?_⟩
  walk_at "wp"
  refine Zdy (fun hc=>?_) (fun hc=>?_)
  ·have hc:=of_decide_eq_true hc
   obtain rfl:=h2.a.int (by omega)
   obtain rfl:=h2.b.int (by omega)
   refine ⟨_,rfl,_,rfl,hc,q _ H (Same.refl _) ?_⟩
   have:=NumV.of (H:=H) (x:=Zcx p x y) (show ¬ p = 0 by omega)
   rw [Zcx,if_neg (by omega)] at this ⊢
   exact this
  ·have hc:¬ 0 < p:=fun z=>hc (decide_eq_true z)
   have hp0:p = 0:=by omega
   obtain ⟨ta,rfl,hta⟩:=h2.a.ref hp0
   obtain ⟨tb,rfl,htb⟩:=h2.b.ref hp0
   walk_at "wp"
   refine ⟨_,SqT.of hta,_,rfl,_,SqT.of htb,_,rfl,_,rfl,_,rfl,b1.ok b4 (by omega),_,SqT.of htb,_,rfl,_,SqT.of hta,_,rfl,_,rfl,_,rfl,b3.ok b2 (by omega),_,SqT.of hta,_,rfl,_,SqT.of htb,_,rfl,_,rfl,_,rfl,b2.ok b4 (by omega),?_⟩
   refine ⟨_,_,rfl,Int.mul_pos h2.hx.pos h2.hy.pos,fun t ht=>q _ _ (Same.new ht) ?_⟩
   rw [Zcx,if_pos hp0]
   exact NumV.tup hp0 Zad
theorem ok_mulB {f:Addr} {fd:FuncData} (F:Fun K "_law_mul" "_law_mul" Zdp f fd) (T:Txt K mg C) (C_law_lowest:Cal P w K mg base "_law_lowest" 2 Zjo):FnOk P w K mg base CX0 3 f fd ["_law_p","_law_a","_law_b"] (Zjn Za8):=by
 have nd:=Ze1.nd
 refine F.ok Ze1 (fun vs H Q E h=>?_) (fun cdv A outer s H vs Q E hr h=>?_)
 ·obtain ⟨p,va,vb,x,y,rfl,_⟩:=h
  rfl
 ·obtain ⟨p,va,vb,x,y,rfl,hp,h2,q⟩:=h
  have p0:=hp.lo
  obtain ⟨n,m,b1,b2,b3,b4,nm'⟩:=h2.bt
  refine ⟨_,(@Zab _ _ _ _ _ (@Zbf _ _ _ _ _ _ _ _ (Zal Zeu (pv 0) Zac (Zau _)) (@Zaf _ _ _ (@Zaj _ _ _ _ (@Zar _ _ _ _ _ _ _ _ Zci (@Zar _ _ _ _ _ _ _ _ Zig (pv 1) (pv 2)) (pv 0)))) Zav) (@Zaf _ _ _ (@Zaj _ _ _ _ (Zbb C_law_lowest hr.m rfl (@Zag _ _ _ _ _ (@Zar _ _ _ _ _ _ _ _ Zbh (@Zat _ _ _ _ _ _ _ Zaw (pv 1) Zac (fun _ _=>rfl)) (@Zat _ _ _ _ _ _ _ Zaw (pv 2) Zac (fun _ _=>rfl))) (@Zag _ _ _ _ _ (@Zar _ _ _ _ _ _ _ _ Zbh (@Zat _ _ _ _ _ _ _ Zaw (pv 1) Zac (fun _ _=>rfl)) (@Zat _ _ _ _ _ _ _ Zaw (pv 2) Zac (fun _ _=>rfl))) Zaa (by rfl)) (by rfl)))))),?_⟩
  walk_at "wp"
  refine Zdy (fun hc=>?_) (fun hc=>?_)
  ·have hc:=of_decide_eq_true hc
   obtain rfl:=h2.a.int (by omega)
   obtain rfl:=h2.b.int (by omega)
   have p97:=hp.hi
   have hx:0<=x.1/\x.1 < p:=by rcases h2.hx with ⟨h,_⟩ | ⟨_,h,h',_⟩ <;> omega
   refine ⟨_,rfl,_,rfl,.inl ⟨by omega,by omega⟩,hc,q _ H (Same.refl _) ?_⟩
   have:=NumV.of (H:=H) (x:=Za8 p x y) (show ¬ p = 0 by omega)
   rw [Za8,if_neg (by omega)] at this ⊢
   exact this
  ·have hc:¬ 0 < p:=fun z=>hc (decide_eq_true z)
   have hp0:p = 0:=by omega
   obtain ⟨ta,rfl,hta⟩:=h2.a.ref hp0
   obtain ⟨tb,rfl,htb⟩:=h2.b.ref hp0
   walk_at "wp"
   refine ⟨_,SqT.of hta,_,rfl,_,SqT.of htb,_,rfl,_,rfl,_,rfl,b1.ok b3 (by omega),_,SqT.of hta,_,rfl,_,SqT.of htb,_,rfl,_,rfl,_,rfl,b2.ok b4 (by omega),?_⟩
   refine ⟨_,_,rfl,Int.mul_pos h2.hx.pos h2.hy.pos,fun t ht=>q _ _ (Same.new ht) ?_⟩
   rw [Za8,if_pos hp0]
   exact NumV.tup hp0 Zad
abbrev BtN (n:Nat) (x:Nv):Prop:=Bt n x.1/\Bt n x.2
theorem BtN.le {n m:Nat} {x:Nv} (h:BtN n x) (hm:n<=m):BtN m x:=⟨h.1.le hm,h.2.le hm⟩
theorem Zhr {p:Int} {x:Nv} (h0:p ≠ 0) (p97:p<=97) (h:Isn p x):BtN 7 x:=by
 rcases h with ⟨e,_⟩ | ⟨_,e1,e2,e3⟩
 ·exact absurd e h0
 ·exact ⟨Za5 (Nat.le_refl _) (by omega),by rw [e3]; exact Za5 (Nat.le_refl _) (by decide)⟩
theorem Zlr {a b:Int} {n:Nat} (ha:Bt n a) (hb:Bt n b):BtN n (nrm a b):=⟨ha.quo (Int.gcd_dvd_left ..),hb.quo (Int.gcd_dvd_right ..)⟩
theorem Zmo {p:Int} {x y:Nv} {n m:Nat} (hp:GroundP p) (hx:Isn p x) (hy:Isn p y) (h1:BtN n x) (h2:BtN m y) (h7:7<=n):BtN (n + m + 1) (Zcx p x y):=by
 by_cases h0:p = 0
 ·unfold Zcx
  rw [if_pos h0]
  refine Zlr ?_ ((h1.2.mul h2.2).le (by omega))
  have a:=h1.1.mul h2.2
  have b:=h2.1.mul h1.2
  rw [Nat.add_comm m n] at b
  exact Bt.add a b
 ·exact (Zhr h0 hp.hi (Ze4 hp.lo hx hy)).le (by omega)
theorem Zfz {p:Int} {x y:Nv} {n m:Nat} (hp:GroundP p) (hx:Isn p x) (hy:Isn p y) (h1:BtN n x) (h2:BtN m y) (h7:7<=n + m):BtN (n + m) (Za8 p x y):=by
 by_cases h0:p = 0
 ·unfold Za8
  rw [if_pos h0]
  exact Zlr (h1.1.mul h2.1) (h1.2.mul h2.2)
 ·exact (Zhr h0 hp.hi (Zbq hp.lo hx hy)).le h7
theorem Zrx {p:Int} {x:Nv} {n:Nat} (hp:GroundP p) (hx:Isn p x) (h:BtN n x) (h7:7<=n):BtN (n + 1) (Za8 p (Zfn p (-1)) x):=by
 by_cases h0:p = 0
 ·unfold Za8 Zfn
  rw [if_pos h0,if_pos h0]
  refine Zlr ?_ ?_
  ·exact (show Bt n (-1 * x.1) by rw [show -1 * x.1 = -x.1 by omega]; exact h.1.neg).le (by omega)
  ·exact (show Bt n (1 * x.2) by rw [Int.one_mul]; exact h.2).le (by omega)
 ·exact (Zhr h0 hp.hi (Zbq hp.lo (Zda hp.lo) hx)).le (by omega)
theorem Zja {lo:Int} {n:Nat} {D:Addr} {fr:List (Str × Nat)} {σ:L2.St} {tt:TT} {H1:Hp} {Q:VK} (fb:Nat->Bool) (hD:H1 D = none) (hn:n<=1000)
  (h:∀ (i:Nat) H (Q:Bool->Hp->Prop),i < n->Same H1 H->(∀ H',Same H H'->Q (fb i) H')->tt (some (.int (lo + (i:Nat))) :: Zcb fr σ) H Q)
  (hQ:∀ H',Same H1 H'->H' D = some (.lst (((List.range n).filter fb).map fun i=>V.int (lo + (i:Nat))))->Q (.ref D) H'):Zcl (Zc8 0) tt (tVar 0) (Itr lo n) D (Zgt 1 fr σ) H1 Q:=by
 refine Zgs (n:=n) (fun i vs H=>Same H1 H/\H D = some (.lst vs)/\vs = (((List.range i).filter fb).map fun i=>V.int (lo + (i:Nat)))) ⟨Same.new hD,Zad,rfl⟩ ?_ (fun vs H ⟨s,e,hv⟩=>hQ H s (by rw [e,hv]))
 rintro i x vs σ' H hi rfl sh ⟨s,e,rfl⟩
 obtain ⟨z,rfl⟩:=sh.one
 simp only [Zfo,Zc8,List.set_cons_zero]
 refine h i H _ hi s fun H' s'=>?_
 have e2:(List.range (i + 1)).filter fb = (List.range i).filter fb ++ (if fb i = true then [i] else []):=by
  rw [List.range_succ,List.filter_append]
  congr 1
  cases hb:fb i <;> simp [hb]
 have e':=s' _ _ e
 cases hb:fb i with
 | false=>
  rw [hb] at e2
  exact leaf0 (ws:=((List.range (i + 1)).filter fb).map fun i=>V.int (lo + (i:Nat))) hi Sh.mk1 ⟨s.trans s',by rw [e',e2]; simp,rfl⟩
 | true=>
  rw [hb,if_pos rfl] at e2
  refine ⟨_,rfl,Zox (ws:=((List.range (i + 1)).filter fb).map fun i=>V.int (lo + (i:Nat))) hi Sh.mk1 e' (Za2 ?_) ⟨(s.trans s').upd hD,by rw [Zad,e2,List.map_append]; rfl,rfl⟩⟩
  have:=List.length_filter_le fb (List.range i)
  rw [List.length_map]
  rw [List.length_range] at this
  omega
structure IsB (p:Int) (x y:Nv):Prop where
 is:Isn p y
 fd:∀ (F:Type) [Lean.Grind.Field F],FdOk p F->(nm x:F) * nm y = 1
 bt:∀ n:Nat,7<=n->BtN n x->BtN n y
theorem Zri {x:Nv} (hx:Isn 0 x) (h:x.1 ≠ 0):IsB 0 x (nrS x.2 x.1):=by
 have iq:=Zmd (a:=x.2) h
 refine ⟨iq.is,fun F _ hF=>?_,fun n h7 b=>iq.bt n h7 b.2 b.1⟩
 rw [iq.fd F hF]
 have b1:=hF.bot hx
 have b2:(ic x.1:F) ≠ 0:=hF.ne0 (.inl rfl) h
 unfold nm
 grind
theorem Zo6 {p:Int} {x:Nv} {k:Int} (hp:Zey p) (hx:Isn p x) (k0:0<=k) (k1:k < p) (h:k * x.1 % p = 1):IsB p x (k,1):=by
 have p1:=hp.1
 have p97:=hp.2.1
 refine ⟨.inr ⟨by omega,k0,k1,rfl⟩,fun F _ hF=>?_,fun n h7 _=>⟨Za5 h7 (by show k.natAbs < 128; omega),Za5 h7 (by show (1:Int).natAbs < 128; decide)⟩⟩
 have hx2:x.2 = 1:=by
  rcases hx with ⟨z,_⟩ | ⟨_,_,_,h⟩
  ·omega
  ·exact h
 have e:(ic (k * x.1):F) = 1:=by rw [<- hF.modF (by omega),h,Zdz]
 rw [hF.one]
 unfold nm
 rw [hx2,Zdz]
 rw [Zcn] at e
 have:=Zm9 (F:=F)
 grind
def Zk5:L2.Sp:=fun vs H Q _=>∃ (p:Int) (va:V) (x:Nv),vs = [.int p,va]/\GroundP p/\NumV H p va x/\Isn p x/\x.1 ≠ 0/\∀ v y H',Same H H'->NumV H' p v y->IsB p x y->Q v H'
theorem ok_back {f:Addr} {fd:FuncData} (F:Fun K "_law_back" "_law_back" Zdk f fd) (T:Txt K mg C) (C_law_lowest:Cal P w K mg base "_law_lowest" 3 Znm):FnOk P w K mg base CX0 4 f fd ["_law_p","_law_a"] Zk5:=by
 have nd:=Zg7.nd
 refine F.ok Zg7 (fun vs H Q E h=>?_) (fun cdv A outer s H vs Q E hr h=>?_)
 ·obtain ⟨p,va,x,rfl,_⟩:=h
  rfl
 ·obtain ⟨p,va,x,rfl,hp,nx,ix,x0,q⟩:=h
  refine ⟨_,(@Zab _ _ _ _ _ (@Zbf _ _ _ _ _ _ _ _ (Zal Zeh (pv 0) Zac (Zau _)) (@Zaf _ _ _ (@Zaj _ _ _ _ (Zbb C_law_lowest hr.m rfl (@Zag _ _ _ _ _ (@Zat _ _ _ _ _ _ _ Zaw (pv 1) Zac (fun _ _=>rfl)) (@Zag _ _ _ _ _ (@Zat _ _ _ _ _ _ _ Zaw (pv 1) Zac (fun _ _=>rfl)) Zaa (by rfl)) (by rfl))))) Zav) (@Zaf _ _ _ (@Zaj _ _ _ _ (@Zat _ _ _ _ _ _ _ Za0 (Zbg (own:=["_law_k"]) (fr:=[("_law_a",1),("_law_p",0)]) rfl (Zck (by kernel_rfl)) (pi_r2 rfl T.n_range (@Zag _ _ _ _ _ Zac (@Zag _ _ _ _ _ (pv 0) Zaa (by rfl)) (by rfl))) (fun _ _ _ _=>⟨(@Zah _ _ 0 _ (show (["_law_k","_law_a","_law_p"]:List Str).Nodup by decide +kernel) rfl (Or.inl rfl) (Or.inr rfl)),(Ziw (Zal Zeh (@Zar _ _ _ _ _ _ _ _ Zci (@Zar _ _ _ _ _ _ _ _ Zig (pv 0) (pv 1)) (pv 2)) Zac (Zau _))),(pv 0)⟩)) Zac (fun _ _=>rfl))))),?_⟩
  walk_at "wp"
  refine Zdy (fun hc=>?_) (fun hc=>?_)
  ·have hp0:p = 0:=by simpa using hc
   subst hp0
   obtain ⟨ta,rfl,hta⟩:=nx.ref rfl
   walk_at "wp"
   exact ⟨_,SqT.of hta,_,rfl,_,SqT.of hta,_,rfl,_,_,rfl,x0,fun t ht=>q _ _ _ (Same.new ht) (NumV.tup rfl Zad) (Zri ix x0)⟩
  ·have hp0:¬ p = 0:=by simpa using hc
   obtain rfl:=nx.int hp0
   have hp1:Zey p:=hp.resolve_left hp0
   have p1:=hp1.1
   have p97:=hp1.2.1
   have xr:0<=x.1/\x.1 < p:=by rcases ix with ⟨h,_⟩ | ⟨_,h,h',_⟩ <;> omega
   obtain ⟨k,k1,kp,kb⟩:=Zsl (b:=x.1) hp1 (by rw [Int.emod_eq_of_lt xr.1 xr.2]; exact x0)
   refine ⟨_,rfl,1,p,rfl,⟨by decide,by decide,by omega,by omega⟩,fun D hD=>Zja (fun i=>decide ((1 + (i:Nat):Int) * x.1 % p = 1)) hD (by omega) (fun i H4 Q4 hi s4 q4=>?_) fun H4 s4 e4=>?_⟩
   ·simp only [Zcb]
    walk_at "wp"
    refine ⟨_,rfl,_,rfl,.inl ⟨by omega,by omega⟩,_,rfl,_,rfl,by omega,?_⟩
    exact q4 H4 (Same.refl _)
   ·have hmem:k - 1 ∈ (List.range (p - 1).toNat).filter (fun i=>decide ((1 + (i:Nat):Int) * x.1 % p = 1)):=by
     rw [List.mem_filter,List.mem_range]
     refine ⟨by omega,decide_eq_true ?_⟩
     rw [show (1 + ((k - 1:Nat):Int)) = k by omega]
     exact kb
    generalize hL:(List.range (p - 1).toNat).filter (fun i=>decide ((1 + (i:Nat):Int) * x.1 % p = 1)) = L at *
    cases L with
    | nil=>simp at hmem
    | cons i L=>
     have hi:i ∈ (List.range (p - 1).toNat).filter (fun i=>decide ((1 + (i:Nat):Int) * x.1 % p = 1)):=by rw [hL]; simp
     rw [List.mem_filter,List.mem_range] at hi
     have hib:=of_decide_eq_true hi.2
     exact ⟨D,rfl,_,SqL.of e4,_,Zbl (by decide) rfl,q _ (1 + (i:Int),1) H4 s4 (NumV.of (x:=(1 + (i:Int),1)) hp0) (Zo6 hp1 ix (by omega) (by omega) hib)⟩
def Zrr (p:Int) (f g:Nat->Nv):Nat->Nv
 | 0=>Zfn p 0
 | k + 1=>Zcx p (Zrr p f g k) (Za8 p (f k) (g k))
abbrev dotV (p:Int) (xs ys:List Nv):Nv:=Zrr p (fun k=>xs.getD k (0,1)) (fun k=>ys.getD k (0,1)) xs.length
abbrev Zjj (B:Mv) (j:Nat):List Nv:=B.map fun row=>row.getD j (0,1)
def Zgi (p:Int) (A B:Mv) (wd:Nat):Mv:=A.map fun row=>(List.range wd).map fun j=>dotV p row (Zjj B j)
theorem Zly {p:Int} {x y:Nv} {n m:Nat} (hp:GroundP p) (hx:Isn p x) (hy:Isn p y) (h1:BtN n x) (h2:BtN m y):BtN (n + m + 7) (Za8 p x y):=by
 have:=Zfz hp hx hy h1 (h2.le (show m<=m + 7 by omega)) (by omega)
 rwa [<- Nat.add_assoc] at this
theorem Zso {p:Int} (hp:GroundP p) {f g:Nat->Nv} {k1 k2:Nat}:∀ {n:Nat},(∀ i,i < n->Isn p (f i)/\BtN k1 (f i))->(∀ i,i < n->Isn p (g i)/\BtN k2 (g i))->Isn p (Zrr p f g n)/\BtN (7 + n * (k1 + k2 + 8)) (Zrr p f g n)
 | 0,_,_=>⟨Zda hp.lo,by
   show BtN _ (Zfn p 0)
   unfold Zfn
   split
   ·exact ⟨Zhq _,Za5 (by omega) (by decide)⟩
   ·rw [Int.zero_emod]; exact ⟨Zhq _,Za5 (by omega) (by decide)⟩⟩
 | n + 1,hf,hg=>by
  obtain ⟨i1,b1⟩:=Zso hp (k1:=k1) (k2:=k2) (n:=n) (fun i hi=>hf i (by omega)) (fun i hi=>hg i (by omega))
  obtain ⟨i2,b2⟩:=hf n (by omega)
  obtain ⟨i3,b3⟩:=hg n (by omega)
  have it:=Zbq hp.lo i2 i3
  refine ⟨Ze4 hp.lo i1 it,?_⟩
  have:=Zmo hp i1 it b1 (Zly hp i2 i3 b2 b3) (by omega)
  refine this.le ?_
  rw [Nat.add_mul n 1]
  omega
theorem Zsq {p:Int} {wd k:Nat} {B:Mv} (hw:∀ xs ∈ B,xs.length = wd) (g:∀ xs ∈ B,Zce p k xs) {j:Nat} (hj:j < wd):Zce p k (Zjj B j):=fun x hx=>by
 obtain ⟨row,hr,rfl⟩:=List.mem_map.mp hx
 exact g row hr _ (Zas (by rw [hw row hr]; exact hj))
theorem Zpm {p:Int} {F:Type} [Lean.Grind.Field F] (hp:GroundP p) (hF:FdOk p F) {f g:Nat->Nv}:∀ {n:Nat},(∀ i,i < n->Isn p (f i))->(∀ i,i < n->Isn p (g i))->Isn p (Zrr p f g n)/\(nm (Zrr p f g n):F) = sm n fun i=>nm (f i) * nm (g i)
 | 0,_,_=>⟨Zda hp.lo,by
   show (nm (Zfn p 0):F) = 0
   rw [hF.intF,Zfm]⟩
 | n + 1,hf,hg=>by
  obtain ⟨i1,e1⟩:=Zpm hp hF (n:=n) (fun i hi=>hf i (by omega)) (fun i hi=>hg i (by omega))
  have it:=Zbq hp.lo (hf n (by omega)) (hg n (by omega))
  refine ⟨Ze4 hp.lo i1 it,?_⟩
  show (nm (Zcx p (Zrr p f g n) (Za8 p (f n) (g n))):F) = sm n (fun i=>nm (f i) * nm (g i)) + nm (f n) * nm (g n)
  rw [hF.plus i1 it,e1,hF.times (hf n (by omega)) (hg n (by omega))]
def spLpB:L2.Sp:=fun vs H Q _=>∃ (t1 r1 t2 r2:Addr) (rs1 rs2:List Addr) (p:Int) (n1 m1 w2 k1 k2:Nat) (A B:Mv),vs = [.int p,.ref t1,.ref t2]/\GroundP p/\TabB H p k1 n1 m1 t1 r1 rs1 A/\TabB H p k2 m1 w2 t2 r2 rs2 B/\n1<=200/\m1<=200/\w2<=200/\7 + m1 * (k1 + k2 + 8) + k1 + k2 + 7<=134000000 /\
 ∀ t r rs H',Same H H'->TabV H' p n1 w2 t r rs (Zgi p A B w2)->Q (.ref t) H'
theorem ok_lpB {f:Addr} {fd:FuncData} (F:Fun K "_law_product" "_law_product" Zb7 f fd) (T:Txt K mg C) (C_law_int:Cal P w K mg base "_law_int" 1 Zmu) (C_law_add:Cal P w K mg base "_law_add" 3 (Zjn Zcx)) (C_law_mul:Cal P w K mg base "_law_mul" 3 (Zjn Za8)):FnOk P w K mg base CX0 4 f fd ["_law_p","_law_one","_law_other"] spLpB:=by
 have nd:=Ze9.nd
 refine F.ok Ze9 (fun vs H Q E h=>?_) (fun cdv A outer s H vs Q E hr h=>?_)
 ·obtain ⟨t1,r1,t2,r2,rs1,rs2,p,n1,m1,w2,k1,k2,A,B,rfl,_⟩:=h
  rfl
 ·obtain ⟨t1,r1,t2,r2,rs1,rs2,p,n1,m1,w2,k1,k2,A,B,rfl,hp,T1,T2,n24,m24,w24,lim,q⟩:=h
  have la:=T1.tv.row.1
  have lb:=T2.tv.row.1
  have sA:=T1.hl
  have sB:=T2.hl
  refine ⟨_,(@Zab _ _ _ _ _ (Zax (i:=3) nd rfl (Or.inl rfl) (@Zc4 _ _ _ _ Zaa)) (@Zab _ _ _ _ _ (Zc3 PassesOwn.never rfl (Zbt (@Zat _ _ _ _ _ _ _ Zaw (pv 1) Zac (fun _ _=>rfl))) (@Zah _ _ 4 _ nd rfl (Or.inl rfl) (Or.inl rfl)) (@Zab _ _ _ _ _ (Zax (i:=5) nd rfl (Or.inl rfl) (@Zc4 _ _ _ _ Zaa)) (@Zab _ _ _ _ _ (Zc3 PassesOwn.never rfl (Zgj rfl T.n_range (@Zag _ _ _ _ _ (@Zat _ _ _ _ _ _ _ Zaw (pv 2) Zac (fun _ _=>rfl)) Zaa (by rfl))) (@Zah _ _ 6 _ nd rfl (Or.inl rfl) (Or.inl rfl)) (@Zab _ _ _ _ _ (Zax (i:=7) nd rfl (Or.inl rfl) (Zbb C_law_int hr.m rfl (@Zag _ _ _ _ _ (pv 0) (@Zag _ _ _ _ _ Zac Zaa (by rfl)) (by rfl)))) (@Zab _ _ _ _ _ (Zc3 PassesOwn.never rfl (Zgj rfl T.n_range (@Zag _ _ _ _ _ (@Zat _ _ _ _ _ _ _ Zaw (pv 1) Zac (fun _ _=>rfl)) Zaa (by rfl))) (@Zah _ _ 8 _ nd rfl (Or.inl rfl) (Or.inl rfl)) (@Zaf _ _ _ (Zax (i:=7) nd rfl (Or.inl rfl) (Zbb C_law_add hr.m rfl (@Zag _ _ _ _ _ (pv 0) (@Zag _ _ _ _ _ (pv 7) (@Zag _ _ _ _ _ (Zbb C_law_mul hr.m rfl (@Zag _ _ _ _ _ (pv 0) (@Zag _ _ _ _ _ (@Zat _ _ _ _ _ _ _ Za0 (pv 4) (pv 8) (fun _ _=>rfl)) (@Zag _ _ _ _ _ (@Zat _ _ _ _ _ _ _ Za0 (@Zat _ _ _ _ _ _ _ Za0 (@Zat _ _ _ _ _ _ _ Zaw (pv 2) Zac (fun _ _=>rfl)) (pv 8) (fun _ _=>rfl)) (pv 6) (fun _ _=>rfl)) Zaa (by rfl)) (by rfl)) (by rfl))) Zaa (by rfl)) (by rfl)) (by rfl)))))) (@Zaf _ _ _ (Zeg (Zhv PySem.F.plainAttrs_list PySem.F.slot_list_append PySem.F.type_list_append Zcm (pv 5) (@Zag _ _ _ _ _ (pv 7) Zaa (by rfl)))))))) (@Zaf _ _ _ (Zeg (Zhv PySem.F.plainAttrs_list PySem.F.slot_list_append PySem.F.type_list_append Zcm (pv 3) (@Zag _ _ _ _ _ (pv 5) Zaa (by rfl)))))))) (@Zaf _ _ _ (@Zaj _ _ _ _ (@Zbd _ _ _ _ _ (@Zag _ _ _ _ _ (@Zat _ _ _ _ _ _ _ Zaw (pv 1) Zac (fun _ _=>rfl)) (@Zag _ _ _ _ _ (@Zat _ _ _ _ _ _ _ Zaw (pv 2) Zac (fun _ _=>rfl)) (@Zag _ _ _ _ _ (pv 3) Zaa (by rfl)) (by rfl)) (by rfl))))))),?_⟩
  walk_at "wp"
  refine ⟨by decide,fun R hR=>?_⟩
  have sR:=Same.new (o:=.lst []) hR
  refine ⟨_,rfl,t1,_,2,_,rfl,rfl,SqT.of (sR _ _ T1.tv.tup),rfl,r1,rfl,⟨_,SqL.of (sR _ _ T1.tv.lst)⟩,Zfu (xs:=rs1.map V.ref) (fun i σ H3=>∃ (v4 v5 v6 v7 v8:Option V) (rs:List Addr),σ = [some (.int p),some (.ref t1),some (.ref t2),some (.ref R),v4,v5,v6,v7,v8]/\Same H H3/\H3 R = some (.lst (rs.map V.ref))/\R ∉ rs/\All2 (RowV H3 p) rs ((Zgi p A B w2).take i))
   ⟨none,none,none,none,none,[],rfl,sR,Zad,by simp,by rw [List.take_zero]; exact All2.nil⟩ (fun i σ H3 _ ⟨_,_,_,_,_,_,_,s3,_⟩=>SqL.of (s3 _ _ T1.tv.lst)) ?_ ?_⟩
  ·rintro i x σ H3 hi ⟨v4,v5,v6,v7,v8,rs,rfl,s3,h3,nR,a3⟩
   obtain ⟨row,er,a,rfl,rv⟩:=(Za7 T1.tv.row).at' hi
   have hrow:=List.mem_of_getElem? er
   have wr:=T1.hw row hrow
   have gr:=T1.gd row hrow
   have lA:i < A.length:=(List.getElem?_eq_some_iff.mp er).1
   have ep:(Zgi p A B w2)[i]? = some ((List.range w2).map fun j=>dotV p row (Zjj B j)):=by unfold Zgi; rw [List.getElem?_map,er]; rfl
   have l3:=a3.1
   rw [List.length_take] at l3
   walk_at "wp"
   refine ⟨by decide,fun b hb=>?_⟩
   have s4:=Same.new (o:=.lst []) hb
   refine ⟨_,rfl,t2,_,1,_,rfl,rfl,SqT.of ((s3.trans s4) _ _ T2.tv.tup),rfl,(w2:Int),rfl,by omega,by omega,Zc9 (fun j σ H5=>∃ (v6 v7 v8:Option V) (vs:List V),σ = [some (.int p),some (.ref t1),some (.ref t2),some (.ref R),some (.ref a),some (.ref b),v6,v7,v8]/\Same H3 H5/\H5 b = some (.lst vs)/\All2 (NumV H5 p) vs ((List.range j).map fun j=>dotV p row (Zjj B j)))
    ⟨v6,v7,v8,[],rfl,s4,Zad,All2.nil⟩ ?_ ?_⟩
   ·rintro j σ H5 hj ⟨u6,u7,u8,vs,rfl,s5,h5,a5⟩
    have s05:=s3.trans s5
    have l5:=a5.1
    rw [List.length_map,List.length_range] at l5
    have gc:Zce p k2 (Zjj B j):=Zsq T2.hw T2.gd (by omega)
    walk_at "wp"
    refine ⟨p,0,rfl,hp,fun n0 H6 s6 hn0=>?_⟩
    rw [show Zfn p 0 = Zrr p (fun k=>row.getD k (0,1)) (fun k=>(Zjj B j).getD k (0,1)) 0 from rfl] at hn0
    refine ⟨_,rfl,t1,_,1,_,rfl,rfl,SqT.of ((s05.trans s6) _ _ T1.tv.tup),rfl,(m1:Int),rfl,by omega,by omega,Zc9 (fun k σ H7=>∃ (n v8:V),σ = [some (.int p),some (.ref t1),some (.ref t2),some (.ref R),some (.ref a),some (.ref b),some (.int (0 + (j:Int))),some n,if k = 0 then u8 else some v8]/\Same H5 H7/\NumV H7 p n (Zrr p (fun k=>row.getD k (0,1)) (fun k=>(Zjj B j).getD k (0,1)) k))
     ⟨n0,n0,rfl,s6,hn0⟩ ?_ ?_⟩
    ·rintro k σ H7 hk ⟨n,v8',rfl,s7,hn⟩
     have s07:=s05.trans s7
     have hk1:k < row.length:=by omega
     have ex:row[k]? = some row[k]:=List.getElem?_eq_getElem hk1
     have hkB:k < B.length:=by omega
     have eB:B[k]? = some B[k]:=List.getElem?_eq_getElem hkB
     have wB:=T2.hw _ (List.getElem_mem hkB)
     have ey:(B[k])[j]? = some ((B[k])[j]'(by omega)):=List.getElem?_eq_getElem _
     have ecl:(Zjj B j)[k]? = some ((B[k])[j]'(by omega)):=by rw [List.getElem?_map,eB]; show some ((B[k]).getD j (0,1)) = _; rw [Zak ey]
     obtain ⟨xsv,hx1,hx2⟩:=rv.same s07
     obtain ⟨vx,evx,nvx⟩:=hx2.at ex
     obtain ⟨bk,ebk,ysv,hy1,hy2⟩:=(T2.tv.same s07).row.at eB
     obtain ⟨vy,evy,nvy⟩:=hy2.at ey
     have gx:=gr _ (List.getElem_mem hk1)
     have gy:=gc _ (List.mem_of_getElem? ecl)
     have kk:((0:Int) + (k:Int)).toNat = k:=by omega
     have jj:((0:Int) + (j:Int)).toNat = j:=by omega
     have fi:∀ i,i < k->Isn p (row.getD i (0,1))/\BtN k1 (row.getD i (0,1)):=fun i hi=>gr _ (Zas (by omega))
     have gi:∀ i,i < k->Isn p ((Zjj B j).getD i (0,1))/\BtN k2 ((Zjj B j).getD i (0,1)):=fun i hi=>gc _ (Zas (by rw [List.length_map]; omega))
     obtain ⟨isd,bdd⟩:=Zso hp (n:=k) fi gi
     have lk:k * (k1 + k2 + 8)<=m1 * (k1 + k2 + 8):=Nat.mul_le_mul (by omega) (Nat.le_refl _)
     walk_at "wp"
     refine ⟨_,SqL.of hx1,vx,Zbl (by omega) (by rw [kk]; exact evx),_,SqT.of (s07 _ _ T2.tv.tup),_,rfl,_,rfl,_,SqL.of (s07 _ _ T2.tv.lst),_,Zbl (by omega) (by rw [kk,List.getElem?_map,ebk]; rfl),_,rfl,_,SqL.of hy1,vy,Zbl (by omega) (by rw [jj]; exact evy),p,vx,vy,_,_,rfl,hp,⟨nvx,nvy,gx.1,gy.1,k1,k2,gx.2.1,gx.2.2,gy.2.1,gy.2.2,by omega⟩,fun m H8 s8 hm=>?_⟩
     have it:=Zbq hp.lo gx.1 gy.1
     have bt:BtN (k1 + k2 + 7) (Za8 p row[k] ((B[k])[j]'(by omega))):=Zly hp gx.1 gy.1 gx.2 gy.2
     refine ⟨p,n,m,_,_,rfl,hp,⟨hn.same s8,hm,isd,it,_,_,bdd.1,bdd.2,bt.1,bt.2,by omega⟩,fun n' H9 s9 hn'=>⟨n',.int (0 + (k:Int)),?_,(s7.trans s8).trans s9,?_⟩⟩
     ·simp
     ·show NumV H9 p n' (Zcx p _ (Za8 p (row.getD k (0,1)) ((Zjj B j).getD k (0,1))))
      rw [Zak ex,Zak ecl]
      exact hn'
    ·rintro σ H7 ⟨n,v8',rfl,s7,hn⟩
     have h57:=s7 _ _ h5
     walk_at "wp"
     refine ⟨.inl ⟨rfl,_,SqL.of h57⟩,_,h57,Za2 (by omega),?_⟩
     refine ⟨_,_,_,⟨rfl,rfl,rfl⟩,?_,_,Zad,?_⟩
     ·exact (s5.trans s7).upd hb
     ·rw [List.range_succ,List.map_append]
      rw [show ((m1:Int)).toNat = row.length by omega] at hn
      exact (a5.mono fun _ _ k=>(k.same s7).put h57).app (All2.one (hn.put h57))
   ·rintro σ H5 ⟨u6,u7,u8,vs,rfl,s5,h5,a5⟩
    have h35:=s5 _ _ h3
    have nb:b ≠ R:=(Zan h3 hb).symm
    walk_at "wp"
    refine ⟨.inl ⟨rfl,_,SqL.of h35⟩,_,h35,Za2 (by rw [List.length_map]; omega),?_⟩
    refine ⟨_,_,_,_,_,⟨rfl,rfl,rfl,rfl,rfl⟩,(s3.trans s5).upd hR,rs ++ [b],by rw [Zad,Zdx],fun z=>?_,?_⟩
    ·rcases List.mem_append.mp z with h | h
     ·exact nR h
     ·exact nb (List.mem_singleton.mp h).symm
    ·rw [List.take_add_one,ep]
     exact (a3.monoM fun c x hc k=>(k.same s5).put h35 (fun z=>nR (z ▸ hc))).app (All2.one (RowV.put ⟨vs,h5,a5⟩ h35 nb))
  ·rintro σ H3 ⟨v4,v5,v6,v7,v8,rs,rfl,s3,h3,nR,a3⟩
   rw [List.length_map,la,List.take_of_length_le (by unfold Zgi; rw [List.length_map]; omega)] at a3
   walk_at "wp"
   refine ⟨_,SqT.of (s3 _ _ T1.tv.tup),_,rfl,_,SqT.of (s3 _ _ T2.tv.tup),_,rfl,by decide,fun t ht=>?_⟩
   have s5:=Same.new (o:=.tup [.int n1,.int w2,.ref R]) ht
   exact q t R rs _ (s3.trans s5) ⟨Zad,s5 _ _ h3,a3.mono fun _ _ q=>q.same s5,nR⟩
end
end Pf
namespace Pf
open PySem L2 L3 PyProof.Rows
section
variable {p:Int} {F:Type} [Lean.Grind.Field F]
theorem Zcc {α:Type} {L:List α} {k i:Nat} {v d:α} (hk:k < L.length):(L.set k v).getD i d = if i = k then v else L.getD i d:=by
 rw [List.getD_eq_getElem?_getD,List.getElem?_set,List.getD_eq_getElem?_getD]
 by_cases h:i = k
 ·subst h
  rw [if_pos rfl,if_pos rfl,if_pos hk]
  rfl
 ·rw [if_neg (fun z=>h z.symm),if_neg h]
theorem Zkw {L L':List (Nat->F)} (h1:∀ i,i < L.length->SpL L' (at' L i)) (h2:∀ i,i < L'.length->SpL L (at' L' i)):SpEq L L':=by
 refine ⟨fun v hv=>?_,fun v hv=>?_⟩
 ·obtain ⟨i,hi,e⟩:=Zbu hv zv
  have:=h1 i hi
  rwa [show at' L i = v from e] at this
 ·obtain ⟨i,hi,e⟩:=Zbu hv zv
  have:=h2 i hi
  rwa [show at' L' i = v from e] at this
theorem Zms {L L':List (Nat->F)} {k:Nat} (hl:L'.length = L.length) (hk:k < L.length) (a:F) (ha:a ≠ 0) (h:∀ i,i < L.length->i ≠ k->at' L' i = at' L i) (e:∀ j,at' L' k j = a * at' L k j):SpEq L' L:=by
 refine Zkw (fun i hi=>?_) (fun i hi=>?_)
 ·by_cases hik:i = k
  ·subst hik
   rw [show at' L' i = fun j=>a * at' L i j from funext e]
   exact Sp.smul a (.mem (Zca hk))
  ·rw [h i (by omega) hik]
   exact .mem (Zca (by omega))
 ·by_cases hik:i = k
  ·subst hik
   rw [show at' L i = fun j=>(1 / a) * at' L' i j from funext fun j=>by rw [e j]; show at' L i j = _; grind]
   exact Sp.smul _ (.mem (Zca (by omega)))
  ·rw [<- h i hi hik]
   exact .mem (Zca (by omega))
theorem Zni {L L':List (Nat->F)} {k d:Nat} (hl:L'.length = L.length) (hk:k < L.length) (hd:d < L.length) (hne:d ≠ k) (b:F) (h:∀ i,i < L.length->i ≠ k->at' L' i = at' L i) (e:∀ j,at' L' k j = at' L k j + b * at' L d j):SpEq L' L:=by
 refine Zkw (fun i hi=>?_) (fun i hi=>?_)
 ·by_cases hik:i = k
  ·subst hik
   rw [show at' L' i = fun j=>1 * at' L i j + b * at' L d j from funext fun j=>by rw [e j]; show at' L i j + _ = _; grind]
   exact .comb 1 b (.mem (Zca hk)) (.mem (Zca hd))
  ·rw [h i (by omega) hik]
   exact .mem (Zca (by omega))
 ·by_cases hik:i = k
  ·subst hik
   rw [show at' L i = fun j=>1 * at' L' i j + (-b) * at' L' d j from funext fun j=>by rw [h d hd hne,e j]; show at' L i j = _; grind]
   exact .comb 1 (-b) (.mem (Zca (by omega))) (.mem (Zca (by omega)))
  ·rw [<- h i hi hik]
   exact .mem (Zca (by omega))
theorem Znh {L L':List (Nat->F)} {s d:Nat} (hl:L'.length = L.length) (hs:s < L.length) (hd:d < L.length) (h:∀ i,i < L.length->at' L' i = if i = d then at' L s else if i = s then at' L d else at' L i):SpEq L' L:=by
 refine Zkw (fun i hi=>?_) (fun i hi=>?_)
 ·rw [h i (by omega)]
  split
  ·exact .mem (Zca hs)
  ·split
   ·exact .mem (Zca hd)
   ·exact .mem (Zca (by omega))
 ·by_cases h1:i = d
  ·subst h1
   have e:=h s hs
   by_cases h2:s = i
   ·rw [if_pos h2,h2] at e
    rw [<- e]
    exact .mem (Zca (by omega))
   ·rw [if_neg h2,if_pos rfl] at e
    rw [<- e]
    exact .mem (Zca (by omega))
  ·by_cases h2:i = s
   ·subst h2
    have e:=h d hd
    rw [if_pos rfl] at e
    rw [<- e]
    exact .mem (Zca (by omega))
   ·have e:=h i hi
    rw [if_neg h1,if_neg h2] at e
    rw [<- e]
    exact .mem (Zca (by omega))
structure LrF (F:Type) [Lean.Grind.Field F] (n c:Nat) (M0 M:Mv) (pl:List Nat):Prop where
 ml:M.length = n
 dl:pl.length<=n
 asc:∀ i j,i < j->j < pl.length->pl.getD i 0 < pl.getD j 0
 lt:∀ i,i < pl.length->pl.getD i 0 < c
 one:∀ i,i < pl.length->(vN (M.getD i []) (pl.getD i 0):F) = 1
 col:∀ i k,i < n->k < pl.length->i ≠ k->(vN (M.getD i []) (pl.getD k 0):F) = 0
 low:∀ i j,i < pl.length->j < pl.getD i 0->(vN (M.getD i []) j:F) = 0
 zer:∀ i j,pl.length<=i->i < n->j < c->(vN (M.getD i []) j:F) = 0
 sp:SpEq (F:=F) (M.map vN) (M0.map vN)
theorem LrF.start {n:Nat} {M:Mv} (h:M.length = n):LrF F n 0 M M []:=
 ⟨h,Nat.zero_le _,fun i j _ h=>by simp at h,fun i h=>by simp at h,fun i h=>by simp at h,fun i k _ h=>by simp at h,fun i j h=>by simp at h,fun i j _ _ h=>by omega,SpEq.refl _⟩
theorem LrF.skip {n c:Nat} {M0 M:Mv} {pl:List Nat} (h:LrF F n c M0 M pl) (hz:∀ i,pl.length<=i->i < n->(vN (M.getD i []) c:F) = 0):LrF F n (c + 1) M0 M pl:=
 ⟨h.ml,h.dl,h.asc,fun i hi=>Nat.lt_succ_of_lt (h.lt i hi),h.one,h.col,h.low,fun i j h1 h2 h3=>by
  by_cases e:j = c
  ·subst e; exact hz i h1 h2
  ·exact h.zer i j h1 h2 (by omega),h.sp⟩
structure LrG (F:Type) [Lean.Grind.Field F] (n c k:Nat) (M0 M:Mv) (pl:List Nat):Prop where
 ml:M.length = n
 dl:pl.length < n
 asc:∀ i j,i < j->j < pl.length->pl.getD i 0 < pl.getD j 0
 lt:∀ i,i < pl.length->pl.getD i 0 < c
 one:∀ i,i < pl.length->(vN (M.getD i []) (pl.getD i 0):F) = 1
 col:∀ i k,i < n->k < pl.length->i ≠ k->(vN (M.getD i []) (pl.getD k 0):F) = 0
 low:∀ i j,i < pl.length->j < pl.getD i 0->(vN (M.getD i []) j:F) = 0
 zer:∀ i j,pl.length<=i->i < n->j < c->(vN (M.getD i []) j:F) = 0
 pv:(vN (M.getD pl.length []) c:F) = 1
 cl:∀ i,i < k->i < n->i ≠ pl.length->(vN (M.getD i []) c:F) = 0
 sp:SpEq (F:=F) (M.map vN) (M0.map vN)
theorem Zed {M:Mv} {i:Nat} (h:i < M.length):at' (M.map (vN (F:=F))) i = vN (M.getD i []):=Zil h
theorem LrF.lead {n c s:Nat} {M0 M M':Mv} {pl:List Nat} {a:F} (h:LrF F n c M0 M pl) (hs:pl.length<=s) (hsn:s < n) (ha:(vN (M.getD s []) c:F) * a = 1) (hl:M'.length = n)
  (e1:∀ j,(vN (M'.getD pl.length []) j:F) = a * vN (M.getD s []) j) (e2:∀ i,i < n->i ≠ pl.length->(vN (M'.getD i []):Nat->F) = if i = s then vN (M.getD pl.length []) else vN (M.getD i [])):LrG F n c 0 M0 M' pl:=by
 have dn:pl.length < n:=by omega
 have ml:=h.ml
 have a0:a ≠ 0:=fun z=>by
  rw [z] at ha
  exact Zm9 (F:=F) (by rw [<- ha]; grind)
 have eq:∀ i,i < pl.length->(vN (M'.getD i []):Nat->F) = vN (M.getD i []):=fun i hi=>by rw [e2 i (by omega) (by omega),if_neg (by omega)]
 refine ⟨hl,dn,h.asc,h.lt,fun i hi=>by rw [eq i hi]; exact h.one i hi,fun i k hi hk hne=>?_,fun i j hi hj=>by rw [eq i hi]; exact h.low i j hi hj,fun i j h1 h2 h3=>?_,?_,fun i hi=>by omega,?_⟩
 ·by_cases hd:i = pl.length
  ·rw [hd,e1,h.col s k hsn hk (by omega)]
   grind
  ·rw [e2 i hi hd]
   split
   ·exact h.col _ k dn hk (by omega)
   ·exact h.col i k hi hk hne
 ·by_cases hd:i = pl.length
  ·rw [hd,e1,h.zer s j hs hsn h3]
   grind
  ·rw [e2 i h2 hd]
   split
   ·exact h.zer _ j (Nat.le_refl _) dn h3
   ·exact h.zer i j h1 h2 h3
 ·rw [e1]
  grind
 ·-- swap,then divide
  refine SpEq.trans ?_ h.sp
  have hM:(M.map (vN (F:=F))).length = n:=by rw [List.length_map]; exact ml
  have step1:=Zms (L:=(((M.set s (M.getD pl.length [])).set pl.length (M.getD s [])).map (vN (F:=F)))) (L':=M'.map vN) (k:=pl.length) (by rw [List.length_map,List.length_map,List.length_set,List.length_set]; omega) (by rw [List.length_map,List.length_set,List.length_set]; omega) a a0
   (fun i hi hne=>by
    rw [List.length_map,List.length_set,List.length_set] at hi
    rw [Zed (by omega),Zed (by rw [List.length_set,List.length_set]; omega),e2 i (by omega) hne,Zcc (by rw [List.length_set]; omega),if_neg hne,Zcc (by omega)]
    split <;> rfl)
   (fun j=>by
    rw [Zed (by omega),Zed (by rw [List.length_set,List.length_set]; omega),e1,Zcc (by rw [List.length_set]; omega),if_pos rfl])
  refine step1.trans (Znh (s:=s) (d:=pl.length) (by simp) (by omega) (by omega) fun i hi=>?_)
  rw [hM] at hi
  rw [Zed (by rw [List.length_set,List.length_set]; omega),Zcc (by rw [List.length_set]; omega),Zcc (by omega),Zed (by omega),Zed (by omega),Zed (by omega)]
  split
  ·rfl
  ·split <;> rfl
theorem LrG.skip {n c k:Nat} {M0 M:Mv} {pl:List Nat} (h:LrG F n c k M0 M pl) (hz:k ≠ pl.length->k < n->(vN (M.getD k []) c:F) = 0):LrG F n c (k + 1) M0 M pl:=
 ⟨h.ml,h.dl,h.asc,h.lt,h.one,h.col,h.low,h.zer,h.pv,fun i h1 h2 h3=>by
  by_cases e:i = k
  ·subst e; exact hz h3 h2
  ·exact h.cl i (by omega) h2 h3,h.sp⟩
theorem LrG.take {n c k:Nat} {M0 M M':Mv} {pl:List Nat} (h:LrG F n c k M0 M pl) (hk:k < n) (hkd:k ≠ pl.length) (hl:M'.length = n) (e1:∀ j,(vN (M'.getD k []) j:F) = vN (M.getD k []) j + (-vN (M.getD k []) c) * vN (M.getD pl.length []) j) (e2:∀ i,i < n->i ≠ k->M'.getD i [] = M.getD i []):LrG F n c (k + 1) M0 M' pl:=by
 have ml:=h.ml
 have dn:=h.dl
 have zd:∀ j,j < c->(vN (M.getD pl.length []) j:F) = 0:=fun j hj=>h.zer _ j (Nat.le_refl _) dn hj
 refine ⟨hl,dn,h.asc,h.lt,fun i hi=>?_,fun i l hi hl' hne=>?_,fun i j hi hj=>?_,fun i j h1 h2 h3=>?_,?_,fun i h1 h2 h3=>?_,?_⟩
 ·by_cases hik:i = k
  ·subst hik
   rw [e1,zd _ (h.lt i hi),h.one i hi]
   grind
  ·rw [e2 i (by omega) hik]; exact h.one i hi
 ·by_cases hik:i = k
  ·subst hik
   rw [e1,zd _ (h.lt l hl'),h.col i l hi hl' hne]
   grind
  ·rw [e2 i hi hik]; exact h.col i l hi hl' hne
 ·by_cases hik:i = k
  ·subst hik
   rw [e1,zd j (by have:=h.lt i hi; omega),h.low i j hi hj]
   grind
  ·rw [e2 i (by omega) hik]; exact h.low i j hi hj
 ·by_cases hik:i = k
  ·subst hik
   rw [e1,zd j h3,h.zer i j h1 h2 h3]
   grind
  ·rw [e2 i h2 hik]; exact h.zer i j h1 h2 h3
 ·rw [e2 _ dn (Ne.symm hkd)]; exact h.pv
 ·by_cases hik:i = k
  ·subst hik
   rw [e1,h.pv]
   grind
  ·rw [e2 i h2 hik]; exact h.cl i (by omega) h2 h3
 ·refine SpEq.trans (Zni (k:=k) (d:=pl.length) (by rw [List.length_map,List.length_map]; omega) (by rw [List.length_map]; omega) (by rw [List.length_map]; omega) (Ne.symm hkd) (-vN (M.getD k []) c) (fun i hi hne=>?_) fun j=>?_) h.sp
  ·rw [List.length_map] at hi
   rw [Zed (by omega),Zed hi,e2 i (by omega) hne]
  ·rw [Zed (by omega),Zed (by omega),Zed (by omega)]
   exact e1 j
theorem LrG.next {n c:Nat} {M0 M:Mv} {pl:List Nat} (h:LrG F n c n M0 M pl):LrF F n (c + 1) M0 M (pl ++ [c]):=by
 have dn:=h.dl
 have gl:∀ {i:Nat},i < pl.length->(pl ++ [c]).getD i 0 = pl.getD i 0:=fun {i} hi=>by rw [Zc7,if_pos hi]
 have gd:(pl ++ [c]).getD pl.length 0 = c:=by rw [Zc7,if_neg (by omega),if_pos rfl]
 have ll:(pl ++ [c]).length = pl.length + 1:=by rw [List.length_append]; rfl
 refine ⟨h.ml,by omega,fun i j hij hj=>?_,fun i hi=>?_,fun i hi=>?_,fun i k hi hk hne=>?_,fun i j hi hj=>?_,fun i j h1 h2 h3=>?_,h.sp⟩
 ·rw [ll] at hj
  rw [gl (by omega)]
  by_cases e:j < pl.length
  ·rw [gl e]; exact h.asc i j hij e
  ·rw [show j = pl.length by omega,gd]; exact h.lt i (by omega)
 ·rw [ll] at hi
  by_cases e:i < pl.length
  ·rw [gl e]; exact Nat.lt_succ_of_lt (h.lt i e)
  ·rw [show i = pl.length by omega,gd]; omega
 ·rw [ll] at hi
  by_cases e:i < pl.length
  ·rw [gl e]; exact h.one i e
  ·rw [show i = pl.length by omega,gd]; exact h.pv
 ·rw [ll] at hk
  by_cases e:k < pl.length
  ·rw [gl e]; exact h.col i k hi e hne
  ·have ek:k = pl.length:=by omega
   rw [ek,gd]; exact h.cl i hi hi (by omega)
 ·rw [ll] at hi
  by_cases e:i < pl.length
  ·rw [gl e] at hj; exact h.low i j e hj
  ·have ei:i = pl.length:=by omega
   rw [ei,gd] at hj
   rw [ei]
   exact h.zer _ j (Nat.le_refl _) dn hj
 ·rw [ll] at h1
  by_cases e:j = c
  ·subst e; exact h.cl i h2 h2 (by omega)
  ·exact h.zer i j (by omega) h2 (by omega)
theorem LrF.rr {n wd:Nat} {M0 M:Mv} {pl:List Nat} (h:LrF F n wd M0 M pl):RR (M.map (vN (F:=F))) wd pl.length (fun i=>pl.getD i 0):=by
 have ml:=h.ml
 have dl:=h.dl
 refine ⟨by rw [List.length_map]; omega,h.lt,fun i k h1 h2=>h.asc i k h1 h2,fun i k hi hk=>?_,fun i j hi hj=>?_,fun i j hi hi2 hj=>?_⟩
 ·rw [Zed (by omega)]
  show _ = if i = k then (1:F) else 0
  by_cases e:i = k
  ·subst e; rw [if_pos rfl]; exact h.one i hi
  ·rw [if_neg e]; exact h.col i k (by omega) hk e
 ·rw [Zed (by omega)]
  exact h.low i j hi hj
 ·rw [List.length_map] at hi2
  rw [Zed hi2]
  exact h.zer i j hi (by omega) hj
end
end Pf
namespace Pf
open PySem L2 L3 PyProof.Rows
section
variable {P:Program} {w:World} {K:PySem.W.Frag} {mg:Str->Option Value} {base:Heap} {C PL cL:Addr}
theorem Zqx {H:Hp} {t u:Addr} {a b c d:Int} {Q:VK} (neg:Bool) (ht:H t = some (.tup [.int a,.int b])) (hu:H u = some (.tup [.int c,.int d])) (q:Q (.bl (if neg then !(decide (a = c) && decide (b = d)) else (decide (a = c) && decide (b = d)))) H):Zr9 K neg (.ref t) (.ref u) H Q:=by
 have e:∀ i j:Int,eqV (.int i) (.int j) = decide (i = j):=fun i j=>by simp [eqV,Bool.beq_eq_decide_eq]
 refine ⟨t,u,_,_,[decide (a = c),decide (b = d)],rfl,rfl,SqT.of ht,SqT.of hu,⟨rfl,rfl,fun j x y z e1 e2 e3=>?_⟩,?_⟩
 ·match j,e1,e2,e3 with
  | 0,e1,e2,e3=>
   cases e1; cases e2; cases e3
   have:=EqD.flat (K:=K) (H:=H) (n:=6) (x:=.int a) (y:=.int c) rfl rfl
   rw [e] at this
   exact this
  | 1,e1,e2,e3=>
   cases e1; cases e2; cases e3
   have:=EqD.flat (K:=K) (H:=H) (n:=6) (x:=.int b) (y:=.int d) rfl rfl
   rw [e] at this
   exact this
  | j + 2,e1,e2,e3=>cases e1
 ·simpa using q
theorem Zoj {H:Hp} {p:Int} {v u:V} {x y:Nv} {Q:VK} (h:NumV H p v x) (h':NumV H p u y) (hx:Isn p x) (hy:Isn p y) (q:Q (.bl (decide (x ≠ y))) H):rNeN K v u H Q:=by
 by_cases hp:p = 0
 ·obtain ⟨t,rfl,ht⟩:=h.ref hp
  obtain ⟨t',rfl,ht'⟩:=h'.ref hp
  refine .inr (Zqx true ht ht' ?_)
  have:(if true = true then !(decide (x.1 = y.1) && decide (x.2 = y.2)) else (decide (x.1 = y.1) && decide (x.2 = y.2))) = decide (x ≠ y):=by
   rw [if_pos rfl,<- Bool.decide_and,<- decide_not]
   exact decide_eq_decide.mpr (not_congr Prod.ext_iff.symm)
  rw [this]
  exact q
 ·obtain rfl:=h.int hp
  obtain rfl:=h'.int hp
  refine .inl ⟨rfl,?_⟩
  have:(!decide (V.int x.1 = V.int y.1)) = decide (x ≠ y):=by
   rw [<- decide_not]
   have h2:x.2 = y.2:=by
    rcases hx with ⟨z,_⟩ | ⟨_,_,_,h1⟩
    ·exact absurd z hp
    ·rcases hy with ⟨z,_⟩ | ⟨_,_,_,h2⟩
     ·exact absurd z hp
     ·rw [h1,h2]
   refine decide_eq_decide.mpr (not_congr ?_)
   rw [Prod.ext_iff,V.int.injEq]
   exact ⟨fun h=>⟨h,h2⟩,fun h=>h.1⟩
  rw [this]
  exact q
def lb (p:Int) (k c:Nat):Nat:=if p = 0 then (k + 1) * 4 ^ c - 1 else 7
structure RowsV (H:Hp) (p:Int) (b n wd:Nat) (r:Addr) (rs:List Addr) (M:Mv):Prop where
 lst:H r = some (.lst (rs.map V.ref))
 row:All2 (RowV H p) rs M
 nin:r ∉ rs
 hl:M.length = n
 hw:∀ xs ∈ M,xs.length = wd
 gd:∀ xs ∈ M,Zce p b xs
theorem RowsV.same {H H':Hp} {p:Int} {b n wd:Nat} {r:Addr} {rs:List Addr} {M:Mv} (h:RowsV H p b n wd r rs M) (s:Same H H'):RowsV H' p b n wd r rs M:=⟨s _ _ h.lst,h.row.mono fun _ _ k=>k.same s,h.nin,h.hl,h.hw,h.gd⟩
theorem RowsV.at {H:Hp} {p:Int} {b n wd:Nat} {r:Addr} {rs:List Addr} {M:Mv} (h:RowsV H p b n wd r rs M) {i c:Nat} (hi:i < n) (hc:c < wd):∃ (a:Addr) (vs:List V) (v:V),rs[i]? = some a/\a ≠ r/\H a = some (.lst vs)/\vs.length = wd/\All2 (NumV H p) vs (M.getD i [])/\vs[c]? = some v/\NumV H p v ((M.getD i []).getD c (0,1))/\Isn p ((M.getD i []).getD c (0,1))/\BtN b ((M.getD i []).getD c (0,1)):=by
 have hl:=h.hl
 have e:M[i]? = some (M.getD i []):=by rw [Za1 (by omega)]; exact List.getElem?_eq_getElem _
 obtain ⟨a,ea,vs,hv,al⟩:=h.row.at e
 have hm:M.getD i [] ∈ M:=List.mem_of_getElem? e
 have wl:=h.hw _ hm
 have vl:=al.1
 have ec:(M.getD i [])[c]? = some ((M.getD i []).getD c (0,1)):=by rw [Za1 (show c < (M.getD i []).length by omega)]; exact List.getElem?_eq_getElem _
 obtain ⟨v,ev,nv⟩:=al.at ec
 have g:=h.gd _ hm _ (List.mem_of_getElem? ec)
 exact ⟨a,vs,v,ea,fun z=>h.nin (z ▸ List.mem_of_getElem? ea),hv,by omega,al,ev,nv,g.1,g.2⟩
theorem RowsV.set {H:Hp} {p:Int} {b n wd:Nat} {r:Addr} {rs:List Addr} {M:Mv} (h:RowsV H p b n wd r rs M) {k:Nat} {a:Addr} {xs:List Nv} (hk:k < n) (ha:RowV H p a xs) (hr:a ≠ r) (hx:xs.length = wd) {b':Nat} (hb:∀ ys ∈ M.set k xs,Zce p b' ys):RowsV (upd H r (.lst ((rs.set k a).map V.ref))) p b' n wd r (rs.set k a) (M.set k xs):=by
 refine ⟨Zad,(h.row.set k ha).monoM fun c ys hc q=>q.put h.lst (fun z=>?_),fun z=>?_,by rw [List.length_set]; exact h.hl,fun ys hy=>?_,hb⟩
 ·rcases List.mem_or_eq_of_mem_set hc with h1 | h1
  ·exact h.nin (z ▸ h1)
  ·exact hr (h1 ▸ z)
 ·rcases List.mem_or_eq_of_mem_set z with h1 | h1
  ·exact h.nin h1
  ·exact hr h1.symm
 ·rcases List.mem_or_eq_of_mem_set hy with h1 | h1
  ·exact h.hw ys h1
  ·rw [h1]; exact hx
theorem cut2 {A B X:TS} {D:Ends} {σ:L2.St} {H:Hp} (h:∀ X',X' = X->Zkt A (Zkt B X') D σ H):Zkt A (Zkt B X) D σ H:=h X rfl
theorem Zhi {p:Int} {k c:Nat} (h7:7<=k):(p = 0->4 * lb p k c + 2<=lb p k (c + 1))/\7<=lb p k c/\lb p k c<=lb p k (c + 1):=by
 unfold lb
 by_cases h:p = 0
 ·rw [if_pos h,if_pos h,Nat.pow_succ,<- Nat.mul_assoc]
  have:(k + 1) * 1<=(k + 1) * 4 ^ c:=Nat.mul_le_mul (Nat.le_refl _) (Nat.pos_of_ne_zero (by simp))
  exact ⟨fun _=>by omega,by omega,by omega⟩
 ·rw [if_neg h,if_neg h]
  exact ⟨fun z=>absurd z h,Nat.le_refl _,Nat.le_refl _⟩
theorem lb_mono {p:Int} {k c d:Nat} (h7:7<=k) (h:c<=d):lb p k c<=lb p k d:=by
 induction d with
 | zero=>rw [show c = 0 by omega]; exact Nat.le_refl _
 | succ d ih=>
  by_cases e:c = d + 1
  ·rw [e]; exact Nat.le_refl _
  ·exact Nat.le_trans (ih (by omega)) (Zhi h7).2.2
theorem Zmf {p:Int} {b:Nat} {xs:List Nv} (h0:p ≠ 0) (p97:p<=97) (h7:7<=b) (h:∀ x ∈ xs,Isn p x):Zce p b xs:=fun x hx=>⟨h x hx,(Zhr h0 p97 (h x hx)).le h7⟩
theorem isn_ne {p:Int} {x:Nv} (hx:Isn p x) (h:x ≠ (0,1)):x.1 ≠ 0:=fun z=>by
 refine h (Prod.ext z ?_)
 rcases hx with ⟨_,h1,h2⟩ | ⟨_,_,_,h1⟩
 ·rw [z] at h2
  simp [Int.gcd] at h2
  show x.2 = 1
  omega
 ·exact h1
theorem map_at {f:Nv->Nv} {xs:List Nv} {j:Nat} (h:j < xs.length):(xs.map f).getD j (0,1) = f (xs.getD j (0,1)):=by
 rw [List.getD_eq_getElem?_getD,List.getElem?_map,List.getElem?_eq_getElem h,Za1 h]
 rfl
abbrev Zg0 (p:Int) (y:Nv) (row:List Nv):List Nv:=row.map fun x=>Za8 p y x
abbrev Zqr (p:Int) (l:Nv) (row lead:List Nv):List Nv:=(List.range row.length).map fun j=>Zcx p (row.getD j (0,1)) (Za8 p l (lead.getD j (0,1)))
theorem Zqm {p:Int} {F:Type} [Lean.Grind.Field F] (hF:FdOk p F) {y:Nv} {row:List Nv} (hy:Isn p y) (hr:∀ x ∈ row,Isn p x) (j:Nat):(vN (Zg0 p y row) j:F) = nm y * vN row j:=by
 by_cases h:j < row.length
 ·unfold vN
  rw [map_at h,hF.times hy (hr _ (Zas h))]
 ·rw [Zhx (by rw [List.length_map]; omega),Zhx (by omega)]
  grind
theorem plus_fd {p:Int} {F:Type} [Lean.Grind.Field F] (hp:GroundP p) (hF:FdOk p F) {l:Nv} {row lead:List Nv} (hl:Isn p l) (he:row.length = lead.length) (hr:∀ x ∈ row,Isn p x) (hd:∀ x ∈ lead,Isn p x) (j:Nat):(vN (Zqr p l row lead) j:F) = vN row j + nm l * vN lead j:=by
 by_cases h:j < row.length
 ·unfold vN
  rw [List.getD_eq_getElem?_getD,List.getElem?_map,List.getElem?_range h]
  have h1:=hr _ (Zas (d:=(0,1)) h)
  have h2:=hd _ (Zas (d:=(0,1)) (show j < lead.length by omega))
  show (nm (Zcx p (row.getD j (0,1)) (Za8 p l (lead.getD j (0,1)))):F) = _
  rw [hF.plus h1 (Zbq hp.lo hl h2),hF.times hl h2]
 ·rw [Zhx (by rw [List.length_map,List.length_range]; omega),Zhx (by omega),Zhx (by omega)]
  grind
theorem Zql {p:Int} {b:Nat} (hp:GroundP p) (h7:7<=b) {y:Nv} {row:List Nv} (hy:Isn p y) (by':BtN b y) (hr:Zce p b row):Zce p (2 * b) (Zg0 p y row):=fun x hx=>by
 obtain ⟨u,hu,rfl⟩:=List.mem_map.mp hx
 obtain ⟨i1,b1⟩:=hr u hu
 have:=Zfz hp hy i1 by' b1 (by omega)
 rw [<- Nat.two_mul] at this
 exact ⟨Zbq hp.lo hy i1,this⟩
theorem plus_gd {p:Int} {b:Nat} (hp:GroundP p) (h7:7<=b) {l:Nv} {row lead:List Nv} (hl:Isn p l) (bl:BtN (b + 1) l) (he:row.length = lead.length) (hr:Zce p b row) (hd:Zce p (2 * b) lead):Zce p (4 * b + 2) (Zqr p l row lead):=fun x hx=>by
 obtain ⟨j,hj,rfl⟩:=List.mem_map.mp hx
 have hj:=List.mem_range.mp hj
 obtain ⟨i1,b1⟩:=hr _ (Zas (d:=(0,1)) hj)
 obtain ⟨i2,b2⟩:=hd _ (Zas (d:=(0,1)) (show j < lead.length by omega))
 have t1:=Zfz hp hl i2 bl b2 (by omega)
 have t2:=Zmo hp i1 (Zbq hp.lo hl i2) b1 t1 h7
 exact ⟨Ze4 hp.lo i1 (Zbq hp.lo hl i2),BtN.le t2 (by omega)⟩
theorem int_bt1 {p:Int} (hp:GroundP p):Bt 7 (Zfn p (-1)).1:=by
 unfold Zfn
 split
 ·exact Za5 (Nat.le_refl _) (by decide)
 ·have h1:=Int.emod_nonneg (-1) (show p ≠ 0 by assumption)
  have h2:=Int.emod_lt_of_pos (-1) (show 0 < p by have:=hp.lo; omega)
  have h3:=hp.hi
  exact Za5 (Nat.le_refl _) (by show (-1 % p).natAbs < 128; omega)
theorem int_bt2 {p:Int} (hp:GroundP p):Bt 7 (Zfn p (-1)).2:=by
 unfold Zfn
 split
 ·exact Za5 (Nat.le_refl _) (by decide)
 ·exact Za5 (Nat.le_refl _) (show (1:Int).natAbs < 128 by decide)
def LrInv (H:Hp) (p:Int) (t r1:Addr) (k n wd:Nat) (M:Mv) (c:Nat) (σ:L2.St) (H3:Hp):Prop:=∃ (v6 v7 v8 v9 v10:Option V) (rs2:List Addr) (M2:Mv) (pl:List Nat),σ = [some (.int p),some (.ref t),some (.int n),some (.int wd),some (.ref r1),some (.int (pl.length:Nat)),v6,v7,v8,v9,v10]/\Same H H3/\RowsV H3 p (lb p k c) n wd r1 rs2 M2/\(∀ a ∈ rs2,H a = none)/\∀ (F:Type) [Lean.Grind.Field F],FdOk p F->LrF F n c M M2 pl
def Zl1:L2.Sp:=fun vs H Q _=>∃ (p:Int) (t r:Addr) (rs:List Addr) (k n wd:Nat) (M:Mv),vs = [.int p,.ref t]/\GroundP p/\TabB H p k n wd t r rs M/\7<=k/\n<=24/\wd<=48/\(p = 0->(k + 1) * 4 ^ wd<=134000000) /\
 ∀ (t' tm r':Addr) (rs':List Addr) (M':Mv) (pl:List Nat) H',Same H H'->H' t' = some (.tup [.int (pl.length:Nat),.ref tm])->New H tm r' rs'->TabB H' p (lb p k wd) n wd tm r' rs' M'->(∀ (F:Type) [Lean.Grind.Field F],FdOk p F->LrF F n wd M M' pl)->Q (.ref t') H'
theorem ok_lred {f:Addr} {fd:FuncData} (F:Fun K "_law_reduced" "_law_reduced" Zb6 f fd) (T:Txt K mg C) (C_law_copy:Cal P w K mg base "_law_copy" 1 Zl2) (C_law_int:Cal P w K mg base "_law_int" 1 Zmu) (C_law_add:Cal P w K mg base "_law_add" 3 (Zjn Zcx)) (C_law_mul:Cal P w K mg base "_law_mul" 3 (Zjn Za8)) (C_law_back:Cal P w K mg base "_law_back" 4 Zk5):FnOk P w K mg base CX0 5 f fd ["_law_p","_law_table_here"] Zl1:=by
 have nd:=Ze8.nd
 refine F.ok Ze8 (fun vs H Q E h=>?_) (fun cdv A outer s H vs Q E hr h=>?_)
 ·obtain ⟨p,t,r,rs,k,n,wd,M,rfl,_⟩:=h
  rfl
 ·obtain ⟨p,t,r,rs,k,n,wd,M,rfl,hp,tb,k7,n24,w24,kb,q⟩:=h
  have hu8:=Zmx hr
  refine ⟨_,(@Zab _ _ _ _ _ (Zb2 (Zbb C_law_copy hr.m rfl (@Zag _ _ _ _ _ (pv 1) Zaa (by rfl))) (@Zch _ _ _ _ _ 3 rfl (@Zai _ _ _ _ _ (@Zah _ _ 2 _ nd rfl (Or.inl rfl) (Or.inl rfl)) (@Zai _ _ _ _ _ (@Zah _ _ 3 _ nd rfl (Or.inl rfl) (Or.inl rfl)) (@Zai _ _ _ _ _ (@Zah _ _ 4 _ nd rfl (Or.inr rfl) (Or.inl rfl)) (@Zba _) (by rfl)) (by rfl)) (by rfl)) (by rfl) (by rfl))) (@Zab _ _ _ _ _ (Zax (i:=5) nd rfl (Or.inl rfl) Zac) (@Zab _ _ _ _ _ (Zc3 PassesOwn.never rfl (Zgj rfl T.n_range (@Zag _ _ _ _ _ (pv 3) Zaa (by rfl))) (@Zah _ _ 6 _ nd rfl (Or.inr rfl) (Or.inl rfl)) (@Zab _ _ _ _ _ (Zf3 (i:=7) (own:=["_law_k"]) (fr:=[("_law_rows_here",4),("_law_column",6),("_law_p",0)]) rfl (Zck (by kernel_rfl)) (pi_r2 rfl T.n_range (@Zag _ _ _ _ _ (pv 5) (@Zag _ _ _ _ _ (pv 2) Zaa (by rfl)) (by rfl))) (fun _ _ _ _=>⟨(@Zah _ _ 0 _ (show (["_law_k","_law_rows_here","_law_column","_law_p"]:List Str).Nodup by decide +kernel) rfl (Or.inl rfl) (Or.inr rfl)),(Ziw (Zal (Zoa K rfl hu8) (@Zat _ _ _ _ _ _ _ (Zc1 K rfl) (@Zat _ _ _ _ _ _ _ (Zc1 K rfl) (pv 1) (pv 0) (fun _ _=>rfl)) (pv 2) (fun _ _=>rfl)) (Zbb C_law_int hr.m rfl (@Zag _ _ _ _ _ (pv 3) (@Zag _ _ _ _ _ Zac Zaa (by rfl)) (by rfl))) (Zau _))),(pv 0)⟩) nd rfl rfl rfl) (@Zab _ _ _ _ _ (@Zbf _ _ _ _ _ _ _ _ (Zal (op_eqL hu8) (pv 7) (@Zc4 _ _ _ _ Zaa) (Zau _)) (@Zaf _ _ _ Zk6) Zav) (@Zab _ _ _ _ _ (Zb2 (@Zbd _ _ _ _ _ (@Zag _ _ _ _ _ (@Zat _ _ _ _ _ _ _ Za0 (pv 4) (pv 5) (fun _ _=>rfl)) (@Zag _ _ _ _ _ (@Zat _ _ _ _ _ _ _ Za0 (pv 4) (@Zat _ _ _ _ _ _ _ Za0 (pv 7) (Zgk Zek Zac) (fun _ _=>rfl)) (fun _ _=>rfl)) Zaa (by rfl)) (by rfl))) (@Zch _ _ _ _ _ 2 rfl (@Zai _ _ _ _ _ (Zfd (pv 4) (@Zat _ _ _ _ _ _ _ Za0 (pv 7) (Zgk Zek Zac) (fun _ _=>rfl)) Zcz) (@Zai _ _ _ _ _ (Zfd (pv 4) (pv 5) Zcz) (@Zba _) (by rfl)) (by rfl)) (by rfl) (by rfl))) (@Zab _ _ _ _ _ (Zax (i:=8) nd rfl (Or.inr rfl) (Zbb C_law_back hr.m rfl (@Zag _ _ _ _ _ (pv 0) (@Zag _ _ _ _ _ (@Zat _ _ _ _ _ _ _ Za0 (@Zat _ _ _ _ _ _ _ Za0 (pv 4) (pv 5) (fun _ _=>rfl)) (pv 6) (fun _ _=>rfl)) Zaa (by rfl)) (by rfl)))) (@Zab _ _ _ _ _ (Zb2 (Zbg (own:=["_law_number_here"]) (fr:=[("_law_p",0),("_law_back_here",8)]) rfl (Zck (by kernel_rfl)) (Zbt (@Zat _ _ _ _ _ _ _ Za0 (pv 4) (pv 5) (fun _ _=>rfl))) (fun _ _ _ _=>⟨(@Zah _ _ 0 _ (show (["_law_number_here","_law_p","_law_back_here"]:List Str).Nodup by decide +kernel) rfl (Or.inl rfl) (Or.inr rfl)),Za9,(Zbb C_law_mul hr.m rfl (@Zag _ _ _ _ _ (pv 1) (@Zag _ _ _ _ _ (pv 2) (@Zag _ _ _ _ _ (pv 0) Zaa (by rfl)) (by rfl)) (by rfl)))⟩)) (Zfd (pv 4) (pv 5) Zcz)) (@Zab _ _ _ _ _ (Zc3 PassesOwn.never rfl (Zgj rfl T.n_range (@Zag _ _ _ _ _ (pv 2) Zaa (by rfl))) (@Zah _ _ 9 _ nd rfl (Or.inl rfl) (Or.inl rfl)) (@Zaf _ _ _ (@Zbf _ _ _ _ _ _ _ _ (PW.pt (Zju (Zal Zfj (pv 9) (pv 5) (Zau _)) (Ziv (Zal (Zoa K rfl hu8) (@Zat _ _ _ _ _ _ _ Za0 (@Zat _ _ _ _ _ _ _ Za0 (pv 4) (pv 9) (fun _ _=>rfl)) (pv 6) (fun _ _=>rfl)) (Zbb C_law_int hr.m rfl (@Zag _ _ _ _ _ (pv 0) (@Zag _ _ _ _ _ Zac Zaa (by rfl)) (by rfl))) (Zau _))))) (@Zab _ _ _ _ _ (Zax (i:=10) nd rfl (Or.inr rfl) (Zbb C_law_mul hr.m rfl (@Zag _ _ _ _ _ (pv 0) (@Zag _ _ _ _ _ (Zbb C_law_int hr.m rfl (@Zag _ _ _ _ _ (pv 0) (@Zag _ _ _ _ _ (Zgk Zek Zac) Zaa (by rfl)) (by rfl))) (@Zag _ _ _ _ _ (@Zat _ _ _ _ _ _ _ Za0 (@Zat _ _ _ _ _ _ _ Za0 (pv 4) (pv 9) (fun _ _=>rfl)) (pv 6) (fun _ _=>rfl)) Zaa (by rfl)) (by rfl)) (by rfl)))) (@Zaf _ _ _ (Zb2 (Zbg (own:=["_law_a","_law_b"]) (fr:=[("_law_p",0),("_law_less",10)]) rfl (Zck (by kernel_rfl)) (Zhe rfl T.n_zip (@Zag _ _ _ _ _ (@Zat _ _ _ _ _ _ _ Za0 (pv 4) (pv 9) (fun _ _=>rfl)) (@Zag _ _ _ _ _ (@Zat _ _ _ _ _ _ _ Za0 (pv 4) (pv 5) (fun _ _=>rfl)) Zaa (by rfl)) (by rfl))) (fun _ _ _ _=>⟨(@Zfi _ K rfl _ _ _ _ 2 rfl (@Zai _ _ _ _ _ (@Zah _ _ 0 _ (show (["_law_a","_law_b","_law_p","_law_less"]:List Str).Nodup by decide +kernel) rfl (Or.inl rfl) (Or.inr rfl)) (@Zai _ _ _ _ _ (@Zah _ _ 1 _ (show (["_law_a","_law_b","_law_p","_law_less"]:List Str).Nodup by decide +kernel) rfl (Or.inl rfl) (Or.inr rfl)) (@Zba _) (by rfl)) (by rfl)) (by rfl) (by rfl)),Za9,(Zbb C_law_add hr.m rfl (@Zag _ _ _ _ _ (pv 2) (@Zag _ _ _ _ _ (pv 0) (@Zag _ _ _ _ _ (Zbb C_law_mul hr.m rfl (@Zag _ _ _ _ _ (pv 2) (@Zag _ _ _ _ _ (pv 3) (@Zag _ _ _ _ _ (pv 1) Zaa (by rfl)) (by rfl)) (by rfl))) Zaa (by rfl)) (by rfl)) (by rfl)))⟩)) (Zfd (pv 4) (pv 9) Zcz)))) Zav))) (@Zaf _ _ _ (Zax (i:=5) nd rfl (Or.inl rfl) (@Zar _ _ _ _ _ _ _ _ Zc6 (pv 5) Zac)))))))))) (@Zaf _ _ _ (@Zaj _ _ _ _ (@Zbd _ _ _ _ _ (@Zag _ _ _ _ _ (pv 5) (@Zag _ _ _ _ _ (@Zbd _ _ _ _ _ (@Zag _ _ _ _ _ (pv 2) (@Zag _ _ _ _ _ (pv 3) (@Zag _ _ _ _ _ (pv 4) Zaa (by rfl)) (by rfl)) (by rfl))) Zaa (by rfl)) (by rfl)))))))),?_⟩
  walk_at "wp"
  refine ⟨p,n,wd,t,r,rs,M,rfl,tb.tv,by rw [tb.hl]; omega,fun t1 r1 rs1 H1 s1 nw1 tb1=>?_⟩
  refine ⟨t1,rfl,_,SqT.of tb1.tup,rfl,_,_,rfl,_,_,rfl,_,_,rfl,rfl,?_⟩
  refine ⟨_,rfl,(wd:Int),rfl,by omega,by omega,Zc9 (n:=wd) (fun c σ H3=>LrInv H p t r1 k n wd M c σ H3)
   ⟨none,none,none,none,none,rs1,M,[],rfl,s1,⟨tb1.lst,tb1.row,tb1.nin,tb.hl,tb.hw,?_⟩,nw1.rs,fun F _ hF=>LrF.start tb.hl⟩ ?_ ?_⟩
  ·intro xs hx
   by_cases h0:p = 0
   ·have:lb p k 0 = k:=by unfold lb; rw [if_pos h0]; simp
    rw [this]
    exact tb.gd xs hx
   ·exact Zmf h0 hp.hi (Zhi k7).2.1 fun x hxx=>(tb.gd xs hx x hxx).1
  ·rintro c σ H3 hc ⟨v6,v7,v8,v9,v10,rs2,M2,pl,rfl,s3,R3,f3,lr⟩
   obtain ⟨F0,_,hF0⟩:=Zfv hp
   have dl:=(lr F0 hF0).dl
   have m2:=R3.hl
   have rl2:=R3.row.1
   refine cut2 fun X hX=>?_
   walk_at "wp"
   have ec:(0:Int) + (c:Int) = (c:Int):=by omega
   rw [ec]
   have aft:∀ (Dn:Ends) (D:Addr) (s:Nat) (L:List Nat) (H4:Hp),(∀ σ H5,LrInv H p t r1 k n wd M (c + 1) σ H5->Dn.nx σ H5)->Same H3 H4->H4 D = some (.lst ((L ++ [s]).map fun (i:Nat)=>V.int i))->pl.length<=s->s < n->(M2.getD s []).getD c (0,1) ≠ (0,1)->
     X Dn [some (.int p),some (.ref t),some (.int n),some (.int wd),some (.ref r1),some (.int (pl.length:Nat)),some (.int c),some (.ref D),v8,v9,v10] H4:=by
    intro Dn D s L H4 hDn s4 e4 hs1 hs2 hs3
    subst hX
    refine cut1 fun X2 hX2=>?_
    have R4:=R3.same s4
    have rl4:=R4.row.1
    have es:rs2[s]? = some (rs2[s]'(by omega)):=List.getElem?_eq_getElem _
    have ed:rs2[pl.length]? = some (rs2[pl.length]'(by omega)):=List.getElem?_eq_getElem _
    generalize hea:rs2[s]'(by omega) = aS at es
    generalize hed:rs2[pl.length]'(by omega) = aD at ed
    have lastL:atI ((L ++ [s]).map fun (i:Nat)=>V.int i) (-1) = some (.int s):=by
     unfold atI
     rw [Zgr (by simp)]
     simp
    have rvD:RowV H4 p aD (M2.getD pl.length []):=R4.row.2 pl.length _ _ ed (by rw [Za1 (by omega)]; exact List.getElem?_eq_getElem _)
    have rvS:RowV H4 p aS (M2.getD s []):=R4.row.2 s _ _ es (by rw [Za1 (by omega)]; exact List.getElem?_eq_getElem _)
    have nD:aD ≠ r1:=fun z=>R4.nin (z ▸ List.mem_of_getElem? ed)
    have nS:aS ≠ r1:=fun z=>R4.nin (z ▸ List.mem_of_getElem? es)
    have mD:M2.getD pl.length [] ∈ M2:=Zas (by omega)
    have mS:M2.getD s [] ∈ M2:=Zas (by omega)
    obtain ⟨lb1,lb7,lb2⟩:=Zhi (p:=p) (c:=c) k7
    have lbw:=lb_mono (p:=p) k7 (show c + 1<=wd by omega)
    have lim:p = 0->lb p k wd<=134000000:=fun h0=>by
     have:=kb h0
     unfold lb
     rw [if_pos h0]
     omega
    -- behind the swap
    have aft2:∀ (rs6:List Addr) (H6:Hp),Same H H6->RowsV H6 p (lb p k c) n wd r1 rs6 ((M2.set s (M2.getD pl.length [])).set pl.length (M2.getD s []))->(∀ a ∈ rs6,H a = none)->
      X2 Dn [some (.int p),some (.ref t),some (.int n),some (.int wd),some (.ref r1),some (.int (pl.length:Nat)),some (.int c),some (.ref D),v8,v9,v10] H6:=by
     intro rs6 H6 s06 R6 f6
     subst hX2
     refine cut2 fun X3 hX3=>?_
     have l0:(M2.set s (M2.getD pl.length [])).length = n:=by rw [List.length_set]; exact m2
     have eDrow:((M2.set s (M2.getD pl.length [])).set pl.length (M2.getD s [])).getD pl.length [] = M2.getD s []:=by rw [Zcc (by omega),if_pos rfl]
     have eOther:∀ i,i ≠ pl.length->((M2.set s (M2.getD pl.length [])).set pl.length (M2.getD s [])).getD i [] = if i = s then M2.getD pl.length [] else M2.getD i []:=fun i hi=>by rw [Zcc (by omega),if_neg hi,Zcc (by omega)]
     generalize (M2.set s (M2.getD pl.length [])).set pl.length (M2.getD s []) = M6 at *
     have rl6:=R6.row.1
     have hl6:=R6.hl
     obtain ⟨a6,vs6,v6',ea6,na6,hv6,vl6,al6,ev6,nv6,is6,bt6⟩:=R6.at (i:=pl.length) (c:=c) (by omega) hc
     rw [eDrow] at al6 nv6 is6 bt6
     have gS:=R3.gd _ mS
     have wS:=R3.hw _ mS
     have x1:=isn_ne is6 hs3
     walk_at "wp"
     refine ⟨_,SqL.of R6.lst,.ref a6,Zbl (by omega) (by rw [Int.toNat_natCast,List.getElem?_map,ea6]; rfl),_,rfl,_,SqL.of hv6,v6',Zbl (by omega) (by rw [Int.toNat_natCast]; exact ev6),p,v6',_,rfl,hp,nv6,is6,x1,fun bv y H7 s7 ny iB=>?_⟩
     have R7:=R6.same s7
     have hv7:=s7 _ _ hv6
     have al7:All2 (NumV H7 p) vs6 (M2.getD s []):=al6.mono fun _ _ q=>q.same s7
     have by':=iB.bt _ lb7 bt6
     refine ⟨_,rfl,_,rfl,r1,_,_,_,rfl,rfl,SqL.of R7.lst,Zbl (by omega) (by rw [Int.toNat_natCast,List.getElem?_map,ea6]; rfl),a6,rfl,⟨_,SqL.of hv7⟩,fun D2 hD2=>Zco (fun j Hc v=>NumV Hc p v (Za8 p y ((M2.getD s []).getD j (0,1)))) (fun q s=>q.same s) (fun q hD=>q.put hD) hv7 hD2 (by omega) (fun j v Hc Qc hj sc _ qc=>?_) fun ws H8 s8 e8 wl hws=>?_⟩
     ·obtain ⟨x,ex,nx⟩:=al7.at' hj
      obtain ⟨ix,bx⟩:=gS x (List.mem_of_getElem? ex)
      refine ⟨_,rfl,_,rfl,_,rfl,p,bv,v,y,x,rfl,hp,⟨ny.same sc,nx.same sc,iB.is,ix,_,_,by'.1,by'.2,bx.1,bx.2,?_⟩,fun u Hd sd nu=>qc u Hd sd ?_⟩
      ·by_cases h0:p = 0
       ·have:=lim h0
        have:=lb1 h0
        omega
       ·unfold lb
        rw [if_neg h0]
        decide
      ·rw [Zak ex]; exact nu
     have R8:=R7.same s8
     have rv8:RowV H8 p D2 (Zg0 p y (M2.getD s [])):=⟨ws,e8,by rw [List.length_map]; omega,fun j v x e1 e2=>by
      have hj:j < (M2.getD s []).length:=by have:=(List.getElem?_eq_some_iff.mp e1).1; omega
      have h1:=hws j v e1
      rw [List.getElem?_map,List.getElem?_eq_getElem hj] at e2
      cases e2
      rwa [Za1 hj] at h1⟩
     have nD2:D2 ≠ r1:=(Zan R7.lst hD2).symm
     refine ⟨_,R8.lst,pl.length,Zii (by omega) (by rw [List.length_map]; omega),?_⟩
     rw [Ze0]
     have sgd:=Zql hp lb7 iB.is by' gS
     have two:2 * lb p k c<=lb p k (c + 1)\/p ≠ 0:=by
      by_cases h0:p = 0
      ·have:=lb1 h0
       exact .inl (by omega)
      ·exact .inr h0
     have up:∀ {b:Nat} {xs:List Nv},(p = 0->b<=lb p k (c + 1))->Zce p b xs->Zce p (lb p k (c + 1)) xs:=fun {b xs} h g=>by
      by_cases h0:p = 0
      ·exact fun x hx=>⟨(g x hx).1,BtN.le (g x hx).2 (h h0)⟩
      ·exact Zmf h0 hp.hi (Zhi k7).2.1 fun x hx=>(g x hx).1
     have R9:=R8.set (k:=pl.length) (by omega) rv8 nD2 (by rw [List.length_map]; exact wS) (b':=lb p k (c + 1)) fun ys hy=>by
      rcases List.mem_or_eq_of_mem_set hy with h1 | h1
      ·exact up (fun _=>lb2) (R8.gd ys h1)
      ·rw [h1]; exact up (fun h0=>by have:=lb1 h0; omega) sgd
     have s09:Same H (upd H8 r1 (.lst ((rs6.set pl.length D2).map V.ref))):=((s06.trans s7).trans s8).upd nw1.r
     have f9:∀ a ∈ rs6.set pl.length D2,H a = none:=fun a ha=>by
      rcases List.mem_or_eq_of_mem_set ha with h1 | h1
      ·exact f6 a h1
      ·rw [h1]; exact (s06.trans s7).free hD2
     have lg:∀ (F:Type) [Lean.Grind.Field F],FdOk p F->LrG F n c 0 M (M6.set pl.length (Zg0 p y (M2.getD s []))) pl:=fun F _ hF=>by
      refine (lr F hF).lead hs1 hs2 (a:=nm y) ?_ (by rw [List.length_set]; exact hl6) (fun j=>?_) (fun i hi hne=>?_)
      ·exact iB.fd F hF
      ·rw [Zcc (by omega),if_pos rfl]
       exact Zqm hF iB.is (fun x hx=>(gS x hx).1) j
      ·rw [Zcc (by omega),if_neg hne,eOther i hne]
       split <;> rfl
     have gd9:Zce p (2 * lb p k c) ((M6.set pl.length (Zg0 p y (M2.getD s []))).getD pl.length []):=by
      rw [Zcc (by omega),if_pos rfl]
      exact sgd
     have go9:∀ i,0<=i->i < n->i ≠ pl.length->Zce p (lb p k c) ((M6.set pl.length (Zg0 p y (M2.getD s []))).getD i []):=fun i _ hi hne=>by
      rw [Zcc (by omega),if_neg hne]
      exact R6.gd _ (Zas (by omega))
     generalize M6.set pl.length (Zg0 p y (M2.getD s [])) = M9 at *
     generalize upd H8 r1 (.lst ((rs6.set pl.length D2).map V.ref)) = H9 at *
     generalize rs6.set pl.length D2 = rs9 at *
     subst hX3
     walk_at "wp"
     refine ⟨_,rfl,(n:Int),rfl,by omega,by omega,Zc9 (n:=n) (fun kk σ H3=>∃ (v9 v10:Option V) (rs2:List Addr) (M3:Mv),σ = [some (.int p),some (.ref t),some (.int n),some (.int wd),some (.ref r1),some (.int (pl.length:Nat)),some (.int c),some (.ref D),some bv,v9,v10]/\Same H H3/\RowsV H3 p (lb p k (c + 1)) n wd r1 rs2 M3/\(∀ a ∈ rs2,H a = none)/\(∀ (F:Type) [Lean.Grind.Field F],FdOk p F->LrG F n c kk M M3 pl)/\Zce p (2 * lb p k c) (M3.getD pl.length [])/\∀ i,kk<=i->i < n->i ≠ pl.length->Zce p (lb p k c) (M3.getD i []))
      ⟨v9,v10,rs9,M9,rfl,s09,R9,f9,lg,gd9,go9⟩ ?_ ?_⟩
     ·rintro kk σ H10 hkk ⟨u9,u10,rs10,M10,rfl,s10,R10,f10,lg10,gd10,go10⟩
      walk_at "wp"
      have ek:(0:Int) + (kk:Int) = (kk:Int):=by omega
      rw [ek]
      have rl10:=R10.row.1
      have hl10:=R10.hl
      refine Zdy (fun hne=>?_) (fun hne=>?_)
      ·have hne:kk ≠ pl.length:=fun z=>by rw [z] at hne; simp at hne
       obtain ⟨ak,vsk,vk,eak,nak,hvk,vlk,alk,evk,nvk,isk,btk0⟩:=R10.at (i:=kk) (c:=c) hkk hc
       have rowk:Zce p (lb p k c) (M10.getD kk []):=go10 kk (Nat.le_refl _) hkk hne
       have wk:(M10.getD kk []).length = wd:=R10.hw _ (Zas (by omega))
       have wdd:(M10.getD pl.length []).length = wd:=R10.hw _ (Zas (by omega))
       have btk:BtN (lb p k c) ((M10.getD kk []).getD c (0,1)):=(rowk _ (Zas (by omega))).2
       refine ⟨_,SqL.of R10.lst,.ref ak,Zbl (by omega) (by rw [Int.toNat_natCast,List.getElem?_map,eak]; rfl),_,rfl,_,SqL.of hvk,vk,Zbl (by omega) (by rw [Int.toNat_natCast]; exact evk),p,0,rfl,hp,fun u H11 s11 nu=>?_⟩
       refine Zoj (nvk.same s11) nu isk (Zda hp.lo) ⟨_,rfl,?_⟩
       rw [Zex]
       refine Zdy (fun hz=>?_) (fun hz=>?_)
       ·have hz:(M10.getD kk []).getD c (0,1) ≠ (0,1):=of_decide_eq_true hz
        refine ⟨p,-1,rfl,hp,fun mv H12 s12 nm1=>?_⟩
        have s1112:=s11.trans s12
        have R12:=R10.same s1112
        refine ⟨_,SqL.of R12.lst,.ref ak,Zbl (by omega) (by rw [Int.toNat_natCast,List.getElem?_map,eak]; rfl),_,rfl,_,SqL.of (s1112 _ _ hvk),vk,Zbl (by omega) (by rw [Int.toNat_natCast]; exact evk),p,mv,vk,Zfn p (-1),(M10.getD kk []).getD c (0,1),rfl,hp,⟨nm1,nvk.same s1112,Zda hp.lo,isk,7,lb p k c,int_bt1 hp,int_bt2 hp,btk.1,btk.2,?_⟩,fun lv H13 s13 nl=>?_⟩
        ·by_cases h0:p = 0
         ·have:=lim h0
          have:=lb1 h0
          omega
         ·unfold lb
          rw [if_neg h0]
          decide
        have isl:=Zbq hp.lo (Zda (k:=-1) hp.lo) isk
        have btl:=Zrx hp isk btk lb7
        have fdl:∀ (F:Type) [Lean.Grind.Field F],FdOk p F->(nm (Za8 p (Zfn p (-1)) ((M10.getD kk []).getD c (0,1))):F) = -nm ((M10.getD kk []).getD c (0,1)):=fun F _ hF=>by
         rw [hF.times (Zda hp.lo) isk,hF.intF,Zka,Zdz]
         grind
        generalize Za8 p (Zfn p (-1)) ((M10.getD kk []).getD c (0,1)) = less at *
        have s13':=s1112.trans s13
        have R13:=R10.same s13'
        obtain ⟨ad,vsd,vd,ead,nad,hvd,vld,ald,evd,nvd,isd,btd⟩:=R13.at (i:=pl.length) (c:=c) (by omega) hc
        have hvk13:=s13' _ _ hvk
        have alk13:All2 (NumV H13 p) vsk (M10.getD kk []):=alk.mono fun _ _ q=>q.same s13'
        refine ⟨_,rfl,_,rfl,r1,_,_,_,rfl,rfl,SqL.of R13.lst,Zbl (by omega) (by rw [Int.toNat_natCast,List.getElem?_map,eak]; rfl),_,rfl,_,rfl,r1,_,_,_,rfl,rfl,SqL.of R13.lst,Zbl (by omega) (by rw [Int.toNat_natCast,List.getElem?_map,ead]; rfl),ak,ad,rfl,⟨_,SqL.of hvk13⟩,⟨_,SqL.of hvd⟩,fun D3 hD3=>Zfw (fun j Hc v=>NumV Hc p v (Zcx p ((M10.getD kk []).getD j (0,1)) (Za8 p less ((M10.getD pl.length []).getD j (0,1))))) (fun q s=>q.same s) (fun q hD=>q.put hD) hvk13 hvd (by omega) hD3 (by omega) (fun j va vb Hc Qc hva hvb sc _ qc=>?_) fun ws H14 s14 e14 wl hws=>?_⟩
        ·obtain ⟨xa,exa,nxa⟩:=alk13.at' hva
         obtain ⟨xb,exb,nxb⟩:=ald.at' hvb
         obtain ⟨ia,ba⟩:=rowk xa (List.mem_of_getElem? exa)
         obtain ⟨ib,bb⟩:=gd10 xb (List.mem_of_getElem? exb)
         have tb1:=Zfz hp isl ib btl bb (by omega)
         have small:4 * lb p k c + 2<=134000000:=by
          by_cases h0:p = 0
          ·have:=lim h0
           have:=lb1 h0
           omega
          ·unfold lb
           rw [if_neg h0]
           decide
         refine ⟨_,rfl,_,rfl,_,rfl,_,rfl,_,rfl,p,lv,vb,less,xb,rfl,hp,⟨nl.same sc,nxb.same sc,isl,ib,_,_,btl.1,btl.2,bb.1,bb.2,by omega⟩,fun m Hd sd hm=>?_⟩
         refine ⟨p,va,m,xa,_,rfl,hp,⟨(nxa.same sc).same sd,hm,ia,Zbq hp.lo isl ib,_,_,ba.1,ba.2,tb1.1,tb1.2,by omega⟩,fun v He se hv=>qc v He (sd.trans se) ?_⟩
         rw [Zak exa,Zak exb]
         exact hv
        have R14:=R13.same s14
        have rv14:RowV H14 p D3 (Zqr p less (M10.getD kk []) (M10.getD pl.length [])):=⟨ws,e14,by rw [List.length_map,List.length_range]; omega,fun j v x e1 e2=>by
         have hj:j < (M10.getD kk []).length:=by have:=(List.getElem?_eq_some_iff.mp e1).1; omega
         have h1:=hws j v e1
         rw [List.getElem?_map,List.getElem?_range hj] at e2
         cases e2
         exact h1⟩
        have nD3:D3 ≠ r1:=(Zan R13.lst hD3).symm
        refine ⟨_,R14.lst,kk,Zii (by omega) (by rw [List.length_map]; omega),?_⟩
        rw [Ze0]
        have pgd:=plus_gd hp lb7 isl btl (wk.trans wdd.symm) rowk gd10
        have R15:=R14.set (k:=kk) hkk rv14 nD3 (by rw [List.length_map,List.length_range]; exact wk) (b':=lb p k (c + 1)) fun ys hy=>by
         rcases List.mem_or_eq_of_mem_set hy with h1 | h1
         ·exact R14.gd ys h1
         ·rw [h1]; exact up lb1 pgd
        refine ⟨_,_,⟨rfl,rfl⟩,((s10.trans s13').trans s14).upd nw1.r,rs10.set kk D3,M10.set kk (Zqr p less (M10.getD kk []) (M10.getD pl.length [])),R15,fun a ha=>?_,fun F _ hF=>?_,?_,fun i hi1 hi2 hi3=>?_⟩
        ·rcases List.mem_or_eq_of_mem_set ha with h1 | h1
         ·exact f10 a h1
         ·rw [h1]; exact (s10.trans s13').free hD3
        ·refine (lg10 F hF).take hkk hne (by rw [List.length_set]; exact hl10) (fun j=>?_) (fun i hi hne'=>?_)
         ·rw [Zcc (by omega),if_pos rfl,plus_fd hp hF isl (wk.trans wdd.symm) (fun x hx=>(rowk x hx).1) (fun x hx=>(gd10 x hx).1) j,fdl F hF]
          rfl
         ·rw [Zcc (by omega),if_neg hne']
        ·rw [Zcc (by omega),if_neg (Ne.symm hne)]
         exact gd10
        ·rw [Zcc (by omega),if_neg (by omega)]
         exact go10 i (by omega) hi2 hi3
       ·have hz:(M10.getD kk []).getD c (0,1) = (0,1):=by
         apply Classical.byContradiction
         intro z
         exact hz (decide_eq_true z)
        refine ⟨_,_,⟨rfl,rfl⟩,s10.trans s11,rs10,M10,R10.same s11,f10,fun F _ hF=>(lg10 F hF).skip fun _ _=>?_,gd10,fun i hi1 hi2 hi3=>go10 i (by omega) hi2 hi3⟩
        unfold vN
        rw [hz]
        exact Zfk
      ·have hne:kk = pl.length:=by
        have:(kk:Int) = (pl.length:Int):=by simpa using hne
        omega
       exact ⟨_,_,⟨rfl,rfl⟩,s10,rs10,M10,R10,f10,fun F _ hF=>(lg10 F hF).skip fun h=>absurd hne h,gd10,fun i hi1 hi2 hi3=>go10 i (by omega) hi2 hi3⟩
     ·rintro σ H10 ⟨u9,u10,rs10,M10,rfl,s10,R10,f10,lg10,gd10,go10⟩
      walk_at "wp"
      exact hDn _ _ ⟨some (.int c),some (.ref D),some bv,u9,u10,rs10,M10,pl ++ [c],by simp,s10,R10,f10,fun F _ hF=>(lg10 F hF).next⟩
    walk_at "wp"
    refine ⟨_,SqL.of R4.lst,.ref aD,Zbl (by omega) (by rw [Int.toNat_natCast,List.getElem?_map,ed]; rfl),_,SqL.of e4,_,lastL,_,_,rfl,SqL.of R4.lst,.ref aS,Zbl (by omega) (by rw [Int.toNat_natCast,List.getElem?_map,es]; rfl),by decide,fun tp htp=>?_⟩
    have s5:=Same.new (o:=.tup [V.ref aD,V.ref aS]) htp
    have R5:=R4.same s5
    refine ⟨_,SqT.of Zad,rfl,_,_,rfl,_,SqL.of (s5 _ _ e4),_,lastL,_,_,rfl,R5.lst,s,Zii (by omega) (by rw [List.length_map]; omega),?_⟩
    have R6:=R5.set (k:=s) hs2 (rvD.same s5) nD (R5.hw _ mD) (b':=lb p k c) fun ys hy=>by
     rcases List.mem_or_eq_of_mem_set hy with h1 | h1
     ·exact R5.gd ys h1
     ·rw [h1]; exact R5.gd _ mD
    rw [Ze0]
    have e6:upd (upd H4 tp (.tup [V.ref aD,V.ref aS])) r1 (.lst ((rs2.set s aD).map V.ref)) r1 = some (.lst ((rs2.set s aD).map V.ref)):=Zad
    refine ⟨_,_,rfl,_,e6,pl.length,Zii (by omega) (by rw [List.length_map,List.length_set]; omega),rfl,?_⟩
    rw [Ze0]
    have rvS6:RowV (upd (upd H4 tp (.tup [V.ref aD,V.ref aS])) r1 (.lst ((rs2.set s aD).map V.ref))) p aS (M2.getD s []):=(rvS.same s5).put R5.lst nS
    have R7:=R6.set (k:=pl.length) (by omega) rvS6 nS (R5.hw _ mS) (b':=lb p k c) fun ys hy=>by
     rcases List.mem_or_eq_of_mem_set hy with h1 | h1
     ·exact R6.gd ys h1
     ·rw [h1]; exact R5.gd _ mS
    refine aft2 _ _ ((((s3.trans s4).trans s5).upd nw1.r).upd nw1.r) R7 fun a ha=>?_
    rcases List.mem_or_eq_of_mem_set ha with h1 | h1
    ·rcases List.mem_or_eq_of_mem_set h1 with h2 | h2
     ·exact f3 a h2
     ·rw [h2]; exact f3 aD (List.mem_of_getElem? ed)
    ·rw [h1]; exact f3 aS (List.mem_of_getElem? es)
   refine ⟨_,rfl,_,rfl,_,_,rfl,⟨by omega,by omega,by omega,by omega⟩,fun D hD=>Zja (fun i=>decide ((M2.getD (pl.length + i) []).getD c (0,1) ≠ (0,1))) hD (by omega) (fun i H4 Q4 hi s4 q4=>?_) fun H4 s4 e4=>?_⟩
   ·have hin:pl.length + i < n:=by omega
    obtain ⟨a,vs,v,ea,nar,hv,vl,al,ev,nv,is,bt⟩:=(R3.same s4).at hin hc
    have R4:=R3.same s4
    simp only [Zcb]
    walk_at "wp"
    refine ⟨_,rfl,r1,rfl,_,SqL.of R4.lst,.ref a,Zbl (by omega) (by rw [show ((pl.length:Int) + (i:Int)).toNat = pl.length + i by omega,List.getElem?_map,ea]; rfl),_,rfl,a,rfl,_,_,rfl,SqL.of hv,v,Zbl (by omega) (by rw [Int.toNat_natCast]; exact ev),_,rfl,p,0,rfl,hp,fun u H5 s5 nu=>?_⟩
    refine Zoj (nv.same s5) nu is (Zda hp.lo) ⟨_,rfl,?_⟩
    rw [Zex]
    exact q4 H5 s5
   ·generalize hL:(List.range ((n:Int) - (pl.length:Int)).toNat).filter (fun i=>decide ((M2.getD (pl.length + i) []).getD c (0,1) ≠ (0,1))) = L at e4
    have memL:∀ i,i ∈ L ↔ i < n - pl.length/\(M2.getD (pl.length + i) []).getD c (0,1) ≠ (0,1):=fun i=>by
     rw [<- hL,List.mem_filter,List.mem_range,decide_eq_true_iff,show ((n:Int) - (pl.length:Int)).toNat = n - pl.length by omega]
    refine ⟨by decide,fun E0' hE0=>?_⟩
    have s5:=Same.new (o:=.lst []) hE0
    refine ⟨D,rfl,_,SqL.of (s5 _ _ e4),_,SqL.of Zad,?_⟩
    rcases List.eq_nil_or_concat L with e | ⟨L0,i,e⟩
    ·subst e
     refine .inr ⟨[],⟨rfl,rfl,fun j x y b e1=>by simp at e1⟩,?_⟩
     rw [if_pos (by rfl)]
     refine ⟨_,_,_,_,_,rs2,M2,pl,rfl,(s3.trans s4).trans s5,?_,f3,fun F _ hF=>(lr F hF).skip fun i h1 h2=>?_⟩
     ·have R5:=(R3.same s4).same s5
      exact ⟨R5.lst,R5.row,R5.nin,R5.hl,R5.hw,fun xs hx x hxx=>⟨(R5.gd xs hx x hxx).1,BtN.le (R5.gd xs hx x hxx).2 (Zhi k7).2.2⟩⟩
     ·have:(M2.getD i []).getD c (0,1) = (0,1):=by
       apply Classical.byContradiction
       intro z
       have:=(memL (i - pl.length)).mpr ⟨by omega,by rw [show pl.length + (i - pl.length) = i by omega]; exact z⟩
       simp at this
      unfold vN
      rw [this]
      exact Zfk
    ·rw [List.concat_eq_append] at e
     subst e
     refine .inl ⟨by simp,?_⟩
     obtain ⟨h1,h2⟩:=(memL i).mp (by simp)
     refine aft _ D (pl.length + i) (L0.map fun j=>pl.length + j) _ (fun σ H5 h=>h) (s4.trans s5) ?_ (by omega) (by omega) h2
     rw [s5 _ _ e4]
     simp
  ·rintro σ H3 ⟨v6,v7,v8,v9,v10,rs2,M2,pl,rfl,s3,R3,f3,lr⟩
   walk_at "wp"
   refine ⟨by decide,fun tm htm=>⟨by decide,fun t' ht'=>?_⟩⟩
   have s4:=Same.new (o:=.tup [V.int n,V.int wd,V.ref r1]) htm
   have s5:=Same.new (o:=.tup [V.int (pl.length:Nat),V.ref tm]) ht'
   have s45:=s4.trans s5
   exact q t' tm r1 rs2 M2 pl _ (s3.trans s45) Zad ⟨s3.free htm,nw1.r,f3⟩ ⟨⟨s5 _ _ Zad,s45 _ _ R3.lst,R3.row.mono fun _ _ k=>k.same s45,R3.nin⟩,R3.hl,R3.hw,R3.gd⟩ lr
end
end Pf
namespace Pf
open PySem L2 L3 PyProof.Rows
structure Mat (p:Int) (n wd:Nat) (M:Mv):Prop where
 hl:M.length = n
 hw:∀ xs ∈ M,xs.length = wd
 is:∀ xs ∈ M,∀ x ∈ xs,Isn p x
theorem Zsi {p:Int} {F:Type} [Lean.Grind.Field F] (hF:FdOk p F) {n wd:Nat} {A B:Mv} (hA:Mat p n wd A) (hB:Mat p n wd B) (h:∀ i j,i < n->j < wd->(vN (A.getD i []) j:F) = vN (B.getD i []) j):A = B:=by
 have la:=hA.hl
 have lb:=hB.hl
 refine List.ext_getElem (by omega) fun i h1 h2=>?_
 have wa:=hA.hw _ (List.getElem_mem h1)
 have wb:=hB.hw _ (List.getElem_mem h2)
 refine List.ext_getElem (by omega) fun j h3 h4=>?_
 have:=h i j (by omega) (by omega)
 rw [Za1 h1,Za1 h2,Znc (List.getElem?_eq_getElem h3),Znc (List.getElem?_eq_getElem h4)] at this
 exact hF.inj (hA.is _ (List.getElem_mem h1) _ (List.getElem_mem h3)) (hB.is _ (List.getElem_mem h2) _ (List.getElem_mem h4)) this
theorem Zl8 {p:Int} (hp:GroundP p) {n m wd:Nat} {A B:Mv} (hA:Mat p n m A) (hB:Mat p m wd B):Mat p n wd (Zgi p A B wd):=by
 obtain ⟨F,_,hF⟩:=Zfv hp
 refine ⟨by unfold Zgi; rw [List.length_map]; exact hA.hl,fun xs hx=>?_,fun xs hx x hxx=>?_⟩
 ·obtain ⟨row,_,rfl⟩:=List.mem_map.mp hx
  rw [List.length_map,List.length_range]
 ·obtain ⟨row,hr,rfl⟩:=List.mem_map.mp hx
  obtain ⟨j,hj,rfl⟩:=List.mem_map.mp hxx
  have hj:=List.mem_range.mp hj
  have wr:=hA.hw row hr
  have lB:=hB.hl
  exact (Zpm hp hF (fun i hi=>hA.is row hr _ (Zas hi)) (fun i hi=>by
   have hi':i < B.length:=by omega
   rw [List.getD_eq_getElem?_getD,List.getElem?_map,List.getElem?_eq_getElem hi']
   exact hB.is _ (List.getElem_mem hi') _ (Zas (by rw [hB.hw _ (List.getElem_mem hi')]; exact hj)))).1
theorem Zk7 {p:Int} {F:Type} [Lean.Grind.Field F] (hp:GroundP p) (hF:FdOk p F) {n m wd:Nat} {A B:Mv} (hA:Mat p n m A) (hB:Mat p m wd B) {i j:Nat} (hi:i < n) (hj:j < wd):(vN ((Zgi p A B wd).getD i []) j:F) = sm m fun l=>vN (A.getD i []) l * vN (B.getD l []) j:=by
 have lA:=hA.hl
 have lB:=hB.hl
 have hm:A.getD i [] ∈ A:=Zas (by omega)
 have e:(Zgi p A B wd).getD i [] = (List.range wd).map fun j=>dotV p (A.getD i []) (Zjj B j):=by
  unfold Zgi
  rw [List.getD_eq_getElem?_getD,List.getElem?_map,List.getElem?_eq_getElem (show i < A.length by omega),Za1 (show i < A.length by omega)]
  rfl
 have wr:=hA.hw _ hm
 have col:∀ l,l < m->(Zjj B j).getD l (0,1) = (B.getD l []).getD j (0,1):=fun l hl=>by
  rw [List.getD_eq_getElem?_getD,List.getElem?_map,List.getElem?_eq_getElem (show l < B.length by omega),Za1 (show l < B.length by omega)]
  rfl
 rw [e]
 unfold vN
 rw [List.getD_eq_getElem?_getD,List.getElem?_map,List.getElem?_range hj]
 have:=(Zpm hp hF (n:=(A.getD i []).length) (f:=fun k=>(A.getD i []).getD k (0,1)) (g:=fun k=>(Zjj B j).getD k (0,1)) (fun l hl=>hA.is _ hm _ (Zas hl)) (fun l hl=>by
  rw [col l (by omega)]
  exact hB.is _ (Zas (by omega)) _ (Zas (by rw [hB.hw _ (Zas (by omega))]; exact hj)))).2
 show (nm (dotV p (A.getD i []) (Zjj B j)):F) = _
 rw [this,wr]
 exact Zaq fun l hl=>by rw [col l hl]
section
variable {P:Program} {w:World} {K:PySem.W.Frag} {mg:Str->Option Value} {base:Heap} {C PL cL:Addr}
theorem TabV.items {H:Hp} {p hh wd:Int} {t r t' r':Addr} {rs rs':List Addr} {M:Mv} (h:TabV H p hh wd t r rs M) (h':TabV H p hh wd t' r' rs' M):Zjh K H 6 [.int hh,.int wd,.ref r] [.int hh,.int wd,.ref r'] (List.replicate 3 true):=Zi2 rfl fun j x y e1 e2=>by
 match j,e1,e2 with
 | 0,e1,e2=>cases e1; cases e2; exact Zdc
 | 1,e1,e2=>cases e1; cases e2; exact Zdc
 | 2,e1,e2=>
  cases e1; cases e2
  obtain ⟨f1,f2⟩:=Zlw (K:=K) (H:=H) (n:=5) (Za7 h.row) (Za7 h'.row) fun v u x ⟨a,ea,ha⟩ ⟨b,eb,hb⟩=>by subst ea; subst eb; exact ha.eq hb
  exact Zlf h.lst h'.lst f1 f2
 | j + 3,e1,e2=>cases e1
def Zk4:L2.Sp:=fun vs H Q _=>∃ (l:Addr) (nn:Int),vs = [.ref l,.int nn]/\Bag H l /\
 ∀ (p hh wd:Int) (t' t r:Addr) (rs:List Addr) (H':Hp),Ext l H H'->H' t' = some (.tup [.int p,.ref t])->GroundP p->0<=hh->hh<=24->0<=wd->wd<=24->(p = 0->hh<=4/\wd<=4)->Tab H' p hh wd t r rs->Q (.ref t') H'
theorem Zq7 {f:Addr} {fd:FuncData} (F:Fun K "_law_drawn" "_law_drawn" Zcw f fd) (T:Txt K mg C) (C_law_prime:Cal P w K mg base "_law_prime" 2 spPr) (C_law_draw:Cal P w K mg base "_law_draw" 1 Zf6) (C_law_table:Cal P w K mg base "_law_table" 5 spTb):FnOk P w K mg base CX0 6 f fd ["_law_bag_here","_law_number_here"] Zk4:=by
 have nd:=Zge.nd
 refine F.ok Zge (fun vs H Q E h=>?_) (fun cdv A outer s H vs Q E hr h=>?_)
 ·obtain ⟨l,nn,rfl,_⟩:=h
  rfl
 ·obtain ⟨l,nn,rfl,b,q⟩:=h
  refine ⟨_,(@Zab _ _ _ _ _ (Zax (i:=2) nd rfl (Or.inl rfl) (Zbb C_law_prime hr.m rfl (@Zag _ _ _ _ _ (pv 0) Zaa (by rfl)))) (@Zab _ _ _ _ _ (Zax (i:=3) nd rfl (Or.inl rfl) (@Zat _ _ _ _ _ _ _ Za0 (@Zc4 _ _ _ _ (@Zag _ _ _ _ _ Zac (@Zag _ _ _ _ _ Zac Zaa (by rfl)) (by rfl))) (Zqw Zkl rfl T.n_int boot_int (@Zag _ _ _ _ _ (Zet Zeu (pv 2) Zac (Zau _)) Zaa (by rfl))) (fun _ _=>rfl))) (@Zab _ _ _ _ _ (Zax (i:=4) nd rfl (Or.inl rfl) (Zbb C_law_draw hr.m rfl (@Zag _ _ _ _ _ (pv 0) (@Zag _ _ _ _ _ (@Zar _ _ _ _ _ _ _ _ Zc6 (pv 3) Zac) Zaa (by rfl)) (by rfl)))) (@Zab _ _ _ _ _ (Zax (i:=5) nd rfl (Or.inl rfl) (Zbb C_law_draw hr.m rfl (@Zag _ _ _ _ _ (pv 0) (@Zag _ _ _ _ _ (@Zar _ _ _ _ _ _ _ _ Zc6 (pv 3) Zac) Zaa (by rfl)) (by rfl)))) (@Zab _ _ _ _ _ (@Zbf _ _ _ _ _ _ _ _ (PW.pt (Zju (Zal Zeh (pv 1) Zac (Zau _)) (Zju (Zal Zeu (pv 2) Zac (Zau _)) (Ziv (Zal Zeh (Zbb C_law_draw hr.m rfl (@Zag _ _ _ _ _ (pv 0) (@Zag _ _ _ _ _ Zac Zaa (by rfl)) (by rfl))) Zac (Zau _)))))) (@Zab _ _ _ _ _ (Zax (i:=4) nd rfl (Or.inl rfl) (Zbb C_law_draw hr.m rfl (@Zag _ _ _ _ _ (pv 0) (@Zag _ _ _ _ _ Zac Zaa (by rfl)) (by rfl)))) (@Zab _ _ _ _ _ (Zax (i:=5) nd rfl (Or.inl rfl) (Zbb C_law_draw hr.m rfl (@Zag _ _ _ _ _ (pv 0) (@Zag _ _ _ _ _ Zac Zaa (by rfl)) (by rfl)))) (@Zaf _ _ _ (@Zbf _ _ _ _ _ _ _ _ (Zal Zeh (Zbb C_law_draw hr.m rfl (@Zag _ _ _ _ _ (pv 0) (@Zag _ _ _ _ _ Zac Zaa (by rfl)) (by rfl))) Zac (Zau _)) (@Zaf _ _ _ (Zhd (i:=4) (j:=5) rfl nd rfl rfl (by decide) rfl rfl (@Zag _ _ _ _ _ (pv 5) (@Zag _ _ _ _ _ (pv 4) Zaa (by rfl)) (by rfl)) rfl)) Zav)))) Zav) (@Zaf _ _ _ (@Zaj _ _ _ _ (@Zbd _ _ _ _ _ (@Zag _ _ _ _ _ (pv 2) (@Zag _ _ _ _ _ (Zbb C_law_table hr.m rfl (@Zag _ _ _ _ _ (pv 0) (@Zag _ _ _ _ _ (pv 2) (@Zag _ _ _ _ _ (pv 4) (@Zag _ _ _ _ _ (pv 5) Zaa (by rfl)) (by rfl)) (by rfl)) (by rfl))) Zaa (by rfl)) (by rfl)))))))))),?_⟩
  have fin:∀ (p hh wd:Int) (H5:Hp),Ext l H H5->Bag H5 l->GroundP p->0<=hh->hh<=24->0<=wd->wd<=24->(p = 0->hh<=4/\wd<=4)->spTb [V.ref l,.int p,.int hh,.int wd] H5 (fun x_9 H1=>2<=sizeLine/\∀ (p_1:Addr),H1 p_1 = none->Q (V.ref p_1) (upd H1 p_1 (HO.tup [.int p,x_9]))) E0:=fun p hh wd H5 e5 b5 hp h0 h1 w0 w1 h4=>by
   refine ⟨l,p,hh,wd,rfl,b5,hp,h0,h1,w0,w1,fun t r rs H6 e6 b6 nt nr nrs tb=>⟨by decide,fun t' ht'=>?_⟩⟩
   have s7:=Same.new (o:=.tup [V.int p,V.ref t]) ht'
   exact q p hh wd t' t r rs _ (fun a o n e=>s7 _ _ (e6 _ _ n (e5 _ _ n e))) Zad hp h0 h1 w0 w1 h4 ⟨s7 _ _ tb.tup,s7 _ _ tb.lst,tb.len,fun a ha=>(tb.row a ha).same s7,tb.nin⟩
  walk_at "wp"
  refine ⟨l,rfl,b,fun p H1 e1 b1 hp=>⟨by decide,fun o1 ho1=>⟨p,rfl,_,SqL.of Zad,?_⟩⟩⟩
  have s2:=Same.new (o:=.lst [V.int 4,V.int 6]) ho1
  have b2:=b1.same s2
  have e2:Ext l H (upd H1 o1 (.lst [V.int 4,V.int 6])):=fun a o n e=>s2 _ _ (e1 _ _ n e)
  generalize upd H1 o1 (.lst [V.int 4,V.int 6]) = H2 at *
  have p0:=hp.lo
  have most:∃ m:Int,4<=m/\m<=6/\(p = 0->m = 4)/\atI [V.int 4,V.int 6] (if decide (0 < p) = true then 1 else 0) = some (.int m):=by
   by_cases h:0 < p
   ·rw [if_pos (decide_eq_true h)]
    exact ⟨6,by decide,by decide,fun z=>by omega,rfl⟩
   ·rw [if_neg (by rw [decide_eq_false h]; decide)]
    exact ⟨4,by decide,by decide,fun _=>rfl,rfl⟩
  obtain ⟨m,m0,m1,m4,em⟩:=most
  refine ⟨_,em,_,rfl,?_⟩
  refine b2.draw (by omega) (by omega) fun x H3 x0 x1 e3 b3=>⟨_,rfl,?_⟩
  refine b3.draw (by omega) (by omega) fun y H4 y0 y1 e4 b4=>?_
  have e04:Ext l H H4:=fun a o n e=>e4 _ _ n (e3 _ _ n (e2 _ _ n e))
  have dflt:∀ H5,Ext l H4 H5->Bag H5 l->_:=fun H5 e5 b5=>fin p x y H5 (fun a o n e=>e5 _ _ n (e04 _ _ n e)) b5 hp x0 (by omega) y0 (by omega) (fun z=>by have:=m4 z; omega)
  refine Zdy (fun _=>⟨p,rfl,Zdy (fun hp1=>?_) (fun _=>dflt H4 (fun a o _ e=>e) b4)⟩) (fun _=>dflt H4 (fun a o _ e=>e) b4)
  have hp1:=of_decide_eq_true hp1
  refine b4.draw (by decide) (by decide) fun z5 H5 z0 z1 e5 b5=>⟨rfl,Zdy (fun _=>?_) (fun _=>dflt H5 e5 b5)⟩
  refine b5.draw (by decide) (by decide) fun hh H6 h0 h1 e6 b6=>?_
  refine b6.draw (by decide) (by decide) fun wd H7 w0 w1 e7 b7=>?_
  refine b7.draw (by decide) (by decide) fun z8 H8 _ _ e8 b8=>⟨rfl,?_⟩
  have e08:Ext l H H8:=fun a o n e=>e8 _ _ n (e7 _ _ n (e6 _ _ n (e5 _ _ n (e04 _ _ n e))))
  refine Zdy (fun _=>⟨_,_,⟨rfl,rfl⟩,fin p wd hh H8 e08 b8 hp w0 (by omega) h0 (by omega) (fun z=>by omega)⟩) (fun _=>fin p hh wd H8 e08 b8 hp h0 (by omega) w0 (by omega) (fun z=>by omega))
theorem Same.thru {l:Addr} {H H1 H2:Hp} (s:Same H H1) (h:H l = none) (e:Ext l H1 H2):Same H H2:=fun b o eb=>e b o (Zan eb h) (s b o eb)
theorem Zrt (ns:List Int) (lo hi:Option Int):∃ ms:List Int,Zmi (ns.map V.int) lo hi = ms.map V.int/\ms.length<=ns.length:=by
 refine ⟨(ns.drop (HT.sIx (ns.map V.int).length 0 lo)).take (HT.sIx (ns.map V.int).length (ns.map V.int).length hi - HT.sIx (ns.map V.int).length 0 lo),?_,?_⟩
 ·unfold Zmi
  rw [List.map_take,List.map_drop]
 ·rw [List.length_take,List.length_drop]
  omega
theorem bd55 {x:Nv} (h:Bd BB x):BtN 55 x:=⟨Nat.lt_of_le_of_lt h.1 (by decide),Nat.lt_of_le_of_lt h.2 (by decide)⟩
theorem tabB_of {H:Hp} {p hh wd:Int} {t r:Addr} {rs:List Addr} (h0:0<=hh) (w0:0<=wd) (tb:Tab H p hh wd t r rs):∃ M,TabB H p 55 hh.toNat wd.toNat t r rs M:=by
 obtain ⟨M,tv,sh,g⟩:=tb.byV
 refine ⟨M,⟨?_,?_,fun xs hx=>?_,fun xs hx x hxx=>⟨(g xs hx x hxx).1,bd55 (g xs hx x hxx).2⟩⟩⟩
 ·rw [Int.toNat_of_nonneg h0,Int.toNat_of_nonneg w0]
  exact tv
 ·have:=sh.1
  omega
 ·have:=sh.2 xs hx
  omega
end
end Pf
namespace Pf
open PySem L2 L3 PyProof.Rows
def IsRk (p:Int) (n wd:Nat) (M:Mv) (r:Nat):Prop:=∀ (F:Type) [Lean.Grind.Field F],FdOk p F->Rk (fun i j=>(vN (M.getD i []) j:F)) n wd r
theorem sw_rk {p:Int} {k n wd:Nat} {Z done left:List (List Int)} {M:Mv} {pl:List Nat} (hp:GroundP p) (IR:Zd2 p k Z M) (sw:Sw p Z wd done left pl) (hl:M.length = n) (hw:∀ xs ∈ M,xs.length = wd) (hM:∀ xs ∈ M,∀ x ∈ xs,Isn p x):IsRk p n wd M pl.length:=fun F _ hF=>by
 have p0:=hp.lo
 have I:=sw.inv p0 (Zb1 p0 IR hw)
 have B:=Sw.back p0 I hF pl.length (Nat.le_refl _)
 have bl:=B.len
 have zM:=IR.1
 have h1:=I.all
 have h2:=I.len
 obtain ⟨r1,r2⟩:=B.rr I.asc I.lt (by omega) (L:=(List.range Z.length).map fun i=>fun j=>vz ((Zbe p pl (done ++ left) pl.length).getD i []) j / ic (Za4 pl (Zbe p pl (done ++ left) pl.length) i)) (by rw [List.length_map,List.length_range]) fun i hi=>by
  have e:(List.range Z.length).getD i 0 = i:=by rw [List.getD_eq_getElem?_getD,List.getElem?_range hi]; rfl
  rw [Zil (d:=0) (by rw [List.length_range]; exact hi),e]
 have rk:=r1.rk ((Zpa hF IR hM).symm.trans r2.symm)
 rw [List.length_map,hl] at rk
 exact rk.congr fun i j hi hj=>by rw [Zed (by omega)]
section
variable {P:Program} {w:World} {K:PySem.W.Frag} {mg:Str->Option Value} {base:Heap} {C PL cL:Addr}
structure WRh (H:Hp) (p:Int) (t l:Addr) (xs:List Nv) (kb:Nat):Prop where
 ex:∃ (ts:List Int) (b:Int),H t = some (.tup [.ref l,.int b])/\RowZ H l ts/\WRz p xs ts b/\SmallR kb ts/\Bt kb b
abbrev Zik (M:Mv) (wd:Nat):Mv:=(List.range wd).map fun j=>Zjj M j
theorem Zjb {M:Mv} {n wd:Nat} (hl:M.length = n):∀ xs ∈ Zik M wd,xs.length = n:=fun xs hx=>by
 obtain ⟨j,_,rfl⟩:=List.mem_map.mp hx
 rw [List.length_map,hl]
theorem Zfx {p:Int} {M:Mv} {k wd:Nat} (hw:∀ xs ∈ M,xs.length = wd) (g:∀ xs ∈ M,Zce p k xs):∀ xs ∈ Zik M wd,Zce p k xs:=fun xs hx=>by
 obtain ⟨j,hj,rfl⟩:=List.mem_map.mp hx
 exact Zsq hw g (List.mem_range.mp hj)
def spTa:L2.Sp:=fun vs H Q _=>∃ (p:Int) (k n wd:Nat) (t r:Addr) (rs:List Addr) (M:Mv),vs = [.ref t]/\TabB H p k n wd t r rs M/\n<=200/\wd<=200/\∀ (t' r':Addr) (rs':List Addr) H',Same H H'->New H t' r' rs'->TabB H' p k wd n t' r' rs' (Zik M wd)->Q (.ref t') H'
theorem ok_ta {f:Addr} {fd:FuncData} (F:Fun K "turned_about" "turned_about" Zbx f fd) (T:Txt K mg C):FnOk P w K mg base CX0 1 f fd ["table"] spTa:=by
 have nd:=Zeo.nd
 refine F.ok Zeo (fun vs H Q E h=>?_) (fun cdv A outer s H vs Q E hr h=>?_)
 ·obtain ⟨p,k,n,wd,t,r,rs,M,rfl,_⟩:=h
  rfl
 ·obtain ⟨p,k,n,wd,t,r,rs,M,rfl,tb,n24,w24,q⟩:=h
  have rl:=tb.tv.row.1
  have hM:=tb.hl
  refine ⟨_,(@Zab _ _ _ _ _ (Zb2 (pv 0) (@Zch _ _ _ _ _ 3 rfl (@Zai _ _ _ _ _ (@Zah _ _ 1 _ nd rfl (Or.inl rfl) (Or.inl rfl)) (@Zai _ _ _ _ _ (@Zah _ _ 2 _ nd rfl (Or.inl rfl) (Or.inl rfl)) (@Zai _ _ _ _ _ (@Zah _ _ 3 _ nd rfl (Or.inr rfl) (Or.inl rfl)) (@Zba _) (by rfl)) (by rfl)) (by rfl)) (by rfl) (by rfl))) (@Zaf _ _ _ (@Zaj _ _ _ _ (@Zbd _ _ _ _ _ (@Zag _ _ _ _ _ (pv 2) (@Zag _ _ _ _ _ (pv 1) (@Zag _ _ _ _ _ (Zbg (own:=["place"]) (fr:=[("rows",3)]) rfl (Zck (by kernel_rfl)) (Zgj rfl T.n_range (@Zag _ _ _ _ _ (pv 2) Zaa (by rfl))) (fun _ _ _ _=>⟨(@Zah _ _ 0 _ (show (["place","rows"]:List Str).Nodup by decide +kernel) rfl (Or.inr rfl) (Or.inl rfl)),Za9,(Zbg (own:=["row"]) (fr:=[("place",0)]) rfl (Zck (by kernel_rfl)) (Zix K rfl (pv 1)) (fun _ _ _ _=>⟨(@Zah _ _ 0 _ (show (["row","place"]:List Str).Nodup by decide +kernel) rfl (Or.inl rfl) (Or.inr rfl)),Za9,(@Zat _ _ _ _ _ _ _ (Zc1 K rfl) (pv 0) (pv 1) (fun _ _=>rfl))⟩))⟩)) Zaa (by rfl)) (by rfl)) (by rfl)))))),?_⟩
  walk_at "wp"
  refine ⟨_,SqT.of tb.tv.tup,rfl,_,_,rfl,_,_,rfl,_,_,rfl,rfl,?_⟩
  refine ⟨_,rfl,_,rfl,by omega,by omega,fun D hD=>Zpq (n:=wd) (fun i Hc y=>∃ a,y = .ref a/\RowV Hc p a ((Zik M wd).getD i [])/\a ≠ D/\H a = none) (fun ⟨a,e,b,c⟩ s=>⟨a,e,b.same s,c⟩) (fun ⟨a,e,b,c,d⟩ hD=>⟨a,e,b.put hD c,c,d⟩) hD (by omega) (fun i H' Q' hi s' ⟨lD,hlD⟩ q'=>?_) (fun ys H1 s1 e1 yl hys=>?_)⟩
  ·refine ⟨_,rfl,r,rfl,⟨_,SqL.of (s' _ _ tb.tv.lst)⟩,fun E1 hE1=>Zco (fun k Hc y=>NumV Hc p y ((M.getD k []).getD i (0,1))) (fun k s=>k.same s) (fun k hD=>k.put hD) (s' _ _ tb.tv.lst) hE1 (by rw [List.length_map]; omega) (fun k x Hc Qc hx sc _ qc=>?_) (fun ys Hc sc ec yl yn=>?_)⟩
   ·obtain ⟨row,er,a,rfl,vs,hv1,hv2⟩:=(Za7 tb.tv.row).at' hx
    have rw':=tb.hw row (List.mem_of_getElem? er)
    have ei:row[i]? = some (row[i]'(by omega)):=List.getElem?_eq_getElem _
    obtain ⟨v,ev,nv⟩:=hv2.at ei
    have nv':=nv.same (s'.trans sc)
    have qq:=qc v Hc (Same.refl _)
    rw [Zak er,Zak ei] at qq
    exact ⟨_,rfl,_,rfl,a,vs,((0:Int) + (i:Int)),v,rfl,rfl,SqL.of ((s'.trans sc) _ _ hv1),Zbl (by omega) (by rw [show ((0:Int) + (i:Int)).toNat = i by omega]; exact ev),qq nv'⟩
   ·rw [List.length_map] at yl
    have ecol:(Zik M wd).getD i [] = Zjj M i:=Zak (by rw [List.getElem?_map,List.getElem?_range hi]; rfl)
    refine q' _ Hc sc ⟨E1,rfl,⟨ys,ec,?_⟩,(Zan hlD hE1).symm,s'.free hE1⟩
    rw [ecol]
    refine ⟨by rw [List.length_map]; omega,fun k y x f1 f2=>?_⟩
    rw [List.getElem?_map] at f2
    cases eM:M[k]? with
    | none=>rw [eM] at f2; cases f2
    | some row=>
     rw [eM] at f2
     cases f2
     have:=yn k y f1
     rwa [Zak eM] at this
  ·obtain ⟨rs',rfl,a2,nD,fr⟩:=Ziu (D:=D) (H1:=H) (p:=p) (M:=Zik M wd) (by rw [List.length_map,List.length_range]; exact yl) hys
   refine ⟨by decide,fun t' ht'=>?_⟩
   have s2:=Same.new (o:=.tup [V.int wd,V.int n,.ref D]) ht'
   exact q t' D rs' _ (s1.trans s2) ⟨s1.free ht',hD,fr⟩ ⟨⟨Zad,s2 _ _ e1,a2.mono fun _ _ k=>k.same s2,nD⟩,by rw [List.length_map,List.length_range],Zjb hM,Zfx tb.hw tb.gd⟩
def Zk2:L2.Sp:=fun vs H Q _=>∃ (t1 r1 t2 r2:Addr) (rs1 rs2:List Addr) (p:Int) (k n w1 w2:Nat) (A B:Mv),vs = [.ref t1,.ref t2]/\TabB H p k n w1 t1 r1 rs1 A/\TabB H p k n w2 t2 r2 rs2 B/\n<=200/\w1<=200/\w2<=200 /\
 ∀ t r rs H',Same H H'->New H t r rs->TabB H' p k n (w1 + w2) t r rs ((List.range n).map fun i=>A.getD i [] ++ B.getD i [])->Q (.ref t) H'
theorem Zq5 {f:Addr} {fd:FuncData} (F:Fun K "_law_pasted" "_law_pasted" Zcf f fd) (T:Txt K mg C):FnOk P w K mg base CX0 1 f fd ["_law_one","_law_other"] Zk2:=by
 have nd:=Zfq.nd
 refine F.ok Zfq (fun vs H Q E h=>?_) (fun cdv A outer s H vs Q E hr h=>?_)
 ·obtain ⟨t1,r1,t2,r2,rs1,rs2,p,k,n,w1,w2,A,B,rfl,_⟩:=h
  rfl
 ·obtain ⟨t1,r1,t2,r2,rs1,rs2,p,k,n,w1,w2,A,B,rfl,T1,T2,n24,w24,w24',q⟩:=h
  refine ⟨_,(@Zaf _ _ _ (@Zaj _ _ _ _ (@Zbd _ _ _ _ _ (@Zag _ _ _ _ _ (@Zat _ _ _ _ _ _ _ Zaw (pv 0) Zac (fun _ _=>rfl)) (@Zag _ _ _ _ _ (@Zar _ _ _ _ _ _ _ _ Zc6 (@Zat _ _ _ _ _ _ _ Zaw (pv 0) Zac (fun _ _=>rfl)) (@Zat _ _ _ _ _ _ _ Zaw (pv 1) Zac (fun _ _=>rfl))) (@Zag _ _ _ _ _ (Zbg (own:=["_law_row","_law_more"]) (fr:=[]) rfl (Zck (by kernel_rfl)) (Zhe rfl T.n_zip (@Zag _ _ _ _ _ (@Zat _ _ _ _ _ _ _ Zaw (pv 0) Zac (fun _ _=>rfl)) (@Zag _ _ _ _ _ (@Zat _ _ _ _ _ _ _ Zaw (pv 1) Zac (fun _ _=>rfl)) Zaa (by rfl)) (by rfl))) (fun _ _ _ _=>⟨(@Zfi _ K rfl _ _ _ _ 2 rfl (@Zai _ _ _ _ _ (@Zah _ _ 0 _ (show (["_law_row","_law_more"]:List Str).Nodup by decide +kernel) rfl (Or.inl rfl) (Or.inr rfl)) (@Zai _ _ _ _ _ (@Zah _ _ 1 _ (show (["_law_row","_law_more"]:List Str).Nodup by decide +kernel) rfl (Or.inl rfl) (Or.inr rfl)) (@Zba _) (by rfl)) (by rfl)) (by rfl) (by rfl)),Za9,(@Zar _ _ _ _ _ _ _ _ Zj1 (pv 0) (pv 1))⟩)) Zaa (by rfl)) (by rfl)) (by rfl))))),?_⟩
  walk_at "wp"
  have la:=T1.tv.row.1
  have lb:=T2.tv.row.1
  have hA:=T1.hl
  have hB:=T2.hl
  have tup1:=T1.tv.tup
  have tup2:=T2.tv.tup
  refine ⟨_,SqT.of tup1,_,rfl,_,SqT.of tup1,_,rfl,_,SqT.of tup2,_,rfl,_,rfl,_,rfl,_,rfl,t1,_,2,_,rfl,rfl,SqT.of tup1,rfl,_,rfl,t2,_,2,_,rfl,rfl,SqT.of tup2,rfl,r1,r2,rfl,⟨_,SqL.of T1.tv.lst⟩,⟨_,SqL.of T2.tv.lst⟩,fun D hD=>Zfw (fun i Hc y=>∃ a,y = .ref a/\RowV Hc p a (((List.range n).map fun i=>A.getD i [] ++ B.getD i []).getD i [])/\a ≠ D/\H a = none) (fun ⟨a,e,b,c⟩ s=>⟨a,e,b.same s,c⟩) (fun ⟨a,e,b,c,d⟩ hD=>⟨a,e,b.put hD c,c,d⟩) T1.tv.lst T2.tv.lst (by rw [List.length_map,List.length_map]; omega) hD (by rw [List.length_map]; omega) (fun i x y H' Q' hx hy s' ⟨lD,hlD⟩ q'=>?_) (fun ys H1 s1 e1 yl hys=>?_)⟩
  ·obtain ⟨row,er,a,rfl,vs,hv1,hv2⟩:=(Za7 T1.tv.row).at' hx
   obtain ⟨row',er',b,rfl,us,hu1,hu2⟩:=(Za7 T2.tv.row).at' hy
   have w1':=T1.hw row (List.mem_of_getElem? er)
   have w2':=T2.hw row' (List.mem_of_getElem? er')
   have l1:=hv2.1
   have l2:=hu2.1
   have hi:i < n:=by have:=(List.getElem?_eq_some_iff.mp er).1; omega
   refine ⟨_,rfl,_,rfl,a,b,vs,us,rfl,rfl,s' _ _ hv1,s' _ _ hu1,Nat.le_of_lt (Za2 (by omega)),fun c hc=>q' _ _ (Same.new hc) ⟨c,rfl,?_,(Zan hlD hc).symm,s'.free hc⟩⟩
   have e:((List.range n).map fun i=>A.getD i [] ++ B.getD i []).getD i [] = row ++ row':=by
    rw [Zak (show _ = some _ by rw [List.getElem?_map,List.getElem?_range hi]; rfl)]
    show A.getD i [] ++ B.getD i [] = _
    rw [Zak er,Zak er']
   rw [e]
   have sc:=Same.new (o:=.lst (vs ++ us)) hc
   exact ⟨_,Zad,(hv2.mono fun _ _ k=>k.same (s'.trans sc)).app (hu2.mono fun _ _ k=>k.same (s'.trans sc))⟩
  ·rw [List.length_map] at yl
   obtain ⟨rs',rfl,a2,nD,fr⟩:=Ziu (D:=D) (H1:=H) (p:=p) (M:=(List.range n).map fun i=>A.getD i [] ++ B.getD i []) (by rw [List.length_map,List.length_range]; omega) hys
   refine ⟨by decide,fun t' ht'=>?_⟩
   have s2:=Same.new (o:=.tup [V.int n,V.int ((w1:Int) + (w2:Int)),.ref D]) ht'
   refine q t' D rs' _ (s1.trans s2) ⟨s1.free ht',hD,fr⟩ ⟨⟨by rw [Zad]; rfl,s2 _ _ e1,a2.mono fun _ _ k=>k.same s2,nD⟩,by rw [List.length_map,List.length_range],fun xs hx=>?_,fun xs hx x hxx=>?_⟩
   ·obtain ⟨i,hi,rfl⟩:=List.mem_map.mp hx
    have hi:=List.mem_range.mp hi
    rw [List.length_append,T1.hw _ (Zas (by omega)),T2.hw _ (Zas (by omega))]
   ·obtain ⟨i,hi,rfl⟩:=List.mem_map.mp hx
    have hi:=List.mem_range.mp hi
    rcases List.mem_append.mp hxx with h | h
    ·exact T1.gd _ (Zas (by omega)) x h
    ·exact T2.gd _ (Zas (by omega)) x h
end
end Pf
namespace Pf
open PySem L2 L3 PyProof.Rows
section
variable {F:Type} [Lean.Grind.Field F]
end
theorem Zot {p:Int} {n wd:Nat} {M D:Mv} {pl:List Nat} (hl:M.length = n) (lr:∀ (F:Type) [Lean.Grind.Field F],FdOk p F->LrF F n wd M D pl):IsRk p n wd M pl.length:=fun F _ hF=>by
 have lQ:=lr F hF
 have rk:=lQ.rr.rk lQ.sp.symm
 rw [List.length_map,hl] at rk
 exact rk.congr fun i j hi hj=>by rw [Zed (by omega)]
theorem IsRk.uniq {p:Int} {n wd r s:Nat} {M:Mv} (hp:GroundP p) (h:IsRk p n wd M r) (h':IsRk p n wd M s):r = s:=by
 obtain ⟨F,_,hF⟩:=Zfv hp
 exact (h F hF).uniq (h' F hF)
theorem Zpt {M:Mv} {n wd i j:Nat} (hl:M.length = n) (hi:i < wd) (hj:j < n):((Zik M wd).getD i []).getD j (0,1) = (M.getD j []).getD i (0,1):=by
 have e:(Zik M wd).getD i [] = Zjj M i:=Zak (by rw [List.getElem?_map,List.getElem?_range hi]; rfl)
 rw [e,List.getD_eq_getElem?_getD,List.getElem?_map,List.getElem?_eq_getElem (show j < M.length by omega),Za1 (show j < M.length by omega)]
 rfl
theorem IsRk.turn {p:Int} {n wd r s:Nat} {M:Mv} (hp:GroundP p) (hl:M.length = n) (h:IsRk p n wd M r) (h':IsRk p wd n (Zik M wd) s):s = r:=by
 obtain ⟨F,_,hF⟩:=Zfv hp
 refine (h' F hF).uniq ((h F hF).turn.congr fun i j hi hj=>?_)
 show (nm ((M.getD j []).getD i (0,1)):F) = nm (((Zik M wd).getD i []).getD j (0,1))
 rw [Zpt hl hi hj]
end Pf
namespace Pf
open PySem L2 L3 PyProof.Rows
def Zku (p:Int) (x:Nv):Nv:=if p = 0 then (-x.1,x.2) else ((-x.1) % p,1)
theorem Zop {p:Int} {x:Nv} (hp:GroundP p) (h:Isn p x):Isn p (Zku p x):=by
 unfold Zku
 rcases h with ⟨h0,h1,h2⟩ | ⟨h0,h1,h2,h3⟩
 ·rw [if_pos h0]
  refine .inl ⟨h0,h1,?_⟩
  show Int.gcd (-x.1) x.2 = 1
  rw [Int.neg_gcd]
  exact h2
 ·have p0:p ≠ 0:=by omega
  rw [if_neg p0]
  exact .inr ⟨by omega,Int.emod_nonneg _ p0,Int.emod_lt_of_pos _ (by omega),rfl⟩
theorem neg_bt {p:Int} {x:Nv} {k:Nat} (hp:GroundP p) (h7:7<=k) (h:Isn p x) (b:BtN k x):BtN k (Zku p x):=by
 by_cases h0:p = 0
 ·unfold Zku
  rw [if_pos h0]
  exact ⟨b.1.neg,b.2⟩
 ·exact BtN.le (Zhr h0 hp.hi (Zop hp h)) h7
theorem neg_fd {p:Int} {F:Type} [Lean.Grind.Field F] (hF:FdOk p F) {x:Nv} (h:Isn p x):(nm (Zku p x):F) = - nm x:=by
 unfold Zku
 rcases h with ⟨h0,h1⟩ | ⟨h0,h1,h2,h3⟩
 ·rw [if_pos h0]
  unfold nm
  rw [Zka]
  have:=hF.bot (.inl ⟨h0,h1⟩:Isn p x)
  grind
 ·have p0:p ≠ 0:=by omega
  rw [if_neg p0]
  unfold nm
  show ic ((-x.1) % p) / ic 1 = -(ic x.1 / ic x.2)
  rw [hF.modF p0,Zka,h3,Zdz]
  have:=Zm9 (F:=F)
  grind
def frs (pl:List Nat) (w:Nat):List Nat:=(List.range w).filter fun c=>decide (c ∉ pl)
theorem Zd1 {pl:List Nat} {w c:Nat}:c ∈ frs pl w ↔ c < w/\c ∉ pl:=by
 unfold frs
 rw [List.mem_filter,List.mem_range,decide_eq_true_iff]
theorem Zhm {pl:List Nat} {w:Nat}:(frs pl w).Nodup:=List.nodup_range.sublist List.filter_sublist
theorem Zpj {pl:List Nat} {w:Nat} (nd:pl.Nodup) (lt:∀ c ∈ pl,c < w):(frs pl w).length + pl.length = w:=by
 have h1:((List.range w).filter fun c=>decide (c ∈ pl)).length = pl.length:=by
  refine List.Perm.length_eq (List.perm_iff_count.mpr fun a=>?_)
  have nd2:((List.range w).filter fun c=>decide (c ∈ pl)).Nodup:=List.nodup_range.sublist List.filter_sublist
  rw [nd2.count,nd.count]
  by_cases h:a ∈ pl
  ·rw [if_pos h,if_pos (List.mem_filter.mpr ⟨List.mem_range.mpr (lt a h),decide_eq_true h⟩)]
  ·have hn:¬ a ∈ (List.range w).filter fun c=>decide (c ∈ pl):=fun z=>h (of_decide_eq_true (List.mem_filter.mp z).2)
   rw [if_neg h,if_neg hn]
 have h2:=List.length_eq_countP_add_countP (fun c=>decide (c ∈ pl)) (l:=List.range w)
 rw [List.countP_eq_length_filter,List.countP_eq_length_filter,h1,List.length_range] at h2
 have h3:((List.range w).filter fun a=>decide (¬ (decide (a ∈ pl)) = true)) = frs pl w:=by
  unfold frs
  refine List.filter_congr fun x _=>?_
  simp
 rw [h3] at h2
 omega
theorem Zj2 {pl:List Nat} (asc:∀ i j,i < j->j < pl.length->pl.getD i 0 < pl.getD j 0):pl.Nodup:=by
 refine List.pairwise_iff_getElem.mpr fun i j hi hj hij z=>?_
 have:=asc i j hij hj
 rw [Za1 hi,Za1 hj,z] at this
 omega
theorem Zev {xs:List Nat} (nd:xs.Nodup) {i j:Nat} (hi:i < xs.length) (hj:j < xs.length) (e:xs.getD i 0 = xs.getD j 0):i = j:=by
 rw [Za1 hi,Za1 hj] at e
 have h:=List.pairwise_iff_getElem.mp nd
 rcases Nat.lt_trichotomy i j with k | k | k
 ·exact absurd e (h i j hi hj k)
 ·exact k
 ·exact absurd e.symm (h j i hj hi k)
structure NulV (p:Int) (R:Mv) (pl:List Nat) (w:Nat) (N:Mv):Prop where
 len:N.length = w
 piv:∀ k,k < pl.length->N.getD (pl.getD k 0) [] = (frs pl w).map fun a=>Zku p ((R.getD k []).getD a (0,1))
 fre:∀ l,l < (frs pl w).length->N.getD ((frs pl w).getD l 0) [] = (zR (frs pl w).length).set l (1,1)
section
variable {p:Int} {R N:Mv} {pl:List Nat} {w n:Nat}
theorem NulV.all (h:NulV p R pl w N) (nd:pl.Nodup) (lt:∀ i,i < pl.length->pl.getD i 0 < w) {c:Nat} (hc:c < w):(∃ k,k < pl.length/\pl.getD k 0 = c)\/∃ l,l < (frs pl w).length/\(frs pl w).getD l 0 = c:=by
 by_cases h:c ∈ pl
 ·obtain ⟨k,hk,e⟩:=Zbu h 0
  exact .inl ⟨k,hk,e⟩
 ·obtain ⟨l,hl,e⟩:=Zbu (Zd1.mpr ⟨hc,h⟩) 0
  exact .inr ⟨l,hl,e⟩
theorem NulV.good {k:Nat} (h:NulV p R pl w N) (hp:GroundP p) (h7:7<=k) (nd:pl.Nodup) (lt:∀ i,i < pl.length->pl.getD i 0 < w) (rl:pl.length<=R.length) (hw:∀ xs ∈ R,xs.length = w) (hg:∀ xs ∈ R,Zce p k xs):(∀ xs ∈ N,xs.length = (frs pl w).length)/\∀ xs ∈ N,Zce p k xs:=by
 have key:∀ xs ∈ N,xs.length = (frs pl w).length/\Zce p k xs:=fun xs hx=>by
  obtain ⟨c,hc,rfl⟩:=Zbu hx []
  rw [h.len] at hc
  rcases h.all nd lt hc with ⟨i,hi,rfl⟩ | ⟨l,hl,rfl⟩
  ·rw [h.piv i hi]
   refine ⟨by rw [List.length_map],fun x hx=>?_⟩
   obtain ⟨a,ha,rfl⟩:=List.mem_map.mp hx
   have hr:R.getD i [] ∈ R:=Zas (by omega)
   have hm:(R.getD i []).getD a (0,1) ∈ R.getD i []:=Zas (by rw [hw _ hr]; exact (Zd1.mp ha).1)
   have g:=hg _ hr _ hm
   exact ⟨Zop hp g.1,neg_bt hp h7 g.1 g.2⟩
  ·rw [h.fre l hl]
   refine ⟨by rw [List.length_set,List.length_replicate],fun x hx=>?_⟩
   obtain ⟨i0,i1⟩:=Zo2 hp
   rcases List.mem_or_eq_of_mem_set hx with h | h
   ·rw [List.eq_of_mem_replicate h]
    exact ⟨i0,Zhq _,Za5 h7 (by decide)⟩
   ·rw [h]
    exact ⟨i1,Za5 h7 (by decide),Za5 h7 (by decide)⟩
 exact ⟨fun xs hx=>(key xs hx).1,fun xs hx=>(key xs hx).2⟩
theorem NulV.at {F:Type} [Lean.Grind.Field F] (h:NulV p R pl w N) (hF:FdOk p F) (nd:pl.Nodup) (lt:∀ i,i < pl.length->pl.getD i 0 < w) (rl:pl.length<=R.length) (hw:∀ xs ∈ R,xs.length = w) (is:∀ xs ∈ R,∀ x ∈ xs,Isn p x) {j l:Nat} (hj:j < w) (hl:l < (frs pl w).length):
  (vN (N.getD j []) l:F) = del j ((frs pl w).getD l 0) - sm pl.length fun k=>del j (pl.getD k 0) * vN (R.getD k []) ((frs pl w).getD l 0):=by
 have fl:=Zas (d:=0) hl
 obtain ⟨f1,f2⟩:=Zd1.mp fl
 rcases h.all nd lt hj with ⟨i,hi,rfl⟩ | ⟨a,ha,rfl⟩
 ·have hr:R.getD i [] ∈ R:=Zas (by omega)
  rw [h.piv i hi]
  have e0:(vN ((frs pl w).map fun a=>Zku p ((R.getD i []).getD a (0,1))) l:F) = - vN (R.getD i []) ((frs pl w).getD l 0):=by
   rw [Znc (x:=Zku p ((R.getD i []).getD ((frs pl w).getD l 0) (0,1))) (by rw [List.getElem?_map,List.getElem?_eq_getElem hl,Za1 hl]; rfl)]
   exact neg_fd hF (is _ hr _ (Zas (by rw [hw _ hr]; exact f1)))
  rw [e0]
  have d0:(del (pl.getD i 0) ((frs pl w).getD l 0):F) = 0:=if_neg fun (z:pl.getD i 0 = (frs pl w).getD l 0)=>f2 (by rw [<- z]; exact Zas hi)
  have d1:sm pl.length (fun k=>del (pl.getD i 0) (pl.getD k 0) * (vN (R.getD k []) ((frs pl w).getD l 0):F)) = vN (R.getD i []) ((frs pl w).getD l 0):=by
   rw [Zaq (g:=fun k=>if k = i then (vN (R.getD k []) ((frs pl w).getD l 0):F) else 0) fun k hk=>by
    show (if pl.getD i 0 = pl.getD k 0 then (1:F) else 0) * _ = _
    by_cases e:k = i
    ·subst e; rw [if_pos rfl,if_pos rfl]; grind
    ·rw [if_neg fun z=>e (Zev nd hk hi z.symm),if_neg e]; grind]
   exact Zjq _ hi
  rw [d0,d1]
  grind
 ·have fa:=Zas (d:=0) ha
  obtain ⟨a1,a2⟩:=Zd1.mp fa
  rw [h.fre a ha]
  have d1:sm pl.length (fun k=>del ((frs pl w).getD a 0) (pl.getD k 0) * (vN (R.getD k []) ((frs pl w).getD l 0):F)) = 0:=by
   rw [Zaq (g:=fun _=>(0:F)) fun k hk=>by
    rw [show (del ((frs pl w).getD a 0) (pl.getD k 0):F) = 0 from if_neg fun (z:(frs pl w).getD a 0 = pl.getD k 0)=>a2 (by rw [z]; exact Zas hk)]
    grind]
   exact Zef _
  rw [d1]
  unfold vN
  rw [List.getD_eq_getElem?_getD,List.getElem?_set]
  by_cases e:a = l
  ·subst e
   rw [if_pos rfl,if_pos (by rw [List.length_replicate]; exact ha),show (del ((frs pl w).getD a 0) ((frs pl w).getD a 0):F) = 1 from if_pos rfl]
   show (nm (1,1):F) = _
   rw [Zsh]
   grind
  ·rw [if_neg e,List.getElem?_replicate,if_pos hl,show (del ((frs pl w).getD a 0) ((frs pl w).getD l 0):F) = 0 from if_neg fun z=>e (Zev Zhm ha hl z)]
   show (nm (0,1):F) = _
   rw [Zfk]
   grind
end
theorem Zhg {p:Int} {k n w:Nat} {M R N:Mv} {pl:List Nat} (hp:GroundP p) (h7:7<=k) (rd:Red p k w M R pl) (hl:M.length = n) (hw:∀ xs ∈ M,xs.length = w) (hg:∀ xs ∈ M,Zce p k xs) (h:NulV p R pl w N):
  pl.length + (frs pl w).length = w/\IsRk p n w M pl.length/\(∀ xs ∈ N,xs.length = (frs pl w).length)/\(∀ xs ∈ N,Zce p (Zdt p k w w) xs)/\IsRk p w (frs pl w).length N (frs pl w).length/\Zgi p M N (frs pl w).length = zM n (frs pl w).length:=by
 obtain ⟨g1,g2,g3⟩:=rd.good hp h7 hw
 have hM:∀ xs ∈ M,∀ x ∈ xs,Isn p x:=fun xs hx x hxx=>(hg xs hx x hxx).1
 have n7:7<=Zdt p k w w:=by
  unfold Zdt
  split
  ·have h1:((w + 1) * k + 1) * 1<=((w + 1) * k + 1) * 2 ^ (2 * w):=Nat.mul_le_mul (Nat.le_refl _) (Nat.two_pow_pos _)
   have h2:7<=(w + 1) * k:=by rw [Nat.add_mul]; omega
   omega
  ·exact Nat.le_refl _
 obtain ⟨F0,_,hF0⟩:=Zfv hp
 obtain ⟨rr0,_⟩:=rd.rr hp hF0 hw hM
 have lt:∀ i,i < pl.length->pl.getD i 0 < w:=rr0.cn
 have nd:pl.Nodup:=Zj2 rr0.mono
 have rl:pl.length<=R.length:=by have:=rr0.rl; rwa [List.length_map] at this
 have fl:=Zpj (w:=w) nd fun c hc=>by obtain ⟨i,hi,rfl⟩:=Zbu hc 0; exact lt i hi
 obtain ⟨n1,n2⟩:=h.good hp n7 nd lt rl g2 g3
 have is:∀ xs ∈ R,∀ x ∈ xs,Isn p x:=fun xs hx x hxx=>(g3 xs hx x hxx).1
 refine ⟨by omega,fun F _ hF=>?_,n1,n2,fun F _ hF=>?_,?_⟩
 ·obtain ⟨rr,sp⟩:=rd.rr hp hF hw hM
  have rk:=rr.rk sp.symm
  rw [List.length_map,hl] at rk
  exact rk.congr fun i j hi hj=>by rw [Zed (by omega)]
 ·refine Rk.of_left (P:=fun i c=>del c ((frs pl w).getD i 0)) fun i j hi hj=>?_
  show sm w (fun c=>del c ((frs pl w).getD i 0) * vN (N.getD c []) j) = del i j
  have f1:=(Zd1.mp (Zas (d:=0) hi)).1
  have e1:sm w (fun c=>(del c ((frs pl w).getD i 0):F) * vN (N.getD c []) j) = vN (N.getD ((frs pl w).getD i 0) []) j:=Zr4 (fun c=>vN (N.getD c []) j) f1
  rw [e1,h.fre i hi]
  unfold vN
  rw [List.getD_eq_getElem?_getD,List.getElem?_set]
  by_cases e:i = j
  ·subst e
   rw [if_pos rfl,if_pos (by rw [List.length_replicate]; exact hi)]
   show (nm (1,1):F) = if i = i then 1 else 0
   rw [Zsh,if_pos rfl]
  ·rw [if_neg e,List.getElem?_replicate,if_pos hj]
   show (nm (0,1):F) = if i = j then 1 else 0
   rw [Zfk,if_neg e]
 ·obtain ⟨rr,sp⟩:=rd.rr hp hF0 hw hM
  have mM:Mat p n w M:=⟨hl,hw,hM⟩
  have mN:Mat p w (frs pl w).length N:=⟨h.len,n1,fun xs hx x hxx=>(n2 xs hx x hxx).1⟩
  have z0:=(Zo2 hp).1
  have mZ:Mat p n (frs pl w).length (zM n (frs pl w).length):=⟨by rw [List.length_map,List.length_range],fun xs hx=>by obtain ⟨_,_,rfl⟩:=List.mem_map.mp hx; rw [List.length_replicate],fun xs hx x hxx=>by obtain ⟨_,_,rfl⟩:=List.mem_map.mp hx; rw [List.eq_of_mem_replicate hxx]; exact z0⟩
  refine Zsi hF0 (Zl8 hp mM mN) mZ fun i l hi hl'=>?_
  rw [Zk7 hp hF0 mM mN hi hl']
  have ez:(vN ((zM n (frs pl w).length).getD i []) l:F0) = 0:=by
   rw [Zak (show _ = some (zR (frs pl w).length) by rw [List.getElem?_map,List.getElem?_range hi]; rfl)]
   unfold vN
   rw [List.getD_eq_getElem?_getD,List.getElem?_replicate,if_pos hl']
   exact Zfk
  rw [ez]
  have f1:=(Zd1.mp (Zas (d:=0) hl')).1
  rw [Zaq (g:=fun j=>vN (M.getD i []) j * del j ((frs pl w).getD l 0) - vN (M.getD i []) j * sm pl.length fun k=>del j (pl.getD k 0) * vN (R.getD k []) ((frs pl w).getD l 0)) fun j hj=>by
   rw [h.at hF0 nd lt rl g2 is hj hl']
   grind]
  have sub:∀ (m:Nat) (a b:Nat->F0),sm m (fun j=>a j - b j) = sm m a - sm m b:=by
   intro m a b
   induction m with
   | zero=>show (0:F0) = 0 - 0; grind
   | succ m ih=>
    show sm m _ + _ = (sm m _ + _) - (sm m _ + _)
    rw [ih]
    grind
  rw [sub,Zgz _ f1]
  have hv:SpL (R.map (vN (F:=F0))) (vN (M.getD i [])):=sp.ge _ (List.mem_map.mpr ⟨_,Zas (by omega),rfl⟩)
  have ex:=rr.expand hv ((frs pl w).getD l 0) f1
  have e2:sm w (fun j=>vN (M.getD i []) j * sm pl.length fun k=>(del j (pl.getD k 0):F0) * vN (R.getD k []) ((frs pl w).getD l 0)) = sm pl.length fun k=>vN (M.getD i []) (pl.getD k 0) * vN (R.getD k []) ((frs pl w).getD l 0):=by
   rw [Zaq (g:=fun j=>sm pl.length fun k=>vN (M.getD i []) j * ((del j (pl.getD k 0):F0) * vN (R.getD k []) ((frs pl w).getD l 0))) fun j hj=>by rw [Zdu],Zfg]
   refine Zaq fun k hk=>?_
   rw [Zaq (g:=fun j=>(vN (M.getD i []) j * vN (R.getD k []) ((frs pl w).getD l 0)) * (if j = pl.getD k 0 then 1 else 0)) fun j hj=>by
    show vN (M.getD i []) j * ((if j = pl.getD k 0 then (1:F0) else 0) * _) = _
    grind]
   exact Zgz _ (lt k hk)
  rw [e2,ex]
  have e3:sm pl.length (fun i_1=>(vN (M.getD i []) (pl.getD i_1 0):F0) * at' (R.map vN) i_1 ((frs pl w).getD l 0)) = sm pl.length fun k=>vN (M.getD i []) (pl.getD k 0) * vN (R.getD k []) ((frs pl w).getD l 0):=Zaq fun k hk=>by rw [Zed (by omega)]
  rw [e3]
  grind
end Pf
namespace Pf
open PySem L2 L3 PyProof.Rows
section
variable {P:Program} {w:World} {K:PySem.W.Frag} {mg:Str->Option Value} {base:Heap} {C PL cL:Addr}
theorem Zro {a b:Addr} {xs ys:List V} {g:TG} {tb:TS} {Dn:Ends} {σ:L2.St} {H:Hp} (Pv:Nat->L2.St->Hp->Prop) (hlen:ys.length<=xs.length) (h0:Pv 0 σ H) (hl:∀ i σ H,i<=ys.length->Pv i σ H->SqL K H a xs/\SqL K H b ys)
  (hs:∀ (i:Nat) x y p σ H,xs[i]? = some x->ys[i]? = some y->H p = none->Pv i σ H->g (.ref p) σ (upd H p (.tup [x,y])) fun σ2 H2=>tb { Dn with nx:=Pv (i + 1),ct:=Pv (i + 1),bk:=Dn.nx } σ2 H2) (hd:∀ σ H,Pv ys.length σ H->Dn.nx σ H):
  ∃ W:Nat->Nat->L2.St->Hp->Prop,(∃ m,W 0 m σ H)/\∀ i m σ H,W i m σ H->
   ((Itz K a b).stop i H/\Dn.nx σ H)\/((Itz K a b).go i H/\∃ N:L2.St->Hp->Prop,(∀ σ' H',N σ' H'->∃ m',m' < m/\W (i + 1) m' σ' H')/\∀ x H',(Itz K a b).yld i H x H'->g x σ H' fun σ2 H2=>tb { Dn with nx:=N,ct:=N,bk:=Dn.nx } σ2 H2):=by
 refine ⟨fun i m σ H=>m = ys.length - i/\i<=ys.length/\Pv i σ H,⟨ys.length,by simp,Nat.zero_le _,h0⟩,?_⟩
 rintro i m σ H ⟨rfl,hi,p⟩
 obtain ⟨q1,q2⟩:=hl i σ H hi p
 by_cases hlt:i < ys.length
 ·refine .inr ⟨⟨xs,ys,xs[i]'(by omega),ys[i],q1,q2,List.getElem?_eq_getElem _,List.getElem?_eq_getElem _⟩,Pv (i + 1),fun σ' H' p'=>⟨ys.length - (i + 1),by omega,rfl,hlt,p'⟩,fun x H' y=>?_⟩
  obtain ⟨u,v,pp,rfl,hp,rfl,e1,e2⟩:=y
  exact hs i u v pp σ _ (e1 xs q1) (e2 ys q2) hp p
 ·have e:i = ys.length:=by omega
  subst e
  exact .inl ⟨⟨xs,ys,q1,q2,.inr (Nat.le_refl _)⟩,hd σ H p⟩
def Znn (C:Addr):L2.Sp:=fun vs H Q _=>∃ (g:Addr) (p:Int) (v:V) (x:Nv),vs = [.ref g,v]/\GAt C H g p/\GroundP p/\NumV H p v x/\∀ u H',Same H H'->NumV H' p u (Zku p x)->Q u H'
theorem ok_less {f:Addr} {fd:FuncData} (F:Fun K "less_than_nought" "less_than_nought" Zbc f fd) (T:Txt K mg C):FnOk P w K mg base CX0 1 f fd ["ground","number"] (Znn C):=by
 have nd:=Zdo.nd
 refine F.ok Zdo (fun vs H Q E h=>?_) (fun cdv A outer s H vs Q E hr h=>?_)
 ·obtain ⟨g,p,v,x,rfl,_⟩:=h
  rfl
 ·obtain ⟨g,p,v,x,rfl,⟨dx,hg⟩,hp,nv,q⟩:=h
  refine ⟨_,(@Zaf _ _ _ (@Zaj _ _ _ _ (Zqu (Zal Zeh (Zhf (pv 0) rfl) Zac (Zau _)) (@Zbd _ _ _ _ _ (@Zag _ _ _ _ _ (Zgk Zek (@Zat _ _ _ _ _ _ _ Zaw (pv 1) Zac (fun _ _=>rfl))) (@Zag _ _ _ _ _ (@Zat _ _ _ _ _ _ _ Zaw (pv 1) Zac (fun _ _=>rfl)) Zaa (by rfl)) (by rfl))) (@Zar _ _ _ _ _ _ _ _ Zci (Zgk Zek (pv 1)) (Zhf (pv 0) rfl))))),?_⟩
  walk_at "wp"
  refine ⟨C,dx,_,hg,T.cl_Ground,T.nP,_,Zcy p,rfl,Zdy (fun hc=>?_) (fun hc=>?_)⟩
  ·have hp0:p = 0:=by simpa using hc
   obtain ⟨t,rfl,ht⟩:=nv.ref hp0
   refine ⟨t,rfl,_,SqT.of ht,_,rfl,_,rfl,t,rfl,_,SqT.of ht,_,rfl,by decide,fun t' ht'=>q _ _ (Same.new ht') (NumV.tup hp0 ?_)⟩
   rw [Zad]
   unfold Zku
   rw [if_pos hp0]
  ·have hp0:¬ p = 0:=by simpa using hc
   obtain rfl:=nv.int hp0
   have p0:=hp.lo
   refine ⟨_,rfl,C,dx,_,hg,T.cl_Ground,T.nP,_,Zcy p,_,rfl,by omega,?_⟩
   have:=q (.int (-x.1 % p)) H (Same.refl _)
   unfold Zku at this
   rw [if_neg hp0] at this
   exact this (NumV.of (x:=(-x.1 % p,1)) hp0)
theorem inV_pl (pl:List Nat) (i:Nat):inV (.int ((0:Int) + (i:Int))) (pl.map fun (j:Nat)=>V.int j) = decide (i ∈ pl):=by
 unfold inV
 rw [List.any_map]
 rw [Bool.eq_iff_iff,List.any_eq_true,decide_eq_true_iff]
 constructor
 ·rintro ⟨x,hx,e⟩
  have e:(x:Int) = 0 + (i:Int):=by simpa [eqV] using e
  rw [show i = x by omega]
  exact hx
 ·intro h
  exact ⟨i,h,by simp [eqV]⟩
theorem pl_flat (pl:List Nat):(pl.map fun (j:Nat)=>V.int j).all Zhn = true:=by
 rw [List.all_map,List.all_eq_true]
 intro x _
 rfl
theorem Zqs {pl:List Nat} {i:Nat} {y:V} (h:(pl.map fun (j:Nat)=>V.int j)[i]? = some y):i < pl.length/\y = .int ((pl.getD i 0:Nat):Int):=by
 rw [List.getElem?_map] at h
 cases e:pl[i]? with
 | none=>rw [e] at h; cases h
 | some c=>
  rw [e] at h
  cases h
  exact ⟨(List.getElem?_eq_some_iff.mp e).1,by rw [Zak e]⟩
theorem Zon {α:Type} {xs:List α} {i:Nat} {x:α} (nd:xs.Nodup) (hx:x ∉ xs):(xs.set i x).Nodup:=by
 refine List.pairwise_iff_getElem.mpr fun a b ha hb hab z=>?_
 rw [List.length_set] at ha hb
 rw [List.getElem_set,List.getElem_set] at z
 split at z
 ·split at z
  ·omega
  ·exact hx (by rw [z]; exact List.getElem_mem hb)
 ·split at z
  ·exact hx (by rw [<- z]; exact List.getElem_mem ha)
  ·exact List.pairwise_iff_getElem.mp nd a b ha hb hab z
structure NulH (H H5:Hp) (p:Int) (rz:Addr) (rs:List Addr) (N:Mv):Prop where
 lst:H5 rz = some (.lst (rs.map V.ref))
 row:All2 (RowV H5 p) rs N
 nds:rs.Nodup
 nin:rz ∉ rs
 new:∀ a ∈ rs,H a = none
def Zqh (C PL:Addr):L2.Sp:=fun vs H Q _=>∃ (g t r:Addr) (rs:List Addr) (p:Int) (k n wd:Nat) (M:Mv),vs = [.ref g,.ref t]/\GAt C H g p/\GroundP p/\TabB H p k n wd t r rs M/\n<=24/\wd<=24/\7<=k/\Zdt p k wd wd<=HB/\(wd + 1) * k<=NB/\H PL = some Zp3 /\
 ∀ (t' r':Addr) (rs':List Addr) (N R:Mv) (pl:List Nat) H',Same H H'->New H t' r' rs'->TabV H' p wd (frs pl wd).length t' r' rs' N->Red p k wd M R pl->NulV p R pl wd N->Q (.ref t') H'
theorem ok_ton {f:Addr} {fd:FuncData} (F:Fun K "to_nought" "to_nought" Zcq f fd) (T:Txt K mg C) (C_reduced_rows:Cal P w K mg base "reduced_rows" 8 (spRed C PL)) (C_noughts:Cal P w K mg base "noughts" 7 (spNou C)) (C_less_than_nought:Cal P w K mg base "less_than_nought" 1 (Znn C)) (C_Ground_number:CalD P w K mg base C "number" 6 (Zh0 C) [.int 1]):FnOk P w K mg base CX0 9 f fd ["ground","table"] (Zqh C PL):=by
 have nd:=Zf8.nd
 refine F.ok Zf8 (fun vs H Q E h=>?_) (fun cdv A outer s H vs Q E hr h=>?_)
 ·obtain ⟨g,t,r,rs,p,k,n,wd,M,rfl,_⟩:=h
  rfl
 ·obtain ⟨g,t,r,rs,p,k,n,wd,M,rfl,hg,hp,tb,n24,w24,k7,nb,kb,hPL,q⟩:=h
  refine ⟨_,(@Zab _ _ _ _ _ (Zb2 (pv 1) (@Zch _ _ _ _ _ 3 rfl (@Zai _ _ _ _ _ (@Zah _ _ 2 _ nd rfl (Or.inl rfl) (Or.inl rfl)) (@Zai _ _ _ _ _ (@Zah _ _ 3 _ nd rfl (Or.inl rfl) (Or.inl rfl)) (@Zai _ _ _ _ _ (@Zah _ _ 4 _ nd rfl (Or.inl rfl) (Or.inl rfl)) (@Zba _) (by rfl)) (by rfl)) (by rfl)) (by rfl) (by rfl))) (@Zab _ _ _ _ _ (Zb2 (Zbb C_reduced_rows hr.m rfl (@Zag _ _ _ _ _ (pv 0) (@Zag _ _ _ _ _ (pv 4) (@Zag _ _ _ _ _ (pv 3) Zaa (by rfl)) (by rfl)) (by rfl))) (@Zch _ _ _ _ _ 2 rfl (@Zai _ _ _ _ _ (@Zah _ _ 5 _ nd rfl (Or.inl rfl) (Or.inl rfl)) (@Zai _ _ _ _ _ (@Zah _ _ 6 _ nd rfl (Or.inr rfl) (Or.inl rfl)) (@Zba _) (by rfl)) (by rfl)) (by rfl) (by rfl))) (@Zab _ _ _ _ _ (Zf3 (i:=7) (own:=["place"]) (fr:=[("places",6)]) rfl (Zck (by kernel_rfl)) (Zgj rfl T.n_range (@Zag _ _ _ _ _ (pv 3) Zaa (by rfl))) (fun _ _ _ _=>⟨(@Zah _ _ 0 _ (show (["place","places"]:List Str).Nodup by decide +kernel) rfl (Or.inl rfl) (Or.inr rfl)),(Ziw (Zal (Ziy K rfl) (pv 0) (pv 1) (by with_unfolding_all rfl))),(pv 0)⟩) nd rfl rfl rfl) (@Zab _ _ _ _ _ (Zax (i:=8) nd rfl (Or.inl rfl) (@Zat _ _ _ _ _ _ _ Zaw (Zbb C_noughts hr.m rfl (@Zag _ _ _ _ _ (pv 0) (@Zag _ _ _ _ _ (pv 3) (@Zag _ _ _ _ _ (Zcj Zbi rfl T.n_len PySem.boot_len (@Zag _ _ _ _ _ (pv 7) Zaa (by rfl))) Zaa (by rfl)) (by rfl)) (by rfl))) Zac (fun _ _=>rfl))) (@Zab _ _ _ _ _ (Zc3 PassesOwn.never rfl (Zhe rfl T.n_zip (@Zag _ _ _ _ _ (pv 5) (@Zag _ _ _ _ _ (pv 6) Zaa (by rfl)) (by rfl))) (@Zch _ _ _ _ _ 2 rfl (@Zai _ _ _ _ _ (@Zah _ _ 9 _ nd rfl (Or.inr rfl) (Or.inl rfl)) (@Zai _ _ _ _ _ (@Zah _ _ 10 _ nd rfl (Or.inl rfl) (Or.inl rfl)) (@Zba _) (by rfl)) (by rfl)) (by rfl) (by rfl)) (@Zaf _ _ _ (Zb2 (Zbg (own:=["at"]) (fr:=[("ground",0),("row",9)]) rfl (Zck (by kernel_rfl)) (Zbt (pv 7)) (fun _ _ _ _=>⟨(@Zah _ _ 0 _ (show (["at","ground","row"]:List Str).Nodup by decide +kernel) rfl (Or.inl rfl) (Or.inr rfl)),Za9,(Zbb C_less_than_nought hr.m rfl (@Zag _ _ _ _ _ (pv 1) (@Zag _ _ _ _ _ (@Zat _ _ _ _ _ _ _ (Zc1 K rfl) (pv 2) (pv 0) (fun _ _=>rfl)) Zaa (by rfl)) (by rfl)))⟩)) (Zfd (pv 8) (pv 10) Zcz)))) (@Zab _ _ _ _ _ (Zc3 PassesOwn.never rfl (Zn4 rfl T.n_enumerate (@Zag _ _ _ _ _ (pv 7) Zaa (by rfl))) (@Zch _ _ _ _ _ 2 rfl (@Zai _ _ _ _ _ (@Zah _ _ 11 _ nd rfl (Or.inl rfl) (Or.inl rfl)) (@Zai _ _ _ _ _ (@Zah _ _ 10 _ nd rfl (Or.inl rfl) (Or.inl rfl)) (@Zba _) (by rfl)) (by rfl)) (by rfl) (by rfl)) (@Zaf _ _ _ (Zb2 (Zk9 T.cl_Ground C_Ground_number hr.m (pv 0) (@Zag _ _ _ _ _ Zac Zaa (by rfl))) (Zfd (@Zat _ _ _ _ _ _ _ Za0 (pv 8) (pv 10) (fun _ _=>rfl)) (pv 11) Zcz)))) (@Zaf _ _ _ (@Zaj _ _ _ _ (@Zbd _ _ _ _ _ (@Zag _ _ _ _ _ (pv 3) (@Zag _ _ _ _ _ (Zcj Zbi rfl T.n_len PySem.boot_len (@Zag _ _ _ _ _ (pv 7) Zaa (by rfl))) (@Zag _ _ _ _ _ (pv 8) Zaa (by rfl)) (by rfl)) (by rfl))))))))))),?_⟩
  walk_at "wp"
  refine ⟨_,SqT.of tb.tv.tup,rfl,_,_,rfl,_,_,rfl,_,_,rfl,rfl,?_⟩
  obtain ⟨sw1,sw2⟩:=Zlz hp k7 tb.hw nb
  refine ⟨g,r,p,rs,M,k,wd,wd,rfl,hg,hp,⟨tb.tv.lst,tb.tv.row,tb.hw,tb.gd,by rw [tb.hl]; omega,by omega,by omega,kb⟩,Nat.le_refl _,hPL,sw1,sw2,fun tt FF pA rsF R pl H1 s1 ht1 hFF hpA nFp ep eF rvF nrF rd=>?_⟩
  refine ⟨tt,rfl,_,SqT.of ht1,rfl,_,_,rfl,_,_,rfl,rfl,?_⟩
  obtain ⟨g1,g2,g3⟩:=rd.good hp k7 tb.hw
  obtain ⟨F0,_,hF0⟩:=Zfv hp
  obtain ⟨rr0,_⟩:=rd.rr hp hF0 tb.hw fun xs hx x hxx=>(tb.gd xs hx x hxx).1
  have lt:∀ i,i < pl.length->pl.getD i 0 < wd:=rr0.cn
  have ndp:pl.Nodup:=Zj2 rr0.mono
  have rl:pl.length<=R.length:=by have:=rr0.rl; rwa [List.length_map] at this
  have flen:=Zpj (w:=wd) ndp fun c hc=>by obtain ⟨i,hi,rfl⟩:=Zbu hc 0; exact lt i hi
  have rfl':=rvF.1
  refine ⟨_,rfl,_,rfl,by omega,by omega,fun D hD=>Zja (fun c=>decide (c ∉ pl)) hD (by omega) (fun i H2 Q2 hi s2 q2=>?_) fun H2 s2 e2=>?_⟩
  ·have:=q2 H2 (Same.refl _)
   refine ⟨_,rfl,_,rfl,pA,_,rfl,.inl (SqL.of (s2 _ _ ep)),rfl,pl_flat pl,?_⟩
   rw [inV_pl]
   refine ⟨_,rfl,?_⟩
   simpa using this
  have e2:H2 D = some (.lst ((frs pl wd).map fun (j:Nat)=>V.int j)):=by
   rw [e2]
   unfold frs
   simp
  have s02:=s1.trans s2
  refine ⟨D,rfl,_,.inl (SqL.of e2),g,p,wd,_,rfl,hg.same s02,hp,by omega,by omega,by omega,by rw [List.length_map]; omega,fun tz rz rsz H3 s3 nwz ndz tbz=>⟨tz,rfl,_,SqT.of tbz.tup,_,rfl,?_⟩⟩
  rw [List.length_map,Int.toNat_natCast,Int.toNat_natCast] at tbz
  have s03:=s02.trans s3
  have zat:∀ c,c < wd->(zM wd (frs pl wd).length).getD c [] = zR (frs pl wd).length:=fun c hc=>Zak (by rw [List.getElem?_map,List.getElem?_range hc]; rfl)
  refine ⟨_,rfl,_,rfl,FF,pA,rfl,⟨_,SqL.of ((s2.trans s3) _ _ eF)⟩,⟨_,SqL.of ((s2.trans s3) _ _ ep)⟩,Zro (xs:=rsF.map V.ref) (ys:=pl.map fun (j:Nat)=>V.int j) (fun i σ H5=>∃ (v9 v10:Option V) (rs5:List Addr) (N5:Mv),σ = [some (V.ref g),some (V.ref t),some (V.int n),some (V.int wd),some (V.ref r),some (V.ref FF),some (V.ref pA),some (V.ref D),some (V.ref rz),v9,v10,none]/\Same H2 H5/\NulH H2 H5 p rz rs5 N5/\N5.length = wd/\(∀ k,k < i->N5.getD (pl.getD k 0) [] = (frs pl wd).map fun a=>Zku p ((R.getD k []).getD a (0,1)))/\∀ c,c < wd->c ∉ pl->N5.getD c [] = zR (frs pl wd).length)
   (by rw [List.length_map,List.length_map]; omega) ⟨none,none,rsz,_,rfl,s3,⟨tbz.lst,tbz.row,ndz,tbz.nin,nwz.rs⟩,by rw [List.length_map,List.length_range],fun k hk=>by omega,fun c hc _=>zat c hc⟩ (fun i σ H5 _ ⟨_,_,_,_,_,s5,_⟩=>⟨SqL.of ((s2.trans s5) _ _ eF),SqL.of ((s2.trans s5) _ _ ep)⟩) ?_ ?_⟩
  ·rintro i x y pp σ H5 hx hy hpp ⟨v9,v10,rs5,N5,rfl,s5,nh,nl,inv1,inv2⟩
   obtain ⟨hi,rfl⟩:=Zqs hy
   obtain ⟨row,er,a,rfl,rv⟩:=(Za7 rvF).at' hx
   have spp:=Same.new (o:=.tup [V.ref a,V.int ((pl.getD i 0:Nat):Int)]) hpp
   walk_at "wp"
   refine ⟨_,SqT.of Zad,rfl,_,_,rfl,_,_,rfl,rfl,?_⟩
   have nh6:NulH H2 (upd H5 pp (.tup [V.ref a,V.int ((pl.getD i 0:Nat):Int)])) p rz rs5 N5:=⟨spp _ _ nh.lst,nh.row.mono fun _ _ k=>k.same spp,nh.nds,nh.nin,nh.new⟩
   have s26:=s5.trans spp
   generalize upd H5 pp (.tup [V.ref a,V.int ((pl.getD i 0:Nat):Int)]) = H6 at *
   have eR:R.getD i [] = row:=Zak er
   have wr:=g2 row (List.mem_of_getElem? er)
   have s16:=s2.trans s26
   obtain ⟨vs,hv1,hv2⟩:=rv
   refine ⟨_,rfl,D,rfl,⟨_,SqL.of (s26 _ _ e2)⟩,fun E1 hE1=>Zco (fun k Hc y=>NumV Hc p y (Zku p (row.getD ((frs pl wd).getD k 0) (0,1)))) (fun k s=>k.same s) (fun k hD=>k.put hD) (s26 _ _ e2) hE1 (by rw [List.length_map]; omega) (fun k x Hc Qc hx sc _ qc=>?_) (fun ys H7 s7 e7 yl yn=>?_)⟩
   ·obtain ⟨hk,rfl⟩:=Zqs hx
    have fk:=(Zd1.mp (Zas (d:=0) hk)).1
    have ei:row[(frs pl wd).getD k 0]? = some (row[(frs pl wd).getD k 0]'(by omega)):=List.getElem?_eq_getElem _
    obtain ⟨v,ev,nv⟩:=hv2.at ei
    have sAll:=s16.trans sc
    exact ⟨_,rfl,_,rfl,_,rfl,a,vs,_,v,rfl,rfl,SqL.of (sAll _ _ hv1),Zbl (by omega) (by rw [Int.toNat_natCast]; exact ev),g,p,v,_,rfl,hg.same (s1.trans sAll),hp,nv.same sAll,fun u Hd sd nu=>qc u Hd sd (by rw [Zak ei]; exact nu)⟩
   ·rw [List.length_map] at yl
    have hcw:=lt i hi
    have l7:=s7 _ _ nh6.lst
    have lrs:=nh6.row.1
    have nE:E1 ≠ rz:=fun z=>by rw [z,nh6.lst] at hE1; cases hE1
    have nEr:E1 ∉ rs5:=fun z=>by
     obtain ⟨j,hj,ej⟩:=List.mem_iff_getElem.mp z
     obtain ⟨_,_,us,hu,_⟩:=nh6.row.at' (List.getElem?_eq_getElem hj)
     rw [ej,hE1] at hu
     cases hu
    have base:All2 (RowV (upd H7 rz (.lst ((rs5.map V.ref).set (pl.getD i 0) (.ref E1)))) p) rs5 N5:=nh6.row.monoM fun b x hb k=>(k.same s7).put l7 (fun z=>nh6.nin (z ▸ hb))
    refine ⟨_,_,rfl,l7,pl.getD i 0,?_,_,_,⟨rfl,rfl⟩,(s26.trans s7).upd nwz.r,rs5.set (pl.getD i 0) E1,N5.set (pl.getD i 0) ((frs pl wd).map fun a=>Zku p (row.getD a (0,1))),⟨?_,?_,Zon nh6.nds nEr,fun z=>?_,fun b hb=>?_⟩,by rw [List.length_set]; exact nl,fun k hk=>?_,fun c hc hcp=>?_⟩
    ·rw [Zii (by omega) (by rw [Int.toNat_natCast,List.length_map]; omega),Int.toNat_natCast]
    ·rw [Zad,List.map_set]
    ·refine base.set _ ⟨ys,by rw [Zap nE]; exact e7,by rw [List.length_map]; omega,fun k y x f1 f2=>?_⟩
     have nk:=(yn k y f1).put (o:=.lst ((rs5.map V.ref).set (pl.getD i 0) (.ref E1))) l7
     have hk:k < (frs pl wd).length:=by have:=(List.getElem?_eq_some_iff.mp f1).1; omega
     rw [List.getElem?_map,List.getElem?_eq_getElem hk] at f2
     cases f2
     rwa [Za1 hk] at nk
    ·rcases List.mem_or_eq_of_mem_set z with h | h
     ·exact nh6.nin h
     ·exact nE h.symm
    ·rcases List.mem_or_eq_of_mem_set hb with h | h
     ·exact nh6.new b h
     ·rw [h]; exact s26.free hE1
    ·rw [Zcc (by omega)]
     by_cases e:pl.getD k 0 = pl.getD i 0
     ·have:k = i:=Zev ndp (by omega) hi e
      subst this
      rw [if_pos rfl,eR]
     ·rw [if_neg e]
      refine inv1 k ?_
      apply Classical.byContradiction
      intro z
      exact e (by rw [show k = i by omega])
    ·rw [Zcc (by omega),if_neg fun z=>hcp (by rw [z]; exact Zas hi)]
     exact inv2 c hc hcp
  ·rintro σ H5 ⟨v9,v10,rs5,N5,rfl,s5,nh,nl,inv1,inv2⟩
   rw [List.length_map] at inv1
   walk_at "wp"
   refine ⟨_,rfl,D,rfl,⟨_,SqL.of (s5 _ _ e2)⟩,Zpk (xs:=(frs pl wd).map fun (j:Nat)=>V.int j) (fun i σ H6=>∃ (v9 v10 v11:Option V) (N6:Mv),σ = [some (V.ref g),some (V.ref t),some (V.int n),some (V.int wd),some (V.ref r),some (V.ref FF),some (V.ref pA),some (V.ref D),some (V.ref rz),v9,v10,v11]/\Same H2 H6/\NulH H2 H6 p rz rs5 N6/\N6.length = wd/\(∀ k,k < pl.length->N6.getD (pl.getD k 0) [] = (frs pl wd).map fun a=>Zku p ((R.getD k []).getD a (0,1)))/\(∀ l,l < i->N6.getD ((frs pl wd).getD l 0) [] = (zR (frs pl wd).length).set l (1,1))/\∀ l,i<=l->l < (frs pl wd).length->N6.getD ((frs pl wd).getD l 0) [] = zR (frs pl wd).length)
    ⟨v9,v10,none,N5,rfl,s5,nh,nl,inv1,fun l hl=>by omega,fun l _ hl=>inv2 _ (Zd1.mp (Zas hl)).1 (Zd1.mp (Zas hl)).2⟩ (fun i σ H6 _ ⟨_,_,_,_,_,s6,_⟩=>SqL.of (s6 _ _ e2)) ?_ ?_⟩
   ·rintro i x pp σ H6' hx hpp ⟨v9',v10',v11',N6,rfl,s6',nh6',nl6,in1,in2,in3⟩
    obtain ⟨hi,rfl⟩:=Zqs hx
    have spp:=Same.new (o:=.tup [V.int i,V.int (((frs pl wd).getD i 0:Nat):Int)]) hpp
    have hpt:upd H6' pp (.tup [V.int i,V.int (((frs pl wd).getD i 0:Nat):Int)]) pp = some (.tup [V.int i,V.int (((frs pl wd).getD i 0:Nat):Int)]):=Zad
    have nh6:NulH H2 (upd H6' pp (.tup [V.int i,V.int (((frs pl wd).getD i 0:Nat):Int)])) p rz rs5 N6:=⟨spp _ _ nh6'.lst,nh6'.row.mono fun _ _ k=>k.same spp,nh6'.nds,nh6'.nin,nh6'.new⟩
    have s6:=s6'.trans spp
    generalize upd H6' pp (.tup [V.int i,V.int (((frs pl wd).getD i 0:Nat):Int)]) = H6 at *
    obtain ⟨dg,hg0⟩:=hg.same (s02.trans s6)
    obtain ⟨f1,f2⟩:=Zd1.mp (Zas (d:=0) hi)
    walk_at "wp"
    refine ⟨_,SqT.of hpt,rfl,_,_,rfl,_,_,rfl,rfl,?_⟩
    refine ⟨dg,_,hg0,Zfe p,g,p,1,1,rfl,⟨dg,hg0⟩,hp,Za5 (by decide) (by decide),Za5 (by decide) (by decide),fun _=>by decide,Zoc hp,fun nv nx H7 s7 hnv iq=>?_⟩
    rw [Zo5 hp iq,Zme hp] at hnv
    have lrs:=nh6.row.1
    have e1:rs5[(frs pl wd).getD i 0]? = some (rs5[(frs pl wd).getD i 0]'(by omega)):=List.getElem?_eq_getElem _
    have a7:All2 (RowV H7 p) rs5 N6:=nh6.row.mono fun _ _ k=>k.same s7
    obtain ⟨row,er,us,hu1,hu2⟩:=a7.at' e1
    have erow:row = zR (frs pl wd).length:=by rw [<- in3 i (Nat.le_refl _) hi,Zak er]
    subst erow
    have ul:=hu2.1
    rw [List.length_replicate] at ul
    have nri:rz ≠ rs5[(frs pl wd).getD i 0]'(by omega):=fun z=>nh6.nin (by rw [z]; exact List.getElem_mem _)
    have l7:=s7 _ _ nh6.lst
    have nrow:=Zqo a7 nh6.nds e1 hu1 (o:=.lst (us.set i nv)) (row:=(zR (frs pl wd).length).set i (1,1)) ⟨_,Zad,(hu2.mono fun _ _ q=>q.put hu1).set _ (hnv.put hu1)⟩
    refine ⟨_,_,rfl,SqL.of l7,_,Zbl (by omega) (by rw [Int.toNat_natCast,List.getElem?_map,e1]; rfl),_,rfl,us,_,rfl,hu1,i,?_,_,_,_,⟨rfl,rfl,rfl⟩,(s6.trans s7).upd (nh6.new _ (List.getElem_mem _)),_,⟨by rw [Zap nri]; exact l7,nrow,nh6.nds,nh6.nin,nh6.new⟩,by rw [List.length_set]; exact nl6,fun k hk=>?_,fun l hl=>?_,fun l h1 h2=>?_⟩
    ·rw [Zii (by omega) (by omega)]
     congr 1
    ·rw [Zcc (by omega),if_neg fun z=>f2 (by rw [<- z]; exact Zas hk)]
     exact in1 k hk
    ·rw [Zcc (by omega)]
     by_cases e:l = i
     ·subst e
      rw [if_pos rfl]
     ·rw [if_neg fun z=>e (Zev Zhm (by omega) hi z)]
      exact in2 l (by omega)
    ·rw [Zcc (by omega),if_neg fun z=>by have:=Zev Zhm h2 hi z; omega]
     exact in3 l (by omega) h2
   ·rintro σ H6 ⟨v9',v10',v11',N6,rfl,s6,nh6,nl6,in1,in2,in3⟩
    rw [List.length_map] at in2
    walk_at "wp"
    refine ⟨_,.inl (SqL.of (s6 _ _ e2)),by decide,fun t' ht'=>?_⟩
    rw [List.length_map]
    have s8:=Same.new (o:=.tup [V.int wd,V.int (frs pl wd).length,V.ref rz]) ht'
    exact q t' rz rs5 N6 R pl _ ((s02.trans s6).trans s8) ⟨(s02.trans s6).free ht',s02.free nwz.r,fun b hb=>s02.free (nh6.new b hb)⟩ ⟨Zad,s8 _ _ nh6.lst,nh6.row.mono fun _ _ k=>k.same s8,nh6.nin⟩ rd ⟨nl6,in1,in2⟩
end
end Pf
namespace Pf
open PySem L2 L3 PyProof.Rows
structure Leads (p:Int) (n wd:Nat) (M:Mv) (pl:List Nat):Prop where
 lt:∀ i,i < pl.length->pl.getD i 0 < wd
 ex:∀ (F:Type) [Lean.Grind.Field F],FdOk p F->∃ C:Nat->Nat->F,∀ i j,i < n->j < wd->(vN (M.getD i []) j:F) = sm pl.length fun k=>vN (M.getD i []) (pl.getD k 0) * C k j
theorem Zqg {p:Int} {k n wd:Nat} {Z done left:List (List Int)} {M:Mv} {pl:List Nat} (hp:GroundP p) (IR:Zd2 p k Z M) (sw:Sw p Z wd done left pl) (hl:M.length = n) (hw:∀ xs ∈ M,xs.length = wd) (hM:∀ xs ∈ M,∀ x ∈ xs,Isn p x):Leads p n wd M pl:=by
 have p0:=hp.lo
 have I:=sw.inv p0 (Zb1 p0 IR hw)
 refine ⟨I.lt,fun F _ hF=>?_⟩
 have B:=Sw.back p0 I hF pl.length (Nat.le_refl _)
 have bl:=B.len
 have zM:=IR.1
 have h1:=I.all
 have h2:=I.len
 obtain ⟨r1,r2⟩:=B.rr I.asc I.lt (by omega) (L:=(List.range Z.length).map fun i=>fun j=>vz ((Zbe p pl (done ++ left) pl.length).getD i []) j / ic (Za4 pl (Zbe p pl (done ++ left) pl.length) i)) (by rw [List.length_map,List.length_range]) fun i hi=>by
  have e:(List.range Z.length).getD i 0 = i:=by rw [List.getD_eq_getElem?_getD,List.getElem?_range hi]; rfl
  rw [Zil (d:=0) (by rw [List.length_range]; exact hi),e]
 have sp:=(Zpa hF IR hM).symm.trans r2.symm
 generalize (List.range Z.length).map (fun i=>fun j=>(vz ((Zbe p pl (done ++ left) pl.length).getD i []) j / ic (Za4 pl (Zbe p pl (done ++ left) pl.length) i):F)) = L at *
 exact ⟨fun k j=>at' L k j,fun i j hi hj=>r1.expand (sp.le _ (List.mem_map.mpr ⟨_,Zas (by omega),rfl⟩)) j hj⟩
abbrev mdM (M:Mv) (pl:List Nat):Mv:=M.map fun row=>pl.map fun c=>row.getD c (0,1)
theorem md_at {F:Type} [Lean.Grind.Field F] {M:Mv} {pl:List Nat} {n i k:Nat} (hl:M.length = n) (hi:i < n) (hk:k < pl.length):(vN ((mdM M pl).getD i []) k:F) = vN (M.getD i []) (pl.getD k 0):=by
 have e:(mdM M pl).getD i [] = pl.map fun c=>(M.getD i []).getD c (0,1):=by
  rw [List.getD_eq_getElem?_getD,List.getElem?_map,List.getElem?_eq_getElem (show i < M.length by omega),Za1 (show i < M.length by omega)]
  rfl
 rw [e,Znc (x:=(M.getD i []).getD (pl.getD k 0) (0,1)) (by rw [List.getElem?_map,List.getElem?_eq_getElem hk,Za1 hk]; rfl)]
 rfl
theorem made_rk {p:Int} {n wd r s:Nat} {M:Mv} {pl:List Nat} (hp:GroundP p) (hl:M.length = n) (L:Leads p n wd M pl) (h:IsRk p n wd M r) (h':IsRk p n pl.length (mdM M pl) s):s = r:=by
 obtain ⟨F,_,hF⟩:=Zfv hp
 obtain ⟨C,hC⟩:=L.ex F hF
 have k1:r<=s:=(h' F hF).mul_l (B:=C) (l:=wd) ((h F hF).congr fun i j hi hj=>by
  rw [hC i j hi hj]
  exact Zaq fun k hk=>by show _ = vN ((mdM M pl).getD i []) k * C k j; rw [md_at hl hi hk])
 have k2:s<=r:=(h F hF).mul_l (B:=fun a b=>if pl.getD b 0 = a then 1 else 0) (l:=pl.length) ((h' F hF).congr fun i k hi hk=>by
  rw [md_at hl hi hk]
  show _ = sm wd fun a=>vN (M.getD i []) a * (if pl.getD k 0 = a then 1 else 0)
  rw [Zfp _ (L.lt k hk)])
 omega
theorem Zn8 {p:Int} {n wd r s:Nat} {M:Mv} {pl:List Nat} (hp:GroundP p) (hl:M.length = n) (hw:∀ xs ∈ M,xs.length = wd) (L:Leads p n wd M pl) (h:IsRk p n wd M r) (h':IsRk p n (wd + pl.length) ((List.range n).map fun i=>M.getD i [] ++ (mdM M pl).getD i []) s):s = r:=by
 obtain ⟨F,_,hF⟩:=Zfv hp
 have at2:∀ i j,i < n->j < wd + pl.length->(vN (((List.range n).map fun i=>M.getD i [] ++ (mdM M pl).getD i []).getD i []) j:F) = vN (M.getD i []) (if j < wd then j else pl.getD (j - wd) 0):=fun i j hi hj=>by
  rw [Zak (show _ = some _ by rw [List.getElem?_map,List.getElem?_range hi]; rfl)]
  show (vN (M.getD i [] ++ (mdM M pl).getD i []) j:F) = _
  rw [vN_app,hw _ (Zas (by omega))]
  split
  ·rfl
  ·rw [md_at hl hi (by omega)]
 have k1:s<=r:=(h F hF).mul_l (B:=fun a b=>if (if b < wd then b else pl.getD (b - wd) 0) = a then 1 else 0) (l:=wd + pl.length) ((h' F hF).congr fun i j hi hj=>by
  rw [at2 i j hi hj]
  show _ = sm wd fun k=>vN (M.getD i []) k * (if (if j < wd then j else pl.getD (j - wd) 0) = k then 1 else 0)
  rw [Zfp _ (by
   split
   ·assumption
   ·exact L.lt _ (by omega))])
 have k2:r<=s:=(h' F hF).mul_l (B:=fun a b=>if b = a then 1 else 0) (l:=wd) ((h F hF).congr fun i j hi hj=>by
  show _ = sm (wd + pl.length) fun k=>vN (((List.range n).map fun i=>M.getD i [] ++ (mdM M pl).getD i []).getD i []) k * (if j = k then 1 else 0)
  rw [Zfp _ (by omega),at2 i j hi (by omega),if_pos hj])
 omega
theorem Zm3 {p:Int} {k n w:Nat} {M R N:Mv} {pl:List Nat} (hp:GroundP p) (h7:7<=k) (hl:M.length = n) (hw:∀ xs ∈ M,xs.length = w) (hg:∀ xs ∈ M,Zce p k xs) (rd:Red p k n (Zik M w) R pl) (h:NulV p R pl n N) (r:Nat) (hr:IsRk p n w M r):
  r + (frs pl n).length = n/\(∀ xs ∈ N,xs.length = (frs pl n).length)/\(∀ xs ∈ N,Zce p (Zdt p k n n) xs)/\(∀ s,IsRk p (frs pl n).length n (Zik N (frs pl n).length) s->s = (frs pl n).length)/\Zgi p (Zik N (frs pl n).length) M w = zM (frs pl n).length w:=by
 have cl:(Zik M w).length = w:=by rw [List.length_map,List.length_range]
 obtain ⟨e1,e2,e3,e4,e5,e6⟩:=Zhg hp h7 rd cl (Zjb hl) (Zfx hw hg) h
 have er:=hr.turn hp hl e2
 refine ⟨by omega,e3,e4,fun s hs=>e5.turn hp h.len hs,?_⟩
 obtain ⟨F,_,hF⟩:=Zfv hp
 have mM:Mat p n w M:=⟨hl,hw,fun xs hx x hxx=>(hg xs hx x hxx).1⟩
 have mC:Mat p w n (Zik M w):=⟨cl,Zjb hl,fun xs hx x hxx=>(Zfx hw hg xs hx x hxx).1⟩
 have mN:Mat p n (frs pl n).length N:=⟨h.len,e3,fun xs hx x hxx=>(e4 xs hx x hxx).1⟩
 have mL:Mat p (frs pl n).length n (Zik N (frs pl n).length):=⟨by rw [List.length_map,List.length_range],Zjb h.len,fun xs hx x hxx=>(Zfx e3 e4 xs hx x hxx).1⟩
 have z0:=(Zo2 hp).1
 have mZ:∀ a b,Mat p a b (zM a b):=fun a b=>⟨by rw [List.length_map,List.length_range],fun xs hx=>by obtain ⟨_,_,rfl⟩:=List.mem_map.mp hx; rw [List.length_replicate],fun xs hx x hxx=>by obtain ⟨_,_,rfl⟩:=List.mem_map.mp hx; rw [List.eq_of_mem_replicate hxx]; exact z0⟩
 have zat:∀ {a b i j:Nat},i < a->j < b->(vN ((zM a b).getD i []) j:F) = 0:=fun {a b i j} hi hj=>by
  rw [Zak (show _ = some (zR b) by rw [List.getElem?_map,List.getElem?_range hi]; rfl)]
  unfold vN
  rw [List.getD_eq_getElem?_getD,List.getElem?_replicate,if_pos hj]
  exact Zfk
 refine Zsi hF (Zl8 hp mL mM) (mZ _ _) fun i j hi hj=>?_
 rw [Zk7 hp hF mL mM hi hj,zat hi hj]
 have h1:=Zk7 hp hF mC mN hj hi
 rw [e6,zat hj hi] at h1
 rw [h1]
 refine Zaq fun l hl'=>?_
 show nm (((Zik N (frs pl n).length).getD i []).getD l (0,1)) * nm ((M.getD l []).getD j (0,1)) = nm (((Zik M w).getD j []).getD l (0,1)) * nm ((N.getD l []).getD i (0,1))
 rw [Zpt h.len hi hl',Zpt hl hj hl']
 grind
section
variable {P:Program} {w:World} {K:PySem.W.Frag} {mg:Str->Option Value} {base:Heap} {C PL cL:Addr}
def Znl (C PL:Addr):L2.Sp:=fun vs H Q _=>∃ (g t r:Addr) (rs:List Addr) (p:Int) (k n wd:Nat) (M:Mv),vs = [.ref g,.ref t]/\GAt C H g p/\GroundP p/\TabB H p k n wd t r rs M/\n<=24/\wd<=24/\7<=k/\Zdt p k wd wd<=HB/\(wd + 1) * k<=NB/\H PL = some Zp3 /\
 ∀ (t' r':Addr) (rs':List Addr) (pl:List Nat) H',Same H H'->New H t' r' rs'->TabB H' p k n pl.length t' r' rs' (mdM M pl)->Leads p n wd M pl->IsRk p n wd M pl.length->Q (.ref t') H'
theorem ok_made {f:Addr} {fd:FuncData} (F:Fun K "made_by" "made_by" Zd6 f fd) (T:Txt K mg C) (C_swept:Cal P w K mg base "swept" 7 (Zio C PL)):FnOk P w K mg base CX0 8 f fd ["ground","table"] (Znl C PL):=by
 have nd:=Zh6.nd
 refine F.ok Zh6 (fun vs H Q E h=>?_) (fun cdv A outer s H vs Q E hr h=>?_)
 ·obtain ⟨g,t,r,rs,p,k,n,wd,M,rfl,_⟩:=h
  rfl
 ·obtain ⟨g,t,r,rs,p,k,n,wd,M,rfl,hg,hp,tb,n24,w24,k7,nb,kb,hPL,q⟩:=h
  have rl:=tb.tv.row.1
  have hM:=tb.hl
  refine ⟨_,(@Zab _ _ _ _ _ (Zb2 (pv 1) (@Zch _ _ _ _ _ 3 rfl (@Zai _ _ _ _ _ (@Zah _ _ 2 _ nd rfl (Or.inl rfl) (Or.inl rfl)) (@Zai _ _ _ _ _ (@Zah _ _ 3 _ nd rfl (Or.inl rfl) (Or.inl rfl)) (@Zai _ _ _ _ _ (@Zah _ _ 4 _ nd rfl (Or.inl rfl) (Or.inl rfl)) (@Zba _) (by rfl)) (by rfl)) (by rfl)) (by rfl) (by rfl))) (@Zab _ _ _ _ _ (Zax (i:=5) nd rfl (Or.inr rfl) (@Zat _ _ _ _ _ _ _ Zaw (Zbb C_swept hr.m rfl (@Zag _ _ _ _ _ (pv 0) (@Zag _ _ _ _ _ (pv 4) (@Zag _ _ _ _ _ (pv 3) Zaa (by rfl)) (by rfl)) (by rfl))) Zac (fun _ _=>rfl))) (@Zaf _ _ _ (@Zaj _ _ _ _ (@Zbd _ _ _ _ _ (@Zag _ _ _ _ _ (pv 2) (@Zag _ _ _ _ _ (Zcj Zbi rfl T.n_len PySem.boot_len (@Zag _ _ _ _ _ (pv 5) Zaa (by rfl))) (@Zag _ _ _ _ _ (Zbg (own:=["row"]) (fr:=[("places",5)]) rfl (Zck (by kernel_rfl)) (Zbt (pv 4)) (fun _ _ _ _=>⟨(@Zah _ _ 0 _ (show (["row","places"]:List Str).Nodup by decide +kernel) rfl (Or.inr rfl) (Or.inl rfl)),Za9,(Zbg (own:=["place"]) (fr:=[("row",0)]) rfl (Zck (by kernel_rfl)) (Zix K rfl (pv 1)) (fun _ _ _ _=>⟨(@Zah _ _ 0 _ (show (["place","row"]:List Str).Nodup by decide +kernel) rfl (Or.inl rfl) (Or.inr rfl)),Za9,(@Zat _ _ _ _ _ _ _ (Zc1 K rfl) (pv 1) (pv 0) (fun _ _=>rfl))⟩))⟩)) Zaa (by rfl)) (by rfl)) (by rfl))))))),?_⟩
  walk_at "wp"
  refine ⟨_,SqT.of tb.tv.tup,rfl,_,_,rfl,_,_,rfl,_,_,rfl,rfl,?_⟩
  refine ⟨g,r,p,rs,M,k,wd,wd,rfl,hg,hp,⟨tb.tv.lst,tb.tv.row,tb.hw,tb.gd,by rw [tb.hl]; omega,by omega,by omega,kb⟩,Nat.le_refl _,hPL,(Zlz hp k7 tb.hw nb).1,fun tt FF pA rsF Z done left pl H1 s1 ht1 hFF hpA nFp ep eF rvF nrF IR sw=>?_⟩
  have ld:=Zqg hp IR sw tb.hl tb.hw fun xs hx x hxx=>(tb.gd xs hx x hxx).1
  have rk:=sw_rk hp IR sw tb.hl tb.hw fun xs hx x hxx=>(tb.gd xs hx x hxx).1
  have pll:pl.length<=wd:=by
   have p0:=hp.lo
   exact Sw.pl_le (sw.inv p0 (Zb1 p0 IR tb.hw))
  refine ⟨tt,rfl,_,SqT.of ht1,_,rfl,pA,rfl,_,.inl (SqL.of ep),?_⟩
  rw [List.length_map]
  have l1:=s1 _ _ tb.tv.lst
  refine ⟨_,rfl,r,rfl,⟨_,SqL.of l1⟩,fun D hD=>Zco (fun i Hc y=>∃ a,y = .ref a/\RowV Hc p a ((mdM M pl).getD i [])/\a ≠ D/\H a = none) (fun ⟨a,e,b,c⟩ s=>⟨a,e,b.same s,c⟩) (fun ⟨a,e,b,c,d⟩ hD=>⟨a,e,b.put hD c,c,d⟩) l1 hD (by rw [List.length_map]; omega) (fun i x H' Q' hx s' ⟨lD,hlD⟩ q'=>?_) (fun ys H2 s2 e2 yl hys=>?_)⟩
  ·obtain ⟨row,er,a,rfl,vs,hv1,hv2⟩:=(Za7 tb.tv.row).at' hx
   have wr:=tb.hw row (List.mem_of_getElem? er)
   have emd:(mdM M pl).getD i [] = pl.map fun c=>row.getD c (0,1):=Zak (by rw [List.getElem?_map,er]; rfl)
   refine ⟨_,rfl,pA,rfl,⟨_,SqL.of (s' _ _ ep)⟩,fun E1 hE1=>Zco (fun k Hc y=>NumV Hc p y (row.getD (pl.getD k 0) (0,1))) (fun k s=>k.same s) (fun k hD=>k.put hD) (s' _ _ ep) hE1 (by rw [List.length_map]; omega) (fun k x Hc Qc hx sc _ qc=>?_) (fun zs Hc sc ec zl zn=>?_)⟩
   ·obtain ⟨hk,rfl⟩:=Zqs hx
    have lk:=ld.lt k hk
    have ei:row[pl.getD k 0]? = some (row[pl.getD k 0]'(by omega)):=List.getElem?_eq_getElem _
    obtain ⟨v,ev,nv⟩:=hv2.at ei
    have sAll:=(s1.trans s').trans sc
    exact ⟨_,rfl,_,rfl,a,vs,_,v,rfl,rfl,SqL.of (sAll _ _ hv1),Zbl (by omega) (by rw [Int.toNat_natCast]; exact ev),qc v Hc (Same.refl _) (by rw [Zak ei]; exact nv.same sAll)⟩
   ·rw [List.length_map] at zl
    refine q' _ Hc sc ⟨E1,rfl,⟨zs,ec,?_⟩,(Zan hlD hE1).symm,(s1.trans s').free hE1⟩
    rw [emd]
    refine ⟨by rw [List.length_map]; omega,fun k y x f1 f2=>?_⟩
    have hk:k < pl.length:=by have:=(List.getElem?_eq_some_iff.mp f1).1; omega
    rw [List.getElem?_map,List.getElem?_eq_getElem hk] at f2
    cases f2
    have:=zn k y f1
    rwa [Za1 hk] at this
  ·rw [List.length_map] at yl
   obtain ⟨rs',rfl,a2,nD,fr⟩:=Ziu (D:=D) (H1:=H) (p:=p) (M:=mdM M pl) (by rw [List.length_map]; omega) hys
   refine ⟨by decide,fun t' ht'=>?_⟩
   have s3:=Same.new (o:=.tup [V.int n,V.int pl.length,.ref D]) ht'
   have s13:=s1.trans s2
   refine q t' D rs' pl _ (s13.trans s3) ⟨s13.free ht',s1.free hD,fr⟩ ⟨⟨Zad,s3 _ _ e2,a2.mono fun _ _ k=>k.same s3,nD⟩,by rw [List.length_map]; exact hM,fun xs hx=>?_,fun xs hx x hxx=>?_⟩ ld rk
   ·obtain ⟨row,_,rfl⟩:=List.mem_map.mp hx
    rw [List.length_map]
   ·obtain ⟨row,hr,rfl⟩:=List.mem_map.mp hx
    obtain ⟨c,hc,rfl⟩:=List.mem_map.mp hxx
    obtain ⟨i,hi,rfl⟩:=Zbu hc 0
    exact tb.gd row hr _ (Zas (by rw [tb.hw row hr]; exact ld.lt i hi))
def Zno (C PL:Addr):L2.Sp:=fun vs H Q _=>∃ (g t r:Addr) (rs:List Addr) (p:Int) (k n wd:Nat) (M:Mv),vs = [.ref g,.ref t]/\GAt C H g p/\GroundP p/\TabB H p k n wd t r rs M/\n<=24/\wd<=24/\7<=k/\Zdt p k n n<=HB/\(n + 1) * k<=NB/\H PL = some Zp3 /\
 ∀ (t' r':Addr) (rs':List Addr) (N R:Mv) (pl:List Nat) H',Same H H'->New H t' r' rs'->TabB H' p (Zdt p k n n) (frs pl n).length n t' r' rs' (Zik N (frs pl n).length)->Red p k n (Zik M wd) R pl->NulV p R pl n N->Q (.ref t') H'
theorem ok_left {f:Addr} {fd:FuncData} (F:Fun K "left_beside" "left_beside" Zb5 f fd) (T:Txt K mg C) (C_turned_about:Cal P w K mg base "turned_about" 1 spTa) (C_to_nought:Cal P w K mg base "to_nought" 9 (Zqh C PL)):FnOk P w K mg base CX0 10 f fd ["ground","table"] (Zno C PL):=by
 have nd:=Ze6.nd
 refine F.ok Ze6 (fun vs H Q E h=>?_) (fun cdv A outer s H vs Q E hr h=>?_)
 ·obtain ⟨g,t,r,rs,p,k,n,wd,M,rfl,_⟩:=h
  rfl
 ·obtain ⟨g,t,r,rs,p,k,n,wd,M,rfl,hg,hp,tb,n24,w24,k7,nb,kb,hPL,q⟩:=h
  refine ⟨_,(@Zaf _ _ _ (@Zaj _ _ _ _ (Zbb C_turned_about hr.m rfl (@Zag _ _ _ _ _ (Zbb C_to_nought hr.m rfl (@Zag _ _ _ _ _ (pv 0) (@Zag _ _ _ _ _ (Zbb C_turned_about hr.m rfl (@Zag _ _ _ _ _ (pv 1) Zaa (by rfl))) Zaa (by rfl)) (by rfl))) Zaa (by rfl))))),?_⟩
  walk_at "wp"
  refine ⟨p,k,n,wd,t,r,rs,M,rfl,tb,by omega,by omega,fun t1 r1 rs1 H1 s1 nw1 tb1=>?_⟩
  refine ⟨g,t1,r1,rs1,p,k,wd,n,_,rfl,hg.same s1,hp,tb1,w24,n24,k7,nb,kb,s1 _ _ hPL,fun t2 r2 rs2 N R pl H2 s2 nw2 tv2 rd nul=>?_⟩
  obtain ⟨e1,e2,e3,e4,e5,e6⟩:=Zhg hp k7 rd tb1.hl tb1.hw tb1.gd nul
  have s12:=s1.trans s2
  refine ⟨p,Zdt p k n n,n,(frs pl n).length,t2,r2,rs2,N,rfl,⟨tv2,nul.len,e3,e4⟩,by omega,by omega,fun t3 r3 rs3 H3 s3 nw3 tb3=>?_⟩
  exact q t3 r3 rs3 N R pl H3 (s12.trans s3) ⟨s12.free nw3.t,s12.free nw3.r,fun b hb=>s12.free (nw3.rs b hb)⟩ tb3 rd nul
def spIsT:L2.Sp:=fun vs H Q _=>∃ (p:Int) (k n wd:Nat) (t r:Addr) (rs:List Addr) (M:Mv),vs = [.int p,.ref t,.int n,.int wd]/\GroundP p/\TabB H p k n wd t r rs M/\n<=200/\wd<=200/\∀ H',Same H H'->Q (.bl true) H'
theorem ok_ist {f:Addr} {fd:FuncData} (F:Fun K "_law_is_table" "_law_is_table" Zb0 f fd) (T:Txt K mg C) (C_law_good:Cal P w K mg base "_law_good" 3 Znr):FnOk P w K mg base CX0 4 f fd ["_law_p","_law_found","_law_high","_law_wide"] spIsT:=by
 have nd:=Zer.nd
 refine F.ok Zer (fun vs H Q E h=>?_) (fun cdv A outer s H vs Q E hr h=>?_)
 ·obtain ⟨p,k,n,wd,t,r,rs,M,rfl,_⟩:=h
  rfl
 ·obtain ⟨p,k,n,wd,t,r,rs,M,rfl,hp,tb,n24,w24,q⟩:=h
  have hu8:=Zmx hr
  have Zhw:∀ {c A B:Prop} [Decidable c],¬ c->B->if c then A else B:=fun hc h=>by rw [if_neg hc]; exact h
  refine ⟨_,(@Zab _ _ _ _ _ (@Zbf _ _ _ _ _ _ _ _ (PW.pt (Zf2 (Zdr (Zdw (Zbb C_law_good hr.m rfl (@Zag _ _ _ _ _ (pv 0) (@Zag _ _ _ _ _ (pv 1) (@Zag _ _ _ _ _ (pv 1) Zaa (by rfl)) (by rfl)) (by rfl))))) (Zf2 (Zal (Zif hu8) (@Zgo _ _ _ _ _ _ _ _ _ _ Zr5 (pv 1) Zk8 (@Zf4 _ _ _ Zac)) (@Zbd _ _ _ _ _ (@Zag _ _ _ _ _ (pv 2) (@Zag _ _ _ _ _ (pv 3) Zaa (by rfl)) (by rfl))) (Zau _)) (Zfc (Zal Zfj (Zcj Zbi rfl T.n_len PySem.boot_len (@Zag _ _ _ _ _ (@Zat _ _ _ _ _ _ _ Zaw (pv 1) Zac (fun _ _=>rfl)) Zaa (by rfl))) (pv 2) (Zau _)))))) (@Zaf _ _ _ (@Zaj _ _ _ _ Ze5)) Zav) (@Zaf _ _ _ (@Zaj _ _ _ _ (Zcj (Zje rfl) rfl T.n_all boot_all (@Zag _ _ _ _ _ (Zbg (own:=["_law_row"]) (fr:=[("_law_wide",3)]) rfl (Zck (by kernel_rfl)) (Zbt (@Zat _ _ _ _ _ _ _ Zaw (pv 1) Zac (fun _ _=>rfl))) (fun _ _ _ _=>⟨(@Zah _ _ 0 _ (show (["_law_row","_law_wide"]:List Str).Nodup by decide +kernel) rfl (Or.inl rfl) (Or.inr rfl)),Za9,(Zet Zeh (Zcj (Zjd K rfl) rfl T.n_len PySem.boot_len (@Zag _ _ _ _ _ (pv 0) Zaa (by rfl))) (pv 1) (Zau _))⟩)) Zaa (by rfl)))))),?_⟩
  walk_at "wp"
  refine ⟨p,n,wd,t,r,t,r,rs,rs,M,rfl,hp,tb.tv,tb.tv,fun row hr=>by have:=tb.hw row hr; omega,fun H1 s1=>⟨true,rfl,Zlj ?_⟩⟩
  have tb1:=tb.same s1
  refine ⟨t,_,rfl,SqT.of tb1.tv.tup,by show ¬ (0 = 0/\min _ _ = 3); omega,fun P1 hP1=>?_⟩
  have ecut:Zmi [V.int n,V.int wd,V.ref r] none (some 2) = [V.int n,V.int wd]:=rfl
  rw [ecut]
  have s9:=Same.new (o:=.tup [V.int n,V.int wd]) hP1
  refine ⟨by decide,fun P2 hP2=>?_⟩
  have s10:=Same.new (o:=.tup [V.int n,V.int wd]) hP2
  refine ⟨P1,rfl,_,SqT.of (s10 _ _ Zad),_,SqT.of Zad,List.replicate 2 true,Zi2 rfl (fun j x y e1 e2=>?_),Zhw (by rw [Zfh]; decide) ?_⟩
  ·rw [e1] at e2
   cases e2
   match j,e1 with
   | 0,e1=>cases e1; exact Zdc
   | 1,e1=>cases e1; exact Zdc
   | j + 2,e1=>cases e1
  have s110:=(s9.trans s10)
  have tb10:=tb1.same s110
  have s010:=s1.trans s110
  have ls:=tb10.tv.row.1
  have hM:=tb.hl
  generalize upd (upd H1 P1 (.tup [V.int n,V.int wd])) P2 (.tup [V.int n,V.int wd]) = H10 at *
  have eln:((rs.map V.ref).length:Int) = n:=by rw [List.length_map]; omega
  refine ⟨_,SqT.of tb10.tv.tup,_,rfl,r,rfl,_,.inl (SqL.of tb10.tv.lst),?_⟩
  rw [eln]
  refine Zhw (by simp) ?_
  refine ⟨_,rfl,t,_,2,_,rfl,rfl,SqT.of tb10.tv.tup,rfl,r,rfl,⟨_,SqL.of tb10.tv.lst⟩,fun BL hBL=>Zkj (fun _=>true) tb10.tv.lst hBL (by rw [List.length_map]; omega) (fun j x Hc Qc hx sc qc=>?_) fun H11 s11 e11=>?_⟩
  ·obtain ⟨row,er,a,rfl,us,hu1,hu2⟩:=(Za7 tb10.tv.row).at' hx
   have ul:=hu2.1
   have rl:=tb.hw row (List.mem_of_getElem? er)
   have eu:(us.length:Int) = wd:=by omega
   have qt:=qc Hc (Same.refl _)
   refine ⟨_,rfl,a,rfl,us,.inl (SqL.of (sc _ _ hu1)),_,rfl,rfl,?_⟩
   rw [eu,decide_eq_true rfl]
   exact qt
  refine ⟨BL,rfl,_,SqL.of e11,?_⟩
  rw [Zmp]
  exact q H11 (s010.trans s11)
def spNoL:L2.Sp:=fun vs H Q _=>∃ (p:Int) (n wd:Nat),vs = [.int p,.int n,.int wd]/\GroundP p/\n<=24/\wd<=24/\∀ (t r:Addr) (rs:List Addr) H',Same H H'->TabV H' p n wd t r rs (zM n wd)->Q (.ref t) H'
theorem ok_nol {f:Addr} {fd:FuncData} (F:Fun K "_law_noughts" "_law_noughts" Zb8 f fd) (T:Txt K mg C) (C_law_int:Cal P w K mg base "_law_int" 1 Zmu):FnOk P w K mg base CX0 2 f fd ["_law_p","_law_high","_law_wide"] spNoL:=by
 have nd:=Zfa.nd
 refine F.ok Zfa (fun vs H Q E h=>?_) (fun cdv A outer s H vs Q E hr h=>?_)
 ·obtain ⟨p,n,wd,rfl,_⟩:=h
  rfl
 ·obtain ⟨p,n,wd,rfl,hp,n24,w24,q⟩:=h
  refine ⟨_,(@Zaf _ _ _ (@Zaj _ _ _ _ (@Zbd _ _ _ _ _ (@Zag _ _ _ _ _ (pv 1) (@Zag _ _ _ _ _ (pv 2) (@Zag _ _ _ _ _ (Zbg (own:=["_law_k"]) (fr:=[("_law_p",0),("_law_wide",2)]) rfl (Zck (by kernel_rfl)) (Zgj rfl T.n_range (@Zag _ _ _ _ _ (pv 1) Zaa (by rfl))) (fun _ _ _ _=>⟨(@Zah _ _ 0 _ (show (["_law_k","_law_p","_law_wide"]:List Str).Nodup by decide +kernel) rfl (Or.inl rfl) (Or.inr rfl)),Za9,(@Zar _ _ _ _ _ _ _ _ Zn9 (@Zc4 _ _ _ _ (@Zag _ _ _ _ _ (Zbb C_law_int hr.m rfl (@Zag _ _ _ _ _ (pv 1) (@Zag _ _ _ _ _ Zac Zaa (by rfl)) (by rfl))) Zaa (by rfl))) (pv 2))⟩)) Zaa (by rfl)) (by rfl)) (by rfl))))),?_⟩
  walk_at "wp"
  refine ⟨_,rfl,_,rfl,by omega,by omega,fun D hD=>Zoo (p:=p) (n:=n) (fun _=>zR wd) hD (by omega) (fun i H' Q' hi s' q'=>?_) fun rs H3 s3 hD3 al3 nD nds fr=>?_⟩
  ·have wsz:1 * ((wd:Int)).toNat<=sizeLine:=Znu (by omega)
   refine ⟨_,rfl,p,0,rfl,hp,fun nv H2 s2 hnv=>⟨by show 1<=sizeLine; decide,fun o1 ho1=>?_⟩⟩
   rw [Zex] at hnv
   have s5:=Same.new (o:=.lst [nv]) ho1
   refine ⟨_,rfl,o1,_,_,rfl,rfl,Zad,by omega,by omega,wsz,fun o2 ho2=>?_⟩
   rw [rep1,Int.toNat_natCast]
   have s6:=Same.new (o:=.lst (List.replicate wd nv)) ho2
   have t6:=s5.trans s6
   exact q' o2 _ ((s2.trans s5).free ho2) (s2.trans t6) ⟨_,Zad,All2.rep (hnv.same t6) _⟩
  ·refine ⟨by decide,fun t ht=>?_⟩
   have s5:=Same.new (o:=.tup [V.int n,V.int wd,V.ref D]) ht
   exact q t D rs _ (s3.trans s5) ⟨Zad,s5 _ _ hD3,al3.mono fun _ _ q=>q.same s5,nD⟩
theorem Zma {p:Int} {w:Nat} (h:p = 0->w<=4):Zdt p 55 w w<=70656/\7<=Zdt p 55 w w:=by
 constructor
 ·unfold Zdt
  split
  ·rename_i h0
   have:=h h0
   have h1:(w + 1) * 55 + 1<=276:=by omega
   have h2:2 ^ (2 * w)<=2 ^ 8:=Nat.pow_le_pow_right (by decide) (by omega)
   exact Nat.le_trans (Nat.mul_le_mul h1 h2) (by decide)
  ·decide
 ·unfold Zdt
  split
  ·have:((w + 1) * 55 + 1) * 1<=((w + 1) * 55 + 1) * 2 ^ (2 * w):=Nat.mul_le_mul (Nat.le_refl _) (Nat.two_pow_pos _)
   omega
  ·exact Nat.le_refl _
theorem Zsj {p:Int} {k w:Nat} (hk:k<=70656) (h:p = 0->w<=4):p = 0->(k + 1) * 4 ^ w<=134000000:=fun h0=>by
 have:4 ^ w<=4 ^ 4:=Nat.pow_le_pow_right (by decide) (h h0)
 exact Nat.le_trans (Nat.mul_le_mul (show k + 1<=70657 by omega) this) (by decide)
theorem Zle {p:Int} {w:Nat} (h:p = 0->w<=8):p = 0->(55 + 1) * 4 ^ w<=134000000:=fun h0=>by
 have:4 ^ w<=4 ^ 8:=Nat.pow_le_pow_right (by decide) (h h0)
 exact Nat.le_trans (Nat.mul_le_mul (Nat.le_refl _) this) (by decide)
theorem Zsc {m k1 k2:Nat} (hm:m<=24) (h1:k1<=70656) (h2:k2<=70656):7 + m * (k1 + k2 + 8) + k1 + k2 + 7<=134000000:=by
 have:=Nat.mul_le_mul hm (show k1 + k2 + 8<=141320 by omega)
 omega
theorem lm55 {wd:Nat} (h:wd<=48):(wd + 1) * 55<=NB:=Nat.le_trans (show _<=49 * 55 by omega) (by decide)
theorem cut4 {A1 A2 A3 A4 X:TS} {D:Ends} {σ:L2.St} {H:Hp} (h:∀ X',X' = X->Zkt A1 (Zkt A2 (Zkt A3 (Zkt A4 X'))) D σ H):Zkt A1 (Zkt A2 (Zkt A3 (Zkt A4 X))) D σ H:=h X rfl
def Zkz (C PL:Addr):L2.Sp:=fun vs H Q _=>∃ (g t r:Addr) (rs:List Addr) (p:Int) (n wd rk:Nat) (M:Mv),vs = [.ref g,.int p,.ref t,.int (rk:Nat)]/\GAt C H g p/\GroundP p/\TabB H p 55 n wd t r rs M/\n<=24/\wd<=24/\(p = 0->n<=4/\wd<=4)/\H PL = some Zp3/\IsRk p n wd M rk/\∀ H',Same H H'->Q (.bl true) H'
theorem Zq2 {f:Addr} {fd:FuncData} (F:Fun K "_law_right" "_law_right" Zcu f fd) (T:Txt K mg C) (C_to_nought:Cal P w K mg base "to_nought" 9 (Zqh C PL)) (C_made_by:Cal P w K mg base "made_by" 8 (Znl C PL)) (C_left_beside:Cal P w K mg base "left_beside" 10 (Zno C PL)) (C_law_is_table:Cal P w K mg base "_law_is_table" 4 spIsT) (C_law_reduced:Cal P w K mg base "_law_reduced" 5 Zl1) (C_law_product:Cal P w K mg base "_law_product" 4 spLpB) (C_law_noughts:Cal P w K mg base "_law_noughts" 2 spNoL) (C_law_pasted:Cal P w K mg base "_law_pasted" 1 Zk2):FnOk P w K mg base CX0 11 f fd ["_law_ground","_law_p","_law_table_here","_law_due"] (Zkz C PL):=by
 have nd:=Zgc.nd
 refine F.ok Zgc (fun vs H Q E h=>?_) (fun cdv A outer s H vs Q E hr h=>?_)
 ·obtain ⟨g,t,r,rs,p,n,wd,rk,M,rfl,_⟩:=h
  rfl
 ·obtain ⟨g,t,r,rs,p,n,wd,rk,M,rfl,hg,hp,tb,n24,w24,h4,hPL,hrk,q⟩:=h
  have hu8:=Zmx hr
  have Zhw:∀ {c A B:Prop} [Decidable c],¬ c->B->if c then A else B:=fun hc h=>by rw [if_neg hc]; exact h
  have k7:7<=55:=by decide
  have h4n:p = 0->n<=4:=fun h0=>(h4 h0).1
  have h4w:p = 0->wd<=4:=fun h0=>(h4 h0).2
  obtain ⟨nbw,nw7⟩:=Zma h4w
  obtain ⟨nbn,nn7⟩:=Zma h4n
  refine ⟨_,(@Zab _ _ _ _ _ (Zb2 (@Zgo _ _ _ _ _ _ _ _ _ _ Zr5 (pv 2) Zk8 (@Zf4 _ _ _ Zac)) (@Zch _ _ _ _ _ 2 rfl (@Zai _ _ _ _ _ (@Zah _ _ 4 _ nd rfl (Or.inl rfl) (Or.inl rfl)) (@Zai _ _ _ _ _ (@Zah _ _ 5 _ nd rfl (Or.inl rfl) (Or.inl rfl)) (@Zba _) (by rfl)) (by rfl)) (by rfl) (by rfl))) (@Zab _ _ _ _ _ (Zax (i:=6) nd rfl (Or.inl rfl) (Zbb C_to_nought hr.m rfl (@Zag _ _ _ _ _ (pv 0) (@Zag _ _ _ _ _ (pv 2) Zaa (by rfl)) (by rfl)))) (@Zab _ _ _ _ _ (Zax (i:=7) nd rfl (Or.inl rfl) (Zbb C_made_by hr.m rfl (@Zag _ _ _ _ _ (pv 0) (@Zag _ _ _ _ _ (pv 2) Zaa (by rfl)) (by rfl)))) (@Zab _ _ _ _ _ (Zax (i:=8) nd rfl (Or.inl rfl) (Zbb C_left_beside hr.m rfl (@Zag _ _ _ _ _ (pv 0) (@Zag _ _ _ _ _ (pv 2) Zaa (by rfl)) (by rfl)))) (@Zab _ _ _ _ _ (@Zbf _ _ _ _ _ _ _ _ (PW.pt (Zf2 (Zdr (Zdw (Zbb C_law_is_table hr.m rfl (@Zag _ _ _ _ _ (pv 1) (@Zag _ _ _ _ _ (pv 6) (@Zag _ _ _ _ _ (pv 5) (@Zag _ _ _ _ _ (@Zar _ _ _ _ _ _ _ _ Zc5 (pv 5) (pv 3)) Zaa (by rfl)) (by rfl)) (by rfl)) (by rfl))))) (Zfc (Zal Zfj (@Zat _ _ _ _ _ _ _ Zaw (Zbb C_law_reduced hr.m rfl (@Zag _ _ _ _ _ (pv 1) (@Zag _ _ _ _ _ (pv 6) Zaa (by rfl)) (by rfl))) Zac (fun _ _=>rfl)) (@Zar _ _ _ _ _ _ _ _ Zc5 (pv 5) (pv 3)) (Zau _))))) (@Zaf _ _ _ (@Zaj _ _ _ _ Ze5)) Zav) (@Zab _ _ _ _ _ (@Zbf _ _ _ _ _ _ _ _ (PW.pt (Zf2 (Zdr (Zdw (Zbb C_law_is_table hr.m rfl (@Zag _ _ _ _ _ (pv 1) (@Zag _ _ _ _ _ (pv 7) (@Zag _ _ _ _ _ (pv 4) (@Zag _ _ _ _ _ (pv 3) Zaa (by rfl)) (by rfl)) (by rfl)) (by rfl))))) (Zfc (Zal Zfj (@Zat _ _ _ _ _ _ _ Zaw (Zbb C_law_reduced hr.m rfl (@Zag _ _ _ _ _ (pv 1) (@Zag _ _ _ _ _ (pv 7) Zaa (by rfl)) (by rfl))) Zac (fun _ _=>rfl)) (pv 3) (Zau _))))) (@Zaf _ _ _ (@Zaj _ _ _ _ Ze5)) Zav) (@Zab _ _ _ _ _ (@Zbf _ _ _ _ _ _ _ _ (PW.pt (Zf2 (Zdr (Zdw (Zbb C_law_is_table hr.m rfl (@Zag _ _ _ _ _ (pv 1) (@Zag _ _ _ _ _ (pv 8) (@Zag _ _ _ _ _ (@Zar _ _ _ _ _ _ _ _ Zc5 (pv 4) (pv 3)) (@Zag _ _ _ _ _ (pv 4) Zaa (by rfl)) (by rfl)) (by rfl)) (by rfl))))) (Zfc (Zal Zfj (@Zat _ _ _ _ _ _ _ Zaw (Zbb C_law_reduced hr.m rfl (@Zag _ _ _ _ _ (pv 1) (@Zag _ _ _ _ _ (pv 8) Zaa (by rfl)) (by rfl))) Zac (fun _ _=>rfl)) (@Zar _ _ _ _ _ _ _ _ Zc5 (pv 4) (pv 3)) (Zau _))))) (@Zaf _ _ _ (@Zaj _ _ _ _ Ze5)) Zav) (@Zab _ _ _ _ _ (@Zbf _ _ _ _ _ _ _ _ (Zal (Zif hu8) (Zbb C_law_product hr.m rfl (@Zag _ _ _ _ _ (pv 1) (@Zag _ _ _ _ _ (pv 2) (@Zag _ _ _ _ _ (pv 6) Zaa (by rfl)) (by rfl)) (by rfl))) (Zbb C_law_noughts hr.m rfl (@Zag _ _ _ _ _ (pv 1) (@Zag _ _ _ _ _ (pv 4) (@Zag _ _ _ _ _ (@Zar _ _ _ _ _ _ _ _ Zc5 (pv 5) (pv 3)) Zaa (by rfl)) (by rfl)) (by rfl))) (Zau _)) (@Zaf _ _ _ (@Zaj _ _ _ _ Ze5)) Zav) (@Zab _ _ _ _ _ (@Zbf _ _ _ _ _ _ _ _ (Zal (Zif hu8) (Zbb C_law_product hr.m rfl (@Zag _ _ _ _ _ (pv 1) (@Zag _ _ _ _ _ (pv 8) (@Zag _ _ _ _ _ (pv 2) Zaa (by rfl)) (by rfl)) (by rfl))) (Zbb C_law_noughts hr.m rfl (@Zag _ _ _ _ _ (pv 1) (@Zag _ _ _ _ _ (@Zar _ _ _ _ _ _ _ _ Zc5 (pv 4) (pv 3)) (@Zag _ _ _ _ _ (pv 5) Zaa (by rfl)) (by rfl)) (by rfl))) (Zau _)) (@Zaf _ _ _ (@Zaj _ _ _ _ Ze5)) Zav) (@Zab _ _ _ _ _ (@Zbf _ _ _ _ _ _ _ _ (Zal Zfj (@Zat _ _ _ _ _ _ _ Zaw (Zbb C_law_reduced hr.m rfl (@Zag _ _ _ _ _ (pv 1) (@Zag _ _ _ _ _ (Zbb C_law_pasted hr.m rfl (@Zag _ _ _ _ _ (pv 2) (@Zag _ _ _ _ _ (pv 7) Zaa (by rfl)) (by rfl))) Zaa (by rfl)) (by rfl))) Zac (fun _ _=>rfl)) (pv 3) (Zau _)) (@Zaf _ _ _ (@Zaj _ _ _ _ Ze5)) Zav) (@Zab _ _ _ _ _ (Zc3 PassesOwn.never rfl (Zbt (@Zar _ _ _ _ _ _ _ _ Zj1 (@Zar _ _ _ _ _ _ _ _ Zj1 (@Zat _ _ _ _ _ _ _ Zaw (pv 6) Zac (fun _ _=>rfl)) (@Zat _ _ _ _ _ _ _ Zaw (pv 7) Zac (fun _ _=>rfl))) (@Zat _ _ _ _ _ _ _ Zaw (pv 8) Zac (fun _ _=>rfl)))) (@Zah _ _ 9 _ nd rfl (Or.inl rfl) (Or.inl rfl)) (@Zaf _ _ _ (Zeg (Zhv PySem.F.plainAttrs_list PySem.F.slot_list_append PySem.F.type_list_append Zcm (pv 9) (@Zag _ _ _ _ _ Zsb Zaa (by rfl)))))) (@Zaf _ _ _ (@Zaj _ _ _ _ Ze5))))))))))))),?_⟩
  refine cut4 fun X hX=>?_
  walk_at "wp"
  refine ⟨t,_,rfl,SqT.of tb.tv.tup,by show ¬ (0 = 0/\min _ _ = 3); omega,fun P1 hP1=>?_⟩
  have ecut:Zmi [V.int n,V.int wd,V.ref r] none (some 2) = [V.int n,V.int wd]:=rfl
  rw [ecut]
  have s1:=Same.new (o:=.tup [V.int n,V.int wd]) hP1
  have hP1':upd H P1 (.tup [V.int n,V.int wd]) P1 = some (.tup [V.int n,V.int wd]):=Zad
  generalize upd H P1 (.tup [V.int n,V.int wd]) = H1 at *
  refine ⟨P1,rfl,_,SqT.of hP1',rfl,_,_,rfl,_,_,rfl,rfl,?_⟩
  refine ⟨g,t,r,rs,p,55,n,wd,M,rfl,hg.same s1,hp,tb.same s1,n24,w24,k7,Nat.le_trans nbw (by decide),lm55 (by omega),s1 _ _ hPL,fun tN rN rsN N RN plN H2 s2 nwN tvN rdN nulN=>?_⟩
  obtain ⟨a1,a2,a3,a4,a5,a6⟩:=Zhg hp k7 rdN tb.hl tb.hw tb.gd nulN
  have s02:=s1.trans s2
  refine ⟨g,t,r,rs,p,55,n,wd,M,rfl,hg.same s02,hp,tb.same s02,n24,w24,k7,Nat.le_trans nbw (by decide),lm55 (by omega),s02 _ _ hPL,fun tM rM rsM plM H3 s3 nwM tbM ldM rkM=>?_⟩
  have s03:=s02.trans s3
  refine ⟨g,t,r,rs,p,55,n,wd,M,rfl,hg.same s03,hp,tb.same s03,n24,w24,k7,Nat.le_trans nbn (by decide),lm55 (by omega),s03 _ _ hPL,fun tL rL rsL NL RL plL H4 s4 nwL tbL rdL nulL=>?_⟩
  obtain ⟨b1,b2,b3,b4,b5⟩:=Zm3 hp k7 tb.hl tb.hw tb.gd rdL nulL rk hrk
  obtain rfl:=a2.uniq hp hrk
  have eM:=rkM.uniq hp hrk
  have s04:=s03.trans s4
  have lw0:=nulN.len
  have TN:TabB H4 p (Zdt p 55 wd wd) wd (frs plN wd).length tN rN rsN N:=⟨(tvN.same s3).same s4,lw0,a3,a4⟩
  have TM:=tbM.same s4
  have mM:Mat p n wd M:=⟨tb.hl,tb.hw,fun xs hx x hxx=>(tb.gd xs hx x hxx).1⟩
  generalize hf:(frs plN wd).length = fN at *
  generalize hg2:(frs plL n).length = fL at *
  have ef:(wd:Int) - (plN.length:Int) = fN:=by omega
  have eg:(n:Int) - (plN.length:Int) = fL:=by omega
  have fN4:p = 0->fN<=4:=fun h0=>by have:=h4w h0; omega
  have fN24:fN<=24:=by omega
  have fL24:fL<=24:=by omega
  have r24:plM.length<=24:=by omega
  have w200:wd<=200:=by omega
  have n200:n<=200:=by omega
  subst hX
  refine cut2 fun X hX=>?_
  walk_at "wp"
  refine ⟨p,_,wd,fN,tN,rN,rsN,N,by rw [ef],hp,TN,w200,by omega,fun H5 s5=>⟨true,rfl,Zlj ?_⟩⟩
  refine ⟨p,tN,rN,rsN,_,wd,fN,N,rfl,hp,TN.same s5,nw7,w24,Nat.le_trans fN24 (by decide),Zsj nbw fN4,fun t6 tm6 rm6 rsm6 D6 pl6 H6 s6 ht6 nwm6 tbm6 lr6=>?_⟩
  have e6:=(Zot lw0 lr6).uniq hp a5
  have s46:=s5.trans s6
  have neI:∀ {a b:Int},a = b->¬ (!decide (V.int a = V.int b)) = true:=fun e z=>by
   subst e
   simp at z
  refine ⟨t6,rfl,_,SqT.of ht6,_,rfl,rfl,Zhw (neI (by rw [e6,ef])) ?_⟩
  refine ⟨p,55,n,plM.length,tM,rM,rsM,_,by rw [eM],hp,TM.same s46,n200,by omega,fun H7 s7=>⟨true,rfl,Zlj ?_⟩⟩
  have s47:=s46.trans s7
  refine ⟨p,tM,rM,rsM,55,n,plM.length,_,rfl,hp,TM.same s47,k7,n24,Nat.le_trans r24 (by decide),Zle (fun h0=>by have:=h4w h0; omega),fun t8 tm8 rm8 rsm8 D8 pl8 H8 s8 ht8 nwm8 tbm8 lr8=>?_⟩
  have e8:=made_rk hp tb.hl ldM hrk (Zot TM.hl lr8)
  have s48:=s47.trans s8
  refine ⟨t8,rfl,_,SqT.of ht8,_,rfl,rfl,Zhw (neI (by rw [e8])) ?_⟩
  subst hX
  refine cut2 fun X hX=>?_
  walk_at "wp"
  have TL8:=tbL.same s48
  refine ⟨p,_,fL,n,tL,rL,rsL,_,by rw [eg],hp,TL8,by omega,n200,fun H9 s9=>⟨true,rfl,Zlj ?_⟩⟩
  have s49:=s48.trans s9
  refine ⟨p,tL,rL,rsL,_,fL,n,_,rfl,hp,tbL.same s49,nn7,fL24,Nat.le_trans n24 (by decide),Zsj nbn h4n,fun t10 tm10 rm10 rsm10 D10 pl10 H10 s10 ht10 nwm10 tbm10 lr10=>?_⟩
  have e10:=b4 _ (Zot tbL.hl lr10)
  have s410:=s49.trans s10
  have s010:=s04.trans s410
  refine ⟨t10,rfl,_,SqT.of ht10,_,rfl,rfl,Zhw (neI (by rw [e10,eg])) ?_⟩
  refine ⟨t,r,tN,rN,rs,rsN,p,n,wd,fN,55,_,M,N,rfl,hp,tb.same s010,TN.same s410,n200,w200,by omega,Zsc w24 (by decide) nbw,fun ta ra rsa Ha sa tva=>?_⟩
  rw [a6] at tva
  refine ⟨p,n,fN,by rw [ef],hp,n24,fN24,fun tb' rb rsb Hb sb tvb=>⟨ta,rfl,tb',rfl,_,SqT.of (tva.same sb).tup,_,SqT.of tvb.tup,_,TabV.items (tva.same sb) tvb,Zhw (by rw [Zfh]; decide) ?_⟩⟩
  have s10b:=sa.trans sb
  have s4b:=s410.trans s10b
  have s0b:=s04.trans s4b
  subst hX
  refine cut2 fun X hX=>?_
  walk_at "wp"
  refine ⟨tL,rL,t,r,rsL,rs,p,fL,n,wd,_,55,_,M,rfl,hp,tbL.same s4b,tb.same s0b,by omega,n200,w200,Zsc n24 nbn (by decide),fun tc rc rsc Hc sc tvc=>?_⟩
  rw [b5] at tvc
  refine ⟨p,fL,wd,by rw [eg],hp,fL24,w24,fun td rd' rsd Hd sd tvd=>⟨tc,rfl,td,rfl,_,SqT.of (tvc.same sd).tup,_,SqT.of tvd.tup,_,TabV.items (tvc.same sd) tvd,Zhw (by rw [Zfh]; decide) ?_⟩⟩
  have s4d:=s4b.trans (sc.trans sd)
  have s0d:=s04.trans s4d
  refine ⟨t,r,tM,rM,rs,rsM,p,55,n,wd,plM.length,M,_,rfl,tb.same s0d,TM.same s4d,n200,w200,by omega,fun te re rse He se nwe tbe=>?_⟩
  refine ⟨p,te,re,rse,55,n,wd + plM.length,_,rfl,hp,tbe,k7,n24,by omega,Zle (fun h0=>by have:=h4w h0; omega),fun tf' tmf rmf rsmf Df plf Hf sf htf nwmf tbmf lrf=>?_⟩
  have eF:=Zn8 hp tb.hl tb.hw ldM hrk (Zot tbe.hl lrf)
  refine ⟨tf',rfl,_,SqT.of htf,_,rfl,rfl,Zhw (neI (by rw [eF])) ?_⟩
  subst hX
  walk_at "wp"
  have s4f:=s4d.trans (se.trans sf)
  have s0f:=s04.trans s4f
  have TNf:=TN.same s4f
  have TMf:=TM.same s4f
  have TLf:=tbL.same s4f
  have lN:=TNf.tv.row.1
  have lM:=TMf.tv.row.1
  have lL:=TLf.tv.row.1
  have hM0:=TM.hl
  have hL0:=tbL.hl
  have rowsB:∀ b ∈ (rsN ++ rsM) ++ rsL,H b = none/\∃ us,Hf b = some (.lst us)/\us.length<=300:=fun b hb=>by
   rcases List.mem_append.mp hb with hb | hb
   ·rcases List.mem_append.mp hb with h | h
    ·obtain ⟨j,hj,rfl⟩:=List.mem_iff_getElem.mp h
     obtain ⟨row,er,us,hu,al⟩:=TNf.tv.row.at' (List.getElem?_eq_getElem hj)
     have h1:=al.1
     have h2:=TN.hw row (List.mem_of_getElem? er)
     exact ⟨s1.free (nwN.rs _ h),us,hu,by omega⟩
    ·obtain ⟨j,hj,rfl⟩:=List.mem_iff_getElem.mp h
     obtain ⟨row,er,us,hu,al⟩:=TMf.tv.row.at' (List.getElem?_eq_getElem hj)
     have h1:=al.1
     have h2:=TM.hw row (List.mem_of_getElem? er)
     exact ⟨s02.free (nwM.rs _ h),us,hu,by omega⟩
   ·obtain ⟨j,hj,rfl⟩:=List.mem_iff_getElem.mp hb
    obtain ⟨row,er,us,hu,al⟩:=TLf.tv.row.at' (List.getElem?_eq_getElem hj)
    have h1:=al.1
    have h2:=tbL.hw row (List.mem_of_getElem? er)
    exact ⟨s03.free (nwL.rs _ hb),us,hu,by omega⟩
  refine ⟨_,rfl,tN,_,2,_,rfl,rfl,SqT.of TNf.tv.tup,rfl,_,rfl,tM,_,2,_,rfl,rfl,SqT.of TMf.tv.tup,rfl,rN,rM,_,_,rfl,rfl,TNf.tv.lst,TMf.tv.lst,Nat.le_of_lt (Za2 (by rw [List.length_map,List.length_map]; omega)),fun L1 hL1=>?_⟩
  rw [<- List.map_append]
  have sL1:=Same.new (o:=.lst ((rsN ++ rsM).map V.ref)) hL1
  have TLg:=TLf.same sL1
  refine ⟨_,rfl,tL,_,2,_,rfl,rfl,SqT.of TLg.tv.tup,rfl,L1,rL,_,_,rfl,rfl,Zad,TLg.tv.lst,Nat.le_of_lt (Za2 (by rw [List.length_map,List.length_map,List.length_append]; omega)),fun LL hLL=>?_⟩
  rw [<- List.map_append]
  have sLL:=Same.new (o:=.lst (((rsN ++ rsM) ++ rsL).map V.ref)) hLL
  have sG:=sL1.trans sLL
  have nLL:∀ b ∈ (rsN ++ rsM) ++ rsL,b ≠ LL:=fun b hb z=>by
   obtain ⟨_,us,hu,_⟩:=rowsB b hb
   have:=sL1 _ _ hu
   rw [z,hLL] at this
   cases this
  refine ⟨LL,rfl,⟨_,SqL.of Zad⟩,Zfu (xs:=((rsN ++ rsM) ++ rsL).map V.ref) (fun j σ H15=>∃ v9:Option V,σ = [some (V.ref g),some (V.int p),some (V.ref t),some (V.int (plN.length:Nat)),some (V.int n),some (V.int wd),some (V.ref tN),some (V.ref tM),some (V.ref tL),v9]/\Same H H15/\H15 LL = some (.lst (((rsN ++ rsM) ++ rsL).map V.ref))/\∀ b ∈ (rsN ++ rsM) ++ rsL,∃ us,H15 b = some (.lst us)/\us.length<=300 + j)
   ⟨_,rfl,s0f.trans sG,Zad,fun b hb=>by obtain ⟨_,us,hu,ul⟩:=rowsB b hb; exact ⟨us,sG _ _ hu,by omega⟩⟩ (fun j σ H15 _ ⟨_,_,_,e,_⟩=>SqL.of e) ?_ ?_⟩
  ·rintro j x σ H15 hx ⟨v9',rfl,s15,hL15,ha15⟩
   rw [List.getElem?_map] at hx
   cases eb:((rsN ++ rsM) ++ rsL)[j]? with
   | none=>rw [eb] at hx; cases hx
   | some b=>
    rw [eb] at hx
    cases hx
    have hb:=List.mem_of_getElem? eb
    have hjl:j < ((rsN ++ rsM) ++ rsL).length:=(List.getElem?_eq_some_iff.mp eb).1
    rw [List.length_append,List.length_append] at hjl
    obtain ⟨us,hu,ul⟩:=ha15 b hb
    walk_at "wp"
    refine ⟨tyL hu,_,hu,Za2 (by omega),s15.upd (rowsB b hb).1,?_,fun c hc=>?_⟩
    ·rw [Zap (Ne.symm (nLL b hb))]
     exact hL15
    ·by_cases hcb:c = b
     ·subst hcb
      exact ⟨_,Zad,by rw [List.length_append]; show us.length + 1<=_; omega⟩
     ·obtain ⟨us',hu',ul'⟩:=ha15 c hc
      exact ⟨us',by rw [Zap hcb]; exact hu',by omega⟩
  ·rintro σ H15 ⟨v9',rfl,s15,hL15,ha15⟩
   walk_at "wp"
   exact q H15 s15
def Zqj (K:PySem.W.Frag) (PL:Addr):L2.Sp:=fun vs H Q _=>∃ (a:Addr) (ns:List Int),vs = [.ref a]/\SqL K H a (ns.map V.int)/\ns.length<=63/\H PL = some Zp3/\∀ H',H' PL = some Zp3->Q (.bl true) H'
theorem ok_law {f:Addr} {fd:FuncData} (F:Fun K "law" "law" Zit f fd) (T:Txt K mg C) (C_law_cell:Cal P w K mg base "_law_cell" 1 (Znt K)) (C_law_bag:Cal P w K mg base "_law_bag" 1 spBag) (C_law_drawn:Cal P w K mg base "_law_drawn" 6 Zk4) (C_law_copy:Cal P w K mg base "_law_copy" 1 Zl2) (C_law_reduced:Cal P w K mg base "_law_reduced" 5 Zl1) (C_Ground:CalI P w K mg base "Ground" C 3 (Znq C)) (C_law_right:Cal P w K mg base "_law_right" 11 (Zkz C PL)):FnOk P w K mg base CX0 12 f fd ["_law_script"] (Zqj K PL):=by
 have nd:=Zr6.nd
 refine F.ok Zr6 (fun vs H Q E h=>?_) (fun cdv A outer s H vs Q E hr h=>?_)
 ·obtain ⟨a,ns,rfl,_⟩:=h
  rfl
 ·obtain ⟨a,ns,rfl,hS,hl,hPL,q⟩:=h
  have hu8:=Zmx hr
  refine ⟨_,(@Zab _ _ _ _ _ (Zc3 PassesOwn.never rfl (Zn4 rfl T.n_enumerate (@Zag _ _ _ _ _ (@Zar _ _ _ _ _ _ _ _ Zj1 (@Zc4 _ _ _ _ (@Zag _ _ _ _ _ (Zbb C_law_cell hr.m rfl (@Zag _ _ _ _ _ (pv 0) (@Zag _ _ _ _ _ Zac Zaa (by rfl)) (by rfl))) (@Zag _ _ _ _ _ Zac Zaa (by rfl)) (by rfl))) (@Zgo _ _ _ _ _ _ _ _ _ _ Znv (pv 0) (@Zf4 _ _ _ Zac) (@Zf4 _ _ _ Zac))) Zaa (by rfl))) (@Zch _ _ _ _ _ 2 rfl (@Zai _ _ _ _ _ (@Zah _ _ 1 _ nd rfl (Or.inl rfl) (Or.inl rfl)) (@Zai _ _ _ _ _ (@Zah _ _ 2 _ nd rfl (Or.inl rfl) (Or.inl rfl)) (@Zba _) (by rfl)) (by rfl)) (by rfl) (by rfl)) (@Zab _ _ _ _ _ (Zb2 (Zbb C_law_drawn hr.m rfl (@Zag _ _ _ _ _ (Zbb C_law_bag hr.m rfl (@Zag _ _ _ _ _ (pv 2) Zaa (by rfl))) (@Zag _ _ _ _ _ (pv 1) Zaa (by rfl)) (by rfl))) (@Zch _ _ _ _ _ 2 rfl (@Zai _ _ _ _ _ (@Zah _ _ 3 _ nd rfl (Or.inl rfl) (Or.inl rfl)) (@Zai _ _ _ _ _ (@Zah _ _ 4 _ nd rfl (Or.inl rfl) (Or.inl rfl)) (@Zba _) (by rfl)) (by rfl)) (by rfl) (by rfl))) (@Zab _ _ _ _ _ (Zax (i:=5) nd rfl (Or.inl rfl) (Zbb C_law_copy hr.m rfl (@Zag _ _ _ _ _ (pv 4) Zaa (by rfl)))) (@Zab _ _ _ _ _ (Zax (i:=6) nd rfl (Or.inl rfl) (@Zat _ _ _ _ _ _ _ Zaw (Zbb C_law_reduced hr.m rfl (@Zag _ _ _ _ _ (pv 3) (@Zag _ _ _ _ _ (pv 4) Zaa (by rfl)) (by rfl))) Zac (fun _ _=>rfl))) (@Zaf _ _ _ (Zc3 PassesOwn.never rfl (Zgj rfl T.n_range (@Zag _ _ _ _ _ (@Zar _ _ _ _ _ _ _ _ Zc6 Zac (Zqw Zkl rfl T.n_int boot_int (@Zag _ _ _ _ _ (Zet Ziz (@Zat _ _ _ _ _ _ _ Zaw (pv 4) Zac (fun _ _=>rfl)) Zac (Zau _)) Zaa (by rfl)))) Zaa (by rfl))) (@Zah _ _ 7 _ nd rfl (Or.inl rfl) (Or.inl rfl)) (@Zaf _ _ _ (@Zbf _ _ _ _ _ _ _ _ (PW.pt (Zf2 (Zdr (Zdw (Zbb C_law_right hr.m rfl (@Zag _ _ _ _ _ (pe_n C_Ground hr.m rfl (@Zag _ _ _ _ _ (pv 3) Zaa (by rfl))) (@Zag _ _ _ _ _ (pv 3) (@Zag _ _ _ _ _ (pv 5) (@Zag _ _ _ _ _ (pv 6) Zaa (by rfl)) (by rfl)) (by rfl)) (by rfl))))) (Zfc (Zal (Zif hu8) (pv 5) (pv 4) (Zau _))))) (@Zaf _ _ _ (@Zaj _ _ _ _ Ze5)) Zav)))))))) (@Zaf _ _ _ (@Zaj _ _ _ _ Ze5))),?_⟩
  obtain ⟨ms,hms,hml⟩:=Zrt ns (some 1) (some 6)
  walk_at "wp"
  refine ⟨_,rfl,a,ns,0,rfl,hS,hl,by decide,fun c0=>⟨by show 2<=sizeLine; decide,fun p1 hp1=>⟨_,rfl,_,rfl,_,rfl,a,_,rfl,(Same.new hp1).seq hS,fun p2 hp2=>?_⟩⟩⟩
  rw [hms] at *
  have s1:=Same.new (o:=.lst [V.int c0,V.int 3]) hp1
  have s2:=Same.new (o:=.lst (ms.map V.int)) hp2
  refine ⟨p1,p2,_,_,rfl,rfl,s2 _ _ Zad,Zad,Nat.le_of_lt (Za2 (by rw [List.length_map]; show 2 + ms.length<=1000; omega)),fun p3 hp3=>?_⟩
  have hz:[V.int c0,V.int 3] ++ ms.map V.int = (c0 :: 3 :: ms).map V.int:=rfl
  rw [hz]
  have s3:=Same.new (o:=.lst ((c0 :: 3 :: ms).map V.int)) hp3
  have sP:=(s1.trans s2).trans s3
  refine ⟨p3,rfl,⟨_,SqL.of Zad⟩,Zpk (xs:=(c0 :: 3 :: ms).map V.int) (fun i σ H2=>∃ v1 v2 v3 v4 v5 v6 v7:Option V,σ = [some (.ref a),v1,v2,v3,v4,v5,v6,v7]/\H2 p3 = some (.lst ((c0 :: 3 :: ms).map V.int))/\H2 PL = some Zp3)
   ⟨none,none,none,none,none,none,none,rfl,Zad,sP _ _ hPL⟩ (fun i σ H2 _ ⟨_,_,_,_,_,_,_,_,sH,_⟩=>SqL.of sH) ?_ ?_⟩
  ·rintro i x pp σ H2' hi hpp ⟨v1,v2,v3,v4,v5,v6,v7,rfl,h2',hP2⟩
   obtain ⟨c,rfl⟩:∃ c:Int,x = .int c:=by
    rw [List.getElem?_map] at hi
    cases e:(c0 :: 3 :: ms)[i]? with
    | none=>rw [e] at hi; cases hi
    | some c=>rw [e] at hi; cases hi; exact ⟨c,rfl⟩
   have spp:=Same.new (o:=.tup [.int i,.int c]) hpp
   have hpt:upd H2' pp (.tup [.int i,.int c]) pp = some (.tup [.int i,.int c]):=Zad
   have h2:=spp _ _ h2'
   have hP2':=spp _ _ hP2
   generalize upd H2' pp (.tup [.int i,.int c]) = H2 at *
   walk_at "wp"
   refine ⟨_,SqT.of hpt,rfl,_,_,rfl,_,_,rfl,rfl,c,rfl,fun l xa xb hl0 xb0 xb1=>?_⟩
   have b3:Bag (upd H2 l (BagV xa xb)) l:=Bag.set xb0 xb1
   have sl:=Same.new (o:=BagV xa xb) hl0
   have n3:p3 ≠ l:=Zan h2 hl0
   have nP:PL ≠ l:=Zan hP2' hl0
   refine ⟨l,i,rfl,b3,fun p hh wd t' t r rs H4 e4 ht' hp h0 h1 w0 w1 h4 tb=>?_⟩
   have h4':=e4 _ _ n3 (sl _ _ h2)
   have hP4:=e4 _ _ nP (sl _ _ hP2')
   refine ⟨t',rfl,_,SqT.of ht',rfl,_,_,rfl,_,_,rfl,rfl,?_⟩
   obtain ⟨M,tq⟩:=tabB_of h0 w0 tb
   have n24:hh.toNat<=24:=by omega
   have w24:wd.toNat<=24:=by omega
   have h44:p = 0->hh.toNat<=4/\wd.toNat<=4:=fun z=>⟨by have:=(h4 z).1; omega,by have:=(h4 z).2; omega⟩
   have lim1:p = 0->(55 + 1) * 4 ^ wd.toNat<=134000000:=Zle (fun z=>by have:=(h44 z).2; omega)
   refine ⟨p,_,_,t,r,rs,M,rfl,tq.tv,by rw [tq.hl]; omega,fun t5 r5 rs5 H5 s5 nw5 tb5=>?_⟩
   refine ⟨p,t,r,rs,55,_,_,M,rfl,hp,tq.same s5,by decide,n24,Nat.le_trans w24 (by decide),lim1,fun t6 tm6 rm6 rsm6 D6 pl6 H6 s6 ht6 nwm6 tbm6 lr6=>?_⟩
   have rkM:=Zot tq.hl lr6
   have s46:=s5.trans s6
   have T5:TabB H6 p 55 hh.toNat wd.toNat t5 r5 rs5 M:=⟨tb5.same s6,tq.hl,tq.hw,tq.gd⟩
   have T6:=tq.same s46
   refine ⟨t6,rfl,_,SqT.of ht6,_,rfl,?_⟩
   have h6:=s46 _ _ h4'
   have hP6:=s46 _ _ hP4
   refine ⟨_,rfl,t,_,1,_,rfl,rfl,SqT.of T6.tv.tup,rfl,_,_,rfl,rfl,.inr ⟨_,rfl,_,_,rfl,rfl,_,rfl,by split <;> omega,by split <;> omega,Zc9 (fun j σ H7=>∃ v7:Option V,σ = [some (V.ref a),some (V.int i),some (V.int c),some (V.int p),some (V.ref t),some (V.ref t5),some (V.int (pl6.length:Nat)),v7]/\Same H6 H7) ⟨_,rfl,Same.refl _⟩ ?_ ?_⟩⟩
   ·rintro j σ H7 hj ⟨v7',rfl,s7⟩
    have Zhw:∀ {c A B:Prop} [Decidable c],¬ c->B->if c then A else B:=fun hc h=>by rw [if_neg hc]; exact h
    walk_at "wp"
    refine fun x dx hx hdx ndx=>?_
    have fx1:(upd H7 dx (.own x)) x = none:=by rw [Zap ndx.symm]; exact hx
    have s89:Same H7 (upd (upd H7 dx (.own x)) x (.ins C dx [])):=(Same.new hdx).trans (Same.new fx1)
    refine ⟨x,dx,p,rfl,Zad,hp,fun H9 ex9 hx9=>⟨rfl,?_⟩⟩
    have s9:Same H7 H9:=Same.thru s89 hx ex9
    have s69:=s7.trans s9
    refine ⟨x,t5,r5,rs5,p,hh.toNat,wd.toNat,pl6.length,M,rfl,⟨dx,hx9⟩,hp,T5.same s69,n24,w24,h44,s69 _ _ hP6,rkM,fun H10 s10=>⟨true,rfl,Zlj ?_⟩⟩
    have s610:=s69.trans s10
    refine ⟨_,SqT.of (T5.same s610).tv.tup,_,SqT.of (T6.same s610).tv.tup,_,TabV.items (T5.same s610).tv (T6.same s610).tv,Zhw (by rw [Zfh]; decide) ?_⟩
    exact s610
   ·rintro σ H7 ⟨v7',rfl,s7⟩
    exact ⟨_,_,_,_,_,_,_,rfl,s7 _ _ h6,s7 _ _ hP6⟩
  ·rintro σ H2 ⟨v1,v2,v3,v4,v5,v6,v7,rfl,h2,hP2⟩
   walk_at "wp"
   exact q H2 hP2
end
end Pf
set_option maxHeartbeats 4000000
namespace Pf
open PySem L2 PyProof.Rows
open PySem.W (nsIn codeIn keepIn fnOf findIn isFn mg_of mg_none_of plainGet hasDictIn plainOver makesIn)
theorem all_mk {l:PySem.W.OpenLaw} {w:World} {K:PySem.W.Frag} {h:Heap} {mg:Str->Option Value} {fa C:Addr} {t1 t2 t3:Tok} (hpt:l.prog.given.tree = none) {cL PL:Addr} (X:K.In h) (G:h.Ns mainGlobals mg) (hfa:mg "law" = some (.ref fa))
  {f1 f2 f3 f4 f5 f6 f7 f8 f9 f10 f11 f12 f13 f14 f15 f16 f17 f18 f19 f20 f21 f22 f23 f24 f25 f26 f27 f28 f29 f30 f31 f32 f33 f34 f35 f36 f37 f38 f39 f40 f41 f42 f43 f44 f45 f46 f47 f48 f49 f50:Addr} {od1 an1 od2 an2 od3 an3 od4 an4 od5 an5 od6 an6 od7 an7 od8 an8 od9 an9 od10 an10 od11 an11 od12 an12 od13 an13 od14 an14 od15 an15 od16 an16 od17 an17 od18 an18 od19 an19 od20 an20 od21 an21 od22 an22 od23 an23 od24 an24 od25 an25 od26 an26 od27 an27 od28 an28 od29 an29 od30 an30 od31 an31 od32 an32 od33 an33 od34 an34 od35 an35 od36 an36 od37 an37 od38 an38 od39 an39 od40 an40 od41 an41 od42 an42 od43 an43 od44 an44 od45 an45 od46 an46 od47 an47 od48 an48 od49 an49 od50 an50:Option Addr} {sl1 sl2 sl3 sl4 sl5 sl6 sl7 sl8 sl9 sl10 sl11 sl12 sl13 sl14 sl15 sl16 sl17 sl18 sl19 sl20 sl21 sl22 sl23 sl24 sl25 sl26 sl27 sl28 sl29 sl30 sl31 sl32 sl33 sl34 sl35 sl36 sl37 sl38 sl39 sl40 sl41 sl42 sl43 sl44 sl45 sl46 sl47 sl48 sl49 sl50:Array (Option Value)} {oc1 kV1 dc1 pm1 ct1 cd1 oc2 kV2 dc2 pm2 ct2 cd2 oc3 kV3 dc3 pm3 ct3 cd3 oc4 kV4 dc4 pm4 ct4 cd4 oc5 kV5 dc5 pm5 ct5 cd5 oc6 kV6 dc6 pm6 ct6 cd6 oc7 kV7 dc7 pm7 ct7 cd7 oc8 kV8 dc8 pm8 ct8 cd8 oc9 kV9 dc9 pm9 ct9 cd9 oc10 kV10 dc10 pm10 ct10 oc11 kV11 dc11 pm11 ct11 cd11 oc12 kV12 dc12 pm12 ct12 cd12 oc13 kV13 dc13 pm13 ct13 cd13 oc14 kV14 dc14 pm14 ct14 cd14 oc15 kV15 dc15 pm15 ct15 cd15 oc16 kV16 dc16 pm16 ct16 cd16 oc17 kV17 dc17 pm17 ct17 cd17 oc18 kV18 dc18 pm18 ct18 cd18 oc19 kV19 dc19 pm19 ct19 cd19 oc20 kV20 dc20 pm20 ct20 cd20 oc21 kV21 dc21 pm21 ct21 cd21 oc22 kV22 dc22 pm22 ct22 cd22 oc23 kV23 dc23 pm23 ct23 cd23 oc24 kV24 dc24 pm24 ct24 cd24 oc25 kV25 dc25 pm25 ct25 cd25 oc26 kV26 dc26 pm26 ct26 cd26 oc27 kV27 dc27 pm27 ct27 cd27 oc28 kV28 dc28 pm28 ct28 cd28 oc29 kV29 dc29 pm29 ct29 cd29 oc30 kV30 dc30 pm30 ct30 cd30 oc31 kV31 dc31 pm31 ct31 cd31 oc32 kV32 dc32 pm32 ct32 cd32 oc33 kV33 dc33 pm33 ct33 cd33 oc34 kV34 dc34 pm34 ct34 cd34 oc35 kV35 dc35 pm35 ct35 cd35 oc36 kV36 dc36 pm36 ct36 cd36 oc37 kV37 dc37 pm37 ct37 cd37 oc38 kV38 dc38 pm38 ct38 cd38 oc39 kV39 dc39 pm39 ct39 cd39 oc40 kV40 dc40 pm40 ct40 cd40 oc41 kV41 dc41 pm41 ct41 cd41 oc42 kV42 dc42 pm42 ct42 cd42 oc43 kV43 dc43 pm43 ct43 cd43 oc44 kV44 dc44 pm44 ct44 cd44 oc45 kV45 dc45 pm45 ct45 cd45 oc46 kV46 dc46 pm46 ct46 cd46 oc47 kV47 dc47 pm47 ct47 cd47 oc48 kV48 dc48 pm48 ct48 cd48 oc49 kV49 dc49 pm49 ct49 cd49 oc50 kV50 dc50 pm50 ct50 cd50:Value}
  {D50:Addr} {doc50:Value} {dod50:Option Addr} {dosl50:Array (Option Value)} {dn50:Nat} {dt50:Tok}
  (a1:nsIn K mainGlobals "is_whole" = some (some (.ref f1)))
  (l1:K.lookup f1 = some ⟨oc1,od1,.func (fnOf "is_whole" "is_whole" (Zao Zdl) (Zam Zdl) (Zae Zdl) .none kV1 dc1 pm1 an1 cd1 ct1),sl1⟩)
  (c1:codeIn K cd1 "is_whole" = true)
  (k1:keepIn K (.ref f1) = true)
  (a2:nsIn K mainGlobals "common_divisor" = some (some (.ref f2)))
  (l2:K.lookup f2 = some ⟨oc2,od2,.func (fnOf "common_divisor" "common_divisor" (Zao Zbm) (Zam Zbm) (Zae Zbm) .none kV2 dc2 pm2 an2 cd2 ct2),sl2⟩)
  (c2:codeIn K cd2 "common_divisor" = true)
  (k2:keepIn K (.ref f2) = true)
  (a3:nsIn K mainGlobals "not_both_long" = some (some (.ref f3)))
  (l3:K.lookup f3 = some ⟨oc3,od3,.func (fnOf "not_both_long" "not_both_long" (Zao Zbo) (Zam Zbo) (Zae Zbo) .none kV3 dc3 pm3 an3 cd3 ct3),sl3⟩)
  (c3:codeIn K cd3 "not_both_long" = true)
  (k3:keepIn K (.ref f3) = true)
  (a4:nsIn K mainGlobals "shortened" = some (some (.ref f4)))
  (l4:K.lookup f4 = some ⟨oc4,od4,.func (fnOf "shortened" "shortened" (Zao Zcr) (Zam Zcr) (Zae Zcr) .none kV4 dc4 pm4 an4 cd4 ct4),sl4⟩)
  (c4:codeIn K cd4 "shortened" = true)
  (k4:keepIn K (.ref f4) = true)
  (a5:nsIn K mainGlobals "leading_steps" = some (some (.ref f5)))
  (l5:K.lookup f5 = some ⟨oc5,od5,.func (fnOf "leading_steps" "leading_steps" (Zao Zbp) (Zam Zbp) (Zae Zbp) .none kV5 dc5 pm5 an5 cd5 ct5),sl5⟩)
  (c5:codeIn K cd5 "leading_steps" = true)
  (k5:keepIn K (.ref f5) = true)
  (a6:nsIn K mainGlobals "common_multiple" = some (some (.ref f6)))
  (l6:K.lookup f6 = some ⟨oc6,od6,.func (fnOf "common_multiple" "common_multiple" (Zao Zbj) (Zam Zbj) (Zae Zbj) .none kV6 dc6 pm6 an6 cd6 ct6),sl6⟩)
  (c6:codeIn K cd6 "common_multiple" = true)
  (k6:keepIn K (.ref f6) = true)
  (a7:nsIn K mainGlobals "whole_row" = some (some (.ref f7)))
  (l7:K.lookup f7 = some ⟨oc7,od7,.func (fnOf "whole_row" "whole_row" (Zao Zcp) (Zam Zcp) (Zae Zcp) .none kV7 dc7 pm7 an7 cd7 ct7),sl7⟩)
  (c7:codeIn K cd7 "whole_row" = true)
  (k7:keepIn K (.ref f7) = true)
  (a8:nsIn K mainGlobals "tidied" = some (some (.ref f8)))
  (l8:K.lookup f8 = some ⟨oc8,od8,.func (fnOf "tidied" "tidied" (Zao Ze3) (Zam Ze3) (Zae Ze3) .none kV8 dc8 pm8 an8 cd8 ct8),sl8⟩)
  (c8:codeIn K cd8 "tidied" = true)
  (k8:keepIn K (.ref f8) = true)
  (a9:nsIn K mainGlobals "cleared" = some (some (.ref f9)))
  (l9:K.lookup f9 = some ⟨oc9,od9,.func (fnOf "cleared" "cleared" (Zao Zeb) (Zam Zeb) (Zae Zeb) .none kV9 dc9 pm9 an9 cd9 ct9),sl9⟩)
  (c9:codeIn K cd9 "cleared" = true)
  (k9:keepIn K (.ref f9) = true)
  (a10:nsIn K mainGlobals "leading_row" = some (some (.ref f10)))
  (l10:K.lookup f10 = some ⟨oc10,od10,.func (fnOf "leading_row" "leading_row" (Zao Zbs) (Zam Zbs) (Zae Zbs) .none kV10 dc10 pm10 an10 (.ref cL) ct10),sl10⟩)
  (c10:codeIn K (.ref cL) "leading_row" = true)
  (k10:keepIn K (.ref f10) = true)
  (a11:nsIn K mainGlobals "swept" = some (some (.ref f11)))
  (l11:K.lookup f11 = some ⟨oc11,od11,.func (fnOf "swept" "swept" (Zao Zf1) (Zam Zf1) (Zae Zf1) .none kV11 dc11 pm11 an11 cd11 ct11),sl11⟩)
  (c11:codeIn K cd11 "swept" = true)
  (k11:keepIn K (.ref f11) = true)
  (a12:nsIn K mainGlobals "reduced_rows" = some (some (.ref f12)))
  (l12:K.lookup f12 = some ⟨oc12,od12,.func (fnOf "reduced_rows" "reduced_rows" (Zao Zbz) (Zam Zbz) (Zae Zbz) .none kV12 dc12 pm12 an12 cd12 ct12),sl12⟩)
  (c12:codeIn K cd12 "reduced_rows" = true)
  (k12:keepIn K (.ref f12) = true)
  (a13:nsIn K mainGlobals "noughts" = some (some (.ref f13)))
  (l13:K.lookup f13 = some ⟨oc13,od13,.func (fnOf "noughts" "noughts" (Zao Zd5) (Zam Zd5) (Zae Zd5) .none kV13 dc13 pm13 an13 cd13 ct13),sl13⟩)
  (c13:codeIn K cd13 "noughts" = true)
  (k13:keepIn K (.ref f13) = true)
  (a14:nsIn K mainGlobals "is_prime" = some (some (.ref f14)))
  (l14:K.lookup f14 = some ⟨oc14,od14,.func (fnOf "is_prime" "is_prime" (Zao Zdm) (Zam Zdm) (Zae Zdm) .none kV14 dc14 pm14 an14 cd14 ct14),sl14⟩)
  (c14:codeIn K cd14 "is_prime" = true)
  (k14:keepIn K (.ref f14) = true)
  (a15:nsIn K mainGlobals "tells_ground" = some (some (.ref f15)))
  (l15:K.lookup f15 = some ⟨oc15,od15,.func (fnOf "tells_ground" "tells_ground" (Zao Zby) (Zam Zby) (Zae Zby) .none kV15 dc15 pm15 an15 cd15 ct15),sl15⟩)
  (c15:codeIn K cd15 "tells_ground" = true)
  (k15:keepIn K (.ref f15) = true)
  (a16:nsIn K mainGlobals "fraction" = some (some (.ref f16)))
  (l16:K.lookup f16 = some ⟨oc16,od16,.func (fnOf "fraction" "fraction" (Zao Zdn) (Zam Zdn) (Zae Zdn) .none kV16 dc16 pm16 an16 cd16 ct16),sl16⟩)
  (c16:codeIn K cd16 "fraction" = true)
  (k16:keepIn K (.ref f16) = true)
  (a17:nsIn K mainGlobals "inverse" = some (some (.ref f17)))
  (l17:K.lookup f17 = some ⟨oc17,od17,.func (fnOf "inverse" "inverse" (Zao Zea) (Zam Zea) (Zae Zea) .none kV17 dc17 pm17 an17 cd17 ct17),sl17⟩)
  (c17:codeIn K cd17 "inverse" = true)
  (k17:keepIn K (.ref f17) = true)
  (a18:nsIn K mainGlobals "rest_of" = some (some (.ref f18)))
  (l18:K.lookup f18 = some ⟨oc18,od18,.func (fnOf "rest_of" "rest_of" (Zao Zd4) (Zam Zd4) (Zae Zd4) .none kV18 dc18 pm18 an18 cd18 ct18),sl18⟩)
  (c18:codeIn K cd18 "rest_of" = true)
  (k18:keepIn K (.ref f18) = true)
  (a19:nsIn K mainGlobals "_law_cell" = some (some (.ref f19)))
  (l19:K.lookup f19 = some ⟨oc19,od19,.func (fnOf "_law_cell" "_law_cell" (Zao Zdj) (Zam Zdj) (Zae Zdj) .none kV19 dc19 pm19 an19 cd19 ct19),sl19⟩)
  (c19:codeIn K cd19 "_law_cell" = true)
  (k19:keepIn K (.ref f19) = true)
  (a20:nsIn K mainGlobals "_law_bag" = some (some (.ref f20)))
  (l20:K.lookup f20 = some ⟨oc20,od20,.func (fnOf "_law_bag" "_law_bag" (Zao Zd9) (Zam Zd9) (Zae Zd9) .none kV20 dc20 pm20 an20 cd20 ct20),sl20⟩)
  (c20:codeIn K cd20 "_law_bag" = true)
  (k20:keepIn K (.ref f20) = true)
  (a21:nsIn K mainGlobals "_law_draw" = some (some (.ref f21)))
  (l21:K.lookup f21 = some ⟨oc21,od21,.func (fnOf "_law_draw" "_law_draw" (Zao Zdh) (Zam Zdh) (Zae Zdh) .none kV21 dc21 pm21 an21 cd21 ct21),sl21⟩)
  (c21:codeIn K cd21 "_law_draw" = true)
  (k21:keepIn K (.ref f21) = true)
  (a22:nsIn K mainGlobals "_law_gcd" = some (some (.ref f22)))
  (l22:K.lookup f22 = some ⟨oc22,od22,.func (fnOf "_law_gcd" "_law_gcd" (Zao Zd8) (Zam Zd8) (Zae Zd8) .none kV22 dc22 pm22 an22 cd22 ct22),sl22⟩)
  (c22:codeIn K cd22 "_law_gcd" = true)
  (k22:keepIn K (.ref f22) = true)
  (a23:nsIn K mainGlobals "_law_lowest" = some (some (.ref f23)))
  (l23:K.lookup f23 = some ⟨oc23,od23,.func (fnOf "_law_lowest" "_law_lowest" (Zao Zbr) (Zam Zbr) (Zae Zbr) .none kV23 dc23 pm23 an23 cd23 ct23),sl23⟩)
  (c23:codeIn K cd23 "_law_lowest" = true)
  (k23:keepIn K (.ref f23) = true)
  (a24:nsIn K mainGlobals "_law_whole" = some (some (.ref f24)))
  (l24:K.lookup f24 = some ⟨oc24,od24,.func (fnOf "_law_whole" "_law_whole" (Zao Zcs) (Zam Zcs) (Zae Zcs) .none kV24 dc24 pm24 an24 cd24 ct24),sl24⟩)
  (c24:codeIn K cd24 "_law_whole" = true)
  (k24:keepIn K (.ref f24) = true)
  (a25:nsIn K mainGlobals "_law_prime" = some (some (.ref f25)))
  (l25:K.lookup f25 = some ⟨oc25,od25,.func (fnOf "_law_prime" "_law_prime" (Zao Zcv) (Zam Zcv) (Zae Zcv) .none kV25 dc25 pm25 an25 cd25 ct25),sl25⟩)
  (c25:codeIn K cd25 "_law_prime" = true)
  (k25:keepIn K (.ref f25) = true)
  (a26:nsIn K mainGlobals "_law_number" = some (some (.ref f26)))
  (l26:K.lookup f26 = some ⟨oc26,od26,.func (fnOf "_law_number" "_law_number" (Zao Zcg) (Zam Zcg) (Zae Zcg) .none kV26 dc26 pm26 an26 cd26 ct26),sl26⟩)
  (c26:codeIn K cd26 "_law_number" = true)
  (k26:keepIn K (.ref f26) = true)
  (a27:nsIn K mainGlobals "_law_add" = some (some (.ref f27)))
  (l27:K.lookup f27 = some ⟨oc27,od27,.func (fnOf "_law_add" "_law_add" (Zao Zdq) (Zam Zdq) (Zae Zdq) .none kV27 dc27 pm27 an27 cd27 ct27),sl27⟩)
  (c27:codeIn K cd27 "_law_add" = true)
  (k27:keepIn K (.ref f27) = true)
  (a28:nsIn K mainGlobals "_law_mul" = some (some (.ref f28)))
  (l28:K.lookup f28 = some ⟨oc28,od28,.func (fnOf "_law_mul" "_law_mul" (Zao Zdp) (Zam Zdp) (Zae Zdp) .none kV28 dc28 pm28 an28 cd28 ct28),sl28⟩)
  (c28:codeIn K cd28 "_law_mul" = true)
  (k28:keepIn K (.ref f28) = true)
  (a29:nsIn K mainGlobals "_law_int" = some (some (.ref f29)))
  (l29:K.lookup f29 = some ⟨oc29,od29,.func (fnOf "_law_int" "_law_int" (Zao Zd7) (Zam Zd7) (Zae Zd7) .none kV29 dc29 pm29 an29 cd29 ct29),sl29⟩)
  (c29:codeIn K cd29 "_law_int" = true)
  (k29:keepIn K (.ref f29) = true)
  (a30:nsIn K mainGlobals "_law_same" = some (some (.ref f30)))
  (l30:K.lookup f30 = some ⟨oc30,od30,.func (fnOf "_law_same" "_law_same" (Zao Zde) (Zam Zde) (Zae Zde) .none kV30 dc30 pm30 an30 cd30 ct30),sl30⟩)
  (c30:codeIn K cd30 "_law_same" = true)
  (k30:keepIn K (.ref f30) = true)
  (a31:nsIn K mainGlobals "_law_back" = some (some (.ref f31)))
  (l31:K.lookup f31 = some ⟨oc31,od31,.func (fnOf "_law_back" "_law_back" (Zao Zdk) (Zam Zdk) (Zae Zdk) .none kV31 dc31 pm31 an31 cd31 ct31),sl31⟩)
  (c31:codeIn K cd31 "_law_back" = true)
  (k31:keepIn K (.ref f31) = true)
  (a32:nsIn K mainGlobals "_law_rows" = some (some (.ref f32)))
  (l32:K.lookup f32 = some ⟨oc32,od32,.func (fnOf "_law_rows" "_law_rows" (Zao Zdf) (Zam Zdf) (Zae Zdf) .none kV32 dc32 pm32 an32 cd32 ct32),sl32⟩)
  (c32:codeIn K cd32 "_law_rows" = true)
  (k32:keepIn K (.ref f32) = true)
  (a33:nsIn K mainGlobals "_law_table" = some (some (.ref f33)))
  (l33:K.lookup f33 = some ⟨oc33,od33,.func (fnOf "_law_table" "_law_table" (Zao Zct) (Zam Zct) (Zae Zct) .none kV33 dc33 pm33 an33 cd33 ct33),sl33⟩)
  (c33:codeIn K cd33 "_law_table" = true)
  (k33:keepIn K (.ref f33) = true)
  (a34:nsIn K mainGlobals "_law_copy" = some (some (.ref f34)))
  (l34:K.lookup f34 = some ⟨oc34,od34,.func (fnOf "_law_copy" "_law_copy" (Zao Zdi) (Zam Zdi) (Zae Zdi) .none kV34 dc34 pm34 an34 cd34 ct34),sl34⟩)
  (c34:codeIn K cd34 "_law_copy" = true)
  (k34:keepIn K (.ref f34) = true)
  (a35:nsIn K mainGlobals "_law_product" = some (some (.ref f35)))
  (l35:K.lookup f35 = some ⟨oc35,od35,.func (fnOf "_law_product" "_law_product" (Zao Zb7) (Zam Zb7) (Zae Zb7) .none kV35 dc35 pm35 an35 cd35 ct35),sl35⟩)
  (c35:codeIn K cd35 "_law_product" = true)
  (k35:keepIn K (.ref f35) = true)
  (a36:nsIn K mainGlobals "_law_good" = some (some (.ref f36)))
  (l36:K.lookup f36 = some ⟨oc36,od36,.func (fnOf "_law_good" "_law_good" (Zao Zdg) (Zam Zdg) (Zae Zdg) .none kV36 dc36 pm36 an36 cd36 ct36),sl36⟩)
  (c36:codeIn K cd36 "_law_good" = true)
  (k36:keepIn K (.ref f36) = true)
  (a37:nsIn K mainGlobals "_law_reduced" = some (some (.ref f37)))
  (l37:K.lookup f37 = some ⟨oc37,od37,.func (fnOf "_law_reduced" "_law_reduced" (Zao Zb6) (Zam Zb6) (Zae Zb6) .none kV37 dc37 pm37 an37 cd37 ct37),sl37⟩)
  (c37:codeIn K cd37 "_law_reduced" = true)
  (k37:keepIn K (.ref f37) = true)
  (a38:nsIn K mainGlobals "_law_drawn" = some (some (.ref f38)))
  (l38:K.lookup f38 = some ⟨oc38,od38,.func (fnOf "_law_drawn" "_law_drawn" (Zao Zcw) (Zam Zcw) (Zae Zcw) .none kV38 dc38 pm38 an38 cd38 ct38),sl38⟩)
  (c38:codeIn K cd38 "_law_drawn" = true)
  (k38:keepIn K (.ref f38) = true)
  (a39:nsIn K mainGlobals "_law_right" = some (some (.ref f39)))
  (l39:K.lookup f39 = some ⟨oc39,od39,.func (fnOf "_law_right" "_law_right" (Zao Zcu) (Zam Zcu) (Zae Zcu) .none kV39 dc39 pm39 an39 cd39 ct39),sl39⟩)
  (c39:codeIn K cd39 "_law_right" = true)
  (k39:keepIn K (.ref f39) = true)
  (a40:nsIn K mainGlobals "law" = some (some (.ref f40)))
  (l40:K.lookup f40 = some ⟨oc40,od40,.func (fnOf "law" "law" (Zao Zit) (Zam Zit) (Zae Zit) .none kV40 dc40 pm40 an40 cd40 ct40),sl40⟩)
  (c40:codeIn K cd40 "law" = true)
  (k40:keepIn K (.ref f40) = true)
  (a41:nsIn K mainGlobals "less_than_nought" = some (some (.ref f41)))
  (l41:K.lookup f41 = some ⟨oc41,od41,.func (fnOf "less_than_nought" "less_than_nought" (Zao Zbc) (Zam Zbc) (Zae Zbc) .none kV41 dc41 pm41 an41 cd41 ct41),sl41⟩)
  (c41:codeIn K cd41 "less_than_nought" = true)
  (k41:keepIn K (.ref f41) = true)
  (a42:nsIn K mainGlobals "to_nought" = some (some (.ref f42)))
  (l42:K.lookup f42 = some ⟨oc42,od42,.func (fnOf "to_nought" "to_nought" (Zao Zcq) (Zam Zcq) (Zae Zcq) .none kV42 dc42 pm42 an42 cd42 ct42),sl42⟩)
  (c42:codeIn K cd42 "to_nought" = true)
  (k42:keepIn K (.ref f42) = true)
  (a43:nsIn K mainGlobals "made_by" = some (some (.ref f43)))
  (l43:K.lookup f43 = some ⟨oc43,od43,.func (fnOf "made_by" "made_by" (Zao Zd6) (Zam Zd6) (Zae Zd6) .none kV43 dc43 pm43 an43 cd43 ct43),sl43⟩)
  (c43:codeIn K cd43 "made_by" = true)
  (k43:keepIn K (.ref f43) = true)
  (a44:nsIn K mainGlobals "left_beside" = some (some (.ref f44)))
  (l44:K.lookup f44 = some ⟨oc44,od44,.func (fnOf "left_beside" "left_beside" (Zao Zb5) (Zam Zb5) (Zae Zb5) .none kV44 dc44 pm44 an44 cd44 ct44),sl44⟩)
  (c44:codeIn K cd44 "left_beside" = true)
  (k44:keepIn K (.ref f44) = true)
  (a45:nsIn K mainGlobals "turned_about" = some (some (.ref f45)))
  (l45:K.lookup f45 = some ⟨oc45,od45,.func (fnOf "turned_about" "turned_about" (Zao Zbx) (Zam Zbx) (Zae Zbx) .none kV45 dc45 pm45 an45 cd45 ct45),sl45⟩)
  (c45:codeIn K cd45 "turned_about" = true)
  (k45:keepIn K (.ref f45) = true)
  (a46:nsIn K mainGlobals "_law_is_table" = some (some (.ref f46)))
  (l46:K.lookup f46 = some ⟨oc46,od46,.func (fnOf "_law_is_table" "_law_is_table" (Zao Zb0) (Zam Zb0) (Zae Zb0) .none kV46 dc46 pm46 an46 cd46 ct46),sl46⟩)
  (c46:codeIn K cd46 "_law_is_table" = true)
  (k46:keepIn K (.ref f46) = true)
  (a47:nsIn K mainGlobals "_law_noughts" = some (some (.ref f47)))
  (l47:K.lookup f47 = some ⟨oc47,od47,.func (fnOf "_law_noughts" "_law_noughts" (Zao Zb8) (Zam Zb8) (Zae Zb8) .none kV47 dc47 pm47 an47 cd47 ct47),sl47⟩)
  (c47:codeIn K cd47 "_law_noughts" = true)
  (k47:keepIn K (.ref f47) = true)
  (a48:nsIn K mainGlobals "_law_pasted" = some (some (.ref f48)))
  (l48:K.lookup f48 = some ⟨oc48,od48,.func (fnOf "_law_pasted" "_law_pasted" (Zao Zcf) (Zam Zcf) (Zae Zcf) .none kV48 dc48 pm48 an48 cd48 ct48),sl48⟩)
  (c48:codeIn K cd48 "_law_pasted" = true)
  (k48:keepIn K (.ref f48) = true)
  (aC:nsIn K mainGlobals "Ground" = some (some (.ref C)))
  (a49:findIn K (.ref C) "__init__" = some (some (.ref f49)))
  (i49:isFn K (.ref f49) = true)
  (l49:K.lookup f49 = some ⟨oc49,od49,.func (fnOf "__init__" "Ground.__init__" (Zao Zb9) (Zam Zb9) (Zae Zb9) .none kV49 dc49 pm49 an49 cd49 ct49),sl49⟩)
  (c49:codeIn K cd49 "Ground.__init__" = true)
  (k49:keepIn K (.ref f49) = true)
  (a50:findIn K (.ref C) "number" = some (some (.ref f50)))
  (i50:isFn K (.ref f50) = true)
  (l50:K.lookup f50 = some ⟨oc50,od50,.func (fnOf "number" "Ground.number" (Zao Zaz) (Zam Zaz) (Zae Zaz) (.ref D50) kV50 dc50 pm50 an50 cd50 ct50),sl50⟩)
  (dl50:K.lookup D50 = some ⟨doc50,dod50,.seq #[.int 1 dt50] dn50,dosl50⟩)
  (c50:codeIn K cd50 "Ground.number" = true)
  (k50:keepIn K (.ref f50) = true)
  (pg:plainGet K C Str.empty = true)
  (hd:hasDictIn K C = true)
  (po:plainOver K C = true)
  (sa:findIn K (.ref C) "__setattr__" = some (some (.builtin "object.__setattr__")))
  (mk:makesIn K C = true)
  (kc:keepIn K (.ref C) = true)
  (nP:findIn K (.ref C) "prime" = some none)
  (g1:nsIn K mainGlobals "LARGEST_PRIME" = some (some (.int 97 t1)))
  (g2:nsIn K mainGlobals "LONG" = some (some (.int 4000 t2)))
  (g3:nsIn K mainGlobals "LEADING" = some (some (.int 126 t3)))
  (z0:nsIn K mainGlobals "abs" = some none)
  (z1:nsIn K mainGlobals "all" = some none)
  (z2:nsIn K mainGlobals "isinstance" = some none)
  (z3:nsIn K mainGlobals "int" = some none)
  (z4:nsIn K mainGlobals "bool" = some none)
  (z5:nsIn K mainGlobals "tuple" = some none)
  (z6:nsIn K mainGlobals "range" = some none)
  (z7:nsIn K mainGlobals "len" = some none)
  (z8:nsIn K mainGlobals "list" = some none)
  (z9:nsIn K mainGlobals "zip" = some none)
  (z10:nsIn K mainGlobals "sum" = some none)
  (z11:nsIn K mainGlobals "enumerate" = some none)
  (z12:nsIn K mainGlobals "min" = some none)
  (z13:nsIn K mainGlobals "reversed" = some none)
  (z14:nsIn K mainGlobals "max" = some none)
  (hcL:hdIn K cL PL = true):
  ∃ fd:FuncData,(∀ (s:Shared) (v:Value),BindsTo s fd ⟨[v],[]⟩ [("_law_script",v)])/\∀ base:Heap,K.In base->base.Ns mainGlobals mg->FnOk l.prog w K mg base CX0 12 fa fd ["_law_script"] (Zqj K PL):=by
 have e:=hfa.symm.trans (mg_of X G a40)
 cases e
 have T:Txt K mg C:=⟨⟨pg,hd,po,sa⟩,nP,mg_none_of X G z0,mg_none_of X G z1,mg_none_of X G z2,mg_none_of X G z3,mg_none_of X G z4,mg_none_of X G z5,mg_none_of X G z6,mg_none_of X G z7,mg_none_of X G z8,mg_none_of X G z9,mg_none_of X G z10,mg_none_of X G z11,mg_none_of X G z12,mg_none_of X G z13,mg_none_of X G z14,⟨t1,mg_of X G g1⟩,⟨t2,mg_of X G g2⟩,⟨t3,mg_of X G g3⟩⟩
 have F1:=Za3 (st:=Zdl) l1 c1 k1
 have b1:=F1.binds (ps:=["thing"]) fun _ _ _ _ _ _ us hl=>match us,hl with | [_],_=>rfl
 have F2:=Za3 (st:=Zbm) l2 c2 k2
 have b2:=F2.binds (ps:=["one","other"]) fun _ _ _ _ _ _ us hl=>match us,hl with | [_,_],_=>rfl
 have F3:=Za3 (st:=Zbo) l3 c3 k3
 have b3:=F3.binds (ps:=["one","other"]) fun _ _ _ _ _ _ us hl=>match us,hl with | [_,_],_=>rfl
 have F4:=Za3 (st:=Zcr) l4 c4 k4
 have b4:=F4.binds (ps:=["one","other"]) fun _ _ _ _ _ _ us hl=>match us,hl with | [_,_],_=>rfl
 have F5:=Za3 (st:=Zbp) l5 c5 k5
 have b5:=F5.binds (ps:=["one","other"]) fun _ _ _ _ _ _ us hl=>match us,hl with | [_,_],_=>rfl
 have F6:=Za3 (st:=Zbj) l6 c6 k6
 have b6:=F6.binds (ps:=["one","other"]) fun _ _ _ _ _ _ us hl=>match us,hl with | [_,_],_=>rfl
 have F7:=Za3 (st:=Zcp) l7 c7 k7
 have b7:=F7.binds (ps:=["ground","row"]) fun _ _ _ _ _ _ us hl=>match us,hl with | [_,_],_=>rfl
 have F8:=Za3 (st:=Ze3) l8 c8 k8
 have b8:=F8.binds (ps:=["ground","row"]) fun _ _ _ _ _ _ us hl=>match us,hl with | [_,_],_=>rfl
 have F9:=Za3 (st:=Zeb) l9 c9 k9
 have b9:=F9.binds (ps:=["ground","row","lead","place"]) fun _ _ _ _ _ _ us hl=>match us,hl with | [_,_,_,_],_=>rfl
 have F10:FunC K "leading_row" "leading_row" Zbs f10 _ cL:=⟨⟨oc10,od10,kV10,dc10,pm10,an10,ct10,sl10,rfl,l10,c10⟩⟩
 have b10:=F10.binds (ps:=["rows","place"]) fun _ _ _ _ _ _ us hl=>match us,hl with | [_,_],_=>rfl
 have F11:=Za3 (st:=Zf1) l11 c11 k11
 have b11:=F11.binds (ps:=["ground","rows","wide"]) fun _ _ _ _ _ _ us hl=>match us,hl with | [_,_,_],_=>rfl
 have F12:=Za3 (st:=Zbz) l12 c12 k12
 have b12:=F12.binds (ps:=["ground","rows","wide"]) fun _ _ _ _ _ _ us hl=>match us,hl with | [_,_,_],_=>rfl
 have F13:=Za3 (st:=Zd5) l13 c13 k13
 have b13:=F13.binds (ps:=["ground","high","wide"]) fun _ _ _ _ _ _ us hl=>match us,hl with | [_,_,_],_=>rfl
 have F14:=Za3 (st:=Zdm) l14 c14 k14
 have b14:=F14.binds (ps:=["number"]) fun _ _ _ _ _ _ us hl=>match us,hl with | [_],_=>rfl
 have F15:=Za3 (st:=Zby) l15 c15 k15
 have b15:=F15.binds (ps:=["thing"]) fun _ _ _ _ _ _ us hl=>match us,hl with | [_],_=>rfl
 have F16:=Za3 (st:=Zdn) l16 c16 k16
 have b16:=F16.binds (ps:=["top","bottom"]) fun _ _ _ _ _ _ us hl=>match us,hl with | [_,_],_=>rfl
 have F17:=Za3 (st:=Zea) l17 c17 k17
 have b17:=F17.binds (ps:=["rest","prime"]) fun _ _ _ _ _ _ us hl=>match us,hl with | [_,_],_=>rfl
 have F18:=Za3 (st:=Zd4) l18 c18 k18
 have b18:=F18.binds (ps:=["top","bottom","prime"]) fun _ _ _ _ _ _ us hl=>match us,hl with | [_,_,_],_=>rfl
 have F19:=Za3 (st:=Zdj) l19 c19 k19
 have b19:=F19.binds (ps:=["_law_script","_law_k"]) fun _ _ _ _ _ _ us hl=>match us,hl with | [_,_],_=>rfl
 have F20:=Za3 (st:=Zd9) l20 c20 k20
 have b20:=F20.binds (ps:=["_law_cell_here"]) fun _ _ _ _ _ _ us hl=>match us,hl with | [_],_=>rfl
 have F21:=Za3 (st:=Zdh) l21 c21 k21
 have b21:=F21.binds (ps:=["_law_bag_here","_law_many"]) fun _ _ _ _ _ _ us hl=>match us,hl with | [_,_],_=>rfl
 have F22:=Za3 (st:=Zd8) l22 c22 k22
 have b22:=F22.binds (ps:=["_law_one","_law_two"]) fun _ _ _ _ _ _ us hl=>match us,hl with | [_,_],_=>rfl
 have F23:=Za3 (st:=Zbr) l23 c23 k23
 have b23:=F23.binds (ps:=["_law_top","_law_bottom"]) fun _ _ _ _ _ _ us hl=>match us,hl with | [_,_],_=>rfl
 have F24:=Za3 (st:=Zcs) l24 c24 k24
 have b24:=F24.binds (ps:=["_law_found"]) fun _ _ _ _ _ _ us hl=>match us,hl with | [_],_=>rfl
 have F25:=Za3 (st:=Zcv) l25 c25 k25
 have b25:=F25.binds (ps:=["_law_bag_here"]) fun _ _ _ _ _ _ us hl=>match us,hl with | [_],_=>rfl
 have F26:=Za3 (st:=Zcg) l26 c26 k26
 have b26:=F26.binds (ps:=["_law_bag_here","_law_p"]) fun _ _ _ _ _ _ us hl=>match us,hl with | [_,_],_=>rfl
 have F27:=Za3 (st:=Zdq) l27 c27 k27
 have b27:=F27.binds (ps:=["_law_p","_law_a","_law_b"]) fun _ _ _ _ _ _ us hl=>match us,hl with | [_,_,_],_=>rfl
 have F28:=Za3 (st:=Zdp) l28 c28 k28
 have b28:=F28.binds (ps:=["_law_p","_law_a","_law_b"]) fun _ _ _ _ _ _ us hl=>match us,hl with | [_,_,_],_=>rfl
 have F29:=Za3 (st:=Zd7) l29 c29 k29
 have b29:=F29.binds (ps:=["_law_p","_law_k"]) fun _ _ _ _ _ _ us hl=>match us,hl with | [_,_],_=>rfl
 have F30:=Za3 (st:=Zde) l30 c30 k30
 have b30:=F30.binds (ps:=["_law_p","_law_found","_law_due"]) fun _ _ _ _ _ _ us hl=>match us,hl with | [_,_,_],_=>rfl
 have F31:=Za3 (st:=Zdk) l31 c31 k31
 have b31:=F31.binds (ps:=["_law_p","_law_a"]) fun _ _ _ _ _ _ us hl=>match us,hl with | [_,_],_=>rfl
 have F32:=Za3 (st:=Zdf) l32 c32 k32
 have b32:=F32.binds (ps:=["_law_bag_here","_law_p","_law_high","_law_wide"]) fun _ _ _ _ _ _ us hl=>match us,hl with | [_,_,_,_],_=>rfl
 have F33:=Za3 (st:=Zct) l33 c33 k33
 have b33:=F33.binds (ps:=["_law_bag_here","_law_p","_law_high","_law_wide"]) fun _ _ _ _ _ _ us hl=>match us,hl with | [_,_,_,_],_=>rfl
 have F34:=Za3 (st:=Zdi) l34 c34 k34
 have b34:=F34.binds (ps:=["_law_table_here"]) fun _ _ _ _ _ _ us hl=>match us,hl with | [_],_=>rfl
 have F35:=Za3 (st:=Zb7) l35 c35 k35
 have b35:=F35.binds (ps:=["_law_p","_law_one","_law_other"]) fun _ _ _ _ _ _ us hl=>match us,hl with | [_,_,_],_=>rfl
 have F36:=Za3 (st:=Zdg) l36 c36 k36
 have b36:=F36.binds (ps:=["_law_p","_law_found","_law_due"]) fun _ _ _ _ _ _ us hl=>match us,hl with | [_,_,_],_=>rfl
 have F37:=Za3 (st:=Zb6) l37 c37 k37
 have b37:=F37.binds (ps:=["_law_p","_law_table_here"]) fun _ _ _ _ _ _ us hl=>match us,hl with | [_,_],_=>rfl
 have F38:=Za3 (st:=Zcw) l38 c38 k38
 have b38:=F38.binds (ps:=["_law_bag_here","_law_number_here"]) fun _ _ _ _ _ _ us hl=>match us,hl with | [_,_],_=>rfl
 have F39:=Za3 (st:=Zcu) l39 c39 k39
 have b39:=F39.binds (ps:=["_law_ground","_law_p","_law_table_here","_law_due"]) fun _ _ _ _ _ _ us hl=>match us,hl with | [_,_,_,_],_=>rfl
 have F40:=Za3 (st:=Zit) l40 c40 k40
 have F41:=Za3 (st:=Zbc) l41 c41 k41
 have b41:=F41.binds (ps:=["ground","number"]) fun _ _ _ _ _ _ us hl=>match us,hl with | [_,_],_=>rfl
 have F42:=Za3 (st:=Zcq) l42 c42 k42
 have b42:=F42.binds (ps:=["ground","table"]) fun _ _ _ _ _ _ us hl=>match us,hl with | [_,_],_=>rfl
 have F43:=Za3 (st:=Zd6) l43 c43 k43
 have b43:=F43.binds (ps:=["ground","table"]) fun _ _ _ _ _ _ us hl=>match us,hl with | [_,_],_=>rfl
 have F44:=Za3 (st:=Zb5) l44 c44 k44
 have b44:=F44.binds (ps:=["ground","table"]) fun _ _ _ _ _ _ us hl=>match us,hl with | [_,_],_=>rfl
 have F45:=Za3 (st:=Zbx) l45 c45 k45
 have b45:=F45.binds (ps:=["table"]) fun _ _ _ _ _ _ us hl=>match us,hl with | [_],_=>rfl
 have F46:=Za3 (st:=Zb0) l46 c46 k46
 have b46:=F46.binds (ps:=["_law_p","_law_found","_law_high","_law_wide"]) fun _ _ _ _ _ _ us hl=>match us,hl with | [_,_,_,_],_=>rfl
 have F47:=Za3 (st:=Zb8) l47 c47 k47
 have b47:=F47.binds (ps:=["_law_p","_law_high","_law_wide"]) fun _ _ _ _ _ _ us hl=>match us,hl with | [_,_,_],_=>rfl
 have F48:=Za3 (st:=Zcf) l48 c48 k48
 have b48:=F48.binds (ps:=["_law_one","_law_other"]) fun _ _ _ _ _ _ us hl=>match us,hl with | [_,_],_=>rfl
 have F49:=Za3 (st:=Zb9) l49 c49 k49
 have b49:=F49.binds (ps:=["self","prime"]) fun _ _ _ _ _ _ us hl=>match us,hl with | [_,_],_=>rfl
 have F50:FunD K "number" "Ground.number" Zaz f50 _ D50:=⟨⟨oc50,od50,kV50,dc50,pm50,an50,cd50,ct50,sl50,rfl,l50,c50⟩⟩
 have b50:=Zf0 (fd:=fnOf "number" "Ground.number" (Zao Zaz) (Zam Zaz) (Zae Zaz) (.ref D50) kV50 dc50 pm50 an50 cd50 ct50) (ps:=["self","top","bottom"]) (ds:=[.int 1 dt50]) dl50 rfl fun us hl=>match us,(show us.length = 2 by simpa using hl) with | [_,_],_=>⟨_,rfl,rfl⟩
 have bF50:=Zf0 (fd:=fnOf "number" "Ground.number" (Zao Zaz) (Zam Zaz) (Zae Zaz) (.ref D50) kV50 dc50 pm50 an50 cd50 ct50) (ps:=["self","top","bottom"]) (ds:=[]) dl50 rfl fun us hl=>match us,(show us.length = 3 by simpa using hl) with | [_,_,_],_=>⟨_,rfl,rfl⟩
 refine ⟨fnOf "law" "law" (Zao Zit) (Zam Zit) (Zae Zit) .none kV40 dc40 pm40 an40 cd40 ct40,fun s v=>.of_eq rfl,fun base KB _=>?_⟩
 have hcb:=hd_of KB hcL
 have C1:Cal l.prog w K mg base "is_whole" 1 Zff:=⟨_,_,_,Zqy F1 T ,mg_of X G a1,k1,b1⟩
 have C14:Cal l.prog w K mg base "is_prime" 1 Zk1:=⟨_,_,_,Zq4 F14 T ,mg_of X G a14,k14,b14⟩
 have C15:Cal l.prog w K mg base "tells_ground" 2 Zkx:=⟨_,_,_,Zqz F15 T C1 C14,mg_of X G a15,k15,b15⟩
 have C49:CalI l.prog w K mg base "Ground" C 3 (Znq C):=⟨_,_,_,ok_init F49 T C15,⟨mk,a49,i49,kc⟩,mg_of X G aC,b49⟩
 have C5:Cal l.prog w K mg base "leading_steps" 1 Znp:=⟨_,_,_,ok_lead F5 T hpt,mg_of X G a5,k5,b5⟩
 have C4:Cal l.prog w K mg base "shortened" 2 Zky:=⟨_,_,_,Zq1 F4 T C5,mg_of X G a4,k4,b4⟩
 have C3:Cal l.prog w K mg base "not_both_long" 3 spNbl:=⟨_,_,_,ok_nbl F3 T C4,mg_of X G a3,k3,b3⟩
 have C2:Cal l.prog w K mg base "common_divisor" 4 Zmv:=⟨_,_,_,ok_cdB F2 T C3,mg_of X G a2,k2,b2⟩
 have C16:Cal l.prog w K mg base "fraction" 5 Zk3:=⟨_,_,_,Zq6 F16 T hpt C2,mg_of X G a16,k16,b16⟩
 have C17:Cal l.prog w K mg base "inverse" 1 spInv:=⟨_,_,_,ok_inv F17 T ,mg_of X G a17,k17,b17⟩
 have C18:Cal l.prog w K mg base "rest_of" 2 Zk0:=⟨_,_,_,Zq3 F18 T C17,mg_of X G a18,k18,b18⟩
 have C50:CalD l.prog w K mg base C "number" 6 (Zh0 C) [.int 1]:=⟨_,_,_,_,Zod F50 T C16 C18,⟨a50,i50,k50⟩,b50,.cons ⟨_,rfl⟩ .nil⟩
 have C50F:CalD l.prog w K mg base C "number" 6 (Zh0 C) []:=⟨_,_,_,[],Zod F50 T C16 C18,⟨a50,i50,k50⟩,bF50,.nil⟩
 have C6:Cal l.prog w K mg base "common_multiple" 5 spCmB:=⟨_,_,_,ok_cmB F6 T hpt C2,mg_of X G a6,k6,b6⟩
 have C7:Cal l.prog w K mg base "whole_row" 6 (spWrZ C):=⟨_,_,_,ok_wrZ F7 T hpt C6,mg_of X G a7,k7,b7⟩
 have C8:Cal l.prog w K mg base "tidied" 5 (Zl0 C):=⟨_,_,_,ok_tidy F8 T hpt C2,mg_of X G a8,k8,b8⟩
 have C9:Cal l.prog w K mg base "cleared" 6 (Zip C):=⟨_,_,_,Zq8 F9 T hpt C2 C8,mg_of X G a9,k9,b9⟩
 have C10:Cal l.prog w K mg base "leading_row" 1 (spLr PL):=⟨_,_,_,ok_lr F10 T hcb,mg_of X G a10,k10,b10⟩
 have C11:Cal l.prog w K mg base "swept" 7 (Zio C PL):=⟨_,_,_,Zq0 F11 T C7 C8 C9 C10,mg_of X G a11,k11,b11⟩
 have C12:Cal l.prog w K mg base "reduced_rows" 8 (spRed C PL):=⟨_,_,_,ok_red F12 T C11 C9 C50F,mg_of X G a12,k12,b12⟩
 have C13:Cal l.prog w K mg base "noughts" 7 (spNou C):=⟨_,_,_,ok_nou F13 T C50,mg_of X G a13,k13,b13⟩
 have C19:Cal l.prog w K mg base "_law_cell" 1 (Znt K):=⟨_,_,_,ok_cell F19 T ,mg_of X G a19,k19,b19⟩
 have C20:Cal l.prog w K mg base "_law_bag" 1 spBag:=⟨_,_,_,ok_bag F20 T ,mg_of X G a20,k20,b20⟩
 have C21:Cal l.prog w K mg base "_law_draw" 1 Zf6:=⟨_,_,_,ok_draw F21 T ,mg_of X G a21,k21,b21⟩
 have C22:Cal l.prog w K mg base "_law_gcd" 1 Zns:=⟨_,_,_,ok_gcd F22 T ,mg_of X G a22,k22,b22⟩
 have C23A:Cal l.prog w K mg base "_law_lowest" 2 Zh1:=⟨_,_,_,Zog F23 T hpt C22,mg_of X G a23,k23,b23⟩
 have C23B:Cal l.prog w K mg base "_law_lowest" 2 Zjo:=⟨_,_,_,Zoh F23 T hpt C22,mg_of X G a23,k23,b23⟩
 have C23Z:Cal l.prog w K mg base "_law_lowest" 3 Znm:=⟨_,_,_,ok_lowZ F23 T hpt C22 C23B,mg_of X G a23,k23,b23⟩
 have C24:Cal l.prog w K mg base "_law_whole" 1 Zff:=⟨_,_,_,Zoe F24 T ,mg_of X G a24,k24,b24⟩
 have C25:Cal l.prog w K mg base "_law_prime" 2 spPr:=⟨_,_,_,Zof F25 T C21,mg_of X G a25,k25,b25⟩
 have C26:Cal l.prog w K mg base "_law_number" 3 Zqi:=⟨_,_,_,ok_lnum F26 T C21 C23A,mg_of X G a26,k26,b26⟩
 have C27:Cal l.prog w K mg base "_law_add" 3 (spOp Zcx):=⟨_,_,_,ok_add F27 T C23A,mg_of X G a27,k27,b27⟩
 have C28:Cal l.prog w K mg base "_law_mul" 3 (spOp Za8):=⟨_,_,_,ok_mul F28 T C23A,mg_of X G a28,k28,b28⟩
 have C27B:Cal l.prog w K mg base "_law_add" 3 (Zjn Zcx):=⟨_,_,_,ok_addB F27 T C23B,mg_of X G a27,k27,b27⟩
 have C28B:Cal l.prog w K mg base "_law_mul" 3 (Zjn Za8):=⟨_,_,_,ok_mulB F28 T C23B,mg_of X G a28,k28,b28⟩
 have C29:Cal l.prog w K mg base "_law_int" 1 Zmu:=⟨_,_,_,ok_int F29 T ,mg_of X G a29,k29,b29⟩
 have C30:Cal l.prog w K mg base "_law_same" 2 Znj:=⟨_,_,_,ok_same F30 T C24,mg_of X G a30,k30,b30⟩
 have C31:Cal l.prog w K mg base "_law_back" 4 Zk5:=⟨_,_,_,ok_back F31 T C23Z,mg_of X G a31,k31,b31⟩
 have C32:Cal l.prog w K mg base "_law_rows" 4 Znk:=⟨_,_,_,ok_rows F32 T C21 C26 C29,mg_of X G a32,k32,b32⟩
 have C33:Cal l.prog w K mg base "_law_table" 5 spTb:=⟨_,_,_,ok_tb F33 T C32 C21 C26 C28 C27,mg_of X G a33,k33,b33⟩
 have C34:Cal l.prog w K mg base "_law_copy" 1 Zl2:=⟨_,_,_,ok_copy F34 T ,mg_of X G a34,k34,b34⟩
 have C35:Cal l.prog w K mg base "_law_product" 4 spLpB:=⟨_,_,_,ok_lpB F35 T C29 C27B C28B,mg_of X G a35,k35,b35⟩
 have C36:Cal l.prog w K mg base "_law_good" 3 Znr:=⟨_,_,_,ok_good F36 T C24 C30,mg_of X G a36,k36,b36⟩
 have C37:Cal l.prog w K mg base "_law_reduced" 5 Zl1:=⟨_,_,_,ok_lred F37 T C34 C29 C27B C28B C31,mg_of X G a37,k37,b37⟩
 have C38:Cal l.prog w K mg base "_law_drawn" 6 Zk4:=⟨_,_,_,Zq7 F38 T C25 C21 C33,mg_of X G a38,k38,b38⟩
 have C45:Cal l.prog w K mg base "turned_about" 1 spTa:=⟨_,_,_,ok_ta F45 T ,mg_of X G a45,k45,b45⟩
 have C41:Cal l.prog w K mg base "less_than_nought" 1 (Znn C):=⟨_,_,_,ok_less F41 T ,mg_of X G a41,k41,b41⟩
 have C42:Cal l.prog w K mg base "to_nought" 9 (Zqh C PL):=⟨_,_,_,ok_ton F42 T C12 C13 C41 C50,mg_of X G a42,k42,b42⟩
 have C43:Cal l.prog w K mg base "made_by" 8 (Znl C PL):=⟨_,_,_,ok_made F43 T C11,mg_of X G a43,k43,b43⟩
 have C44:Cal l.prog w K mg base "left_beside" 10 (Zno C PL):=⟨_,_,_,ok_left F44 T C45 C42,mg_of X G a44,k44,b44⟩
 have C46:Cal l.prog w K mg base "_law_is_table" 4 spIsT:=⟨_,_,_,ok_ist F46 T C36,mg_of X G a46,k46,b46⟩
 have C47:Cal l.prog w K mg base "_law_noughts" 2 spNoL:=⟨_,_,_,ok_nol F47 T C29,mg_of X G a47,k47,b47⟩
 have C48:Cal l.prog w K mg base "_law_pasted" 1 Zk2:=⟨_,_,_,Zq5 F48 T ,mg_of X G a48,k48,b48⟩
 have C39:Cal l.prog w K mg base "_law_right" 11 (Zkz C PL):=⟨_,_,_,Zq2 F39 T C42 C43 C44 C46 C37 C35 C47 C48,mg_of X G a39,k39,b39⟩
 exact ok_law F40 T C19 C20 C38 C34 C37 C49 C39
theorem walk {l:PySem.W.OpenLaw} {q:Program} {loose:List Str} {XP:(Str->Option Value)->Heap->Prop} {d:DefRec} {K:Params->PySem.W.Frag} {as:List Addr} {e:∀ (P:Params),as = List.map (fun x=>x.fst) (K P)} {PL:Addr} (hq:importsNone q = true) (hn:l.most = some 63) (hdf:d.params.defaults = [])
  (hN:∀ p,(K p).lookup PL = none) (hC:∀ p,hdIn (K p) (PL + 2) PL = true)
  (F:∀ (w:World) (mg:Str->Option Value) (fa:Addr) (h:Heap),(K w.params).In h->h.Ns mainGlobals mg->mg d.name = some (.ref fa)->
   ∃ fd:FuncData,(∀ (s:Shared) (u:Value),BindsTo s fd ⟨[u],[]⟩ [("_law_script",u)])/\∀ base:Heap,(K w.params).In base->base.Ns mainGlobals mg->FnOk l.prog w (K w.params) mg base CX0 12 fa fd ["_law_script"] (Zqj (K w.params) PL)):
  PySem.W.WalkO q loose XP (PySem.W.kmHook K as e [PL]).says l.row.toRowW d [] (fun f vs=>PySem.call f vs):=
 Zp8 (n:=63) (k:=12) (x:="_law_script") (sp:=fun w=>Zqj (K w.params) PL) (PL + 2) PL 76 26 ("leading_row.<locals>." ++ "<lambda>") hq hn (by decide) hdf ⟨rfl,by decide,by decide⟩ (fun w h Y=>PySem.W.km_in_of Y) (fun w h Y=>PySem.W.km_tabs_of Y PL (List.mem_singleton.mpr rfl)) hN hC F (fun _ H a ns Q E hl hS hT q=>⟨a,ns,rfl,hS,hl,hT,q⟩)
end Pf
def PySem.W.Fast.tw10385788119708538108:Nat:=0
def PySem.W.Fast.tw10419193955884707457:Nat:=0
def PySem.W.Fast.tw10463301196907825649:Nat:=0
def PySem.W.Fast.tw10576829848347951203:Nat:=0
def PySem.W.Fast.tw10580729835669014023:Nat:=0
def PySem.W.Fast.tw10603523051542595052:Nat:=0
def PySem.W.Fast.tw10808201527779522875:Nat:=0
def PySem.W.Fast.tw10863265329894958004:Nat:=0
def PySem.W.Fast.tw11137353578469329137:Nat:=0
def PySem.W.Fast.tw11168939168541953605:Nat:=0
def PySem.W.Fast.tw11293696902041210433:Nat:=0
def PySem.W.Fast.tw11370277594760929655:Nat:=0
def PySem.W.Fast.tw11426021192706900481:Nat:=0
def PySem.W.Fast.tw11556295029492381313:Nat:=0
def PySem.W.Fast.tw11854204199214221818:Nat:=0
def PySem.W.Fast.tw11931769464636594702:Nat:=0
def PySem.W.Fast.tw1196500757889263987:Nat:=0
def PySem.W.Fast.tw12024671235847103003:Nat:=0
def PySem.W.Fast.tw12234808424917546917:Nat:=0
def PySem.W.Fast.tw12378118898475221235:Nat:=0
def PySem.W.Fast.tw12653019428931989846:Nat:=0
def PySem.W.Fast.tw12759136580421391547:Nat:=0
def PySem.W.Fast.tw12819414464508398215:Nat:=0
def PySem.W.Fast.tw12868715313975627653:Nat:=0
def PySem.W.Fast.tw12982728735464132383:Nat:=0
def PySem.W.Fast.tw13197897825098472668:Nat:=0
def PySem.W.Fast.tw13257637136708880269:Nat:=0
def PySem.W.Fast.tw1341914926870935811:Nat:=0
def PySem.W.Fast.tw13425820490090522216:Nat:=0
def PySem.W.Fast.tw13479165304597936075:Nat:=0
def PySem.W.Fast.tw13522676207137076445:Nat:=0
def PySem.W.Fast.tw13616468479352809273:Nat:=0
def PySem.W.Fast.tw13665898709394544785:Nat:=0
def PySem.W.Fast.tw13710606911638754967:Nat:=0
def PySem.W.Fast.tw13719391000207175192:Nat:=0
def PySem.W.Fast.tw13856675894623987630:Nat:=0
def PySem.W.Fast.tw14019938888319971618:Nat:=0
def PySem.W.Fast.tw14071065108033315148:Nat:=0
def PySem.W.Fast.tw14141797555143813443:Nat:=0
def PySem.W.Fast.tw1419446340923753054:Nat:=0
def PySem.W.Fast.tw14221570260196946556:Nat:=0
def PySem.W.Fast.tw14310562133257349997:Nat:=0
def PySem.W.Fast.tw14333395345652784055:Nat:=0
def PySem.W.Fast.tw14463217698776463502:Nat:=0
def PySem.W.Fast.tw14700205436211571484:Nat:=0
def PySem.W.Fast.tw14791994972395591326:Nat:=0
def PySem.W.Fast.tw15131050705553531048:Nat:=0
def PySem.W.Fast.tw15231366104254976429:Nat:=0
def PySem.W.Fast.tw15300669931198821616:Nat:=0
def PySem.W.Fast.tw15327118677923709441:Nat:=0
def PySem.W.Fast.tw15541594036710659064:Nat:=0
def PySem.W.Fast.tw15566765708484050987:Nat:=0
def PySem.W.Fast.tw15852022128594329849:Nat:=0
def PySem.W.Fast.tw15857987634285004169:Nat:=0
def PySem.W.Fast.tw16061041598811004674:Nat:=0
def PySem.W.Fast.tw16170453886774802232:Nat:=0
def PySem.W.Fast.tw163033921683090976:Nat:=0
def PySem.W.Fast.tw16360855050421513292:Nat:=0
def PySem.W.Fast.tw16652430115603637781:Nat:=0
def PySem.W.Fast.tw1678042591353633550:Nat:=0
def PySem.W.Fast.tw16972170373630448592:Nat:=0
def PySem.W.Fast.tw17048065013115359617:Nat:=0
def PySem.W.Fast.tw17057953803465298264:Nat:=0
def PySem.W.Fast.tw17132639207196546470:Nat:=0
def PySem.W.Fast.tw1714058745009353692:Nat:=0
def PySem.W.Fast.tw17385183597346111682:Nat:=0
def PySem.W.Fast.tw1741715467789520314:Nat:=0
def PySem.W.Fast.tw17947032078860996908:Nat:=0
def PySem.W.Fast.tw18366483864710598272:Nat:=0
def PySem.W.Fast.tw18426961158536837480:Nat:=0
def PySem.W.Fast.tw1870274867007208916:Nat:=0
def PySem.W.Fast.tw2076408425557483022:Nat:=0
def PySem.W.Fast.tw2110465098353561001:Nat:=0
def PySem.W.Fast.tw2135981913996315523:Nat:=0
def PySem.W.Fast.tw2157288274308947226:Nat:=0
def PySem.W.Fast.tw2299603542309969683:Nat:=0
def PySem.W.Fast.tw2550982769466530956:Nat:=0
def PySem.W.Fast.tw2565372198197578458:Nat:=0
def PySem.W.Fast.tw273954875781920640:Nat:=0
def PySem.W.Fast.tw2919963963483365098:Nat:=0
def PySem.W.Fast.tw2967820298820292233:Nat:=0
def PySem.W.Fast.tw3035343267166163681:Nat:=0
def PySem.W.Fast.tw3158308543939938688:Nat:=0
def PySem.W.Fast.tw3168641464099918827:Nat:=0
def PySem.W.Fast.tw3652345089982247219:Nat:=0
def PySem.W.Fast.tw3740292631301305153:Nat:=0
def PySem.W.Fast.tw3843821181978636152:Nat:=0
def PySem.W.Fast.tw393029218760290131:Nat:=0
def PySem.W.Fast.tw4120473446092273352:Nat:=0
def PySem.W.Fast.tw4239617779327073545:Nat:=0
def PySem.W.Fast.tw433447674500537741:Nat:=0
def PySem.W.Fast.tw437526682013121972:Nat:=0
def PySem.W.Fast.tw4387708311933319146:Nat:=0
def PySem.W.Fast.tw4402146650920826542:Nat:=0
def PySem.W.Fast.tw4560787951173236207:Nat:=0
def PySem.W.Fast.tw4564867968529299644:Nat:=0
def PySem.W.Fast.tw4570239634088049863:Nat:=0
def PySem.W.Fast.tw4672697319673870564:Nat:=0
def PySem.W.Fast.tw4875646827920242799:Nat:=0
def PySem.W.Fast.tw4914953211300993521:Nat:=0
def PySem.W.Fast.tw5080591389793890331:Nat:=0
def PySem.W.Fast.tw5302198953271269180:Nat:=0
def PySem.W.Fast.tw5347174764280439463:Nat:=0
def PySem.W.Fast.tw5465583653272686031:Nat:=0
def PySem.W.Fast.tw5531589180959466777:Nat:=0
def PySem.W.Fast.tw5586263763808380328:Nat:=0
def PySem.W.Fast.tw5767746478866007429:Nat:=0
def PySem.W.Fast.tw57758819330024678:Nat:=0
def PySem.W.Fast.tw5849572510739746131:Nat:=0
def PySem.W.Fast.tw5864065011786565334:Nat:=0
def PySem.W.Fast.tw5889666246194101507:Nat:=0
def PySem.W.Fast.tw6198337629888324378:Nat:=0
def PySem.W.Fast.tw6510704603738165355:Nat:=0
def PySem.W.Fast.tw7359896682176386953:Nat:=0
def PySem.W.Fast.tw7370723795798786968:Nat:=0
def PySem.W.Fast.tw7717553216729094529:Nat:=0
def PySem.W.Fast.tw7760658387908821654:Nat:=0
def PySem.W.Fast.tw787196329810092484:Nat:=0
def PySem.W.Fast.tw8121145551019381589:Nat:=0
def PySem.W.Fast.tw815315112390962069:Nat:=0
def PySem.W.Fast.tw8263868950946958113:Nat:=0
def PySem.W.Fast.tw8334241626924038637:Nat:=0
def PySem.W.Fast.tw8375757605839320968:Nat:=0
def PySem.W.Fast.tw8489209801904128248:Nat:=0
def PySem.W.Fast.tw8632336774971526812:Nat:=0
def PySem.W.Fast.tw8784303570307223:Nat:=0
def PySem.W.Fast.tw8827165742547166279:Nat:=0
def PySem.W.Fast.tw9021799961464369243:Nat:=0
def PySem.W.Fast.tw9092044831988615860:Nat:=0
def PySem.W.Fast.tw9113454848058101815:Nat:=0
def PySem.W.Fast.tw911641511518956529:Nat:=0
def PySem.W.Fast.tw9120466102329221064:Nat:=0
def PySem.W.Fast.tw914354233526887532:Nat:=0
def PySem.W.Fast.tw9273068982838826679:Nat:=0
def PySem.W.Fast.tw9589995901628582365:Nat:=0
def PySem.W.Fast.tw9709666164916544692:Nat:=0
def PySem.W.Fast.tw9874479823209802568:Nat:=0
def PySem.W.Fast.tw9974886937403878878:Nat:=0
open PySem PySem.W PyProof.Rows
set_option maxRecDepth 100000 in
set_option maxHeartbeats 0 in
theorem PySem.Challenge.cw_limbtables_k10_nought_made_and_left_holds : PySem.Challenge.rw_limbtables_k10_nought_made_and_left.Holds := by
 w_on; o_law; k_head; (case hw=>w_witness2)
 k_fill
 refine Pf.walk (l:=PySem.Challenge.rw_limbtables_k10_nought_made_and_left) (by decide +kernel) rfl rfl (fun p=>by kernel_rfl) (fun p=>by kernel_rfl) ?F
 case F=>
  intro w mg fa h KX G hmg
  refine' Pf.all_mk rfl KX G hmg ?a1 ?l1 ?c1 ?k1 ?a2 ?l2 ?c2 ?k2 ?a3 ?l3 ?c3 ?k3 ?a4 ?l4 ?c4 ?k4 ?a5 ?l5 ?c5 ?k5 ?a6 ?l6 ?c6 ?k6 ?a7 ?l7 ?c7 ?k7 ?a8 ?l8 ?c8 ?k8 ?a9 ?l9 ?c9 ?k9 ?a10 ?l10 ?c10 ?k10 ?a11 ?l11 ?c11 ?k11 ?a12 ?l12 ?c12 ?k12 ?a13 ?l13 ?c13 ?k13 ?a14 ?l14 ?c14 ?k14 ?a15 ?l15 ?c15 ?k15 ?a16 ?l16 ?c16 ?k16 ?a17 ?l17 ?c17 ?k17 ?a18 ?l18 ?c18 ?k18 ?a19 ?l19 ?c19 ?k19 ?a20 ?l20 ?c20 ?k20 ?a21 ?l21 ?c21 ?k21 ?a22 ?l22 ?c22 ?k22 ?a23 ?l23 ?c23 ?k23 ?a24 ?l24 ?c24 ?k24 ?a25 ?l25 ?c25 ?k25 ?a26 ?l26 ?c26 ?k26 ?a27 ?l27 ?c27 ?k27 ?a28 ?l28 ?c28 ?k28 ?a29 ?l29 ?c29 ?k29 ?a30 ?l30 ?c30 ?k30 ?a31 ?l31 ?c31 ?k31 ?a32 ?l32 ?c32 ?k32 ?a33 ?l33 ?c33 ?k33 ?a34 ?l34 ?c34 ?k34 ?a35 ?l35 ?c35 ?k35 ?a36 ?l36 ?c36 ?k36 ?a37 ?l37 ?c37 ?k37 ?a38 ?l38 ?c38 ?k38 ?a39 ?l39 ?c39 ?k39 ?a40 ?l40 ?c40 ?k40 ?a41 ?l41 ?c41 ?k41 ?a42 ?l42 ?c42 ?k42 ?a43 ?l43 ?c43 ?k43 ?a44 ?l44 ?c44 ?k44 ?a45 ?l45 ?c45 ?k45 ?a46 ?l46 ?c46 ?k46 ?a47 ?l47 ?c47 ?k47 ?a48 ?l48 ?c48 ?k48 ?aC ?a49 ?i49 ?l49 ?c49 ?k49 ?a50 ?i50 ?l50 ?dl50 ?c50 ?k50 ?pg ?hd ?po ?sa ?mk ?kc ?nP ?g1 ?g2 ?g3 ?z0 ?z1 ?z2 ?z3 ?z4 ?z5 ?z6 ?z7 ?z8 ?z9 ?z10 ?z11 ?z12 ?z13 ?z14 ?hcL
  (case a1=>k_is)
  (case l1=>k_is)
  (case c1=>k_is)
  (case k1=>k_is)
  (case a2=>k_is)
  (case l2=>k_is)
  (case c2=>k_is)
  (case k2=>k_is)
  (case a3=>k_is)
  (case l3=>k_is)
  (case c3=>k_is)
  (case k3=>k_is)
  (case a4=>k_is)
  (case l4=>k_is)
  (case c4=>k_is)
  (case k4=>k_is)
  (case a5=>k_is)
  (case l5=>k_is)
  (case c5=>k_is)
  (case k5=>k_is)
  (case a6=>k_is)
  (case l6=>k_is)
  (case c6=>k_is)
  (case k6=>k_is)
  (case a7=>k_is)
  (case l7=>k_is)
  (case c7=>k_is)
  (case k7=>k_is)
  (case a8=>k_is)
  (case l8=>k_is)
  (case c8=>k_is)
  (case k8=>k_is)
  (case a9=>k_is)
  (case l9=>k_is)
  (case c9=>k_is)
  (case k9=>k_is)
  (case a10=>k_is)
  (case l10=>k_is)
  (case c10=>k_is)
  (case k10=>k_is)
  (case a11=>k_is)
  (case l11=>k_is)
  (case c11=>k_is)
  (case k11=>k_is)
  (case a12=>k_is)
  (case l12=>k_is)
  (case c12=>k_is)
  (case k12=>k_is)
  (case a13=>k_is)
  (case l13=>k_is)
  (case c13=>k_is)
  (case k13=>k_is)
  (case a14=>k_is)
  (case l14=>k_is)
  (case c14=>k_is)
  (case k14=>k_is)
  (case a15=>k_is)
  (case l15=>k_is)
  (case c15=>k_is)
  (case k15=>k_is)
  (case a16=>k_is)
  (case l16=>k_is)
  (case c16=>k_is)
  (case k16=>k_is)
  (case a17=>k_is)
  (case l17=>k_is)
  (case c17=>k_is)
  (case k17=>k_is)
  (case a18=>k_is)
  (case l18=>k_is)
  (case c18=>k_is)
  (case k18=>k_is)
  (case a19=>k_is)
  (case l19=>k_is)
  (case c19=>k_is)
  (case k19=>k_is)
  (case a20=>k_is)
  (case l20=>k_is)
  (case c20=>k_is)
  (case k20=>k_is)
  (case a21=>k_is)
  (case l21=>k_is)
  (case c21=>k_is)
  (case k21=>k_is)
  (case a22=>k_is)
  (case l22=>k_is)
  (case c22=>k_is)
  (case k22=>k_is)
  (case a23=>k_is)
  (case l23=>k_is)
  (case c23=>k_is)
  (case k23=>k_is)
  (case a24=>k_is)
  (case l24=>k_is)
  (case c24=>k_is)
  (case k24=>k_is)
  (case a25=>k_is)
  (case l25=>k_is)
  (case c25=>k_is)
  (case k25=>k_is)
  (case a26=>k_is)
  (case l26=>k_is)
  (case c26=>k_is)
  (case k26=>k_is)
  (case a27=>k_is)
  (case l27=>k_is)
  (case c27=>k_is)
  (case k27=>k_is)
  (case a28=>k_is)
  (case l28=>k_is)
  (case c28=>k_is)
  (case k28=>k_is)
  (case a29=>k_is)
  (case l29=>k_is)
  (case c29=>k_is)
  (case k29=>k_is)
  (case a30=>k_is)
  (case l30=>k_is)
  (case c30=>k_is)
  (case k30=>k_is)
  (case a31=>k_is)
  (case l31=>k_is)
  (case c31=>k_is)
  (case k31=>k_is)
  (case a32=>k_is)
  (case l32=>k_is)
  (case c32=>k_is)
  (case k32=>k_is)
  (case a33=>k_is)
  (case l33=>k_is)
  (case c33=>k_is)
  (case k33=>k_is)
  (case a34=>k_is)
  (case l34=>k_is)
  (case c34=>k_is)
  (case k34=>k_is)
  (case a35=>k_is)
  (case l35=>k_is)
  (case c35=>k_is)
  (case k35=>k_is)
  (case a36=>k_is)
  (case l36=>k_is)
  (case c36=>k_is)
  (case k36=>k_is)
  (case a37=>k_is)
  (case l37=>k_is)
  (case c37=>k_is)
  (case k37=>k_is)
  (case a38=>k_is)
  (case l38=>k_is)
  (case c38=>k_is)
  (case k38=>k_is)
  (case a39=>k_is)
  (case l39=>k_is)
  (case c39=>k_is)
  (case k39=>k_is)
  (case a40=>k_is)
  (case l40=>k_is)
  (case c40=>k_is)
  (case k40=>k_is)
  (case a41=>k_is)
  (case l41=>k_is)
  (case c41=>k_is)
  (case k41=>k_is)
  (case a42=>k_is)
  (case l42=>k_is)
  (case c42=>k_is)
  (case k42=>k_is)
  (case a43=>k_is)
  (case l43=>k_is)
  (case c43=>k_is)
  (case k43=>k_is)
  (case a44=>k_is)
  (case l44=>k_is)
  (case c44=>k_is)
  (case k44=>k_is)
  (case a45=>k_is)
  (case l45=>k_is)
  (case c45=>k_is)
  (case k45=>k_is)
  (case a46=>k_is)
  (case l46=>k_is)
  (case c46=>k_is)
  (case k46=>k_is)
  (case a47=>k_is)
  (case l47=>k_is)
  (case c47=>k_is)
  (case k47=>k_is)
  (case a48=>k_is)
  (case l48=>k_is)
  (case c48=>k_is)
  (case k48=>k_is)
  (case aC=>k_is)
  (case a49=>k_is)
  (case i49=>k_is)
  (case l49=>k_is)
  (case c49=>k_is)
  (case k49=>k_is)
  (case a50=>k_is)
  (case i50=>k_is)
  (case l50=>k_is)
  (case dl50=>k_is)
  (case c50=>k_is)
  (case k50=>k_is)
  (case pg=>k_is)
  (case hd=>k_is)
  (case po=>k_is)
  (case sa=>k_is)
  (case mk=>k_is)
  (case kc=>k_is)
  (case nP=>k_is)
  (case g1=>k_is)
  (case g2=>k_is)
  (case g3=>k_is)
  (case z0=>k_is)
  (case z1=>k_is)
  (case z2=>k_is)
  (case z3=>k_is)
  (case z4=>k_is)
  (case z5=>k_is)
  (case z6=>k_is)
  (case z7=>k_is)
  (case z8=>k_is)
  (case z9=>k_is)
  (case z10=>k_is)
  (case z11=>k_is)
  (case z12=>k_is)
  (case z13=>k_is)
  (case z14=>k_is)
  (case hcL=>kernel_rfl)
#print axioms PySem.Challenge.cw_limbtables_k10_nought_made_and_left_holds