import PyProof.Rows.All
import Wide.All
import OpenK.AllK
import Wide.FinOn
import Lean
import PyProof.EqAt
import PyProof.EqKinds
import PyProof.TupleCall
import PyProof.ZipIter
import PyProof.Rows.ZipGen
import PyProof.SumWalkG
import PyProof.EnumMake
import PyProof.EnumFor
import KE.KRevIter
import PyProof.ListNew
import PyProof.FactsAll.int_6
import PyProof.AutoIntG2
import PyProof.RulesAs
import PyProof.Rows.TopTwo
import PyProof.ExcArgsOwn
import PyProof.ExcBaseAll.ValueError
import OpenK.KDescr
import KE.RegKIsAll
import PyProof.EqKinds
import PyProof.NeKinds
import PySem.Challenge.RW_limbtables_k70_numbers_written_and_read
-- CHANGE: your row's module here, as the last of these rows
set_option Elab.async false
set_option linter.all false
set_option maxRecDepth 100000
namespace L2
open PySem PySem.Spec PyProof.Rows
abbrev Key := Sum Int Str
def keyIs : Key → Value → Bool
  | .inl k, v => Value.isInt k v
  | .inr x, v => Value.isStrOf x v
def keyH (w : World) : Key → Int
  | .inl k => hashInt k
  | .inr x => hashStr w x
theorem keyIs_shape : ∀ {k : Key} {v : Value}, keyIs k v = true → (∃ i t, k = Sum.inl i ∧ v = Value.int i t) ∨ (∃ x t, k = Sum.inr x ∧ v = Value.str x t)
  | .inl i, v, h => by
    obtain ⟨t, e⟩ := Value.isInt_shape (k := i) (v := v) h
    exact .inl ⟨i, t, rfl, e⟩
  | .inr x, v, h => by
    obtain ⟨t, e⟩ := Value.isStrOf_shape (x := x) (v := v) h
    exact .inr ⟨x, t, rfl, e⟩
theorem key_ll (a b : Int) : decide ((Sum.inl a : Key) = Sum.inl b) = (a == b) := by
  by_cases e : a = b
  · subst e; simp
  · have h : ¬ (Sum.inl a : Key) = Sum.inl b := fun q => e (Sum.inl.inj q)
    rw [decide_eq_false h]
    exact (beq_eq_false_iff_ne.mpr e).symm
theorem key_rr (a b : Str) : decide ((Sum.inr a : Key) = Sum.inr b) = decide (a = b) := by
  by_cases e : a = b
  · subst e; simp
  · have h : ¬ (Sum.inr a : Key) = Sum.inr b := fun q => e (Sum.inr.inj q)
    rw [decide_eq_false h, decide_eq_false e]
theorem key_lr (a : Int) (b : Str) : decide ((Sum.inl a : Key) = Sum.inr b) = false := decide_eq_false (fun q => nomatch q)
theorem key_rl (a : Str) (b : Int) : decide ((Sum.inr a : Key) = Sum.inl b) = false := decide_eq_false (fun q => nomatch q)
def mixKind (prog : Program) (w : World) : PySem.KeyKind prog w Key where
  is := keyIs
  hash := keyH w
  inj := fun v a b ha hb => by
    rcases keyIs_shape ha with ⟨i, t, rfl, rfl⟩ | ⟨x, t, rfl, rfl⟩
    · rcases keyIs_shape hb with ⟨j, u, rfl, e⟩ | ⟨y, u, rfl, e⟩
      · injection e with e1 _; rw [e1]
      · exact nomatch e
    · rcases keyIs_shape hb with ⟨j, u, rfl, e⟩ | ⟨y, u, rfl, e⟩
      · exact nomatch e
      · injection e with e1 _; rw [e1]
  byValue := fun k v h => by
    rcases keyIs_shape h with ⟨i, t, rfl, rfl⟩ | ⟨x, t, rfl, rfl⟩ <;> rfl
  pyHash := fun hv h => by
    rcases keyIs_shape hv with ⟨i, t, rfl, rfl⟩ | ⟨x, t, rfl, rfl⟩
    · exact wpAny_pyHash_int h
    · exact wpAny_pyHash_str h
  eqBool := fun hu hv h => by
    rcases keyIs_shape hu with ⟨i, t, rfl, rfl⟩ | ⟨x, t, rfl, rfl⟩
    · rcases keyIs_shape hv with ⟨j, u, rfl, rfl⟩ | ⟨y, u, rfl, rfl⟩
      · rw [key_ll] at h; exact wpAny_eqBool_int h
      · rw [key_lr] at h; exact SeqAt.EqAt.int_str i t y u _ _ _ _ h
    · rcases keyIs_shape hv with ⟨j, u, rfl, rfl⟩ | ⟨y, u, rfl, rfl⟩
      · rw [key_rl] at h; exact SeqAt.EqAt.str_int x t j u _ _ _ _ h
      · rw [key_rr] at h; exact wpAny_eqBool_str h
  «strs» := fun k x t v h => by
    rcases keyIs_shape h with ⟨i, u, rfl, e⟩ | ⟨y, u, rfl, e⟩
    · exact nomatch e
    · injection e with e1 _
      subst e1
      cases v <;> rfl
end L2
namespace L2
open PySem PySem.Spec PyProof.Rows
inductive V where
  | non | bl (b : Bool) | int (i : Int) | str (x : Str) | byt (b : Array UInt8) | flt (b : UInt64) | ref (a : Addr) | ty (n : String)
  deriving DecidableEq
def RelV : V → Value → Prop
  | .non, u => u = Value.none
  | .bl b, u => u = Value.bool b
  | .int i, u => ∃ t, u = Value.int i t
  | .str x, u => ∃ t, u = Value.str x t
  | .byt b, u => ∃ t, u = Value.bytes b t
  | .flt b, u => ∃ t, u = Value.float b t
  | .ref a, u => u = Value.ref a
  | .ty n, u => u = Value.type n
abbrev Vals : List V → List Value → Prop := Paired RelV
theorem Vals.length {xs : List V} {us : List Value} (r : Vals xs us) : xs.length = us.length := Paired.length r
theorem Vals.get : ∀ {xs : List V} {us : List Value} {i : Nat} {x : V}, Vals xs us → xs[i]? = some x → ∃ u, us[i]? = some u ∧ RelV x u
  | _, _, _, _, .nil, e => by simp at e
  | _, _, 0, _, .cons r _, e => by simp at e; subst e; exact ⟨_, rfl, r⟩
  | _, _, i + 1, x, .cons _ t, e => by
    obtain ⟨u, h1, h2⟩ := Vals.get (i := i) (x := x) t (by simpa using e)
    exact ⟨u, by simpa using h1, h2⟩
theorem Vals.set {x : V} {u : Value} (r : RelV x u) : ∀ {xs : List V} {us : List Value} (i : Nat), Vals xs us → Vals (xs.set i x) (us.set i u)
  | _, _, _, .nil => .nil
  | _, _, 0, .cons _ t => .cons r t
  | _, _, i + 1, .cons q t => .cons q (Vals.set r i t)
theorem Vals.append : ∀ {xs ys : List V} {us ws : List Value}, Vals xs us → Vals ys ws → Vals (xs ++ ys) (us ++ ws)
  | _, _, _, _, .nil, s => s
  | _, _, _, _, .cons r t, s => .cons r (Vals.append t s)
theorem Vals.take : ∀ {xs : List V} {us : List Value} (n : Nat), Vals xs us → Vals (xs.take n) (us.take n)
  | _, _, 0, _ => .nil
  | _, _, _ + 1, .nil => .nil
  | _, _, n + 1, .cons r t => .cons r (Vals.take n t)
theorem Vals.drop : ∀ {xs : List V} {us : List Value} (n : Nat), Vals xs us → Vals (xs.drop n) (us.drop n)
  | _, _, 0, r => r
  | _, _, _ + 1, .nil => .nil
  | _, _, n + 1, .cons _ t => Vals.drop n t
theorem Vals.none_of : ∀ {xs : List V} {us : List Value} {i : Nat}, Vals xs us → xs[i]? = none → us[i]? = none := fun {xs us i} r e => by
  have h1 := r.length
  have h2 : xs.length ≤ i := List.getElem?_eq_none_iff.mp e
  exact List.getElem?_eq_none_iff.mpr (by omega)
def RelO : Option V → Option Value → Prop
  | some v, some u => RelV v u
  | none, none => True
  | _, _ => False
def KV {κ : Type} : List (κ × V) → List (κ × Value) → Prop := Paired fun (p : κ × V) (q : κ × Value) => p.1 = q.1 ∧ RelV p.2 q.2
def kV : Key → V
  | .inl i => .int i
  | .inr x => .str x
inductive HO where
    | lst (xs : List V)
    | tup (xs : List V)
    | dK (kvs : List (Key × V)) | dT (kvs : List (List Key × V))
    | set (S : Int → Bool) (n : Nat)
    | ins (C dx : Addr) (fs : List (Str × V))
    | own (x : Addr)
    | xd (fs : List (Str × V))
    | met (f x : Addr)
    | rng (lo hi : Int)
    | frz (o : Obj) (u : HO)
    | tbl (ps : Array Value)
    | ext (φ : Heap → Prop)
abbrev Hp := Addr → Option HO
def upd (H : Hp) (a : Addr) (o : HO) : Hp := fun b => if b = a then some o else H b
theorem upd_same {H : Hp} {a : Addr} {o : HO} : upd H a o a = some o := by unfold upd; rw [if_pos rfl]
theorem upd_ne {H : Hp} {a b : Addr} {o : HO} (h : b ≠ a) : upd H a o b = H b := by unfold upd; rw [if_neg h]
theorem ne_of {H : Hp} {a b : Addr} {o u : HO} (h : H a = some o) (h' : H b = some u) (d : o ≠ u) : a ≠ b := by
  intro e; subst e; rw [h] at h'; exact d (Option.some.inj h')
theorem ne_of_none {H : Hp} {a b : Addr} {o : HO} (h : H a = some o) (h' : H b = none) : a ≠ b := by
  intro e; subst e; rw [h] at h'; cases h'
section
variable (P : Program) (w : World)
def ObjOk (H : Hp) (h : Heap) (a : Addr) : HO → Prop
  | .lst xs => xs.length ≤ sizeLine ∧ ∃ (its : List Value) (n : Nat), Vals xs its ∧ h.get? a = some { cls := .type "list", data := .seq its.toArray n }
  | .tup xs => xs.length ≤ sizeLine ∧ ∃ its : List Value, Vals xs its ∧ IsTup h a its.toArray
  | .dK kvs => kvs.length ≤ sizeLine ∧ (a == sysModules) = false ∧ ∃ vs, KV kvs vs ∧ h.DictOf (mixKind P w) a vs
  | .dT kvs => kvs.length ≤ sizeLine ∧ (a == sysModules) = false ∧ ∃ xs : List (List Key × Addr × Value),
      Paired (fun (p : List Key × V) (q : List Key × Addr × Value) => p.1 = q.1 ∧ H q.2.1 = some (.tup (p.1.map kV)) ∧ RelV p.2 q.2.2) kvs xs ∧
      ∃ o es ep, h.get? a = some o ∧ o.ExactDict ∧ o.data = .dict es ep ∧ es.toList = xs.map (entryOfKey (tupleKind (mixKind P w))) ∧ (xs.map (·.1)).Nodup
  | .set S n => h.SetOf (intKind P w) a S n
  | .ins C dx fs => H dx = some (.own a) ∧ fs.length ≤ 1000 ∧ dx ≠ a ∧ h.get? a = some (PySem.W.instObj C dx) ∧
      ∃ mA, h.Ns1 dx mA ∧ (∀ f, RelO (fs.lookup f) (mA f)) ∧ PySem.Within mA (fs.map (·.1))
  | .own _ => ∃ o, h.get? a = some o
  | .xd fs => ∃ mA, h.Ns1 a mA ∧ ∀ f, RelO (fs.lookup f) (mA f)
  | .rng lo hi => ∃ t u v, h.get? a = some { cls := .type "range", data := .fields #[.int lo t, .int hi u, .int 1 v] }
  | .frz o u => h.get? a = some o ∧ ObjOk H h a u
  | .tbl ps => h.get? a = some { cls := .none, data := .fields ps }
  | .met f x => h.get? a = some (PySem.W.methodObj (.ref f) (.ref x))
  | .ext φ => φ h ∧ (∃ o, h.get? a = some o) ∧ ∀ h1 h2 : Heap, φ h1 → (∀ o, h1.get? a = some o → h2.get? a = some o) → φ h2
def HOk (H : Hp) (h : Heap) : Prop := ∀ a o, H a = some o → ObjOk P w H h a o
end
section
variable {P : Program} {w : World} {H H' : Hp} {h h' : Heap} {a : Addr} {o : HO}
theorem ObjOk.lt (x : ObjOk P w H h a o) : a < h.objs.size := by
  cases o with
  | lst xs => obtain ⟨_, _, _, _, e⟩ := x; exact Heap.lt_size e
  | tup xs => obtain ⟨_, _, _, p⟩ := x; exact p.lt
  | dK kvs => obtain ⟨_, _, _, _, o, _, _, e, _⟩ := x; exact Heap.lt_size e
  | dT kvs => obtain ⟨_, _, _, _, o, _, _, e, _⟩ := x; exact Heap.lt_size e
  | set S n => obtain ⟨o, _, _, _, e, _⟩ := x; exact Heap.lt_size e
  | ins C dx fs => obtain ⟨_, _, _, e, _⟩ := x; exact Heap.lt_size e
  | own y => obtain ⟨_, e⟩ := x; exact Heap.lt_size e
  | xd fs => obtain ⟨_, ⟨_, _, _, e, _⟩, _⟩ := x; exact Heap.lt_size e
  | rng lo hi => obtain ⟨_, _, _, e⟩ := x; exact Heap.lt_size e
  | frz ob u => obtain ⟨e, _⟩ := x; exact Heap.lt_size e
  | tbl ps => exact Heap.lt_size (show h.get? a = some _ from x)
  | met f y => exact Heap.lt_size (show h.get? a = some _ from x)
  | ext φ => obtain ⟨_, ⟨_, e⟩, _⟩ := x; exact Heap.lt_size e
theorem Paired.mapP {α β : Type} {F G : α → β → Prop} : ∀ {l₁ : List α} {l₂ : List β}, Paired F l₁ l₂ → (∀ a b, F a b → G a b) → Paired G l₁ l₂
  | _, _, .nil, _ => .nil
  | _, _, .cons r t, f => .cons (f _ _ r) (Paired.mapP t f)
theorem ObjOk.stay (x : ObjOk P w H h a o) (k : ∀ b u, (b = a ∨ H b = some (.own a)) → h.get? b = some u → h'.get? b = some u)
    (ho : ∀ b, H b = some (.own a) → H' b = some (.own a)) (ht : ∀ b xs, H b = some (.tup xs) → H' b = some (.tup xs)) : ObjOk P w H' h' a o := by
  induction o with
  | lst xs => obtain ⟨z, its, n, r, e⟩ := x; exact ⟨z, its, n, r, k _ _ (.inl rfl) e⟩
  | tup xs => obtain ⟨z, its, r, ob, e, c⟩ := x; exact ⟨z, its, r, ob, k _ _ (.inl rfl) e, c⟩
  | dK kvs => obtain ⟨z, y, vs, r, ob, es, ep, e, c⟩ := x; exact ⟨z, y, vs, r, ob, es, ep, k _ _ (.inl rfl) e, c⟩
  | dT kvs =>
    obtain ⟨z, y, xs, r, ob, es, ep, e, c⟩ := x
    exact ⟨z, y, xs, Paired.mapP r fun p q z => ⟨z.1, ht _ _ z.2.1, z.2.2⟩, ob, es, ep, k _ _ (.inl rfl) e, c⟩
  | set S n => obtain ⟨ob, es, ep, t, e, c⟩ := x; exact ⟨ob, es, ep, t, k _ _ (.inl rfl) e, c⟩
  | ins C dx fs =>
    obtain ⟨d, z, ne, e, mA, ⟨od, es, ep, e2, c⟩, r⟩ := x
    exact ⟨ho _ d, z, ne, k _ _ (.inl rfl) e, mA, ⟨od, es, ep, k _ _ (.inr d) e2, c⟩, r⟩
  | own y => obtain ⟨ob, e⟩ := x; exact ⟨ob, k _ _ (.inl rfl) e⟩
  | xd fs => obtain ⟨mA, ⟨od, es, ep, e, c⟩, r⟩ := x; exact ⟨mA, ⟨od, es, ep, k _ _ (.inl rfl) e, c⟩, r⟩
  | rng lo hi => obtain ⟨t, u, v, e⟩ := x; exact ⟨t, u, v, k _ _ (.inl rfl) e⟩
  | frz ob u ih => obtain ⟨e, q⟩ := x; exact ⟨k _ _ (.inl rfl) e, ih q⟩
  | tbl ps =>
    have e : h.get? a = some { cls := .none, data := .fields ps } := x
    show h'.get? a = some { cls := .none, data := .fields ps }
    exact k a _ (.inl rfl) e
  | met f y =>
    have e : h.get? a = some (PySem.W.methodObj (.ref f) (.ref y)) := x
    show h'.get? a = some (PySem.W.methodObj (.ref f) (.ref y))
    exact k a _ (.inl rfl) e
  | ext φ => obtain ⟨p, ⟨o, e⟩, st⟩ := x; exact ⟨st _ _ p fun o q => k _ _ (.inl rfl) q, ⟨o, k _ _ (.inl rfl) e⟩, st⟩
theorem HOk.lt (x : HOk P w H h) (e : H a = some o) : a < h.objs.size := (x a o e).lt
theorem HOk.fresh (x : HOk P w H h) (e : h.objs.size ≤ a) : H a = none := by
  cases q : H a with
  | none => rfl
  | some u => exact absurd (Nat.lt_of_lt_of_le (x.lt q) e) (Nat.lt_irrefl _)
theorem HOk.kept (x : HOk P w H h) (k : ∀ b u, h.get? b = some u → h'.get? b = some u) : HOk P w H h' := fun a o e =>
  (x a o e).stay (fun b u _ q => k b u q) (fun _ q => q) fun _ _ q => q
theorem HOk.laid (x : HOk P w H h) (k : ∀ b u, h.get? b = some u → h'.get? b = some u) (hp : h.objs.size ≤ a) (new : ObjOk P w (upd H a o) h' a o) : HOk P w (upd H a o) h' := fun b u e => by
  have hn := x.fresh hp
  by_cases hb : b = a
  · subst hb; rw [upd_same] at e; cases e; exact new
  · rw [upd_ne hb] at e
    exact (x b u e).stay (fun c v _ q => k c v q) (fun c q => by rw [upd_ne (ne_of_none q hn)]; exact q) fun c xs q => by rw [upd_ne (ne_of_none q hn)]; exact q
end
def Rd (H : Hp) (a : Addr) (u : HO) : Prop := H a = some u ∨ ∃ o, H a = some (.frz o u)
theorem Rd.of {H : Hp} {a : Addr} {u : HO} (h : H a = some u) : Rd H a u := .inl h
theorem Rd.ok {P : Program} {w : World} {H : Hp} {h : Heap} {a : Addr} {u : HO} (r : Rd H a u) (x : HOk P w H h) : ObjOk P w H h a u := by
  rcases r with r | ⟨o, r⟩
  · exact x a u r
  · obtain ⟨_, q⟩ := x a _ r
    exact q
def Mut : Option HO → Prop
  | some (.lst _) => True
  | some (.dK _) => True
  | some (.dT _) => True
  | some (.set _ _) => True
  | some (.ins _ _ _) => True
  | some (.ext _) => True
  | _ => False
section
variable {P : Program} {w : World} {H : Hp} {h h' : Heap} {x e : Addr} {o' : HO}
theorem HOk.write (ok : HOk P w H h) (mu : Mut (H x)) (he : e = x ∨ H e = some (.own x)) (k : ∀ b u, b ≠ e → h.get? b = some u → h'.get? b = some u) (heo : ∃ u, h'.get? e = some u)
    (new : ObjOk P w (upd H x o') h' x o') : HOk P w (upd H x o') h' := fun b u q => by
  have nown : ∀ c y, H c = some (.own y) → c ≠ x := fun c y r z => by subst z; rw [r] at mu; exact mu
  have ntup : ∀ c xs, H c = some (.tup xs) → c ≠ x := fun c xs r z => by subst z; rw [r] at mu; exact mu
  by_cases hb : b = x
  · subst hb; rw [upd_same] at q; cases q; exact new
  · rw [upd_ne hb] at q
    by_cases hbe : b = e
    · have q' : H b = some (.own x) := by
        rcases he with z | z
        · exact absurd (hbe.trans z) hb
        · rw [hbe]; exact z
      rw [q] at q'; cases q'
      obtain ⟨v, hv⟩ := heo
      exact ⟨v, by rw [hbe]; exact hv⟩
    · refine (ok b u q).stay (fun c v hc r => k c v ?_ r) (fun c r => by rw [upd_ne (nown c b r)]; exact r) fun c xs r => by rw [upd_ne (ntup c xs r)]; exact r
      rcases hc with rfl | hc
      · exact hbe
      · rintro rfl
        rcases he with z | z
        · exact nown c b hc z
        · rw [hc] at z; cases z; exact hb rfl
end
structure Un (fs ex : List Addr) (H H' : Hp) (h h' : Heap) : Prop where
  keep : ∀ b o, h.get? b = some o → H b = none → b ∉ fs → b ∉ ex → h'.get? b = some o
  slot : ∀ b o, h.get? b = some o → H b = none → b ∈ fs → b ∉ ex → ∃ sl, h'.get? b = some { o with slots := sl }
  free : ∀ b o, h.get? b = some o → H b = none → b ∉ ex → H' b = none
  there : ∀ b o, h.get? b = some o → b ∉ ex → ∃ o', h'.get? b = some o'
  tups : ∀ b xs, H b = some (.tup xs) → H' b = some (.tup xs)
  frzs : ∀ b o u, H b = some (.frz o u) → H' b = some (.frz o u)
  tbls : ∀ b ps, H b = some (.tbl ps) → ∃ more, H' b = some (.tbl (ps ++ more))
section
variable {fs fs' ex ex' : List Addr} {H H1 H2 : Hp} {h h1 h2 h' : Heap} {a x e : Addr} {o : HO}
theorem Un.any (u : Un fs ex H H1 h h1) {b : Addr} {ob : Obj} (q : h.get? b = some ob) (n : H b = none) (hx : b ∉ ex) : ∃ sl, h1.get? b = some { ob with slots := sl } := by
  by_cases hb : b ∈ fs
  · exact u.slot b ob q n hb hx
  · exact ⟨ob.slots, u.keep b ob q n hb hx⟩
theorem Un.trans (a : Un fs ex H H1 h h1) (b : Un fs ex H1 H2 h1 h2) : Un fs ex H H2 h h2 where
  keep := fun c ob q n hc hx => b.keep c ob (a.keep c ob q n hc hx) (a.free c ob q n hx) hc hx
  slot := fun c ob q n hc hx => by
    obtain ⟨sl, e1⟩ := a.slot c ob q n hc hx
    obtain ⟨sl', e2⟩ := b.slot c _ e1 (a.free c ob q n hx) hc hx
    exact ⟨sl', e2⟩
  free := fun c ob q n hx => by
    obtain ⟨o', e1⟩ := a.there c ob q hx
    exact b.free c o' e1 (a.free c ob q n hx) hx
  there := fun c ob q hx => by
    obtain ⟨o', e1⟩ := a.there c ob q hx
    exact b.there c o' e1 hx
  tups := fun c xs q => b.tups c xs (a.tups c xs q)
  frzs := fun c ob xs q => b.frzs c ob xs (a.frzs c ob xs q)
  tbls := fun c ps q => by
    obtain ⟨m1, e1⟩ := a.tbls c ps q
    obtain ⟨m2, e2⟩ := b.tbls c _ e1
    exact ⟨m1 ++ m2, by rw [e2, Array.append_assoc]⟩
theorem Un.kept (k : ∀ b u, h.get? b = some u → h'.get? b = some u) : Un fs ex H H h h' :=
  ⟨fun b ob q _ _ _ => k b ob q, fun b ob q _ _ _ => ⟨ob.slots, k b ob q⟩, fun _ _ _ n _ => n, fun b ob q _ => ⟨ob, k b ob q⟩, fun _ _ q => q, fun _ _ _ q => q, fun _ ps q => ⟨#[], by rw [q]; simp⟩⟩
theorem Un.refl : Un fs ex H H h h := Un.kept fun _ _ q => q
theorem Un.laid (k : ∀ b u, h.get? b = some u → h'.get? b = some u) (hp : h.objs.size ≤ a) (hn : H a = none) : Un fs ex H (upd H a o) h h' where
  keep := fun b u q _ _ _ => k b u q
  slot := fun b u q _ _ _ => ⟨u.slots, k b u q⟩
  free := fun b u q n _ => by rw [upd_ne (Nat.ne_of_lt (Nat.lt_of_lt_of_le (Heap.lt_size q) hp))]; exact n
  there := fun b u q _ => ⟨u, k b u q⟩
  tups := fun b xs q => by rw [upd_ne (ne_of_none q hn)]; exact q
  frzs := fun b u xs q => by rw [upd_ne (ne_of_none q hn)]; exact q
  tbls := fun b ps q => ⟨#[], by rw [upd_ne (ne_of_none q hn), q]; simp⟩
theorem Un.write (mu : Mut (H x)) (he : e = x ∨ H e = some (.own x)) (k : ∀ b u, b ≠ e → h.get? b = some u → h'.get? b = some u) (heo : ∃ u, h'.get? e = some u) : Un fs ex H (upd H x o) h h' := by
  have hx : ∀ b, H b = none → b ≠ x := fun b n z => by subst z; rw [n] at mu; exact mu
  have hb : ∀ b, H b = none → b ≠ e := fun b n z => by
    subst z
    rcases he with r | r
    · exact hx b n r
    · rw [n] at r; cases r
  have hm : ∀ b u, H b = some u → ¬ Mut (some u) → b ≠ x := fun b u q nm z => by subst z; rw [q] at mu; exact nm mu
  refine ⟨fun b u q n _ _ => k b u (hb b n) q, fun b u q n _ _ => ⟨u.slots, k b u (hb b n) q⟩, fun b u q n _ => by rw [upd_ne (hx b n)]; exact n, fun b u q _ => ?_,
    fun b xs q => by rw [upd_ne (hm b _ q fun z => z)]; exact q, fun b u xs q => by rw [upd_ne (hm b _ q fun z => z)]; exact q, fun b ps q => ⟨#[], by rw [upd_ne (hm b _ q fun z => z), q]; simp⟩⟩
  by_cases hbe : b = e
  · subst hbe; exact heo
  · exact ⟨u, k b u hbe q⟩
theorem Un.mono (u : Un fs ex H H1 h h1) (hs : ∀ b ∈ fs, b ∈ fs') (hx : ∀ b ∈ ex, b ∈ ex') : Un fs' ex' H H1 h h1 :=
  ⟨fun b ob q n hb he => u.keep b ob q n (fun z => hb (hs b z)) fun z => he (hx b z), fun _ _ q n _ he => u.any q n fun z => he (hx _ z), fun b ob q n he => u.free b ob q n fun z => he (hx b z), fun b ob q he => u.there b ob q fun z => he (hx b z), u.tups, u.frzs, u.tbls⟩
end
def trk (h : Heap) (H : Hp) : List Addr := (List.range h.objs.size).filter fun a => (H a).isSome
def hidT (h : Heap) (H : Hp) : Heap := PySem.W.hideAll h (trk h H)
theorem hidT_size (h : Heap) (H : Hp) : (hidT h H).objs.size = h.objs.size := PySem.W.hideAll_size _ _
theorem hidT_get {h : Heap} {H : Hp} {b : Addr} {o : Obj} (e : h.get? b = some o) (n : H b = none) : (hidT h H).get? b = some o :=
  PySem.W.hideAll_get _ e fun hm => by
    have q : (H b).isSome = true := (List.mem_filter.mp hm).2
    rw [n] at q; simp at q
theorem of_hidT {h : Heap} {H : Hp} {b : Addr} {o : Obj} (e : (hidT h H).get? b = some o) : h.get? b = some o ∧ H b = none := by
  have e' : h.get? b = some o := PySem.W.of_hideAll (trk h H) e
  refine ⟨e', ?_⟩
  cases q : H b with
  | none => rfl
  | some x =>
    have hm : b ∈ trk h H := List.mem_filter.mpr ⟨List.mem_range.mpr (Heap.lt_size e'), by simp [q]⟩
    have z : (hidT h H).get? b = none := PySem.W.hideAll_none (trk h H) hm
    rw [z] at e; cases e
def allNews (g h : Heap) (L : Addr) : List (Addr × Obj) := (List.range h.objs.size).filterMap fun a => if a = L ∨ (g.get? a).isSome = true then none else (h.get? a).map fun o => (a, o)
def rest (g h : Heap) (L d : Addr) : List (Addr × Obj) := (allNews g h L).filter fun p => decide (p.1 ≠ d)
end L2
namespace L2
open PySem PySem.Spec PyProof.Rows
structure Mod (K : PySem.W.Frag) (mg : Str → Option Value) (base : Heap) : Prop where
  kin : K.In base
  glob : base.Ns mainGlobals mg
  blt : ∃ mb, base.Ns builtinsNs mb ∧ ∀ x : Str, x ≠ "__name__" → mb x = bootBuiltins x
  nolimit : base.NoLimit
structure Cx where
  prog : Program
  w : World
  K : PySem.W.Frag
  mg : Str → Option Value
  base : Heap
  A : Around
  N : List Str
  s₀ : Shared
  H₀ : Hp
  env : Env
  outer : List Env
  stack : List Env
  ex : List Addr
  fn : Str → Bool
  calm : Bool
  pn : List (Addr × Obj)
  xe : Value → Shared → Prop
def frs (l : List Env) : List Addr := l.filterMap (·.frame)
abbrev Cx.fs (X : Cx) : List Addr := frs X.outer
def Vis (sc : Scope) (x : Str) : Prop := sc.names.lookup x = some .local ∨ sc.names.lookup x = some .cell ∨ sc.names.lookup x = some .free
def Loc (sc : Scope) (x : Str) : Prop := sc.names.lookup x = some .local ∨ sc.names.lookup x = some .cell
def Look (env : Env) (h : Heap) (m : Str → Option Value) (x : Str) (u : Value) : Prop :=
  (env.kindOf x = some .local ∧ m x = some u) ∨ ((env.kindOf x = some .cell ∨ env.kindOf x = some .free) ∧ ∃ c, env.cells.lookup x = some c ∧ h.IsCell c (some u))
structure Cx.Ok (X : Cx) : Prop where
  mod : Mod X.K X.mg X.base
  kind : X.env.scope.kind = .function
  glob : X.env.globals = mainGlobals
  blt : X.env.builtins = builtinsNs
  above : X.s₀.heap.objs.size ≤ X.env.locals
  inj : ∀ x y c, X.env.cells.lookup x = some c → X.env.cells.lookup y = some c → x = y
  has : ∀ x, (X.env.kindOf x = some .cell ∨ X.env.kindOf x = some .free) → ∃ c, X.env.cells.lookup x = some c
  cab : ∀ x c, X.fn x = true → X.env.cells.lookup x = some c → X.s₀.heap.objs.size ≤ c
  hd : X.calm = true → X.A.handled = none
  frames : X.A.frames = some X.stack
  stk : X.stack = X.outer ∨ (X.stack = X.env :: X.outer ∧ X.env.frame = some X.env.locals)
  exf : ∀ b ∈ X.ex, b ≠ X.env.locals ∧ ∀ x c, X.env.cells.lookup x = some c → c ≠ b
  bs : ∀ b o, X.base.get? b = some o → X.s₀.heap.get? b = some o ∧ X.H₀ b = none
  bsz : X.base.objs.size ≤ X.s₀.heap.objs.size
  noex : ∀ b o, X.base.get? b = some o → b ∉ X.ex
  exfs : ∀ b ∈ X.ex, b ∉ X.fs
  funs : X.s₀.heap.FunFrames X.base X.outer
  frf : ∀ b ∈ X.fs, X.H₀ b = none
structure Inv (X : Cx) (pins : List (Addr × Obj)) (σ : List (Option V)) (H : Hp) (s : Shared) : Prop where
  ok : X.Ok
  os : s.os = X.s₀.os
  bare : AllBare s.gens
  base : Un X.fs X.ex X.H₀ H X.s₀.heap s.heap
  loc : ∃ m, s.heap.Ns X.env.locals m ∧ ∀ (i : Nat) (x : Str) (v : V), X.N[i]? = some x → σ[i]? = some (some v) → Vis X.env.scope x → ∃ u, RelV v u ∧ Look X.env s.heap m x u
  cell : ∀ x c, X.env.cells.lookup x = some c → ∃ v, s.heap.IsCell c v
  free : H X.env.locals = none
  freeC : ∀ x c, X.env.cells.lookup x = some c → H c = none
  pin : ∀ p ∈ X.pn ++ pins, s.heap.get? p.1 = some p.2 ∧ H p.1 = none ∧ p.1 ≠ X.env.locals ∧ p.1 ∉ X.fs ∧ ∀ v, p.2.data ≠ .cell v
  hok : HOk X.prog X.w H s.heap
  len : σ.length = X.N.length
section
variable {X : Cx} {pins : List (Addr × Obj)} {σ : List (Option V)} {H H' : Hp} {s : Shared} {h' : Heap}
theorem Cx.Ok.nofr (ok : X.Ok) {b : Addr} {o : Obj} (e : X.base.get? b = some o) : b ∉ X.fs := fun hb => by
  have := (ok.funs.mem hb).1
  rw [e] at this; cases this
theorem Inv.bs (I : Inv X pins σ H s) : ∀ b o, X.base.get? b = some o → s.heap.get? b = some o ∧ H b = none := fun b o e =>
  ⟨I.base.keep b o (I.ok.bs b o e).1 (I.ok.bs b o e).2 (I.ok.nofr e) (I.ok.noex b o e), I.base.free b o (I.ok.bs b o e).1 (I.ok.bs b o e).2 (I.ok.noex b o e)⟩
theorem Inv.bk (I : Inv X pins σ H s) : ∀ b o, X.base.get? b = some o → s.heap.get? b = some o := fun b o e => (I.bs b o e).1
theorem Inv.mod (I : Inv X pins σ H s) : Mod X.K X.mg X.base := I.ok.mod
theorem Inv.kIn (I : Inv X pins σ H s) : X.K.In s.heap := I.ok.mod.kin.keeps I.bk
theorem Inv.nolimit (I : Inv X pins σ H s) : s.heap.NoLimit := I.ok.mod.nolimit.keeps I.bk
theorem Inv.fr (I : Inv X pins σ H s) : ∃ m, Fr X.base X.env.locals s.heap m :=
  let ⟨m, hn, _⟩ := I.loc
  ⟨m, hn, I.bk, Nat.le_trans I.ok.bsz I.ok.above⟩
theorem Inv.lt (I : Inv X pins σ H s) : X.env.locals < s.heap.objs.size := let ⟨_, hn, _⟩ := I.loc; hn.lt
theorem Inv.sz (I : Inv X pins σ H s) : X.s₀.heap.objs.size ≤ s.heap.objs.size := Nat.le_trans I.ok.above (Nat.le_of_lt I.lt)
theorem Inv.nofs (I : Inv X pins σ H s) {a : Addr} (h : s.heap.objs.size ≤ a) : a ∉ X.fs := fun hb => by
  obtain ⟨_, o, ho, _⟩ := I.ok.funs.mem hb
  exact absurd (Nat.lt_of_lt_of_le (Heap.lt_size ho) (Nat.le_trans I.sz h)) (Nat.lt_irrefl _)
theorem Inv.cne (I : Inv X pins σ H s) : ∀ x c, X.env.cells.lookup x = some c → c ≠ X.env.locals := fun x c e z => by
  obtain ⟨v, o, ho, hd⟩ := I.cell x c e
  obtain ⟨m, ⟨o', es, ep, ho', hd', _⟩, _⟩ := I.loc
  rw [z, ho'] at ho; cases ho; rw [hd'] at hd; cases hd
theorem Inv.funs (I : Inv X pins σ H s) : s.heap.FunFrames X.base X.outer := by
  have all : ∀ (l : List Env), (∀ b ∈ frs l, b ∈ X.fs) → X.s₀.heap.FunFrames X.base l → s.heap.FunFrames X.base l := by
    intro l
    induction l with
    | nil => intro _ _; trivial
    | cons env r ih =>
      intro hs hl
      obtain ⟨hk, ⟨L, o, hf, hn, ho, hd⟩, hr⟩ := hl
      have hL : L ∈ X.fs := hs L (by unfold frs; rw [List.filterMap_cons, hf]; exact List.mem_cons_self)
      obtain ⟨sl, e⟩ := I.base.slot L o ho (I.ok.frf L hL) hL fun z => I.ok.exfs L z hL
      exact ⟨hk, ⟨L, _, hf, hn, e, hd⟩, ih (fun b hb => hs b (by unfold frs; rw [List.filterMap_cons, hf]; exact List.mem_cons_of_mem _ hb)) hr⟩
  exact all X.outer (fun _ hb => hb) I.ok.funs
theorem Inv.stack (I : Inv X pins σ H s) : s.heap.FunFrames X.base X.stack := by
  rcases I.ok.stk with e | ⟨e, hf⟩
  · rw [e]; exact I.funs
  · rw [e]
    obtain ⟨m, hn, _⟩ := I.loc
    refine .cons (by rw [I.ok.kind]; decide) hf hn ?_ I.funs
    exact Heap.get?_none_of_le (Nat.le_trans I.ok.bsz I.ok.above)
theorem Inv.stkSub (I : Inv X pins σ H s) : ∀ b ∈ frs X.stack, b ∈ X.env.locals :: X.fs := fun b hb => by
  rcases I.ok.stk with e | ⟨e, hf⟩
  · rw [e] at hb; exact List.mem_cons_of_mem _ hb
  · rw [e] at hb
    unfold frs at hb
    rw [List.filterMap_cons, hf] at hb
    exact hb
theorem Inv.stkFree (I : Inv X pins σ H s) : ∀ b ∈ frs X.stack, H b = none := fun b hb => by
  rcases List.mem_cons.mp (I.stkSub b hb) with e | hb
  · rw [e]; exact I.free
  · obtain ⟨_, o, ho, _⟩ := I.ok.funs.mem hb
    exact I.base.free b o ho (I.ok.frf b hb) fun z => I.ok.exfs b z hb
theorem Inv.step {g' : Array GenState} {t' : Nat} {d' : Drawn} {ch : List Addr} (I : Inv X pins σ H s)
    (hch : ∀ b ∈ ch, (b ∈ X.ex ∨ X.s₀.heap.objs.size ≤ b) ∧ b ≠ X.env.locals ∧ (∀ x c, X.env.cells.lookup x = some c → c ≠ b) ∧ ∀ p ∈ X.pn ++ pins, p.1 ≠ b)
    (keep : ∀ b o, b ≠ X.env.locals → b ∉ X.fs → b ∉ ch → s.heap.get? b = some o → H b = none → h'.get? b = some o)
    (slot : ∀ b o, b ≠ X.env.locals → b ∈ X.fs → b ∉ ch → s.heap.get? b = some o → H b = none → ∃ sl, h'.get? b = some { o with slots := sl }) (free : ∀ b o, b ∉ ch → s.heap.get? b = some o → H b = none → H' b = none)
    (there : ∀ b o, b ∉ ch → s.heap.get? b = some o → ∃ o', h'.get? b = some o')
    (tups : ∀ b xs, H b = some (.tup xs) → H' b = some (.tup xs)) (frzs : ∀ b o u, H b = some (.frz o u) → H' b = some (.frz o u)) (tbls : ∀ b ps, H b = some (.tbl ps) → ∃ more, H' b = some (.tbl (ps ++ more)))
    (ns : ∀ m, s.heap.Ns X.env.locals m → h'.Ns X.env.locals m) (hok : HOk X.prog X.w H' h') (hg : AllBare g') :
    Inv X pins σ H' { s with heap := h', gens := g', drawn := d', toks := t' } := by
  have neL : ∀ b o, X.s₀.heap.get? b = some o → b ≠ X.env.locals := fun b o e => Nat.ne_of_lt (Nat.lt_of_lt_of_le (Heap.lt_size e) I.ok.above)
  have neC : ∀ b o, X.s₀.heap.get? b = some o → b ∉ X.ex → b ∉ ch := fun b o e hx hb => by
    rcases (hch b hb).1 with z | z
    · exact hx z
    · exact absurd (Nat.lt_of_lt_of_le (Heap.lt_size e) z) (Nat.lt_irrefl _)
  have cellK : ∀ x c, X.env.cells.lookup x = some c → ∀ v, s.heap.IsCell c v → h'.IsCell c v := fun x c e v ⟨o, ho, hd⟩ => by
    have nch : c ∉ ch := fun z => (hch c z).2.2.1 x c e rfl
    by_cases hc : c ∈ X.fs
    · obtain ⟨sl, q⟩ := slot c o (I.cne x c e) hc nch ho (I.freeC x c e)
      exact ⟨_, q, hd⟩
    · exact ⟨o, keep c o (I.cne x c e) hc nch ho (I.freeC x c e), hd⟩
  refine ⟨I.ok, I.os, hg, ⟨fun b o e n hb hx => ?_, fun b o e n hb hx => ?_, fun b o e n hx => ?_, fun b o e hx => ?_, fun b xs e => tups b xs (I.base.tups b xs e), fun b o xs e => frzs b o xs (I.base.frzs b o xs e), fun b ps e => ?_⟩, ?_, fun x c e => ?_, ?_, fun x c e => ?_, fun p hp => ?_, hok, I.len⟩
  · exact keep b o (neL b o e) hb (neC b o e hx) (I.base.keep b o e n hb hx) (I.base.free b o e n hx)
  · obtain ⟨sl, e1⟩ := I.base.slot b o e n hb hx
    obtain ⟨sl', e2⟩ := slot b _ (neL b o e) hb (neC b o e hx) e1 (I.base.free b o e n hx)
    exact ⟨sl', e2⟩
  · obtain ⟨o', e1⟩ := I.base.there b o e hx
    exact free b o' (neC b o e hx) e1 (I.base.free b o e n hx)
  · obtain ⟨o', e1⟩ := I.base.there b o e hx
    exact there b o' (neC b o e hx) e1
  · obtain ⟨m1, e1⟩ := I.base.tbls b ps e
    obtain ⟨m2, e2⟩ := tbls b _ e1
    exact ⟨m1 ++ m2, by rw [e2, Array.append_assoc]⟩
  · obtain ⟨m, hn, hl⟩ := I.loc
    refine ⟨m, ns m hn, fun i x v e1 e2 e3 => ?_⟩
    obtain ⟨u, r, l⟩ := hl i x v e1 e2 e3
    refine ⟨u, r, ?_⟩
    rcases l with l | ⟨k, c, e, z⟩
    · exact .inl l
    · exact .inr ⟨k, c, e, cellK x c e _ z⟩
  · obtain ⟨v, z⟩ := I.cell x c e
    exact ⟨v, cellK x c e v z⟩
  · obtain ⟨m, ⟨o, _, _, ho, _⟩, _⟩ := I.loc
    exact free _ o (fun z => (hch _ z).2.1 rfl) ho I.free
  · obtain ⟨v, o, ho, hd⟩ := I.cell x c e
    exact free c o (fun z => (hch c z).2.2.1 x c e rfl) ho (I.freeC x c e)
  · obtain ⟨e, n, ne, nf, d⟩ := I.pin p hp
    have nch : p.1 ∉ ch := fun z => (hch p.1 z).2.2.2 p hp rfl
    exact ⟨keep p.1 p.2 ne nf nch e n, free p.1 p.2 nch e n, ne, nf, d⟩
theorem Inv.un {t' : Nat} (I : Inv X pins σ H s) (u : Un X.fs [] H H' s.heap h') (hok : HOk X.prog X.w H' h') : Inv X pins σ H' { s with heap := h', toks := t' } := by
  obtain ⟨m, ⟨o, es, ep, ho, r⟩, _⟩ := id I.loc
  obtain ⟨sl, hL⟩ := u.any ho I.free (by simp)
  exact I.step (g' := s.gens) (d' := s.drawn) (ch := []) (fun _ z => nomatch z) (fun b o _ hb _ e n => u.keep b o e n hb (by simp)) (fun b o _ hb _ e n => u.slot b o e n hb (by simp)) (fun b o _ e n => u.free b o e n (by simp)) (fun b o _ e => u.there b o e (by simp)) u.tups u.frzs u.tbls (fun m' hm => by
    obtain ⟨o', es', ep', ho', r'⟩ := hm
    rw [ho] at ho'; cases ho'
    exact ⟨_, es', ep', hL, r'⟩) hok I.bare
theorem Inv.call {g' : Array GenState} {t' : Nat} {d' : Drawn} {ch : List Addr} (I : Inv X pins σ H s) (u : Un (frs X.stack) ch H H' s.heap h') (hok : HOk X.prog X.w H' h') (hg : AllBare g')
    (hch : ∀ b ∈ ch, (b ∈ X.ex ∨ X.s₀.heap.objs.size ≤ b) ∧ b ≠ X.env.locals ∧ (∀ x c, X.env.cells.lookup x = some c → c ≠ b) ∧ ∀ p ∈ X.pn ++ pins, p.1 ≠ b) :
    Inv X pins σ H' { s with heap := h', gens := g', drawn := d', toks := t' } := by
  obtain ⟨m, ⟨o, es, ep, ho, r⟩, _⟩ := id I.loc
  obtain ⟨sl, hL⟩ := u.any ho I.free fun z => (hch _ z).2.1 rfl
  exact I.step (ch := ch) hch (fun b o hL hb hc e n => u.keep b o e n (fun z => (List.mem_cons.mp (I.stkSub b z)).elim hL hb) hc) (fun b o _ _ hc e n => u.any e n hc) (fun b o hc e n => u.free b o e n hc) (fun b o hc e => u.there b o e hc) u.tups u.frzs u.tbls (fun m' hm => by
    obtain ⟨o', es', ep', ho', r'⟩ := hm
    rw [ho] at ho'; cases ho'
    exact ⟨_, es', ep', hL, r'⟩) hok hg
theorem Inv.turned {t' : Nat} {it : Addr} (I : Inv X pins σ H s) (k : ∀ b o, b ≠ it → s.heap.get? b = some o → h'.get? b = some o) (hn : H it = none) (hL : it ≠ X.env.locals)
    (h1 : it ∈ X.ex ∨ X.s₀.heap.objs.size ≤ it) (h2 : ∀ x c, X.env.cells.lookup x = some c → c ≠ it) (h3 : ∀ p ∈ X.pn ++ pins, p.1 ≠ it) : Inv X pins σ H { s with heap := h', toks := t' } := by
  have nit : ∀ b u, H b = some u → b ≠ it := fun b u e z => by rw [z, hn] at e; cases e
  refine I.step (g' := s.gens) (d' := s.drawn) (ch := [it]) (fun b hb => ?_) (fun b o _ _ hc e _ => k b o (fun z => hc (by simp [z])) e) (fun b o _ _ hc e _ => ⟨o.slots, k b o (fun z => hc (by simp [z])) e⟩) (fun _ _ _ _ n => n)
    (fun b o hc e => ⟨o, k b o (fun z => hc (by simp [z])) e⟩) (fun _ _ e => e) (fun _ _ _ e => e) (fun b ps e => ⟨#[], by rw [e]; simp⟩) (fun m hm => ?_) (fun b u e => ?_) I.bare
  · have e : b = it := by simpa using hb
    subst e
    exact ⟨h1, hL, h2, h3⟩
  · obtain ⟨o, es, ep, ho, r⟩ := hm
    exact ⟨o, es, ep, k _ o (Ne.symm hL) ho, r⟩
  · refine (I.hok b u e).stay (fun c v hc q => k c v ?_ q) (fun _ q => q) fun _ _ q => q
    rcases hc with z | z
    · rw [z]; exact nit b u e
    · exact nit c _ z
theorem Inv.tok (I : Inv X pins σ H s) (t : Nat) : Inv X pins σ H { s with toks := t } := I.un (h' := s.heap) (t' := t) Un.refl I.hok
theorem Inv.kept {t' : Nat} (I : Inv X pins σ H s) (k : ∀ b u, s.heap.get? b = some u → h'.get? b = some u) : Inv X pins σ H { s with heap := h', toks := t' } := I.un (Un.kept k) (I.hok.kept k)
theorem Inv.laid {a : Addr} {o : HO} {t' : Nat} (I : Inv X pins σ H s) (k : ∀ b u, s.heap.get? b = some u → h'.get? b = some u) (hp : s.heap.objs.size ≤ a) (new : ObjOk X.prog X.w (upd H a o) h' a o) :
    Inv X pins σ (upd H a o) { s with heap := h', toks := t' } := I.un (Un.laid k hp (I.hok.fresh hp)) (I.hok.laid k hp new)
theorem Inv.write {x e : Addr} {o : HO} {t' : Nat} (I : Inv X pins σ H s) (mu : Mut (H x)) (he : e = x ∨ H e = some (.own x)) (k : ∀ b u, b ≠ e → s.heap.get? b = some u → h'.get? b = some u) (heo : ∃ u, h'.get? e = some u)
    (new : ObjOk X.prog X.w (upd H x o) h' x o) : Inv X pins σ (upd H x o) { s with heap := h', toks := t' } := I.un (Un.write mu he k heo) (I.hok.write mu he k heo new)
theorem Inv.pins_of {pins' : List (Addr × Obj)} (I : Inv X pins σ H s) (h : ∀ p ∈ pins', s.heap.get? p.1 = some p.2 ∧ H p.1 = none ∧ p.1 ≠ X.env.locals ∧ p.1 ∉ X.fs ∧ ∀ v, p.2.data ≠ .cell v) : Inv X pins' σ H s :=
  ⟨I.ok, I.os, I.bare, I.base, I.loc, I.cell, I.free, I.freeC, fun p hp => (List.mem_append.mp hp).elim (fun z => I.pin p (List.mem_append_left _ z)) (h p), I.hok, I.len⟩
theorem nodup_ix {N : List Str} (hN : N.Nodup) {i j : Nat} {x : Str} (a : N[i]? = some x) (b : N[j]? = some x) : i = j := by
  obtain ⟨h1, e1⟩ := List.getElem?_eq_some_iff.mp a
  obtain ⟨h2, e2⟩ := List.getElem?_eq_some_iff.mp b
  exact (List.getElem_inj hN).mp (e1.trans e2.symm)
theorem store_ok2 {M : Model} {A : Around} {E : Value → Shared → Prop} {i : Nat} {x : Str} {v : V} {u : Value} {Q : Unit → Shared → Prop} (I : Inv X pins σ H s) (hN : X.N.Nodup) (hi : X.N[i]? = some x) (hx : Loc X.env.scope x) (r : RelV v u)
    (h : ∀ s', Inv X pins (σ.set i (some v)) H s' → (∃ a, Heap.SameBut a s.heap s'.heap ∧ (a = X.env.locals ∨ X.env.cells.lookup x = some a)) → Q () s') (hf : X.fn x = true ∨ X.env.scope.names.lookup x = some .local := by first | exact .inl rfl | exact .inr rfl | assumption) : wpAny M A (storeName X.env x u) Q E s := by
  obtain ⟨m, hn, hl⟩ := id I.loc
  have hcls : (X.env.scope.kind == .class || (X.env.scope.kind == .module && X.env.locals != X.env.globals)) = false := by rw [I.ok.kind]; rfl
  have hiσ : i < σ.length := by rw [I.len]; exact (List.getElem?_eq_some_iff.mp hi).1
  have cne := I.cne
  have tracked : ∀ {a : Addr} {h' : Heap}, (∃ o, s.heap.get? a = some o ∧ H a = none) → Heap.SameBut a s.heap h' → HOk X.prog X.w H h' := fun {a h'} ha hs b ob e => by
    obtain ⟨_, _, hfree⟩ := ha
    refine (I.hok b ob e).stay (fun c w' hc q => (hs.2 c ?_).trans q) (fun _ q => q) fun _ _ q => q
    rintro rfl
    rcases hc with rfl | hc
    · rw [hfree] at e; cases e
    · rw [hfree] at hc; cases hc
  rcases hx with hk | hk
  · refine wpAny_storeName_local hk hn (fun h' hn' hs => ?_) hcls
    obtain ⟨oL, _, _, hoL, _⟩ := id hn
    refine h _ ⟨I.ok, I.os, I.bare, ⟨fun b o e n hb hx => ?_, fun b o e n hb hx => ?_, I.base.free, fun b o e hx => ?_, I.base.tups, I.base.frzs, I.base.tbls⟩, ⟨_, hn', fun j y v' e1 e2 e3 => ?_⟩, fun y c e => ?_, I.free, I.freeC, fun p hp => ?_, tracked ⟨oL, hoL, I.free⟩ hs, by simpa using I.len⟩ ⟨_, hs, .inl rfl⟩
    · exact (hs.2 b (Nat.ne_of_lt (Nat.lt_of_lt_of_le (Heap.lt_size e) I.ok.above))).trans (I.base.keep b o e n hb hx)
    · obtain ⟨sl, e1⟩ := I.base.slot b o e n hb hx
      exact ⟨sl, (hs.2 b (Nat.ne_of_lt (Nat.lt_of_lt_of_le (Heap.lt_size e) I.ok.above))).trans e1⟩
    · obtain ⟨o', e1⟩ := I.base.there b o e hx
      exact ⟨o', (hs.2 b (Nat.ne_of_lt (Nat.lt_of_lt_of_le (Heap.lt_size e) I.ok.above))).trans e1⟩
    · by_cases hj : j = i
      · subst hj
        rw [hi] at e1; cases e1
        rw [List.getElem?_set_self hiσ] at e2
        cases e2
        exact ⟨u, r, .inl ⟨hk, by simp⟩⟩
      · rw [List.getElem?_set_ne (Ne.symm hj)] at e2
        obtain ⟨u', r', q⟩ := hl j y v' e1 e2 e3
        refine ⟨u', r', ?_⟩
        rcases q with ⟨k, e⟩ | ⟨k, c, e, z⟩
        · refine .inl ⟨k, ?_⟩
          have : y ≠ x := fun e => hj (nodup_ix hN e1 (e ▸ hi))
          simp [this, e]
        · exact .inr ⟨k, c, e, z.sameBut hs (cne y c e)⟩
    · obtain ⟨w', z⟩ := I.cell y c e
      exact ⟨w', z.sameBut hs (cne y c e)⟩
    · obtain ⟨e, n, ne, nf, d⟩ := I.pin p hp
      exact ⟨(hs.2 p.1 ne).trans e, n, ne, nf, d⟩
  · have hfn : X.fn x = true := by
      rcases hf with z | z
      · exact z
      · rw [z] at hk; cases hk
    obtain ⟨c, hc⟩ := I.ok.has x (.inl hk)
    obtain ⟨w', z⟩ := I.cell x c hc
    refine wpAny_storeName_cell I.ok.kind hk hc z (fun h' hc' hs => ?_)
    obtain ⟨oc, hoc, hocd⟩ := id z
    refine h { s with heap := h' } ⟨I.ok, I.os, I.bare, ⟨fun b o e n hb hx => ?_, fun b o e n hb hx => ?_, I.base.free, fun b o e hx => ?_, I.base.tups, I.base.frzs, I.base.tbls⟩, ⟨m, hn.sameBut hs (Ne.symm (cne x c hc)), fun j y v' e1 e2 e3 => ?_⟩, fun y c' e => ?_, I.free, I.freeC, fun p hp => ?_, tracked ⟨oc, hoc, I.freeC x c hc⟩ hs, by simpa using I.len⟩ ⟨c, hs, .inr hc⟩
    · exact (hs.2 b (Nat.ne_of_lt (Nat.lt_of_lt_of_le (Heap.lt_size e) (I.ok.cab x c hfn hc)))).trans (I.base.keep b o e n hb hx)
    · obtain ⟨sl, e1⟩ := I.base.slot b o e n hb hx
      exact ⟨sl, (hs.2 b (Nat.ne_of_lt (Nat.lt_of_lt_of_le (Heap.lt_size e) (I.ok.cab x c hfn hc)))).trans e1⟩
    · obtain ⟨o', e1⟩ := I.base.there b o e hx
      exact ⟨o', (hs.2 b (Nat.ne_of_lt (Nat.lt_of_lt_of_le (Heap.lt_size e) (I.ok.cab x c hfn hc)))).trans e1⟩
    · by_cases hj : j = i
      · subst hj
        rw [hi] at e1; cases e1
        rw [List.getElem?_set_self hiσ] at e2
        cases e2
        exact ⟨u, r, .inr ⟨.inl hk, c, hc, hc'⟩⟩
      · rw [List.getElem?_set_ne (Ne.symm hj)] at e2
        obtain ⟨u', r', q⟩ := hl j y v' e1 e2 e3
        refine ⟨u', r', ?_⟩
        rcases q with q | ⟨k, c', e, z'⟩
        · exact .inl q
        · refine .inr ⟨k, c', e, z'.sameBut hs ?_⟩
          rintro rfl
          exact hj (nodup_ix hN e1 (I.ok.inj _ _ _ e hc ▸ hi))
    · by_cases hcc : c' = c
      · subst hcc; exact ⟨_, hc'⟩
      · obtain ⟨w2, z2⟩ := I.cell y c' e
        exact ⟨w2, z2.sameBut hs hcc⟩
    · obtain ⟨e, n, ne, nf, d⟩ := I.pin p hp
      refine ⟨(hs.2 p.1 ?_).trans e, n, ne, nf, d⟩
      intro q
      rw [q, hoc] at e
      have q' : oc = p.2 := Option.some.inj e
      exact d w' (by rw [← q']; exact hocd)
theorem store_ok {M : Model} {A : Around} {E : Value → Shared → Prop} {i : Nat} {x : Str} {v : V} {u : Value} {Q : Unit → Shared → Prop} (I : Inv X pins σ H s) (hN : X.N.Nodup) (hi : X.N[i]? = some x) (hx : Loc X.env.scope x) (r : RelV v u)
    (h : ∀ s', Inv X pins (σ.set i (some v)) H s' → Q () s') (hf : X.fn x = true ∨ X.env.scope.names.lookup x = some .local := by first | exact .inl rfl | exact .inr rfl | assumption) : wpAny M A (storeName X.env x u) Q E s :=
  store_ok2 I hN hi hx r (fun s' I' _ => h s' I') hf
theorem Inv.call' {s' : Shared} {ch : List Addr} (I : Inv X pins σ H s) (ho : s'.os = s.os) (u : Un (frs X.stack) ch H H' s.heap s'.heap) (hok : HOk X.prog X.w H' s'.heap) (hg : AllBare s'.gens)
    (hch : ∀ b ∈ ch, (b ∈ X.ex ∨ X.s₀.heap.objs.size ≤ b) ∧ b ≠ X.env.locals ∧ (∀ x c, X.env.cells.lookup x = some c → c ≠ b) ∧ ∀ p ∈ X.pn ++ pins, p.1 ≠ b) : Inv X pins σ H' s' := by
  obtain ⟨h', g', d', t', o'⟩ := s'
  have e : o' = s.os := ho
  subst e
  exact I.call (g' := g') (t' := t') (d' := d') u hok hg hch
end
abbrev XK := Value → Option Addr → Hp → Prop
abbrev St := List (Option V)
abbrev VK := V → Hp → Prop
abbrev TE := St → Hp → VK → Prop
abbrev TT := St → Hp → (Bool → Hp → Prop) → Prop
abbrev TA := St → Hp → (List V → Hp → Prop) → Prop
structure Ends where
  nx : St → Hp → Prop
  rt : VK
  bk : St → Hp → Prop := fun _ _ => False
  ct : St → Hp → Prop := fun _ _ => False
abbrev TS := Ends → St → Hp → Prop
def EP (X : Cx) (pins : List (Addr × Obj)) (σ : St) (Q : VK) (u : Value) (s' : Shared) : Prop := ∃ v H', Inv X pins σ H' s' ∧ RelV v u ∧ Q v H'
def TP (X : Cx) (pins : List (Addr × Obj)) (σ : St) (Q : Bool → Hp → Prop) (b : Bool) (s' : Shared) : Prop := ∃ H', Inv X pins σ H' s' ∧ Q b H'
def AP (X : Cx) (pins : List (Addr × Obj)) (σ : St) (Q : List V → Hp → Prop) (us : List Value) (s' : Shared) : Prop := ∃ vs H', Inv X pins σ H' s' ∧ Vals vs us ∧ Q vs H'
def SP (X : Cx) (pins : List (Addr × Obj)) (D : Ends) (f : Flow) (s' : Shared) : Prop :=
  match f with
  | .next => ∃ σ' H', Inv X pins σ' H' s' ∧ D.nx σ' H'
  | .brk => ∃ σ' H', Inv X pins σ' H' s' ∧ D.bk σ' H'
  | .cont => ∃ σ' H', Inv X pins σ' H' s' ∧ D.ct σ' H'
  | .ret u => ∃ v σ' H', Inv X pins σ' H' s' ∧ RelV v u ∧ D.rt v H'
def PE (X : Cx) (e : Expr) (t : TE) : Prop :=
  ∀ (pins : List (Addr × Obj)) (s : Shared) (σ : St) (H : Hp) (Q : VK), Inv X pins σ H s → t σ H Q → wpAny (model X.prog X.w) X.A (eval e X.env) (EP X pins σ Q) X.xe s
def PT (X : Cx) (e : Expr) (t : TT) : Prop :=
  ∀ (pins : List (Addr × Obj)) (s : Shared) (σ : St) (H : Hp) (Q : Bool → Hp → Prop), Inv X pins σ H s → t σ H Q → wpAny (model X.prog X.w) X.A (isTrue e X.env (eval e X.env)) (TP X pins σ Q) X.xe s
def PW (X : Cx) (e : Expr) (t : TT) : Prop :=
  ∀ (whole : Sem Value) (pins : List (Addr × Obj)) (s : Shared) (σ : St) (H : Hp) (Q : Bool → Hp → Prop), Inv X pins σ H s → t σ H Q → wpAny (model X.prog X.w) X.A (isTrue e X.env whole) (TP X pins σ Q) X.xe s
theorem PW.pt {X : Cx} {e : Expr} {t : TT} (h : PW X e t) : PT X e t := h _
def PA (X : Cx) (es : List Expr) (t : TA) : Prop :=
  ∀ (pos : Pos) (pins : List (Addr × Obj)) (s : Shared) (σ : St) (H : Hp) (Q : List V → Hp → Prop), Inv X pins σ H s → t σ H Q → wpAny (model X.prog X.w) X.A (spliced (backTo pos (starEach es X.env))) (AP X pins σ Q) X.xe s
def PS (X : Cx) (st : Stmt) (t : TS) : Prop :=
  ∀ (pins : List (Addr × Obj)) (s : Shared) (σ : St) (H : Hp) (D : Ends), Inv X pins σ H s → t D σ H → wpAny (model X.prog X.w) X.A (exec st X.env) (SP X pins D) X.xe s
def PSs (X : Cx) (st : List Stmt) (t : TS) : Prop :=
  ∀ (pins : List (Addr × Obj)) (s : Shared) (σ : St) (H : Hp) (D : Ends), Inv X pins σ H s → t D σ H → wpAny (model X.prog X.w) X.A (execs st X.env) (SP X pins D) X.xe s
theorem thn {α : Type} {t : Sem α} {Q Q' : α → Shared → Prop} {M : Model} {A : Around} {E : Value → Shared → Prop} {s : Shared} (h : wpAny M A t Q E s) (hQ : ∀ a s, Q a s → Q' a s) : wpAny M A t Q' E s := wpAny_mono h hQ fun _ _ x => x
end L2
namespace L2
open PySem PySem.Spec PyProof.Rows
section
variable {X : Cx}
theorem bin {a b : Expr} {ta tb : TE} (ha : PE X a ta) (hb : PE X b tb) {pins : List (Addr × Obj)} {s : Shared} {σ : St} {H : Hp} {R : V → V → Hp → Prop} (I : Inv X pins σ H s) (h : ta σ H fun x H1 => tb σ H1 fun y H2 => R x y H2)
    {α : Type} {Q : α → Shared → Prop} {f : Value → Value → Sem α}
    (hf : ∀ v u s2 x y H2, Inv X pins σ H2 s2 → RelV x v → RelV y u → R x y H2 → wpAny (model X.prog X.w) X.A (f v u) Q X.xe s2) :
    wpAny (model X.prog X.w) X.A (eval a X.env) (fun v s₁ => wpAny (model X.prog X.w) X.A (eval b X.env) (fun u s₂ => wpAny (model X.prog X.w) X.A (f v u) Q X.xe s₂) X.xe s₁) X.xe s := by
  refine thn (ha pins s σ H _ I h) fun v s1 ⟨x, H1, I1, r1, q1⟩ => ?_
  refine thn (hb pins s1 σ H1 _ I1 q1) fun u s2 ⟨y, H2, I2, r2, q2⟩ => ?_
  exact hf v u s2 x y H2 I2 r1 r2 q2
def tVar (i : Nat) : TE := fun σ H Q => ∃ v, σ[i]? = some (some v) ∧ Q v H
def tC (v : V) : TE := fun _ H Q => Q v H
theorem pe_var {i : Nat} {x : Str} {pos : Pos} (hN : X.N[i]? = some x) (hv : Vis X.env.scope x) (hd : (x == ("__debug__" : Str)) = false := by decide) (hcd : (x == ("__classdict__" : Str)) = false := by decide) : PE X (.Name x pos) (tVar i) := by
  intro pins s σ H Q I h
  obtain ⟨v, e, h⟩ := h
  obtain ⟨m, hn, hl⟩ := I.loc
  obtain ⟨u, r, l⟩ := hl i x v hN e hv
  have fin : EP X pins σ Q u s := ⟨v, H, I, r, h⟩
  rcases l with ⟨hk, hm⟩ | ⟨hk, c, hc, hcell⟩
  · exact wpAny_Name (wpAny_loadName_local I.ok.kind hk hn hm fin) hd
  · rcases hk with hk | hk
    · exact wpAny_Name (wpAny_loadName_cell I.ok.kind hk hc hcell fin) hd
    · exact wpAny_Name (wpAny_loadName_free I.ok.kind hk hc hcell fin hcd) hd
theorem pe_int {i j pos} : PE X (.Constant (.int i) j pos) (tC (.int i)) := fun _ _ _ H _ I h => wpAny_Constant_int ⟨.int i, H, I.tok _, ⟨_, rfl⟩, h⟩
theorem pe_bl {b j pos} : PE X (.Constant (.bool b) j pos) (tC (.bl b)) := fun _ _ _ H _ I h => Constant_bool ⟨.bl b, H, I, rfl, h⟩
theorem pe_non {j pos} : PE X (.Constant .none j pos) (tC .non) := fun _ _ _ H _ I h => Constant_none ⟨.non, H, I, rfl, h⟩
theorem pe_str {x j pos} : PE X (.Constant (.str x) j pos) (tC (.str x)) := fun _ _ _ H _ I h => Calls.Constant_str ⟨.str x, H, I.tok _, ⟨_, rfl⟩, h⟩
def Gl (X : Cx) (x : Str) : Prop := X.env.kindOf x = some .globalImplicit
theorem ld_glob {E : Value → Shared → Prop} {pins : List (Addr × Obj)} {s : Shared} {σ : St} {H : Hp} {x : Str} {u : Value} {pos : Pos} {Q : Value → Shared → Prop} (I : Inv X pins σ H s) (hg : Gl X x) (hm : X.mg x = some u) (h : Q u s)
    (hd : (x == ("__debug__" : Str)) = false := by decide) : wpAny (model X.prog X.w) X.A (eval (.Name x pos) X.env) Q E s :=
  Calls.Name_function_global I.ok.kind hg (Calls.loadGlobal_global (by rw [I.ok.glob]; exact I.mod.glob.keeps I.bk) hm h) hd
theorem ld_blt {E : Value → Shared → Prop} {pins : List (Addr × Obj)} {s : Shared} {σ : St} {H : Hp} {x : Str} {u : Value} {pos : Pos} {Q : Value → Shared → Prop} (I : Inv X pins σ H s) (hg : Gl X x) (hm : X.mg x = none) (hv : bootBuiltins x = some u) (h : Q u s)
    (hn : x ≠ "__name__" := by decide) (hd : (x == ("__debug__" : Str)) = false := by decide) : wpAny (model X.prog X.w) X.A (eval (.Name x pos) X.env) Q E s := by
  obtain ⟨mb, h1, h2⟩ := I.mod.blt
  exact Calls.Name_function_global I.ok.kind hg (Calls.loadGlobal_builtin (by rw [I.ok.glob]; exact I.mod.glob.keeps I.bk) hm (by rw [I.ok.blt]; exact h1.keeps I.bk) ((h2 x hn).trans hv) h) hd
theorem pe_glob {x : Str} {v : V} {u : Value} {pos : Pos} (hg : Gl X x) (hm : X.mg x = some u) (r : RelV v u) (hd : (x == ("__debug__" : Str)) = false := by decide) : PE X (.Name x pos) (tC v) :=
  fun _ _ _ H _ I h => ld_glob I hg hm ⟨v, H, I, r, h⟩ hd
theorem pe_bltn {x : Str} {v : V} {u : Value} {pos : Pos} (hg : Gl X x) (hm : X.mg x = none) (hv : bootBuiltins x = some u) (r : RelV v u) (hn : x ≠ "__name__" := by decide) (hd : (x == ("__debug__" : Str)) = false := by decide) : PE X (.Name x pos) (tC v) :=
  fun _ _ _ H _ I h => ld_blt I hg hm hv ⟨v, H, I, r, h⟩ hn hd
def t2I (ta tb : TE) (k : Int → Int → Hp → Prop) : St → Hp → Prop := fun σ H => ta σ H fun x H1 => tb σ H1 fun y H2 => ∃ i j, x = .int i ∧ y = .int j ∧ k i j H2
def tAdd (ta tb : TE) : TE := fun σ H Q => t2I ta tb (fun i j H2 => Q (.int (i + j)) H2) σ H
def tSub (ta tb : TE) : TE := fun σ H Q => t2I ta tb (fun i j H2 => Q (.int (i - j)) H2) σ H
def tMul (ta tb : TE) : TE := fun σ H Q => t2I ta tb (fun i j H2 => (-(2 ^ 64) < i ∧ i < 2 ^ 64) ∧ Q (.int (i * j)) H2) σ H
variable {a b : Expr} {ta tb : TE} {pos : Pos}
def PC (X : Cx) (op : CmpOp) (a b : Expr) (t : TE) : Prop :=
  ∀ (pins : List (Addr × Obj)) (s : Shared) (σ : St) (H : Hp) (Q : VK), Inv X pins σ H s → t σ H Q →
    wpAny (model X.prog X.w) X.A (eval a X.env) (fun v s₁ => wpAny (model X.prog X.w) X.A (eval b X.env) (fun u s₂ => wpAny (model X.prog X.w) X.A (compareOp op v u) (EP X pins σ Q) X.xe s₂) X.xe s₁) X.xe s
theorem nobehind (b : Expr) {op : CmpOp} (h : op ≠ .In) (h2 : op ≠ .NotIn) : behindInMarks op b = false := by
  have e1 : (op == CmpOp.In) = false := by cases op <;> first | rfl | exact absurd rfl h
  have e2 : (op == CmpOp.NotIn) = false := by cases op <;> first | rfl | exact absurd rfl h2
  cases b <;> simp [behindInMarks, e1, e2]
def tCmp (p : Int → Int → Bool) (ta tb : TE) : TE := fun σ H Q => t2I ta tb (fun i j H2 => Q (.bl (p i j)) H2) σ H
abbrev tLt : TE → TE → TE := tCmp fun i j => decide (i < j)
abbrev tLe : TE → TE → TE := tCmp fun i j => decide (i ≤ j)
abbrev tGt : TE → TE → TE := tCmp fun i j => decide (j < i)
abbrev tGe : TE → TE → TE := tCmp fun i j => decide (j ≤ i)
abbrev tEqI : TE → TE → TE := tCmp fun i j => decide (i = j)
abbrev tNeI : TE → TE → TE := tCmp fun i j => !decide (i = j)
def tIsN (ta : TE) : TE := fun σ H Q => ta σ H fun x H1 => Q (.bl (decide (x = .non))) H1
def tNotN (ta : TE) : TE := fun σ H Q => ta σ H fun x H1 => Q (.bl (!decide (x = .non))) H1
def tB (t : TE) : TT := fun σ H Q => t σ H fun x H1 => ∃ c, x = .bl c ∧ Q c H1
theorem pt_cmp {op : CmpOp} {t : TE} (h : PC X op a b t) (h1 : behindInMarks op b = false := by first | exact nobehind _ (by decide) (by decide) | rfl) : PT X (.Compare a [op] [b] pos) (tB t) := by
  intro pins s σ H Q I hw
  refine wpAny_isTrue_Compare1 (thn (h pins s σ H _ I hw) fun v s1 h1 => thn h1 fun u s2 h2 => thn h2 fun c s3 ⟨x, H1, I1, r1, q1⟩ => ?_) h1
  obtain ⟨d, rfl, q⟩ := q1
  cases r1
  exact wpAny_truthy_bool ⟨H1, I1, q⟩
theorem pt_val {e : Expr} {t : TE} (h : PE X e t) (he : ∀ whole, isTrue e X.env whole = (do let v ← whole; standAt e.pos; holding [v] (truthy v)) := by intro _; rfl) : PT X e (tB t) := by
  intro pins s σ H Q I hw
  refine isTrue_plain (thn (h pins s σ H _ I hw) fun v s1 ⟨x, H1, I1, r1, q1⟩ => ?_) (he _)
  obtain ⟨d, rfl, q⟩ := q1
  cases r1
  exact wpAny_truthy_bool ⟨H1, I1, q⟩
variable {tA tB' : TT} {rest : List Expr}
def tAnd (t u : TT) : TT := fun σ H Q => t σ H fun c H1 => if c = true then u σ H1 Q else Q false H1
def tOr (t u : TT) : TT := fun σ H Q => t σ H fun c H1 => if c = true then Q true H1 else u σ H1 Q
def tNot (t : TT) : TT := fun σ H Q => t σ H fun c H1 => Q (!c) H1
theorem pw_and1 (ha : PT X a tA) : PW X (.BoolOp .And [a] pos) tA := by
  intro wh pins s σ H Q I h
  refine isTrue_and (thn (ha pins s σ H Q I h) fun c s1 e => ?_)
  cases c with
  | true => exact isTrue_and_nil e
  | false => exact e
theorem pw_or1 (ha : PT X a tA) : PW X (.BoolOp .Or [a] pos) tA := by
  intro wh pins s σ H Q I h
  refine isTrue_or (thn (ha pins s σ H Q I h) fun c s1 e => ?_)
  cases c with
  | false => exact isTrue_or_nil e
  | true => exact e
theorem pw_and (ha : PT X a tA) (hb : PW X (.BoolOp .And (b :: rest) pos) tB') : PW X (.BoolOp .And (a :: b :: rest) pos) (tAnd tA tB') := by
  intro wh pins s σ H Q I h
  refine isTrue_and (thn (ha pins s σ H _ I h) fun c s1 ⟨H1, I1, q1⟩ => ?_)
  cases c with
  | true => exact hb wh pins s1 σ H1 Q I1 q1
  | false => exact ⟨H1, I1, q1⟩
theorem pw_or (ha : PT X a tA) (hb : PW X (.BoolOp .Or (b :: rest) pos) tB') : PW X (.BoolOp .Or (a :: b :: rest) pos) (tOr tA tB') := by
  intro wh pins s σ H Q I h
  refine isTrue_or (thn (ha pins s σ H _ I h) fun c s1 ⟨H1, I1, q1⟩ => ?_)
  cases c with
  | true => exact ⟨H1, I1, q1⟩
  | false => exact hb wh pins s1 σ H1 Q I1 q1
theorem pt_not (ha : PT X a tA) : PT X (.UnaryOp .Not a pos) (tNot tA) := by
  intro pins s σ H Q I h
  exact isTrue_not (ha pins s σ H (fun c H1 => Q (!c) H1) I h)
def tAndV (ta tb : TE) : TE := fun σ H Q => ta σ H fun x H1 => ∃ c, x = .bl c ∧ if c = true then tb σ H1 Q else Q (.bl false) H1
def tOrV (ta tb : TE) : TE := fun σ H Q => ta σ H fun x H1 => ∃ c, x = .bl c ∧ if c = true then Q (.bl true) H1 else tb σ H1 Q
def tNotV (ta : TE) : TE := fun σ H Q => ta σ H fun x H1 => ∃ c, x = .bl c ∧ Q (.bl (!c)) H1
theorem pe_one {op} {t : TE} (h : PE X a t) : PE X (.BoolOp op [a] pos) t := fun pins s σ H Q I hw => BoolOp_one (h pins s σ H Q I hw)
theorem pe_and (ha : PE X a ta) (hb : PE X (.BoolOp .And (b :: rest) pos) tb) : PE X (.BoolOp .And (a :: b :: rest) pos) (tAndV ta tb) := by
  intro pins s σ H Q I h
  refine BoolOp_and (thn (ha pins s σ H _ I h) fun v s1 ⟨x, H1, I1, r1, q1⟩ => ?_)
  obtain ⟨c, rfl, q1⟩ := q1
  cases r1
  refine wpAny_truthy_bool ?_
  cases c with
  | true => exact hb pins s1 σ H1 Q I1 q1
  | false => exact ⟨.bl false, H1, I1, rfl, q1⟩
theorem pe_or (ha : PE X a ta) (hb : PE X (.BoolOp .Or (b :: rest) pos) tb) : PE X (.BoolOp .Or (a :: b :: rest) pos) (tOrV ta tb) := by
  intro pins s σ H Q I h
  refine BoolOp_or (thn (ha pins s σ H _ I h) fun v s1 ⟨x, H1, I1, r1, q1⟩ => ?_)
  obtain ⟨c, rfl, q1⟩ := q1
  cases r1
  refine wpAny_truthy_bool ?_
  cases c with
  | false => exact hb pins s1 σ H1 Q I1 q1
  | true => exact ⟨.bl true, H1, I1, rfl, q1⟩
theorem pe_not (ha : PE X a ta) : PE X (.UnaryOp .Not a pos) (tNotV ta) := by
  intro pins s σ H Q I h
  refine UnaryOp_ (thn (ha pins s σ H _ I h) fun v s1 ⟨x, H1, I1, r1, q1⟩ => ?_)
  obtain ⟨c, rfl, q1⟩ := q1
  cases r1
  exact not_of (wpAny_truthy_bool ⟨.bl (!c), H1, I1, rfl, q1⟩)
def tIf (t : TT) (ta tb : TE) : TE := fun σ H Q => t σ H fun c H1 => if c = true then ta σ H1 Q else tb σ H1 Q
theorem pe_ifExp {c : Expr} (hc : PT X c tA) (ha : PE X a ta) (hb : PE X b tb) : PE X (.IfExp c a b pos) (tIf tA ta tb) := by
  intro pins s σ H Q I h
  refine wpAny_IfExp (thn (hc pins s σ H _ I h) fun d s1 ⟨H1, I1, q1⟩ => ?_)
  cases d with
  | true => exact ha pins s1 σ H1 Q I1 q1
  | false => exact hb pins s1 σ H1 Q I1 q1
end
end L2
namespace L2
open PySem PySem.Spec PyProof.Rows
def SqL (K : PySem.W.Frag) (H : Hp) (a : Addr) (xs : List V) : Prop :=
  Rd H a (.lst xs) ∨
    ∃ (o : Obj) (its : Array Value) (n : Nat), K.lookup a = some o ∧ o.cls = .type "list" ∧ o.dict = none ∧ o.data = .seq its n ∧ its.size ≤ sizeLine ∧ Vals xs its.toList
def SqT (K : PySem.W.Frag) (H : Hp) (a : Addr) (xs : List V) : Prop :=
  Rd H a (.tup xs) ∨
    ∃ (o : Obj) (its : Array Value) (n : Nat), K.lookup a = some o ∧ o.cls = .type "tuple" ∧ o.data = .seq its n ∧ its.size ≤ sizeLine ∧ Vals xs its.toList
def absV : Value → Option V
  | .none => some .non
  | .bool b => some (.bl b)
  | .int i _ => some (.int i)
  | .str x _ => some (.str x)
  | .bytes b _ => some (.byt b)
  | .float b _ => some (.flt b)
  | .ref a => some (.ref a)
  | .type n => some (.ty n)
  | _ => none
theorem RelV.abs {x : V} {u : Value} (r : RelV x u) : absV u = some x := by
  cases x with
  | non => cases r; rfl
  | bl _ => cases r; rfl
  | int _ => obtain ⟨t, rfl⟩ := r; rfl
  | str _ => obtain ⟨t, rfl⟩ := r; rfl
  | byt _ => obtain ⟨t, rfl⟩ := r; rfl
  | flt _ => obtain ⟨t, rfl⟩ := r; rfl
  | ref _ => cases r; rfl
  | ty _ => cases r; rfl
theorem RelV.inj {x y : V} {u : Value} (r : RelV x u) (q : RelV y u) : x = y := Option.some.inj (r.abs.symm.trans q.abs)
theorem Vals.inj : ∀ {xs ys : List V} {us : List Value}, Vals xs us → Vals ys us → xs = ys
  | _, _, _, .nil, .nil => rfl
  | _, _, _, .cons r t, .cons r' t' => by rw [r.inj r', Vals.inj t t']
section
variable {X : Cx} {pins : List (Addr × Obj)} {σ : St} {H : Hp} {s : Shared} {a : Addr} {xs ys : List V}
theorem SqL.of {K : PySem.W.Frag} (h : H a = some (.lst xs)) : SqL K H a xs := .inl (.inl h)
theorem SqT.of {K : PySem.W.Frag} (h : H a = some (.tup xs)) : SqT K H a xs := .inl (.inl h)
theorem Inv.list (I : Inv X pins σ H s) (h : SqL X.K H a xs) : ∃ its : List Value, Vals xs its ∧ PlainL s.heap a its.toArray ∧ xs.length ≤ sizeLine := by
  rcases h with h | ⟨o, its, n, hk, hc, hd, hs, hz, r⟩
  · obtain ⟨z, its, n, r, e⟩ := h.ok I.hok
    exact ⟨its, r, ⟨_, n, e, rfl, rfl, rfl⟩, z⟩
  · refine ⟨its.toList, r, ⟨o, n, I.kIn a o hk, hc, hd, by simpa using hs⟩, ?_⟩
    have e := r.length
    simp only [Array.length_toList] at e
    omega
theorem Inv.tuple (I : Inv X pins σ H s) (h : SqT X.K H a xs) : ∃ its : List Value, Vals xs its ∧ IsTup s.heap a its.toArray ∧ xs.length ≤ sizeLine := by
  rcases h with h | ⟨o, its, n, hk, hc, hs, hz, r⟩
  · obtain ⟨z, its, r, p⟩ := h.ok I.hok
    exact ⟨its, r, p, z⟩
  · refine ⟨its.toList, r, ⟨o, I.kIn a o hk, hc, n, by simpa using hs⟩, ?_⟩
    have e := r.length
    simp only [Array.length_toList] at e
    omega
theorem Inv.list_inj (I : Inv X pins σ H s) (h : SqL X.K H a xs) (h' : SqL X.K H a ys) : xs = ys := by
  obtain ⟨its, r, ⟨o, n, e, _, _, d⟩, _⟩ := I.list h
  obtain ⟨its', r', ⟨o', n', e', _, _, d'⟩, _⟩ := I.list h'
  rw [e] at e'; cases e'
  rw [d] at d'
  injection d' with d1 _
  have : its = its' := by simpa using congrArg Array.toList d1
  subst this
  exact r.inj r'
end
abbrev Cx.wish (X : Cx) (E : Value → Shared → Prop) : Cx := { X with xe := E }
abbrev Cx.nox (X : Cx) : Cx := X.wish fun _ _ => False
theorem Cx.Ok.wish {X : Cx} (ok : X.Ok) (E : Value → Shared → Prop) : (X.wish E).Ok :=
  ⟨ok.mod, ok.kind, ok.glob, ok.blt, ok.above, ok.inj, ok.has, ok.cab, ok.hd, ok.frames, ok.stk, ok.exf, ok.bs, ok.bsz, ok.noex, ok.exfs, ok.funs, ok.frf⟩
theorem Cx.Ok.unwish {X : Cx} {E : Value → Shared → Prop} (ok : (X.wish E).Ok) : X.Ok :=
  ⟨ok.mod, ok.kind, ok.glob, ok.blt, ok.above, ok.inj, ok.has, ok.cab, ok.hd, ok.frames, ok.stk, ok.exf, ok.bs, ok.bsz, ok.noex, ok.exfs, ok.funs, ok.frf⟩
section
variable {X : Cx} {pins : List (Addr × Obj)} {σ : St} {H : Hp} {s : Shared} {E : Value → Shared → Prop}
theorem Inv.wish (I : Inv X pins σ H s) (E : Value → Shared → Prop) : Inv (X.wish E) pins σ H s := ⟨I.ok.wish E, I.os, I.bare, I.base, I.loc, I.cell, I.free, I.freeC, I.pin, I.hok, I.len⟩
theorem Inv.unwish (I : Inv (X.wish E) pins σ H s) : Inv X pins σ H s := ⟨I.ok.unwish, I.os, I.bare, I.base, I.loc, I.cell, I.free, I.freeC, I.pin, I.hok, I.len⟩
theorem SP.unwish {D : Ends} {f : Flow} {s' : Shared} (h : SP (X.wish E) pins D f s') : SP X pins D f s' := by
  cases f with
  | next => obtain ⟨σ', H', I, q⟩ := h; exact ⟨σ', H', I.unwish, q⟩
  | brk => obtain ⟨σ', H', I, q⟩ := h; exact ⟨σ', H', I.unwish, q⟩
  | cont => obtain ⟨σ', H', I, q⟩ := h; exact ⟨σ', H', I.unwish, q⟩
  | ret u => obtain ⟨v, σ', H', I, r, q⟩ := h; exact ⟨v, σ', H', I.unwish, r, q⟩
theorem PE.nox {e : Expr} {t : TE} (h : PE X.nox e t) : PE X e t := fun pins s σ H Q I hw =>
  wpAny_mono (h pins s σ H Q (I.wish _) hw) (fun _ _ ⟨v, H', I', r, q⟩ => ⟨v, H', I'.unwish, r, q⟩) fun _ _ z => False.elim z
theorem PT.nox {e : Expr} {t : TT} (h : PT X.nox e t) : PT X e t := fun pins s σ H Q I hw =>
  wpAny_mono (h pins s σ H Q (I.wish _) hw) (fun _ _ ⟨H', I', q⟩ => ⟨H', I'.unwish, q⟩) fun _ _ z => False.elim z
theorem PSs.nox {st : List Stmt} {t : TS} (h : PSs X.nox st t) : PSs X st t := fun pins s σ H D I hw =>
  wpAny_mono (h pins s σ H D (I.wish _) hw) (fun _ _ q => q.unwish) fun _ _ z => False.elim z
end
section
variable {X : Cx} {st : Stmt} {rest : List Stmt} {t u : TS} {e : Expr} {te : TE} {pos : Pos}
def tNext : TS := fun D σ H => D.nx σ H
def tSeq (t u : TS) : TS := fun D σ H => t { D with nx := u D } σ H
theorem pss_nil : PSs X [] tNext := fun _ _ σ H _ I h => wpAny_execs_nil ⟨σ, H, I, h⟩
theorem pss_cons (h1 : PS X st t) (h2 : PSs X rest u) : PSs X (st :: rest) (tSeq t u) := by
  intro pins s σ H D I h
  refine wpAny_execs_cons (thn (h1 pins s σ H { D with nx := u D } I h) fun f s1 q => ?_)
  cases f with
  | next =>
    obtain ⟨σ', H', I', q⟩ := q
    exact h2 pins s1 σ' H' D I' q
  | ret v => exact q
  | brk => exact q
  | cont => exact q
theorem pss_one (h1 : PS X st t) : PSs X [st] t := by
  intro pins s σ H D I h
  refine wpAny_execs_cons (thn (h1 pins s σ H D I h) fun f s1 q => ?_)
  cases f with
  | next => exact wpAny_execs_nil q
  | ret v => exact q
  | brk => exact q
  | cont => exact q
def tBreak : TS := fun D σ H => D.bk σ H
def tCont : TS := fun D σ H => D.ct σ H
theorem Inv.quiet {pins : List (Addr × Obj)} {σ : St} {H : Hp} {s : Shared} (I : Inv X pins σ H s) : interactive X.env = false := by simp [interactive, I.ok.kind]
def tDrop (te : TE) : TS := fun D σ H => te σ H fun _ H1 => D.nx σ H1
theorem ps_expr (he : PE X e te) (hs : swapsWith e none pos.line X.env = pure false := by rfl) : PS X (.Expr e pos) (tDrop te) := by
  intro pins s σ H D I h
  exact wpAny_Expr_any (thn (he pins s σ H _ I h) fun v s1 ⟨x, H1, I1, r1, q1⟩ => ⟨σ, H1, I1, q1⟩) I.quiet hs
def tRet (te : TE) : TS := fun D σ H => te σ H D.rt
theorem ps_ret (he : PE X e te) : PS X (.Return (some e) pos) (tRet te) := by
  intro pins s σ H D I h
  exact wpAny_Return_some (thn (he pins s σ H _ I h) fun v s1 ⟨x, H1, I1, r1, q1⟩ => ⟨x, σ, H1, I1, r1, q1⟩)
def tRetN : TS := fun D _ H => D.rt .non H
def tIfS (c : TT) (t u : TS) : TS := fun D σ H => c σ H fun b H1 => if b = true then t D σ H1 else u D σ H1
theorem ps_if {c : Expr} {a b : List Stmt} {tc : TT} (hc : PT X c tc) (ha : PSs X a t) (hb : PSs X b u) : PS X (.If c a b pos) (tIfS tc t u) := by
  intro pins s σ H D I h
  refine wpAny_If (thn (hc pins s σ H _ I h) fun d s1 ⟨H1, I1, q1⟩ => ?_)
  cases d with
  | true => exact ha pins s1 σ H1 D I1 q1
  | false => exact hb pins s1 σ H1 D I1 q1
def tNever : TS := fun _ _ _ => False
theorem ps_never : PS X st tNever := fun _ _ _ _ _ _ h => h.elim
end
abbrev TG := V → St → Hp → (St → Hp → Prop) → Prop
abbrev TGs := List V → St → Hp → (St → Hp → Prop) → Prop
def PG (X : Cx) (target : Expr) (t : TG) : Prop :=
  ∀ (pins : List (Addr × Obj)) (s : Shared) (σ : St) (H : Hp) (v : V) (u : Value) (Q : St → Hp → Prop), Inv X pins σ H s → RelV v u → t v σ H Q →
    wpAny (model X.prog X.w) X.A (assign target X.env u) (fun _ s' => ∃ σ' H', Inv X pins σ' H' s' ∧ Q σ' H') X.xe s
def PGs (X : Cx) (ts : List Expr) (t : TGs) : Prop :=
  ∀ (pins : List (Addr × Obj)) (s : Shared) (σ : St) (H : Hp) (vs : List V) (us : List Value) (Q : St → Hp → Prop), Inv X pins σ H s → Vals vs us → t vs σ H Q →
    wpAny (model X.prog X.w) X.A (assignInOrder ((assignEach ts X.env).map (·.2)) us) (fun _ s' => ∃ σ' H', Inv X pins σ' H' s' ∧ Q σ' H') X.xe s
abbrev TSet := V → V → V → Hp → (Hp → Prop) → Prop
def PSet (X : Cx) (t : TSet) : Prop :=
  ∀ (pins : List (Addr × Obj)) (s : Shared) (σ : St) (H : Hp) (o i v : V) (ov iv u : Value) (Q : Hp → Prop), Inv X pins σ H s → RelV o ov → RelV i iv → RelV v u → t o i v H Q →
    wpAny (model X.prog X.w) X.A (setItem ov iv u) (fun _ s' => ∃ H', Inv X pins σ H' s' ∧ Q H') X.xe s
abbrev TIp := V → V → Hp → VK → Prop
def PIp (X : Cx) (op : Operator) (t : TIp) : Prop :=
  ∀ (pins : List (Addr × Obj)) (s : Shared) (σ : St) (H : Hp) (x y : V) (v u : Value) (Q : VK), Inv X pins σ H s → RelV x v → RelV y u → t x y H Q →
    wpAny (model X.prog X.w) X.A (inplaceOp op v u) (EP X pins σ Q) X.xe s
section
variable {X : Cx} {pos : Pos}
def gName (i : Nat) : TG := fun v σ H Q => Q (σ.set i (some v)) H
theorem pg_name {i : Nat} {x : Str} (hN : X.N.Nodup) (hi : X.N[i]? = some x) (hx : Loc X.env.scope x) (hf : X.fn x = true ∨ X.env.scope.names.lookup x = some .local := by first | exact .inl rfl | exact .inr rfl | assumption) : PG X (.Name x pos) (gName i) := by
  intro pins s σ H v u Q I r h
  exact wpAny_assign_Name (store_ok I hN hi hx r (fun s' I' => ⟨_, H, I', h⟩) hf)
def gNil : TGs := fun vs σ H Q => vs = [] ∧ Q σ H
def gCons (t : TG) (u : TGs) : TGs := fun vs σ H Q => ∃ v r, vs = v :: r ∧ t v σ H fun σ' H' => u r σ' H' Q
theorem pgs_nil : PGs X [] gNil := by
  intro pins s σ H vs us Q I r h
  obtain ⟨e, h⟩ := h
  subst e
  cases r
  exact assignInOrder_nil ⟨σ, H, I, h⟩
theorem pgs_cons {e : Expr} {es : List Expr} {t : TG} {u : TGs} (h1 : PG X e t) (h2 : PGs X es u)
    (hs : (assignEach (e :: es) X.env).map (·.2) = assign e X.env :: (assignEach es X.env).map (·.2) := by rfl) : PGs X (e :: es) (gCons t u) := by
  intro pins s σ H vs us Q I r h
  obtain ⟨v, vr, e1, h⟩ := h
  subst e1
  cases r with
  | cons r rr =>
    rw [hs]
    refine assignInOrder_cons (thn (h1 pins s σ H _ _ _ I r h) fun _ s1 ⟨σ1, H1, I1, q1⟩ => ?_)
    exact h2 pins s1 σ1 H1 _ _ Q I1 rr q1
def gTup (K : PySem.W.Frag) (n : Nat) (t : TGs) : TG := fun v σ H Q => ∃ a xs, v = .ref a ∧ SqT K H a xs ∧ xs.length = n ∧ t xs σ H Q
theorem pg_tup {es : List Expr} {k : Nat} {t : TGs} {n : Nat} (hc : X.calm = true) (h : PGs X es t)
    (hn : (assignEach es X.env).length = n := by rfl) (hst : (assignEach es X.env).findIdx? (·.1) = none := by rfl) : PG X (.Tuple es k pos) (gTup X.K n t) := by
  intro pins s σ H v u Q I r hw
  obtain ⟨a, xs, e1, hq, hl, hw⟩ := hw
  subst e1
  cases r
  obtain ⟨its, rv, ht, hz⟩ := I.tuple hq
  refine assign_Tuple_tuple (I.ok.hd hc) ht (by simp [hn, ← hl, rv.length]) hst fun h' hx => ?_
  have I1 : Inv X pins σ H { s with heap := h' } := I.kept (t' := s.toks) fun b o e => hx b o (Nat.ne_of_lt (Heap.lt_size e)) e
  exact h pins _ σ H xs _ Q I1 (by simpa using rv) hw
def gSub (to ti : TE) (t : TSet) : TG := fun v σ H Q => to σ H fun o H1 => ti σ H1 fun i H2 => t o i v H2 fun H3 => Q σ H3
theorem pg_sub {o i : Expr} {to ti : TE} {t : TSet} (ho : PE X o to) (hi : PE X i ti) (hs : PSet X t)
    (ha : ∀ v, assign (.Subscript o i pos) X.env v = (do
      let ov ← holding [v] (eval o X.env)
      let iv ← holding [v, ov] (eval i X.env)
      standAt pos
      holding [v, ov, iv] (setItem ov iv v)
      release [v, ov, iv] []) := by intro _; rfl) : PG X (.Subscript o i pos) (gSub to ti t) := by
  intro pins s σ H v u Q I r h
  rw [ha]
  refine wpAny_bind (wpAny_holding (thn (ho pins s σ H _ I h) fun ov s1 ⟨x, H1, I1, r1, q1⟩ => ?_))
  refine wpAny_bind (wpAny_holding (thn (hi pins s1 σ H1 _ I1 q1) fun iv s2 ⟨y, H2, I2, r2, q2⟩ => ?_))
  refine wpAny_bind (wpAny_standAt (wpAny_bind (wpAny_holding (thn (hs pins s2 σ H2 x y v ov iv u _ I2 r1 r2 r q2) fun _ s3 ⟨H3, I3, q3⟩ => ?_))))
  exact wpAny_release ⟨σ, H3, I3, q3⟩
def tAsg (te : TE) (g : TG) : TS := fun D σ H => te σ H fun x H1 => g x σ H1 D.nx
theorem ps_asg {tg e : Expr} {te : TE} {g : TG} (he : PE X e te) (hg : PG X tg g) (hs : swapsWithSole [tg] e pos.line X.env = pure false := by rfl) (hw : swappedStores [tg] e X.env = pure none := by rfl)
    (h1 : (assignEach [tg] X.env).map (·.2) = [assign tg X.env] := by rfl) : PS X (.Assign [tg] e pos) (tAsg te g) := by
  intro pins s σ H D I h
  refine wpAny_Assign_stores (thn (he pins s σ H _ I h) fun v s1 ⟨x, H1, I1, r1, q1⟩ => ?_) hs hw
  rw [h1]
  exact thn (hg pins s1 σ H1 x v _ I1 r1 q1) fun _ s2 q => q
theorem ps_set {i : Nat} {x : Str} {e : Expr} {te : TE} {pos' : Pos} (hN : X.N.Nodup) (hi : X.N[i]? = some x) (hx : Loc X.env.scope x) (he : PE X e te) (hs : swapsWith e (some (.Name x pos')) pos.line X.env = pure false := by rfl) (hf : X.fn x = true ∨ X.env.scope.names.lookup x = some .local := by first | exact .inl rfl | exact .inr rfl | assumption) :
    PS X (.Assign [.Name x pos'] e pos) (tAsg te (gName i)) := by
  intro pins s σ H D I h
  refine wpAny_Assign_Name (thn (he pins s σ H _ I h) fun v s1 ⟨y, H1, I1, r1, q1⟩ => ?_) hs
  exact store_ok I1 hN hi hx r1 (fun s2 I2 => ⟨_, H1, I2, q1⟩) hf
def tPar (i j : Nat) (ta : TA) : TS := fun D σ H => ta σ H fun vs H1 => ∃ v w, vs = [v, w] ∧ D.nx ((σ.set i (some v)).set j (some w)) H1
theorem ps_par {i j : Nat} {x y : Str} {a b : Expr} {ta : TA} {px py pt : Pos} {kt k2 pt2} (hc : X.calm = true) (hN : X.N.Nodup) (hi : X.N[i]? = some x) (hj : X.N[j]? = some y) (hij : i ≠ j)
    (hx : X.env.scope.names.lookup x = some .local) (hy : X.env.scope.names.lookup y = some .local) (ha : PA X [a, b] ta)
    (hw : swappedStores [.Tuple [.Name x px, .Name y py] kt pt] (.Tuple [a, b] k2 pt2) X.env = pure (some [x, y]))
    (hs : swapsWithSole [.Tuple [.Name x px, .Name y py] kt pt] (.Tuple [a, b] k2 pt2) pos.line X.env = pure false := by rfl) :
    PS X (.Assign [.Tuple [.Name x px, .Name y py] kt pt] (.Tuple [a, b] k2 pt2) pos) (tPar i j ta) := by
  intro pins s σ H D I h
  rw [exec_Assign_arm]
  refine wpAny_bind (wpAny_standAt ?_)
  rw [hs]
  refine wpAny_bind (wpAny_pure ?_)
  rw [if_neg (by decide)]
  refine wpAny_bind (Tuple_ (thn (ha _ pins s σ H _ I h) fun us s1 ⟨vs, H1, I1, r1, q1⟩ => ?_))
  obtain ⟨v, w, e1, q1⟩ := q1
  subst e1
  obtain ⟨u1, u2, rfl, rv, rw'⟩ : ∃ u1 u2, us = [u1, u2] ∧ RelV v u1 ∧ RelV w u2 := by
    cases r1 with
    | cons p q =>
      cases q with
      | cons p' q' =>
        cases q'
        exact ⟨_, _, rfl, p, p'⟩
  refine wpAny_newObj_type ?_ (by show 2 ≤ sizeLine; decide)
  have I2 : Inv X pins σ H1 { s1 with heap := s1.heap.push { cls := .type "tuple", data := .seq [u1, u2].toArray } } := I1.kept (t' := s1.toks) fun b o e => Heap.get?_push_of_some _ e
  rw [hw]
  refine wpAny_bind (wpAny_pure ?_)
  show wpAny (model X.prog X.w) X.A (do rule "assign.swapped-stores"; let items ← unpackItems (.ref s1.heap.objs.size) 2 none; assignInOrder [fun v => bindName X.env y v, fun v => bindName X.env x v] items.reverse; pure Flow.next) _ _ _
  refine wpAny_bind (wpAny_rule (wpAny_bind (unpackItems_tuple (items := #[u1, u2]) (I.ok.hd hc) (IsTup.new s1.heap _) fun h' hx' => ?_)))
  have I3 := I2.kept (h' := h') (t' := s1.toks) fun b o e => hx' b o (Nat.ne_of_lt (Heap.lt_size e)) e
  show wpAny _ _ (assignInOrder [fun v => bindName X.env y v, fun v => bindName X.env x v] [u2, u1] >>= fun _ => pure Flow.next) _ _ _
  refine wpAny_bind (assignInOrder_cons (wpAny_bindName (store_ok I3 hN hj (.inl hy) rw' (fun s2 I4 => ?_) (.inr hy))))
  refine assignInOrder_cons (wpAny_bindName (store_ok I4 hN hi (.inl hx) rv (fun s3 I5 => assignInOrder_nil (wpAny_pure ?_)) (.inr hx)))
  rw [List.set_comm _ _ (Ne.symm hij)] at I5
  exact ⟨_, H1, I5, q1⟩
def tAug (i : Nat) (te : TE) (ti : TIp) : TS := fun D σ H => ∃ x, σ[i]? = some (some x) ∧ te σ H fun y H1 => ti x y H1 fun z H2 => D.nx (σ.set i (some z)) H2
def tAugS (to ti te : TE) (tget : V → V → Hp → VK → Prop) (tip : TIp) (tset : TSet) : TS := fun D σ H => to σ H fun o H1 => ti σ H1 fun i H2 => tget o i H2 fun x H3 => te σ H3 fun y H4 => tip x y H4 fun z H5 => tset o i z H5 fun H6 => D.nx σ H6
def PGet (X : Cx) (t : V → V → Hp → VK → Prop) : Prop :=
  ∀ (pins : List (Addr × Obj)) (s : Shared) (σ : St) (H : Hp) (o i : V) (ov iv : Value) (Q : VK), Inv X pins σ H s → RelV o ov → RelV i iv → t o i H Q →
    wpAny (model X.prog X.w) X.A (getItem ov iv) (EP X pins σ Q) X.xe s
def ipI (f : Int → Int → Int) : TIp := fun x y H Q => ∃ i j, x = .int i ∧ y = .int j ∧ Q (.int (f i j)) H
end
section
variable {X : Cx} {pos : Pos}
def tWhile (c : TT) (tb : TS) : TS := fun D σ H => ∃ W : Nat → St → Hp → Prop, (∃ m, W m σ H) ∧ ∀ m σ H, W m σ H →
  c σ H fun b H1 => if b = true then ∃ N : St → Hp → Prop, (∀ σ' H', N σ' H' → ∃ m', m' < m ∧ W m' σ' H') ∧ tb { D with nx := N, ct := N, bk := D.nx } σ H1 else D.nx σ H1
theorem ps_while {c : Expr} {body : List Stmt} {tc : TT} {tb : TS} (hp : PassesOwn (model X.prog X.w) X.A X.env X.xe) (hc : PT X c tc) (hb : PSs X body tb) : PS X (.While c body [] pos) (tWhile tc tb) := by
  intro pins s σ H D I h
  obtain ⟨W, ⟨m0, w0⟩, turn⟩ := h
  refine wpAny_While (codeAny_whileLoop (fun n s' => ∃ σ' H', Inv X pins σ' H' s' ∧ W n σ' H') ?_ m0 ⟨σ, H, I, w0⟩)
  rintro n s1 ⟨σ1, H1, I1, w1⟩
  refine wpAny_passesOwn hp (thn (hc pins s1 σ1 H1 _ I1 (turn n σ1 H1 w1)) fun b s2 ⟨H2, I2, q2⟩ => ?_)
  cases b with
  | true =>
    obtain ⟨N, hN, q2⟩ := q2
    rw [if_pos rfl]
    refine wpAny_passesOwn hp (thn (hb pins s2 σ1 H2 _ I2 q2) fun f s3 q3 => ?_)
    cases f with
    | next =>
      obtain ⟨σ3, H3, I3, n3⟩ := q3
      obtain ⟨m', hm, w3⟩ := hN σ3 H3 n3
      exact ⟨m', hm, σ3, H3, I3, w3⟩
    | cont =>
      obtain ⟨σ3, H3, I3, n3⟩ := q3
      obtain ⟨m', hm, w3⟩ := hN σ3 H3 n3
      exact ⟨m', hm, σ3, H3, I3, w3⟩
    | brk => exact q3
    | ret v => exact q3
  | false =>
    rw [if_neg Bool.false_ne_true]
    exact wpAny_execs_nil ⟨σ1, H2, I2, q2⟩
end
structure It where
  go : Nat → Hp → Prop
  yld : Nat → Hp → V → Hp → Prop
  stop : Nat → Hp → Prop
def FpOk (X : Cx) (pins : List (Addr × Obj)) (H : Hp) (b : Addr) : Prop :=
  H b = none ∧ b ≠ X.env.locals ∧ b ∉ X.fs ∧ (b ∈ X.ex ∨ X.s₀.heap.objs.size ≤ b) ∧ (∀ x c, X.env.cells.lookup x = some c → c ≠ b) ∧ ∀ p ∈ X.pn ++ pins, p.1 ≠ b
theorem Inv.fpOk {X : Cx} {pins : List (Addr × Obj)} {σ : St} {H H' : Hp} {s : Shared} {b : Addr} (I : Inv X pins σ H s) (hb : s.heap.objs.size ≤ b) (hn : H' b = none) : FpOk X pins H' b := by
  refine ⟨hn, Nat.ne_of_gt (Nat.lt_of_lt_of_le I.lt hb), I.nofs hb, .inr (Nat.le_trans I.sz hb), fun x c e z => ?_, fun p hp z => ?_⟩
  · obtain ⟨v, q⟩ := I.cell x c e
    exact absurd (Nat.lt_of_lt_of_le q.lt (by rw [z]; exact hb)) (Nat.lt_irrefl _)
  · exact absurd (Nat.lt_of_lt_of_le (Heap.lt_size (I.pin p hp).1) (by rw [z]; exact hb)) (Nat.lt_irrefl _)
structure Turn (P : Program) (w : World) (K : PySem.W.Frag) (tg : Expr) (J : It) (fp : List Addr) (it : Addr) (tn : Nat → Heap → Prop) : Prop where
  mem : it ∈ fp
  obj : ∀ i h, tn i h → ∀ b ∈ fp, ∃ o, h.get? b = some o ∧ ∀ v, o.data ≠ .cell v
  keep : ∀ i h h', tn i h → (∀ b ∈ fp, ∀ o, h.get? b = some o → h'.get? b = some o) → tn i h'
  item : ∀ (X : Cx), X.prog = P → X.w = w → X.K = K → X.calm = true → ∀ (i : Nat) (pins : List (Addr × Obj)) (s : Shared) (σ : St) (H : Hp) (E : Value → Shared → Prop), Inv X pins σ H s → (∀ b ∈ fp, FpOk X pins H b) → tn i s.heap → J.go i H →
    wpAny (model P w) X.A (pyNext (.ref it)) (fun r s1 => ∃ u, r = some u ∧
      wpAny (model P w) X.A (letOwnedTupleGo tg (.ref it) u) (fun _ s2 => ∃ x H', Inv X pins σ H' s2 ∧ RelV x u ∧ J.yld i H x H' ∧ tn (i + 1) s2.heap ∧ ∀ b ∈ fp, H' b = none) E s1) E s
  done : ∀ (X : Cx), X.prog = P → X.w = w → X.K = K → X.calm = true → ∀ (i : Nat) (pins : List (Addr × Obj)) (s : Shared) (σ : St) (H : Hp) (E : Value → Shared → Prop), Inv X pins σ H s → (∀ b ∈ fp, FpOk X pins H b) → tn i s.heap → J.stop i H →
    wpAny (model P w) X.A (pyNext (.ref it)) (fun r s1 => r = none ∧ Inv X pins σ H s1) E s
  self : ∀ (A : Around) (i : Nat) (s : Shared) (Q : Value → Shared → Prop) (E : Value → Shared → Prop), tn i s.heap → Q (.ref it) s → wpAny (model P w) A (pyIter (.ref it)) Q E s
abbrev TI := St → Hp → (It → Hp → Prop) → Prop
def PIE (X : Cx) (pins : List (Addr × Obj)) (σ : St) (tg : Expr) (R : It → Hp → Prop) (itv : Value) (s2 : Shared) : Prop :=
  ∃ (it : Addr) (fp : List Addr) (tn : Nat → Heap → Prop) (J : It) (H' : Hp), itv = .ref it ∧ Inv X pins σ H' s2 ∧ Turn X.prog X.w X.K tg J fp it tn ∧ tn 0 s2.heap ∧ (∀ b ∈ fp, FpOk X pins H' b) ∧ R J H'
def PI (X : Cx) (tg iter : Expr) (wi : TI) : Prop :=
  ∀ (pins : List (Addr × Obj)) (s : Shared) (σ : St) (H : Hp) (R : It → Hp → Prop), Inv X pins σ H s → wi σ H R →
    wpAny (model X.prog X.w) X.A (eval iter X.env) (fun v s1 => wpAny (model X.prog X.w) X.A (pyIter v) (PIE X pins σ tg R) X.xe s1) X.xe s
theorem go_of {M : Model} {A : Around} {E : Value → Shared → Prop} {s : Shared} {tg : Expr} {it : Addr} {u : Value} {o : Obj} {n : String} {vs : Array Value} {Q : Unit → Shared → Prop} (ho : s.heap.get? it = some o) (hc : o.cls = .type n) (hd : o.data = .fields vs)
    (hn : ["enumerate", "zip", "dict_itemiterator", "dict_reverseitemiterator", "odict_iterator", "itertools.zip_longest", "itertools.pairwise"].contains n = false) (hQ : Q () s) : wpAny M A (letOwnedTupleGo tg (.ref it) u) Q E s := by
  unfold letOwnedTupleGo
  cases tg <;> first
    | exact wpAny_pure hQ
    | (cases u <;> first
        | exact wpAny_pure hQ
        | (refine wpAny_bind (wpAny_load ho ?_)
           rw [hc, hd]
           show wpAny M A (if (["enumerate", "zip", "dict_itemiterator", "dict_reverseitemiterator", "odict_iterator", "itertools.zip_longest", "itertools.pairwise"].contains n && vs[0]? == some (rawInt _)) = true then _ else _) Q E s
           rw [if_neg (by intro h; rw [hn, Bool.false_and] at h; cases h)]
           exact wpAny_pure hQ))
def Itl (K : PySem.W.Frag) (a : Addr) : It :=
  ⟨fun i H => ∃ xs x, SqL K H a xs ∧ xs[i]? = some x, fun i H x H' => H' = H ∧ ∀ xs, SqL K H a xs → xs[i]? = some x, fun i H => ∃ xs, SqL K H a xs ∧ xs.length ≤ i⟩
def Itt (K : PySem.W.Frag) (a : Addr) : It :=
  ⟨fun i H => ∃ xs x, SqT K H a xs ∧ xs[i]? = some x, fun i H x H' => H' = H ∧ ∀ xs, SqT K H a xs → xs[i]? = some x, fun i H => ∃ xs, SqT K H a xs ∧ xs.length ≤ i⟩
def Itr (lo : Int) (n : Nat) : It := ⟨fun i _ => i < n, fun i H x H' => H' = H ∧ x = .int (lo + i), fun i _ => n ≤ i⟩
theorem turn_list {P : Program} {w : World} {K : PySem.W.Frag} {tg : Expr} (a it : Addr) : Turn P w K tg (Itl K a) [it] it (fun i h => h.IsListIter it a i) where
  mem := by simp
  obj := fun i h st b hb => by
    have e : b = it := by simpa using hb
    subst e
    obtain ⟨o, e, c, d⟩ := st
    exact ⟨o, e, fun v z => by rw [d] at z; cases z⟩
  keep := fun i h h' st k => st.at fun o e => k it (by simp) o e
  item := by
    intro X hP hw hK hc i pins s σ H E I hf st hg
    subst hP hw hK
    obtain ⟨xs, x, hq, hx⟩ := hg
    obtain ⟨its, rv, p, hz⟩ := I.list hq
    obtain ⟨u, hu, ru⟩ := rv.get hx
    obtain ⟨f0, f1, f2, f3, f4, f5⟩ := hf it (by simp)
    refine wpAny_pyNext_list_item st p.isList (x := u) (by simpa using hu) fun h' st' sb => ?_
    have I1 : Inv X pins σ H { s with heap := h' } := I.turned (t' := s.toks) (fun b o hb e => (sb.2 b hb).trans e) f0 f1 f3 f4 f5
    obtain ⟨o, e, c, d⟩ := id st'
    exact ⟨u, rfl, go_of (s := { s with heap := h' }) e c d (by decide) ⟨x, H, I1, ru, ⟨rfl, fun ys hy => by rw [I.list_inj hy hq]; exact hx⟩, st', fun b hb => (hf b hb).1⟩⟩
  done := by
    intro X hP hw hK hc i pins s σ H E I hf st hg
    subst hP hw hK
    obtain ⟨xs, hq, hx⟩ := hg
    obtain ⟨its, rv, p, hz⟩ := I.list hq
    obtain ⟨f0, f1, f2, f3, f4, f5⟩ := hf it (by simp)
    have hl := rv.length
    exact wpAny_pyNext_list_end (I.ok.hd hc) st p.isList (by simp; omega) fun h' eb => ⟨rfl, I.turned (t' := s.toks) (fun b o hb e => eb b o hb e) f0 f1 f3 f4 f5⟩
  self := fun _ _ _ _ _ st h => wpAny_pyIter_listiter st h
theorem turn_range {P : Program} {w : World} {K : PySem.W.Frag} {tg : Expr} (it : Addr) (lo : Int) (n : Nat) : Turn P w K tg (Itr lo n) [it] it (fun i h => IsRangeIter h it (lo + (i : Nat) * 1) ((n : Int) - (i : Nat)) 1) where
  mem := by simp
  obj := fun i h st b hb => by
    have e : b = it := by simpa using hb
    subst e
    exact ⟨_, st, fun v z => by
      have z' : Data.fields _ = Data.cell v := z
      cases z'⟩
  keep := fun i h h' st k => k it (by simp) _ st
  item := by
    intro X hP hw hK hc i pins s σ H E I hf st hg
    subst hP hw hK
    obtain ⟨f0, f1, f2, f3, f4, f5⟩ := hf it (by simp)
    have W := Walks.range (prog := X.prog) (w := X.w) (I.ok.hd hc) it lo 1 n
    refine W.item i s _ _ hg st fun v h' tk hv st' kk => ?_
    obtain ⟨t, rfl⟩ := hv
    have I1 : Inv X pins σ H { s with heap := h', toks := tk } := I.turned (fun b o hb e => kk b o (by simpa using hb) e) f0 f1 f3 f4 f5
    refine ⟨_, rfl, go_of (s := { s with heap := h', toks := tk }) (n := "range_iterator") st' rfl rfl (by decide) ⟨.int (lo + i), H, I1, ⟨t, ?_⟩, ⟨rfl, rfl⟩, st', fun b hb => (hf b hb).1⟩⟩
    rw [Int.mul_one]
  done := by
    intro X hP hw hK hc i pins s σ H E I hf st hg
    subst hP hw hK
    obtain ⟨f0, f1, f2, f3, f4, f5⟩ := hf it (by simp)
    exact wpAny_pyNext_range_end (I.ok.hd hc) st (by have : n ≤ i := hg; omega) fun h' eb => ⟨rfl, I.turned (t' := s.toks) (fun b o hb e => eb b o hb e) f0 f1 f3 f4 f5⟩
  self := fun _ _ _ _ _ st h => wpAny_pyIter_rangeiter st h
end L2
namespace L2
open PySem PySem.Spec PyProof.Rows
section
variable {X : Cx} {tg : Expr}
def iList (K : PySem.W.Frag) (tl : TE) : TI := fun σ H R => tl σ H fun x H1 => ∃ a, x = .ref a ∧ (∃ xs, SqL K H1 a xs) ∧ R (Itl K a) H1
def iTup (K : PySem.W.Frag) (tl : TE) : TI := fun σ H R => tl σ H fun x H1 => ∃ a, x = .ref a ∧ (∃ xs, SqT K H1 a xs) ∧ R (Itt K a) H1
theorem pi_list {l : Expr} {tl : TE} (hl : PE X l tl) : PI X tg l (iList X.K tl) := by
  intro pins s σ H R I h
  refine thn (hl pins s σ H _ I h) fun v s1 ⟨x, H1, I1, r1, q1⟩ => ?_
  obtain ⟨a, e, ⟨xs, hq⟩, q⟩ := q1
  subst e
  cases r1
  obtain ⟨its, rv, p, hz⟩ := I1.list hq
  refine wpAny_pyIter_list p.isList ?_
  refine ⟨s1.heap.objs.size, [s1.heap.objs.size], _, _, H1, rfl, I1.kept (t' := s1.toks) fun b o e => Heap.get?_push_of_some _ e, turn_list a _, ⟨_, Heap.get?_push_size _ rfl, rfl, rfl⟩, fun b hb => ?_, q⟩
  have e : b = s1.heap.objs.size := by simpa using hb
  subst e
  exact I1.fpOk (Nat.le_refl _) (I1.hok.fresh (Nat.le_refl _))
theorem range_it {pins : List (Addr × Obj)} {σ : St} {H : Hp} {s : Shared} {R : It → Hp → Prop} {E : Value → Shared → Prop} {lo hi : Int} {t u v : Tok} {tk : Nat} (I : Inv X pins σ H s) (h1 : -(2 ^ 62) ≤ lo) (h2 : lo < 2 ^ 62) (h3 : -(2 ^ 62) ≤ hi) (h4 : hi < 2 ^ 62)
    (q : R (Itr lo (hi - lo).toNat) H) : wpAny (model X.prog X.w) X.A (pyIter (.ref s.heap.objs.size)) (PIE X pins σ tg R) E { s with heap := s.heap.push { cls := .type "range", data := .fields #[.int lo t, .int hi u, .int 1 v] }, toks := tk } := by
  refine wpAny_pyIter_range (IsRange.new ..) (small_one h1 h2 h3 h4) ?_
  have I1 : Inv X pins σ H { s with heap := s.heap.push { cls := .type "range", data := .fields #[.int lo t, .int hi u, .int 1 v] }, toks := tk } := I.kept fun b o e => Heap.get?_push_of_some _ e
  refine ⟨(s.heap.push { cls := .type "range", data := .fields #[.int lo t, .int hi u, .int 1 v] }).objs.size, [(s.heap.push { cls := .type "range", data := .fields #[.int lo t, .int hi u, .int 1 v] }).objs.size], _, _, H, rfl,
    I1.kept (t' := tk) fun b o e => Heap.get?_push_of_some _ e, turn_range _ lo (hi - lo).toNat, ?_, fun b hb => ?_, q⟩
  · have e1 : lo + ((0 : Nat) : Int) * 1 = lo := by simp
    have e2 : (((hi - lo).toNat : Nat) : Int) - ((0 : Nat) : Int) = Builtin.Range.rangeSize lo hi 1 := by rw [rangeSize_one]; split <;> omega
    show IsRangeIter _ _ (lo + ((0 : Nat) : Int) * 1) ((((hi - lo).toNat : Nat) : Int) - ((0 : Nat) : Int)) 1
    rw [e1, e2]
    exact Heap.get?_push_size _ rfl
  · have e : b = (s.heap.push { cls := .type "range", data := .fields #[.int lo t, .int hi u, .int 1 v] }).objs.size := by simpa using hb
    subst e
    exact I1.fpOk (Nat.le_refl _) (I1.hok.fresh (Nat.le_refl _))
def iRng1 (ta : TA) : TI := fun σ H R => ta σ H fun vs H1 => ∃ j : Int, vs = [.int j] ∧ -(2 ^ 62) ≤ j ∧ j < 2 ^ 62 ∧ R (Itr 0 j.toNat) H1
def iRng2 (ta : TA) : TI := fun σ H R => ta σ H fun vs H1 => ∃ i j : Int, vs = [.int i, .int j] ∧ (-(2 ^ 62) ≤ i ∧ i < 2 ^ 62 ∧ -(2 ^ 62) ≤ j ∧ j < 2 ^ 62) ∧ R (Itr i (j - i).toNat) H1
theorem pi_range1 {a : Expr} {ta : TA} {p pos : Pos} (hg : Gl X "range") (hm : X.mg "range" = none) (ha : PA X [a] ta) (hs : starEach [a] X.env = [(false, eval a X.env)] := by rfl) : PI X tg (.Call (.Name "range" p) [a] [] pos) (iRng1 ta) := by
  intro pins s σ H R I h
  refine Call_ (ld_blt I hg hm boot_range (PyProof.Rows.callWith_type1 (thn (ha pos pins s σ H _ I h) fun us s1 ⟨vs, H1, I1, r1, q1⟩ => ?_) hs rfl))
  obtain ⟨j, e, q1, q2, q⟩ := q1
  subst e
  cases r1 with
  | cons r rr =>
    cases rr
    obtain ⟨t, rfl⟩ := r
    exact call_range_1 (range_it I1 (by omega) (by omega) q1 q2 (by simpa using q))
theorem pi_range2 {a b : Expr} {ta : TA} {p pos : Pos} (hg : Gl X "range") (hm : X.mg "range" = none) (ha : PA X [a, b] ta) (hs : starEach [a, b] X.env = [(false, eval a X.env), (false, eval b X.env)] := by rfl) (hs2 : starEach [b] X.env = [(false, eval b X.env)] := by rfl) :
    PI X tg (.Call (.Name "range" p) [a, b] [] pos) (iRng2 ta) := by
  intro pins s σ H R I h
  refine Call_ (ld_blt I hg hm boot_range (PyProof.Rows.callWith_type1 (thn (ha pos pins s σ H _ I h) fun us s1 ⟨vs, H1, I1, r1, q1⟩ => ?_) (by rw [hs, hs2]) (by rw [hs2]; rfl)))
  obtain ⟨i, j, e, ⟨q1, q2, q3, q4⟩, q⟩ := q1
  subst e
  cases r1 with
  | cons r rr =>
    cases rr with
    | cons r' rr =>
      cases rr
      obtain ⟨t, rfl⟩ := r
      obtain ⟨t', rfl⟩ := r'
      exact call_range_2 (range_it I1 q1 q2 q3 q4 q)
def tFor (wi : TI) (g : TG) (tb : TS) : TS := fun D σ H => wi σ H fun J H1 => ∃ W : Nat → Nat → St → Hp → Prop, (∃ m, W 0 m σ H1) ∧ ∀ i m σ H, W i m σ H →
  (J.stop i H ∧ D.nx σ H) ∨ (J.go i H ∧ ∃ N : St → Hp → Prop, (∀ σ' H', N σ' H' → ∃ m', m' < m ∧ W (i + 1) m' σ' H') ∧ ∀ x H', J.yld i H x H' → g x σ H' fun σ2 H2 => tb { D with nx := N, ct := N, bk := D.nx } σ2 H2)
def pinsAt (fp : List Addr) (h : Heap) : List (Addr × Obj) := fp.filterMap fun b => (h.get? b).map fun o => (b, o)
theorem mem_pinsAt {fp : List Addr} {h : Heap} {b : Addr} {o : Obj} (hb : b ∈ fp) (e : h.get? b = some o) : (b, o) ∈ pinsAt fp h := List.mem_filterMap.mpr ⟨b, hb, by rw [e]; rfl⟩
theorem of_pinsAt {fp : List Addr} {h : Heap} {p : Addr × Obj} (hp : p ∈ pinsAt fp h) : p.1 ∈ fp ∧ h.get? p.1 = some p.2 := by
  obtain ⟨b, hb, e⟩ := List.mem_filterMap.mp hp
  cases q : h.get? b with
  | none => rw [q] at e; cases e
  | some o =>
    rw [q] at e
    have e' : (b, o) = p := Option.some.inj e
    subst e'
    exact ⟨hb, q⟩
theorem Inv.pinned {pins : List (Addr × Obj)} {σ : St} {H : Hp} {s : Shared} {fp : List Addr} (I : Inv X pins σ H s) (hf : ∀ b ∈ fp, FpOk X pins H b) (ho : ∀ b ∈ fp, ∃ o, s.heap.get? b = some o ∧ ∀ v, o.data ≠ .cell v) : Inv X (pins ++ pinsAt fp s.heap) σ H s :=
  I.pins_of fun p hp => (List.mem_append.mp hp).elim (fun z => I.pin p (List.mem_append_right _ z)) fun z => by
    obtain ⟨hb, e⟩ := of_pinsAt z
    obtain ⟨f0, f1, f2, _⟩ := hf p.1 hb
    obtain ⟨o, e', d⟩ := ho p.1 hb
    rw [e] at e'; cases e'
    exact ⟨e, f0, f1, f2, d⟩
theorem Inv.unpinned {pins pl : List (Addr × Obj)} {σ : St} {H : Hp} {s : Shared} (I : Inv X (pins ++ pl) σ H s) : Inv X pins σ H s := I.pins_of fun p hp => I.pin p (List.mem_append_right _ (List.mem_append_left _ hp))
theorem ps_for {iter : Expr} {body : List Stmt} {wi : TI} {g : TG} {tb : TS} {pos : Pos} (hp : PassesOwn (model X.prog X.w) X.A X.env X.xe) (hc : X.calm = true) (hi : PI X tg iter wi) (hg : PG X tg g) (hb : PSs X body tb)
    (hs : ∀ x, foldedSetIterable iter X.env x = pure x := by intro _; rfl) : PS X (.For tg iter body [] pos) (tFor wi g tb) := by
  intro pins s σ H D I h
  refine wpAny_For (thn (hi pins s σ H _ I h) fun v s1 h1 => thn h1 fun itv s2 h2 => ?_) hs
  obtain ⟨it, fp, tn, J, H2, e, I2, T, st2, f2, W, ⟨m0, w0⟩, turn⟩ := h2
  subst e
  -- what stays true of the iterator's objects through the loop
  have stat : ∀ {H' : Hp}, (∀ b ∈ fp, H' b = none) → ∀ b ∈ fp, FpOk X pins H' b := fun hn b hb => ⟨hn b hb, (f2 b hb).2⟩
  refine codeAny_forLoop_any (fun n s' => ∃ i σ' H', Inv X pins σ' H' s' ∧ tn i s'.heap ∧ (∀ b ∈ fp, H' b = none) ∧ W i n σ' H') ?_ m0 ⟨0, σ, H2, I2, st2, fun b hb => (f2 b hb).1, w0⟩
  rintro n s3 ⟨i, σ3, H3, I3, st3, fr3, w3⟩
  rcases turn i n σ3 H3 w3 with ⟨stop, qn⟩ | ⟨go, N, hN, step⟩
  · refine wpAny_passesOwn hp (thn (T.done X rfl rfl rfl hc i pins s3 σ3 H3 X.xe I3 (stat fr3) st3 stop) fun r s4 ⟨hr, I4⟩ => ?_)
    subst hr
    exact wpAny_execs_nil ⟨σ3, H3, I4, qn⟩
  · refine wpAny_passesOwn hp (thn (T.item X rfl rfl rfl hc i pins s3 σ3 H3 X.xe I3 (stat fr3) st3 go) fun r s4 ⟨u, hr, h4⟩ => ?_)
    subst hr
    refine wpAny_passesOwn hp (thn h4 fun _ s5 ⟨x, H5, I5, r5, y5, st5, fr5⟩ => ?_)
    have I5' := I5.pinned (stat fr5) (T.obj _ _ st5)
    refine wpAny_passesOwn hp (thn (hg _ s5 σ3 H5 x u _ I5' r5 (step x H5 y5)) fun _ s6 ⟨σ6, H6, I6, q6⟩ => ?_)
    refine wpAny_passesOwn hp (thn (hb _ s6 σ6 H6 _ I6 q6) fun f s7 q7 => ?_)
    have again : ∀ {σ7 : St} {H7 : Hp}, Inv X (pins ++ pinsAt fp s5.heap) σ7 H7 s7 → N σ7 H7 → ∃ m, m < n ∧ ∃ i σ' H', Inv X pins σ' H' s7 ∧ tn i s7.heap ∧ (∀ b ∈ fp, H' b = none) ∧ W i m σ' H' := fun {σ7 H7} I7 n7 => by
      obtain ⟨m', hm, w7⟩ := hN σ7 H7 n7
      refine ⟨m', hm, i + 1, σ7, H7, I7.unpinned, T.keep _ _ _ st5 fun b hb o e => (I7.pin (b, o) (List.mem_append_right _ (List.mem_append_right _ (mem_pinsAt hb e)))).1, fun b hb => ?_, w7⟩
      obtain ⟨o, e, d⟩ := T.obj _ _ st5 b hb
      exact (I7.pin (b, o) (List.mem_append_right _ (List.mem_append_right _ (mem_pinsAt hb e)))).2.1
    cases f with
    | next => obtain ⟨σ7, H7, I7, n7⟩ := q7; exact again I7 n7
    | cont => obtain ⟨σ7, H7, I7, n7⟩ := q7; exact again I7 n7
    | brk => obtain ⟨σ7, H7, I7, q7⟩ := q7; exact ⟨σ7, H7, I7.unpinned, q7⟩
    | ret v => obtain ⟨x7, σ7, H7, I7, r7, q7⟩ := q7; exact ⟨x7, σ7, H7, I7.unpinned, r7, q7⟩
end
theorem for_list {K : PySem.W.Frag} {a : Addr} {xs : List V} {g : TG} {tb : TS} {D : Ends} {σ : St} {H : Hp} (Pv : Nat → St → Hp → Prop) (h0 : Pv 0 σ H) (hl : ∀ i σ H, i ≤ xs.length → Pv i σ H → SqL K H a xs)
    (hs : ∀ i x σ H, xs[i]? = some x → Pv i σ H → g x σ H fun σ2 H2 => tb { D with nx := Pv (i + 1), ct := Pv (i + 1), bk := D.nx } σ2 H2) (hd : ∀ σ H, Pv xs.length σ H → D.nx σ H) :
    ∃ W : Nat → Nat → St → Hp → Prop, (∃ m, W 0 m σ H) ∧ ∀ i m σ H, W i m σ H →
      ((Itl K a).stop i H ∧ D.nx σ H) ∨ ((Itl K a).go i H ∧ ∃ N : St → Hp → Prop, (∀ σ' H', N σ' H' → ∃ m', m' < m ∧ W (i + 1) m' σ' H') ∧ ∀ x H', (Itl K a).yld i H x H' → g x σ H' fun σ2 H2 => tb { D with nx := N, ct := N, bk := D.nx } σ2 H2) := by
  refine ⟨fun i m σ H => m = xs.length - i ∧ i ≤ xs.length ∧ Pv i σ H, ⟨xs.length, by simp, Nat.zero_le _, h0⟩, ?_⟩
  rintro i m σ H ⟨rfl, hi, p⟩
  have q := hl i σ H hi p
  by_cases hlt : i < xs.length
  · refine .inr ⟨⟨xs, xs[i], q, by simp [hlt]⟩, Pv (i + 1), fun σ' H' p' => ⟨xs.length - (i + 1), by omega, rfl, hlt, p'⟩, fun x H' y => ?_⟩
    obtain ⟨e, y⟩ := y
    subst e
    exact hs i x σ _ (y xs q) p
  · have e : i = xs.length := by omega
    subst e
    exact .inl ⟨⟨xs, q, Nat.le_refl _⟩, hd σ H p⟩
theorem for_range {lo : Int} {n : Nat} {g : TG} {tb : TS} {D : Ends} {σ : St} {H : Hp} (Pv : Nat → St → Hp → Prop) (h0 : Pv 0 σ H)
    (hs : ∀ i σ H, i < n → Pv i σ H → g (.int (lo + i)) σ H fun σ2 H2 => tb { D with nx := Pv (i + 1), ct := Pv (i + 1), bk := D.nx } σ2 H2) (hd : ∀ σ H, Pv n σ H → D.nx σ H) :
    ∃ W : Nat → Nat → St → Hp → Prop, (∃ m, W 0 m σ H) ∧ ∀ i m σ H, W i m σ H →
      ((Itr lo n).stop i H ∧ D.nx σ H) ∨ ((Itr lo n).go i H ∧ ∃ N : St → Hp → Prop, (∀ σ' H', N σ' H' → ∃ m', m' < m ∧ W (i + 1) m' σ' H') ∧ ∀ x H', (Itr lo n).yld i H x H' → g x σ H' fun σ2 H2 => tb { D with nx := N, ct := N, bk := D.nx } σ2 H2) := by
  refine ⟨fun i m σ H => m = n - i ∧ i ≤ n ∧ Pv i σ H, ⟨n, by simp, Nat.zero_le _, h0⟩, ?_⟩
  rintro i m σ H ⟨rfl, hi, p⟩
  by_cases hlt : i < n
  · refine .inr ⟨hlt, Pv (i + 1), fun σ' H' p' => ⟨n - (i + 1), by omega, rfl, hlt, p'⟩, fun x H' y => ?_⟩
    obtain ⟨e, y⟩ := y
    subst e y
    exact hs i σ _ hlt p
  · have e : i = n := by omega
    subst e
    exact .inl ⟨Nat.le_refl _, hd σ H p⟩
end L2
namespace L2
open PySem PySem.Spec PyProof.Rows
abbrev R2 := V → V → Hp → VK → Prop
def OpR (X : Cx) (f : Value → Value → Sem Value) (r : R2) : Prop :=
  ∀ (pins : List (Addr × Obj)) (s : Shared) (σ : St) (H : Hp) (x y : V) (v u : Value) (Q : VK), Inv X pins σ H s → RelV x v → RelV y u → r x y H Q →
    wpAny (model X.prog X.w) X.A (f v u) (EP X pins σ Q) X.xe s
def UnR (X : Cx) (f : Value → Sem Value) (r : V → Hp → VK → Prop) : Prop :=
  ∀ (pins : List (Addr × Obj)) (s : Shared) (σ : St) (H : Hp) (x : V) (v : Value) (Q : VK), Inv X pins σ H s → RelV x v → r x H Q →
    wpAny (model X.prog X.w) X.A (f v) (EP X pins σ Q) X.xe s
def CallR (X : Cx) (f : Value) (r : List V → Hp → VK → Prop) : Prop :=
  ∀ (pins : List (Addr × Obj)) (s : Shared) (σ : St) (H : Hp) (xs : List V) (us : List Value) (Q : VK), Inv X pins σ H s → Vals xs us → r xs H Q →
    wpAny (model X.prog X.w) X.A (call f us) (EP X pins σ Q) X.xe s
def TruR (X : Cx) (r : V → Hp → (Bool → Hp → Prop) → Prop) : Prop :=
  ∀ (pins : List (Addr × Obj)) (s : Shared) (σ : St) (H : Hp) (x : V) (v : Value) (Q : Bool → Hp → Prop), Inv X pins σ H s → RelV x v → r x H Q →
    wpAny (model X.prog X.w) X.A (truthy v) (TP X pins σ Q) X.xe s
def tOp (r : R2) (ta tb : TE) : TE := fun σ H Q => ta σ H fun x H1 => tb σ H1 fun y H2 => r x y H2 Q
def tUn (r : V → Hp → VK → Prop) (ta : TE) : TE := fun σ H Q => ta σ H fun x H1 => r x H1 Q
def rI (C : Int → Int → Prop) (g : Int → Int → V) : R2 := fun x y H Q => ∃ i j, x = .int i ∧ y = .int j ∧ C i j ∧ Q (g i j) H
def rI0 (g : Int → Int → V) : R2 := fun x y H Q => ∃ i j, x = .int i ∧ y = .int j ∧ Q (g i j) H
def rU (g : Int → V) : V → Hp → VK → Prop := fun x H Q => ∃ i, x = .int i ∧ Q (g i) H
section
variable {X : Cx} {a b c : Expr} {ta tb tc : TE} {pos : Pos}
theorem binT (ha : PE X a ta) (hb : PE X b tb) {pins : List (Addr × Obj)} {s : Shared} {σ : St} {H : Hp} {R : V → V → Hp → Prop} (I : Inv X pins σ H s)
    (h : ta σ H fun x H1 => tb σ H1 fun y H2 => R x y H2) {Q : Value → Shared → Prop} {f : Value → Value → Sem Value}
    (hf : ∀ v u s2 x y H2, Inv X pins σ H2 s2 → RelV x v → RelV y u → R x y H2 → wpAny (model X.prog X.w) X.A (f v u) Q X.xe s2) :
    wpAny (model X.prog X.w) X.A (eval a X.env) (fun v s₁ => wpAny (model X.prog X.w) X.A (eval b X.env) (fun u s₂ => wpAny (model X.prog X.w) X.A (f v u) Q X.xe s₂) X.xe s₁) X.xe s := by
  refine thn (ha pins s σ H _ I h) fun v s1 ⟨x, H1, I1, r1, q1⟩ => ?_
  refine thn (hb pins s1 σ H1 _ I1 q1) fun u s2 ⟨y, H2, I2, r2, q2⟩ => ?_
  exact hf v u s2 x y H2 I2 r1 r2 q2
theorem pe_op {op : Operator} {r : R2} (ho : OpR X (binaryOp op) r) (ha : PE X a ta) (hb : PE X b tb) : PE X (.BinOp a op b pos) (tOp r ta tb) := by
  intro pins s σ H Q I h
  exact wpAny_BinOp (binT ha hb I h fun v u s2 x y H2 I2 rx ry q => ho pins s2 σ H2 x y v u Q I2 rx ry q)
theorem pe_un {op : UnaryOp} {r : V → Hp → VK → Prop} (ho : UnR X (unaryOp op) r) (ha : PE X a ta) : PE X (.UnaryOp op a pos) (tUn r ta) := by
  intro pins s σ H Q I h
  exact UnaryOp_ (thn (ha pins s σ H _ I h) fun v s1 ⟨x, H1, I1, r1, q1⟩ => ho pins s1 σ H1 x v Q I1 r1 q1)
theorem opI {f : Value → Value → Sem Value} {C : Int → Int → Prop} {g : Int → Int → Int}
    (rule : ∀ (i j : Int) (t u : Tok) (s : Shared) (Q : Value → Shared → Prop) (E : Value → Shared → Prop), C i j → Q (.int (g i j) s.toks) { s with toks := s.toks + 1 } → wpAny (model X.prog X.w) X.A (f (.int i t) (.int j u)) Q E s) :
    OpR X f (rI C fun i j => .int (g i j)) := by
  intro pins s σ H x y v u Q I rx ry h
  obtain ⟨i, j, rfl, rfl, hc, q⟩ := h
  obtain ⟨t, rfl⟩ := rx
  obtain ⟨t', rfl⟩ := ry
  exact rule i j t t' s _ _ hc ⟨.int (g i j), H, I.tok _, ⟨_, rfl⟩, q⟩
theorem opI0 {f : Value → Value → Sem Value} {g : Int → Int → Int}
    (rule : ∀ (i j : Int) (t u : Tok) (s : Shared) (Q : Value → Shared → Prop) (E : Value → Shared → Prop), Q (.int (g i j) s.toks) { s with toks := s.toks + 1 } → wpAny (model X.prog X.w) X.A (f (.int i t) (.int j u)) Q E s) :
    OpR X f (rI0 fun i j => .int (g i j)) := by
  intro pins s σ H x y v u Q I rx ry h
  obtain ⟨i, j, rfl, rfl, q⟩ := h
  obtain ⟨t, rfl⟩ := rx
  obtain ⟨t', rfl⟩ := ry
  exact rule i j t t' s _ _ ⟨.int (g i j), H, I.tok _, ⟨_, rfl⟩, q⟩
theorem opB0 {f : Value → Value → Sem Value} {g : Int → Int → Bool}
    (rule : ∀ (i j : Int) (t u : Tok) (s : Shared) (Q : Value → Shared → Prop) (E : Value → Shared → Prop), Q (.bool (g i j)) s → wpAny (model X.prog X.w) X.A (f (.int i t) (.int j u)) Q E s) :
    OpR X f (rI0 fun i j => .bl (g i j)) := by
  intro pins s σ H x y v u Q I rx ry h
  obtain ⟨i, j, rfl, rfl, q⟩ := h
  obtain ⟨t, rfl⟩ := rx
  obtain ⟨t', rfl⟩ := ry
  exact rule i j t t' s _ _ ⟨.bl (g i j), H, I, rfl, q⟩
def CDiv (i j : Int) : Prop := 0 < j ∧ j < 1073741824
def CDivN (i j : Int) : Prop := j ≠ 0 ∧ j.natAbs < 1073741824
def CPow (i j : Int) : Prop := 0 ≤ j ∧ j ≤ 1000000 ∧ i.natAbs < 2 ^ 64
def CMul (i j : Int) : Prop := (-(2 ^ 64) < i ∧ i < 2 ^ 64) ∨ (-(2 ^ 64) < j ∧ j < 2 ^ 64)
theorem CMul.ok {i j : Int} (h : CMul i j) : IntMulOk i j := by
  rcases h with ⟨h1, h2⟩ | ⟨h1, h2⟩
  · exact .of_left (intBits_le_64 h1 h2)
  · exact .of_right (intBits_le_64 h1 h2)
theorem op_add : OpR X (binaryOp .Add) (rI0 fun i j => .int (i + j)) := opI0 fun _ _ _ _ _ _ _ q => add_int q
theorem op_sub : OpR X (binaryOp .Sub) (rI0 fun i j => .int (i - j)) := opI0 fun _ _ _ _ _ _ _ q => sub_int q
theorem op_mul : OpR X (binaryOp .Mult) (rI CMul fun i j => .int (i * j)) := opI fun _ _ _ _ _ _ _ hc q => mul_int q hc.ok
theorem op_fdiv : OpR X (binaryOp .FloorDiv) (rI CDiv fun i j => .int (i / j)) := opI fun i j _ _ _ _ _ hc q => by
  have h1 : (0 : Int) < j := hc.1
  have h2 : j < 1073741824 := hc.2
  exact floordiv_int (by omega) (by rw [Int.fdiv_eq_ediv_of_nonneg i (by omega)]; exact q) (.inl (PyProof.noPylong_small (by omega)))
theorem op_mod : OpR X (binaryOp .Mod) (rI (fun _ j => 0 < j) fun i j => .int (i % j)) := opI fun i j _ _ _ _ _ hc q => by
  have h1 : (0 : Int) < j := hc
  exact mod_int' (by omega) (by rw [Int.fmod_eq_emod_of_nonneg i (by omega)]; exact q)
theorem op_modN : OpR X (binaryOp .Mod) (rI (fun _ j => j ≠ 0) fun i j => .int (i.fmod j)) := opI fun _ _ _ _ _ _ _ hc q => mod_int' hc q
theorem op_pow : OpR X (binaryOp .Pow) (rI CPow fun i j => .int (i ^ j.toNat)) := opI fun _ _ _ _ _ _ _ hc q => pow_int_small hc.1 hc.2.1 hc.2.2 q
theorem unI {f : Value → Sem Value} {g : Int → Int}
    (rule : ∀ (i : Int) (t : Tok) (s : Shared) (Q : Value → Shared → Prop) (E : Value → Shared → Prop), Q (.int (g i) s.toks) { s with toks := s.toks + 1 } → wpAny (model X.prog X.w) X.A (f (.int i t)) Q E s) :
    UnR X f (rU fun i => .int (g i)) := by
  intro pins s σ H x v Q I rx h
  obtain ⟨i, rfl, q⟩ := h
  obtain ⟨t, rfl⟩ := rx
  exact rule i t s _ _ ⟨.int (g i), H, I.tok _, ⟨_, rfl⟩, q⟩
theorem un_neg : UnR X (unaryOp .USub) (rU fun i => .int (-i)) := unI fun _ _ _ _ _ q => neg_int q
end
def scal : V → V → Bool
  | .non, .non => true | .non, .int _ => true | .int _, .non => true | .non, .bl _ => true | .bl _, .non => true | .non, .str _ => true | .str _, .non => true
  | .int _, .int _ => true | .bl _, .bl _ => true | .str _, .str _ => true | .byt _, .byt _ => true
  | .int _, .str _ => true | .str _, .int _ => true | .bl _, .str _ => true | .str _, .bl _ => true
  | _, _ => false
def rEq : R2 := fun x y H Q => scal x y = true ∧ Q (.bl (decide (x = y))) H
def rNe : R2 := fun x y H Q => scal x y = true ∧ Q (.bl (!decide (x = y))) H
theorem dec_int {i j : Int} : decide (V.int i = V.int j) = (i == j) := by
  rw [Bool.eq_iff_iff]
  simp
theorem dec_bl {i j : Bool} : decide (V.bl i = V.bl j) = (i == j) := by
  rw [Bool.eq_iff_iff]
  simp
theorem dec_str {i j : Str} : decide (V.str i = V.str j) = (i == j) := by
  rw [Bool.eq_iff_iff]
  simp
theorem dec_byt {i j : Array UInt8} : decide (V.byt i = V.byt j) = (i.toList == j.toList) := by
  rw [Bool.eq_iff_iff]
  cases i
  cases j
  simp
section
variable {X : Cx} {a b c : Expr} {ta tb tc : TE} {pos : Pos}
theorem fin_bl {pins : List (Addr × Obj)} {σ : St} {H : Hp} {s : Shared} {Q : VK} {k k' : Bool} (I : Inv X pins σ H s) (q : Q (.bl k) H) (e : k = k') : EP X pins σ Q (.bool k') s := by
  subst e
  exact ⟨.bl k, H, I, rfl, q⟩
theorem op_eq : OpR X (compareOp .Eq) rEq := by
  intro pins s σ H x y v u Q I rx ry h
  obtain ⟨hs, q⟩ := h
  cases x with
  | non =>
    cases rx
    cases y with
    | non => cases ry; exact PySem.EqNone.eq_none_none (fin_bl I q (by simp))
    | bl j => cases ry; exact PySem.EqNone.eq_none_bool (fin_bl I q (by simp))
    | int j => obtain ⟨t', rfl⟩ := ry; exact PySem.EqNone.eq_none_int (fin_bl I q (by simp))
    | str j => obtain ⟨t', rfl⟩ := ry; exact PySem.EqNone.eq_none_str (fin_bl I q (by simp))
    | _ => exact absurd (show false = true from hs) Bool.false_ne_true
  | bl i =>
    cases rx
    cases y with
    | non => cases ry; exact PySem.EqNone.eq_bool_none (fin_bl I q (by simp))
    | bl j => cases ry; exact eq_bool (fin_bl I q dec_bl)
    | str j => obtain ⟨t', rfl⟩ := ry; exact PySem.EqMixed.eq_bool_str (fin_bl I q (by simp))
    | _ => exact absurd (show false = true from hs) Bool.false_ne_true
  | int i =>
    obtain ⟨t, rfl⟩ := rx
    cases y with
    | non => cases ry; exact PySem.EqNone.eq_int_none (fin_bl I q (by simp))
    | int j => obtain ⟨t', rfl⟩ := ry; exact eq_int (fin_bl I q dec_int)
    | str j => obtain ⟨t', rfl⟩ := ry; exact PySem.EqMixed.eq_int_str (fin_bl I q (by simp))
    | _ => exact absurd (show false = true from hs) Bool.false_ne_true
  | str i =>
    obtain ⟨t, rfl⟩ := rx
    cases y with
    | non => cases ry; exact PySem.EqNone.eq_str_none (fin_bl I q (by simp))
    | bl j => cases ry; exact PySem.EqMixed.eq_str_bool (fin_bl I q (by simp))
    | int j => obtain ⟨t', rfl⟩ := ry; exact PySem.EqMixed.eq_str_int (fin_bl I q (by simp))
    | str j => obtain ⟨t', rfl⟩ := ry; exact eq_str (fin_bl I q dec_str)
    | _ => exact absurd (show false = true from hs) Bool.false_ne_true
  | byt i =>
    obtain ⟨t, rfl⟩ := rx
    cases y with
    | byt j => obtain ⟨t', rfl⟩ := ry; exact PySem.W.eq_bytes (fin_bl I q dec_byt)
    | _ => exact absurd (show false = true from hs) Bool.false_ne_true
  | _ => cases y <;> exact absurd (show false = true from hs) Bool.false_ne_true
theorem op_ne : OpR X (compareOp .NotEq) rNe := by
  intro pins s σ H x y v u Q I rx ry h
  obtain ⟨hs, q⟩ := h
  cases x with
  | non =>
    cases rx
    cases y with
    | non => cases ry; exact PySem.EqNone.ne_none_none (fin_bl I q (by simp))
    | bl j => cases ry; exact PySem.EqNone.ne_none_bool (fin_bl I q (by simp))
    | int j => obtain ⟨t', rfl⟩ := ry; exact PySem.EqNone.ne_none_int (fin_bl I q (by simp))
    | str j => obtain ⟨t', rfl⟩ := ry; exact PySem.EqNone.ne_none_str (fin_bl I q (by simp))
    | _ => exact absurd (show false = true from hs) Bool.false_ne_true
  | bl i =>
    cases rx
    cases y with
    | non => cases ry; exact PySem.EqNone.ne_bool_none (fin_bl I q (by simp))
    | bl j => cases ry; exact ne_bool (fin_bl I q (congrArg not dec_bl))
    | str j => obtain ⟨t', rfl⟩ := ry; exact PySem.EqMixed.ne_bool_str (fin_bl I q (by simp))
    | _ => exact absurd (show false = true from hs) Bool.false_ne_true
  | int i =>
    obtain ⟨t, rfl⟩ := rx
    cases y with
    | non => cases ry; exact PySem.EqNone.ne_int_none (fin_bl I q (by simp))
    | int j => obtain ⟨t', rfl⟩ := ry; exact ne_int (fin_bl I q (congrArg not dec_int))
    | str j => obtain ⟨t', rfl⟩ := ry; exact PySem.EqMixed.ne_int_str (fin_bl I q (by simp))
    | _ => exact absurd (show false = true from hs) Bool.false_ne_true
  | str i =>
    obtain ⟨t, rfl⟩ := rx
    cases y with
    | non => cases ry; exact PySem.EqNone.ne_str_none (fin_bl I q (by simp))
    | bl j => cases ry; exact PySem.EqMixed.ne_str_bool (fin_bl I q (by simp))
    | int j => obtain ⟨t', rfl⟩ := ry; exact PySem.EqMixed.ne_str_int (fin_bl I q (by simp))
    | str j => obtain ⟨t', rfl⟩ := ry; exact ne_str (fin_bl I q (congrArg not dec_str))
    | _ => exact absurd (show false = true from hs) Bool.false_ne_true
  | byt i =>
    obtain ⟨t, rfl⟩ := rx
    cases y with
    | byt j => obtain ⟨t', rfl⟩ := ry; exact PySem.W.ne_bytes (fin_bl I q (congrArg not dec_byt))
    | _ => exact absurd (show false = true from hs) Bool.false_ne_true
  | _ => cases y <;> exact absurd (show false = true from hs) Bool.false_ne_true
theorem op_lt : OpR X (compareOp .Lt) (rI0 fun i j => .bl (decide (i < j))) := opB0 fun _ _ _ _ _ _ _ q => lt_int q
theorem op_le : OpR X (compareOp .LtE) (rI0 fun i j => .bl (decide (i ≤ j))) := opB0 fun _ _ _ _ _ _ _ q => le_int q
theorem op_gt : OpR X (compareOp .Gt) (rI0 fun i j => .bl (decide (j < i))) := opB0 fun _ _ _ _ _ _ _ q => gt_int q
theorem op_ge : OpR X (compareOp .GtE) (rI0 fun i j => .bl (decide (j ≤ i))) := opB0 fun _ _ _ _ _ _ _ q => ge_int q
theorem op_isN : OpR X (compareOp .Is) (fun x y H Q => y = .non ∧ Q (.bl (decide (x = .non))) H) := by
  intro pins s σ H x y v u Q I rx ry h
  obtain ⟨rfl, q⟩ := h
  cases ry
  refine is_none_gen (fin_bl I q ?_)
  cases x <;> first
    | (cases rx; rfl)
    | (obtain ⟨t, rfl⟩ := rx; rfl)
theorem op_notin_str : OpR X (compareOp .NotIn) (fun x y H Q => ∃ i j, x = .str i ∧ y = .str j ∧ Q (.bl (!(!(Builtin.Str.occurrences j i 0 j.length 1).isEmpty))) H) := by
  intro pins s σ H x y v u Q I rx ry h
  obtain ⟨i, j, rfl, rfl, q⟩ := h
  obtain ⟨t, rfl⟩ := rx
  obtain ⟨t', rfl⟩ := ry
  exact notIn_str (fin_bl I q rfl)
def isObj : HO → Bool
  | .lst _ => true
  | .ins _ _ _ => true
  | _ => false
theorem OpR.or {f : Value → Value → Sem Value} {r r' : R2} (h : OpR X f r) (h' : OpR X f r') : OpR X f (fun x y H Q => r x y H Q ∨ r' x y H Q) := by
  intro pins s σ H x y v u Q I rx ry q
  rcases q with q | q
  · exact h pins s σ H x y v u Q I rx ry q
  · exact h' pins s σ H x y v u Q I rx ry q
theorem nomark (b : Expr) {op : CmpOp} (h : op ≠ .In := by decide) (h2 : op ≠ .NotIn := by decide) : behindInMarks op b = false := by
  have e1 : (op == CmpOp.In) = false := by cases op <;> first | rfl | exact absurd rfl h
  have e2 : (op == CmpOp.NotIn) = false := by cases op <;> first | rfl | exact absurd rfl h2
  cases b <;> simp [behindInMarks, e1, e2]
theorem pe_cmpR {op : CmpOp} {r : R2} (ho : OpR X (compareOp op) r) (ha : PE X a ta) (hb : PE X b tb) (hm : behindInMarks op b = false) : PE X (.Compare a [op] [b] pos) (tOp r ta tb) := by
  intro pins s σ H Q I h
  exact wpAny_Compare1 (binT ha hb I h fun v u s2 x y H2 I2 rx ry q => ho pins s2 σ H2 x y v u Q I2 rx ry q) hm
def tTest (t : TE) : TT := fun σ H Q => t σ H fun x H' => ∃ k, x = .bl k ∧ Q k H'
theorem pt_cmpR {op : CmpOp} {r : R2} (ho : OpR X (compareOp op) r) (ha : PE X a ta) (hb : PE X b tb) (hm : behindInMarks op b = false) : PT X (.Compare a [op] [b] pos) (tTest (tOp r ta tb)) := by
  intro pins s σ H Q I h
  refine wpAny_isTrue_Compare1 (thn (ha pins s σ H _ I h) fun v s1 ⟨x, H1, I1, r1, q1⟩ => thn (hb pins s1 σ H1 _ I1 q1) fun u s2 ⟨y, H2, I2, r2, q2⟩ =>
    thn (ho pins s2 σ H2 x y v u _ I2 r1 r2 q2) fun c s3 ⟨z, H3, I3, r3, k, e, q3⟩ => ?_) hm
  subst e
  cases r3
  exact wpAny_truthy_bool ⟨H3, I3, q3⟩
def tChain (r r' : R2) (ta tb tc : TE) : TE := fun σ H Q => ta σ H fun x H1 => tb σ H1 fun y H2 => r x y H2 fun z H3 => ∃ k, z = .bl k ∧
  (if k = true then tc σ H3 fun w' H4 => r' y w' H4 Q else Q (.bl false) H3)
theorem pt_chain {op op' : CmpOp} {r r' : R2} (ho : OpR X (compareOp op) r) (ho' : OpR X (compareOp op') r') (ha : PE X a ta) (hb : PE X b tb) (hc : PE X c tc)
    (hm : lastMarks [op, op'] [b, c] = false := by with_unfolding_all rfl) : PT X (.Compare a [op, op'] [b, c] pos) (tTest (tChain r r' ta tb tc)) := by
  intro pins s σ H Q I h
  refine isTrue_chain (thn (ha pins s σ H _ I h) fun v s1 ⟨x, H1, I1, r1, q1⟩ => test_link (thn (hb pins s1 σ H1 _ I1 q1) fun u s2 ⟨y, H2, I2, r2, q2⟩ =>
    thn (ho pins s2 σ H2 x y v u _ I2 r1 r2 q2) fun d s3 ⟨z, H3, I3, r3, k, e, q3⟩ => ?_)) hm
  subst e
  cases r3
  refine wpAny_truthy_bool ?_
  cases k with
  | false =>
    obtain ⟨k', e', q'⟩ := q3
    cases e'
    exact ite_ff ⟨H3, I3, q'⟩
  | true =>
    refine ite_tt (test_last (thn (hc pins s3 σ H3 _ I3 q3) fun w' s4 ⟨z', H4, I4, r4, q4⟩ => thn (ho' pins s4 σ H4 y z' u w' _ I4 r2 r4 q4) fun d' s5 ⟨z2, H5, I5, r5, k2, e2, q5⟩ => ?_))
    subst e2
    cases r5
    exact wpAny_truthy_bool ⟨H5, I5, q5⟩
def TruV (K : PySem.W.Frag) (x : V) (H : Hp) (k : Bool) : Prop :=
  match x with
  | .non => k = false
  | .bl b => k = b
  | .int i => k = (i != 0)
  | .str y => y.length ≤ sizeLine ∧ k = ((y.length : Int) != 0)
  | .byt y => y.size ≤ sizeLine ∧ k = ((y.size : Int) != 0)
  | .ref p => (∃ xs, SqL K H p xs ∧ k = !xs.isEmpty) ∨ (∃ xs, SqT K H p xs ∧ k = !xs.isEmpty) ∨ ∃ kvs, H p = some (.dK kvs) ∧ k = !kvs.isEmpty
  | _ => False
theorem isEmpty_kv {κ : Type} {kvs : List (κ × V)} {vs : List (κ × Value)} (r : KV kvs vs) : (!vs.isEmpty) = !kvs.isEmpty := by
  cases r <;> rfl
theorem isEmpty_of {xs : List V} {its : List Value} (r : Vals xs its) : (!its.toArray.isEmpty) = !xs.isEmpty := by
  cases r <;> simp
theorem line63 : (sizeLine : Nat) < 2 ^ 63 := by rw [sizeLine_eq]; decide
theorem tru_ok : TruR X (fun x H Q => ∃ k, TruV X.K x H k ∧ Q k H) := by
  intro pins s σ H x v Q I rx h
  obtain ⟨k, e, q⟩ := h
  have hl := line63
  have hs : sizeLine = 16777216 := sizeLine_eq
  cases x with
  | non =>
    cases rx
    have e' : k = false := e
    subst e'
    exact truthy_none ⟨H, I, q⟩
  | bl b =>
    cases rx
    have e' : k = b := e
    subst e'
    exact wpAny_truthy_bool ⟨H, I, q⟩
  | int i =>
    obtain ⟨t, rfl⟩ := rx
    have e' : k = (i != 0) := e
    subst e'
    exact PySem.P.truthy_int ⟨H, I, q⟩
  | str y =>
    obtain ⟨t, rfl⟩ := rx
    obtain ⟨hy, e'⟩ : y.length ≤ sizeLine ∧ k = ((y.length : Int) != 0) := e
    subst e'
    exact PySem.P.truthy_str (by omega) ⟨H, I.tok _, q⟩
  | byt y =>
    obtain ⟨t, rfl⟩ := rx
    obtain ⟨hy, e'⟩ : y.size ≤ sizeLine ∧ k = ((y.size : Int) != 0) := e
    subst e'
    exact PySem.W.truthy_bytes (by omega) ⟨H, I.tok _, q⟩
  | ref p =>
    cases rx
    have e' : (∃ xs, SqL X.K H p xs ∧ k = !xs.isEmpty) ∨ (∃ xs, SqT X.K H p xs ∧ k = !xs.isEmpty) ∨ ∃ kvs, H p = some (.dK kvs) ∧ k = !kvs.isEmpty := e
    rcases e' with ⟨xs, hx, e'⟩ | ⟨xs, hx, e'⟩ | ⟨kvs, hx, e'⟩
    · subst e'
      obtain ⟨its, r, pl, hz⟩ := I.list hx
      have hlen := r.length
      exact wpAny_truthy_list pl.isList (by simp only [List.size_toArray]; omega) ⟨H, I.tok _, by rw [isEmpty_of r]; exact q⟩
    · subst e'
      obtain ⟨its, r, pl, hz⟩ := I.tuple hx
      have hlen := r.length
      exact truthy_tuple pl (by simp only [List.size_toArray]; omega) ⟨H, I.tok _, by rw [isEmpty_of r]; exact q⟩
    · subst e'
      obtain ⟨hz, hS, vs, r, m⟩ : kvs.length ≤ sizeLine ∧ (p == sysModules) = false ∧ ∃ vs, KV kvs vs ∧ s.heap.DictOf (mixKind X.prog X.w) p vs := I.hok p _ hx
      have hlen : kvs.length = vs.length := Paired.length r
      exact wpAny_truthy_dict hS m (by omega) ⟨H, I.tok _, by rw [isEmpty_kv r]; exact q⟩
  | _ => exact (show False from e).elim
theorem pt_truth (ha : PE X a ta) (he : ∀ whole, isTrue a X.env whole = (do let v ← whole; standAt a.pos; holding [v] (truthy v))) :
    PT X a (fun σ H Q => ta σ H fun x H' => ∃ k, TruV X.K x H' k ∧ Q k H') := by
  intro pins s σ H Q I h
  exact isTrue_plain (thn (ha pins s σ H _ I h) fun v s1 ⟨x, H1, I1, r1, q1⟩ => tru_ok pins s1 σ H1 x v Q I1 r1 q1) (he _)
theorem op_add_str : OpR X (binaryOp .Add) (fun x y H Q => ∃ i j, x = .str i ∧ y = .str j ∧ i.length + j.length ≤ sizeLine ∧ Q (.str (i ++ j)) H) := by
  intro pins s σ H x y v u Q I rx ry h
  obtain ⟨i, j, rfl, rfl, hz, q⟩ := h
  obtain ⟨t, rfl⟩ := rx
  obtain ⟨t', rfl⟩ := ry
  exact add_str (fun t' tk => ⟨.str (i ++ j), H, I.tok _, ⟨_, rfl⟩, q⟩) hz
def PlainIxT (b : Expr) : Prop := ∀ o i, subscripted b false o i = operate [o, i] (getItem o i)
theorem vals1 {x : V} {us : List Value} (r : Vals [x] us) : ∃ u, us = [u] ∧ RelV x u := by
  cases r with
  | cons r1 r2 => cases r2; exact ⟨_, rfl, r1⟩
theorem vals2 {x y : V} {us : List Value} (r : Vals [x, y] us) : ∃ u w', us = [u, w'] ∧ RelV x u ∧ RelV y w' := by
  cases r with
  | cons r1 r2 =>
    cases r2 with
    | cons r3 r4 => cases r4; exact ⟨_, _, rfl, r1, r3⟩
theorem call_abs : CallR X (.builtin "abs") (fun xs H Q => ∃ i, xs = [.int i] ∧ Q (.int (if i < 0 then -i else i)) H) := by
  intro pins s σ H xs us Q I r h
  obtain ⟨i, rfl, q⟩ := h
  obtain ⟨u, rfl, t, rfl⟩ := vals1 r
  exact call_abs_int fun u tk => ⟨.int (if i < 0 then -i else i), H, I.tok _, ⟨_, rfl⟩, q⟩
theorem call_max2 (hc : X.calm = true) : CallR X (.builtin "max") (fun xs H Q => ∃ i j, xs = [.int i, .int j] ∧ Q (.int (if j > i then j else i)) H) := by
  intro pins s σ H xs us Q I r h
  obtain ⟨i, j, rfl, q⟩ := h
  obtain ⟨u, w', rfl, ⟨t, rfl⟩, ⟨t', rfl⟩⟩ := vals2 r
  refine max_two_ints (I.ok.hd hc) fun h' tk k => ⟨_, H, I.kept k, ?_, q⟩
  by_cases hj : j > i
  · rw [if_pos hj, if_pos hj]; exact ⟨_, rfl⟩
  · rw [if_neg hj, if_neg hj]; exact ⟨_, rfl⟩
theorem call_int1 : CallR X (.type "int") (fun xs H Q => (∃ i, xs = [.int i] ∧ Q (.int i) H) ∨ ∃ k, xs = [.bl k] ∧ Q (.int (if k then 1 else 0)) H) := by
  intro pins s σ H xs us Q I r h
  rcases h with ⟨i, rfl, q⟩ | ⟨k, rfl, q⟩
  · obtain ⟨u, rfl, t, rfl⟩ := vals1 r
    exact call_int_int ⟨.int i, H, I, ⟨_, rfl⟩, q⟩
  · obtain ⟨u, rfl, r1⟩ := vals1 r
    cases r1
    exact call_int_bool ⟨.int (if k then 1 else 0), H, I.tok _, ⟨_, rfl⟩, q⟩
theorem call_str_int : CallR X (.type "str") (fun xs H Q => ∃ i, xs = [.int i] ∧ i.natAbs.log2 < 1920 ∧ Q (.str (toString i)) H) := by
  intro pins s σ H xs us Q I r h
  obtain ⟨i, rfl, hz, q⟩ := h
  obtain ⟨u, rfl, t, rfl⟩ := vals1 r
  exact PySem.P.str_of_int hz ⟨.str _, H, I.tok _, ⟨_, rfl⟩, q⟩
def LenV (K : PySem.W.Frag) (x : V) (H : Hp) (n : Nat) : Prop :=
  match x with
  | .str y => y.length ≤ sizeLine ∧ n = y.length
  | .byt y => y.size ≤ sizeLine ∧ n = y.size
  | .ref p => (∃ xs, SqL K H p xs ∧ n = xs.length) ∨ ∃ xs, SqT K H p xs ∧ n = xs.length
  | _ => False
end
end L2
namespace L2
open PySem PySem.Spec PyProof.Rows
structure ObjM (h : Heap) (x dx C : Addr) (mA : Str → Option Value) : Prop where
  obj : h.get? x = some (PySem.W.instObj C dx)
  ns : h.Ns1 dx mA
  ne : dx ≠ x
theorem lookIn_ns {h : Heap} {dx : Addr} {mA : Str → Option Value} (n : h.Ns1 dx mA) : ∃ od, h.get? dx = some od ∧ ∀ name, PySem.W.lookIn name od = some (mA name) := by
  obtain ⟨o, es, ep, ho, hd, hk, _, hm⟩ := n
  refine ⟨o, ho, fun name => ?_⟩
  have e := hm name
  unfold nsFind findBy at e
  rw [← Array.find?_toList] at e
  unfold PySem.W.lookIn
  rw [hd]
  dsimp only
  split
  · rename_i y q
    rw [q] at e
    exact congrArg some e
  · rename_i q
    rw [q] at e
    have a : es.toList.any (·.refKey) = false := by
      rw [List.any_eq_false]
      intro y hy
      obtain ⟨z, t, hkey⟩ := hk y (Array.mem_toList_iff.mp hy)
      simp [DictEntry.refKey, hkey]
    have a' : ¬ es.toList.any (·.refKey) = true := by rw [a]; exact Bool.false_ne_true
    rw [if_neg a']
    exact congrArg some e
theorem ObjM.look {h : Heap} {x dx C : Addr} {mA : Str → Option Value} (I : ObjM h x dx C mA) : ∃ od, PySem.W.InstAt h x (PySem.W.instObj C dx) C (some od) ∧ ∀ name, PySem.W.lookIn name od = some (mA name) :=
  let ⟨od, ho, hl⟩ := lookIn_ns I.ns
  ⟨od, ⟨I.obj, rfl, rfl, ho⟩, hl⟩
section
variable {prog : Program} {w : World} {A : Around} {E : Value → Shared → Prop} {s : Shared} {K : PySem.W.Frag} {x dx C f : Addr} {mA : Str → Option Value} {name : Str} {v : Value}
theorem get_map {expr : Bool} {Q : Value → Shared → Prop} (X : K.In s.heap) (I : ObjM s.heap x dx C mA) (hg : PySem.W.plainGet K C name = true) (hh : PySem.W.hasDictIn K C = true)
    (ha : PySem.W.findIn K (.ref C) name = some none) (hv : mA name = some v) (hv' : PySem.W.handedIn v = true) (h : Q v { s with toks := s.toks + 1 }) :
    wpAny (model prog w) A (getAttr (.ref x) name expr) Q E s := by
  obtain ⟨od, J, hl⟩ := I.look
  exact PySem.W.get_value X J (PySem.W.plainGet_of hg).1 (PySem.W.findObj_own hh ha rfl (by rw [hl, hv])) hv' h
theorem get_meth {pl : Sem Bool} {Q : Value × List Value → Shared → Prop} (X : K.In s.heap) (I : ObjM s.heap x dx C mA) (hg : PySem.W.plainGet K C name = true)
    (hf : PySem.W.findIn K (.ref C) name = some (some (.ref f))) (ht : PySem.W.isFn K (.ref f) = true) (hv : mA name = none) (h : Q (.ref f, [.ref x]) s) :
    wpAny (model prog w) A (getMethod (.ref x) name pl) Q E s := by
  obtain ⟨od, J, hl⟩ := I.look
  exact PySem.W.method_fn X J (PySem.W.plainGet_of hg).1 (PySem.W.plainGet_of hg).2 hf (beq_iff_eq.mp ht) (by show (PySem.W.lookIn name od).map (·.isSome) = some false; rw [hl, hv]; rfl) h
theorem set_map {ns : List Str} {Q : Unit → Shared → Prop} (X : K.In s.heap) (I : ObjM s.heap x dx C mA)
    (hs : PySem.W.findIn K (.ref C) "__setattr__" = some (some (.builtin "object.__setattr__"))) (hp : PySem.W.plainOver K C = true) (ht : PySem.W.takerIn K C name = some none) (hh : PySem.W.hasDictIn K C = true)
    (hw : PySem.Within mA ns) (hsz : ns.length ≤ sizeLine)
    (h : ∀ h', ObjM h' x dx C (fun y => if y = name then some v else mA y) → Heap.SameBut dx s.heap h' → Q () { s with heap := h', toks := s.toks + 2 }) :
    wpAny (model prog w) A (setAttr (.ref x) name v) Q E s := by
  obtain ⟨od, J, hl⟩ := I.look
  refine PySem.W.set_plain X J hs (PySem.W.osa_open (s := { s with toks := s.toks + 1 }) (r := none) X J hp ht fun b => ?_)
  obtain ⟨cd, hc, hd'⟩ := PySem.W.any_some hh
  have hx : s.heap.get? x = some ⟨.ref C, some dx, .plain, #[]⟩ := I.obj
  refine wpAny_bind (wpAny_pure (wpAny_bind (wpAny_bind (wpAny_loadPart hx (wpAny_bind (PySem.W.Looks.here (s := { s with toks := s.toks + 1 }) (PySem.W.looks_clsIn X hc) ?_))))))
  rw [hd']
  refine wpAny_pure (a := some dx) (wpAny_bind (wpAny_pure (wpAny_bind ?_)))
  refine wpAny_nsSet1 (s := { s with toks := s.toks + 1 }) I.ns fun h' hn2 hs2 => ?_
  obtain ⟨oD, esD, epD, hoD, hdD, hcD⟩ := hn2.count (PySem.Within.cons name v hw)
  refine wpAny_bind (wpAny_lookBehind hoD (by rw [hdD]; exact pastItsLine_dict (Nat.le_trans hcD (by rw [List.length_cons]; omega))) ?_)
  exact wpAny_pure (h _ ⟨(hs2.2 _ (Ne.symm I.ne)).trans I.obj, hn2, I.ne⟩ hs2)
theorem make_map {R : Result → Shared → Prop} {vs : List Value} {kw : List (Str × Value)} (X : K.In s.heap) (hm : PySem.W.makesIn K C = true)
    (hi : PySem.W.findIn K (.ref C) "__init__" = some (some (.ref f))) (hf : PySem.W.typeIn K (.ref f) = some (.type "function"))
    (h : codeAny (model prog w) (A.under (.builtin "type.__call__" ⟨.ref C :: vs, kw⟩)) (.call (.ref f) ⟨.ref (s.heap.objs.size + 1) :: vs, kw⟩) (PySem.W.InitBack (s.heap.objs.size + 1) R)
      { s with heap := (s.heap.push PySem.W.emptyDict).push (PySem.W.instObj C s.heap.objs.size) }) :
    codeAny (model prog w) A (.call (.ref C) ⟨vs, kw⟩) R s := by
  obtain ⟨hh, g, d, t, os⟩ := s
  exact PySem.W.make_core (PySem.W.makes_of X hm) (PySem.W.looks_findIn X hi) (fun self => PySem.W.bind_fn X self hf) (.inl rfl) h
end
def putF (f : Str) (v : V) : List (Str × V) → List (Str × V)
  | [] => [(f, v)]
  | (g, x) :: r => if g = f then (g, v) :: r else (g, x) :: putF f v r
theorem lookup_putF (f g : Str) (v : V) : ∀ fs : List (Str × V), (putF f v fs).lookup g = if g = f then some v else fs.lookup g
  | [] => by
    show List.lookup g [(f, v)] = _
    by_cases h : g = f
    · have hb : (g == f) = true := beq_iff_eq.mpr h
      simp only [List.lookup, hb, if_pos h]
    · have hb : (g == f) = false := beq_eq_false_iff_ne.mpr h
      simp only [List.lookup, hb, if_neg h]
  | (k, x) :: r => by
    have ih := lookup_putF f g v r
    rw [show putF f v ((k, x) :: r) = (if k = f then (k, v) :: r else (k, x) :: putF f v r) from rfl]
    by_cases hk : k = f
    · rw [if_pos hk]
      by_cases h : g = k
      · have hb : (g == k) = true := beq_iff_eq.mpr h
        simp only [List.lookup, hb, if_pos (h.trans hk)]
      · have hb : (g == k) = false := beq_eq_false_iff_ne.mpr h
        simp only [List.lookup, hb, if_neg (fun e : g = f => h (e.trans hk.symm))]
    · rw [if_neg hk]
      by_cases h : g = k
      · have hb : (g == k) = true := beq_iff_eq.mpr h
        simp only [List.lookup, hb, if_neg (fun e : g = f => hk (h.symm.trans e))]
      · have hb : (g == k) = false := beq_eq_false_iff_ne.mpr h
        simp only [List.lookup, hb]
        exact ih
theorem keys_putF (f : Str) (v : V) : ∀ fs : List (Str × V), f ∈ (putF f v fs).map (·.1) ∧ ∀ g, g ∈ fs.map (·.1) → g ∈ (putF f v fs).map (·.1)
  | [] => ⟨by simp [putF], fun g h => by simp at h⟩
  | (k, x) :: r => by
    obtain ⟨i1, i2⟩ := keys_putF f v r
    rw [show putF f v ((k, x) :: r) = (if k = f then (k, v) :: r else (k, x) :: putF f v r) from rfl]
    by_cases hk : k = f
    · rw [if_pos hk]
      subst hk
      exact ⟨by simp, fun g h => by simpa using h⟩
    · rw [if_neg hk]
      refine ⟨?_, fun g h => ?_⟩
      · rw [List.map_cons]
        exact List.mem_cons_of_mem _ i1
      · rw [List.map_cons] at h ⊢
        rcases List.mem_cons.mp h with e | e
        · exact List.mem_cons.mpr (.inl e)
        · exact List.mem_cons_of_mem _ (i2 g e)
theorem length_putF (f : Str) (v : V) : ∀ fs : List (Str × V), (putF f v fs).length ≤ fs.length + 1
  | [] => by simp [putF]
  | (k, x) :: r => by
    have ih := length_putF f v r
    rw [show putF f v ((k, x) :: r) = (if k = f then (k, v) :: r else (k, x) :: putF f v r) from rfl]
    by_cases hk : k = f
    · rw [if_pos hk, List.length_cons, List.length_cons]; omega
    · rw [if_neg hk, List.length_cons, List.length_cons]; omega
theorem RelO.some_of {v : V} {o : Option Value} (r : RelO (some v) o) : ∃ u, o = some u ∧ RelV v u := by
  cases o with
  | none => exact (show False from r).elim
  | some u => exact ⟨u, rfl, r⟩
theorem RelO.none_of {o : Option Value} (r : RelO none o) : o = none := by
  cases o with
  | none => rfl
  | some u => exact (show False from r).elim
theorem handed_of {v : V} {u : Value} (r : RelV v u) : PySem.W.handedIn u = true := by
  cases v with
  | non => cases (show u = Value.none from r); rfl
  | bl b => cases (show u = Value.bool b from r); rfl
  | int i => obtain ⟨t, e⟩ := (show ∃ t, u = Value.int i t from r); cases e; rfl
  | str x => obtain ⟨t, e⟩ := (show ∃ t, u = Value.str x t from r); cases e; rfl
  | byt b => obtain ⟨t, e⟩ := (show ∃ t, u = Value.bytes b t from r); cases e; rfl
  | flt b => obtain ⟨t, e⟩ := (show ∃ t, u = Value.float b t from r); cases e; rfl
  | ref a => cases (show u = Value.ref a from r); rfl
  | ty n => cases (show u = Value.type n from r); rfl
section
variable {P : Program} {w : World} {H H' : Hp} {h h' : Heap} {a C dx : Addr} {fs fs' : List (Str × V)}
theorem ins_get (hok : HOk P w H h) (e : H a = some (.ins C dx fs)) : ∃ mA, ObjM h a dx C mA ∧ (∀ f, RelO (fs.lookup f) (mA f)) ∧ PySem.Within mA (fs.map (·.1)) ∧ fs.length ≤ 1000 ∧ H dx = some (.own a) := by
  obtain ⟨d, z, ne, ob, mA, n, r, q⟩ := (show ObjOk P w H h a (.ins C dx fs) from hok a _ e)
  exact ⟨mA, ⟨ob, n, ne⟩, r, q, z, d⟩
end
structure Cls (K : PySem.W.Frag) (C : Addr) : Prop where
  pg : PySem.W.plainGet K C Str.empty = true
  hd : PySem.W.hasDictIn K C = true
  po : PySem.W.plainOver K C = true
  sa : PySem.W.findIn K (.ref C) "__setattr__" = some (some (.builtin "object.__setattr__"))
theorem Cls.get {K : PySem.W.Frag} {C : Addr} (c : Cls K C) (f : Str) : PySem.W.plainGet K C f = true := c.pg
def NoAttr (K : PySem.W.Frag) (C : Addr) (f : Str) : Prop := PySem.W.findIn K (.ref C) f = some none
theorem NoAttr.taker {K : PySem.W.Frag} {C : Addr} {f : Str} (n : NoAttr K C f) : PySem.W.takerIn K C f = some none := by
  unfold PySem.W.takerIn
  rw [show PySem.W.findIn K (.ref C) f = some none from n]
  rfl
structure Con (K : PySem.W.Frag) (C : Addr) (f : Str) (v : V) (u : Value) : Prop where
  at_ : PySem.W.findIn K (.ref C) f = some (some u)
  rel : RelV v u
  get : PySem.W.specialIn K u "__get__" = some none
  cp : PySem.W.copiedNames.contains f = false
structure Meth (K : PySem.W.Frag) (C : Addr) (m : Str) (f : Addr) : Prop where
  at_ : PySem.W.findIn K (.ref C) m = some (some (.ref f))
  fn : PySem.W.isFn K (.ref f) = true
  kp : PySem.W.keepIn K (.ref f) = true
section
variable {X : Cx} {pins : List (Addr × Obj)} {σ : St} {H : Hp} {s : Shared} {a C dx : Addr} {fs : List (Str × V)} {f : Str} {v : V} {A : Around} {E : Value → Shared → Prop}
theorem getattr_ok {b : Bool} {Q : Value → Shared → Prop} (I : Inv X pins σ H s) (e : H a = some (.ins C dx fs)) (c : Cls X.K C) (n : NoAttr X.K C f) (l : fs.lookup f = some v)
    (h : ∀ u s', Inv X pins σ H s' → RelV v u → Q u s') : wpAny (model X.prog X.w) A (getAttr (.ref a) f b) Q E s := by
  obtain ⟨mA, O, r, _, _, _⟩ := ins_get I.hok e
  obtain ⟨u, hu, ru⟩ := RelO.some_of (v := v) (o := mA f) (by rw [← l]; exact r f)
  exact get_map I.kIn O (c.get f) c.hd n hu (handed_of ru) (h u _ (I.tok _) ru)
theorem getmeth_ok {m : Str} {g : Addr} {pl : Sem Bool} {Q : Value × List Value → Shared → Prop} (I : Inv X pins σ H s) (e : H a = some (.ins C dx fs)) (c : Cls X.K C) (k : Meth X.K C m g) (l : fs.lookup m = none)
    (h : Q (.ref g, [.ref a]) s) : wpAny (model X.prog X.w) A (getMethod (.ref a) m pl) Q E s := by
  obtain ⟨mA, O, r, _, _, _⟩ := ins_get I.hok e
  have hn : mA m = none := RelO.none_of (by rw [← l]; exact r m)
  exact get_meth I.kIn O (c.get m) k.at_ k.fn hn h
theorem setattr_ok {y : V} {u : Value} {Q : Unit → Shared → Prop} (I : Inv X pins σ H s) (e : H a = some (.ins C dx fs)) (c : Cls X.K C) (n : NoAttr X.K C f) (hl : fs.length < 1000) (ry : RelV y u)
    (h : ∀ s', Inv X pins σ (upd H a (.ins C dx (putF f y fs))) s' → Q () s') : wpAny (model X.prog X.w) A (setAttr (.ref a) f u) Q E s := by
  obtain ⟨mA, O, r, wi, _, ho⟩ := ins_get I.hok e
  have hz : (fs.map (·.1)).length ≤ sizeLine := by rw [List.length_map, sizeLine_eq]; omega
  refine set_map I.kIn O c.sa c.po n.taker c.hd wi hz fun h' O' sb => h _ ?_
  have hd : ∃ o, h'.get? dx = some o := let ⟨o, _, _, e', _⟩ := O'.ns; ⟨o, e'⟩
  refine I.write (x := a) (e := dx) (by rw [e]; exact True.intro) (.inr ho) (fun b q hb z => (sb.2 b hb).trans z) hd ?_
  refine ⟨by rw [upd_ne O.ne]; exact ho, ?_, O.ne, O'.obj, _, O'.ns, fun g => ?_, fun g hg => ?_⟩
  · have := length_putF f y fs; omega
  · show RelO ((putF f y fs).lookup g) (if g = f then some u else mA g)
    rw [lookup_putF]
    by_cases q : g = f
    · rw [if_pos q, if_pos q]; exact ry
    · rw [if_neg q, if_neg q]; exact r g
  · by_cases q : g = f
    · rw [q]; exact (keys_putF f y fs).1
    · refine (keys_putF f y fs).2 g (wi g fun z => hg ?_)
      show (if g = f then some u else mA g) = none
      rw [if_neg q]; exact z
theorem Inv.made (I : Inv X pins σ H s) : Inv X pins σ (upd (upd H s.heap.objs.size (.own (s.heap.objs.size + 1))) (s.heap.objs.size + 1) (.ins C s.heap.objs.size []))
    { s with heap := (s.heap.push PySem.W.emptyDict).push (PySem.W.instObj C s.heap.objs.size) } := by
  have e1 : (s.heap.push PySem.W.emptyDict).get? s.heap.objs.size = some PySem.W.emptyDict := Heap.get?_push_size s.heap rfl
  have e2 : ((s.heap.push PySem.W.emptyDict).push (PySem.W.instObj C s.heap.objs.size)).get? (s.heap.objs.size + 1) = some (PySem.W.instObj C s.heap.objs.size) := by
    have := Heap.get?_push_size (s.heap.push PySem.W.emptyDict) (o := PySem.W.instObj C s.heap.objs.size) rfl
    rwa [Heap.size_push] at this
  have e3 : (s.heap.push PySem.W.emptyDict).Ns s.heap.objs.size (fun _ => none) := ⟨PySem.W.emptyDict, #[], _, e1, rfl, (fun e he => absurd he (by simp)), fun _ => rfl⟩
  have I1 := I.laid (a := s.heap.objs.size) (o := .own (s.heap.objs.size + 1)) (h' := s.heap.push PySem.W.emptyDict) (t' := s.toks) (fun b u q => Heap.get?_push_of_some _ q) (Nat.le_refl _) ⟨_, e1⟩
  refine I1.laid (a := s.heap.objs.size + 1) (o := .ins C s.heap.objs.size []) (t' := s.toks) (fun b u q => Heap.get?_push_of_some _ q) (Nat.le_of_eq (Heap.size_push _ _)) ?_
  have ne : s.heap.objs.size ≠ s.heap.objs.size + 1 := Nat.ne_of_lt (Nat.lt_succ_self _)
  refine ⟨by rw [upd_ne ne, upd_same], Nat.zero_le _, ne, e2, fun _ => none, (Heap.Ns1.of_empty e3).at fun o q => Heap.get?_push_of_some _ q, fun _ => True.intro, fun y hy => absurd rfl hy⟩
theorem attr_of {prog : Program} {w : World} {env : Env} {e : Expr} {f : Str} {pos : Pos} {s : Shared} {Q : Value → Shared → Prop} (hb : attributeBase e f env (eval e env) = eval e env)
    (h : wpAny (model prog w) A (eval e env) (fun o s₁ => wpAny (model prog w) A (getAttr o f true) Q E s₁) E s) : wpAny (model prog w) A (eval (.Attribute e f pos) env) Q E s :=
  Attribute_any_ h (by rw [arm_eval_Attribute, hb])
end
def tFld (K : PySem.W.Frag) (ta : TE) (f : Str) : TE := fun σ H Q => ta σ H fun x H1 => ∃ a C dx fs v, x = .ref a ∧ H1 a = some (.ins C dx fs) ∧ Cls K C ∧ NoAttr K C f ∧ fs.lookup f = some v ∧ Q v H1
def tCon (K : PySem.W.Frag) (ta : TE) (f : Str) : TE := fun σ H Q => ta σ H fun x H1 => ∃ a C dx fs v u, x = .ref a ∧ H1 a = some (.ins C dx fs) ∧ Cls K C ∧ Con K C f v u ∧ fs.lookup f = none ∧ Q v H1
def sFld (K : PySem.W.Frag) (ta tv : TE) (f : Str) : TS := fun D σ H => tv σ H fun y H1 => ta σ H1 fun x H2 => ∃ a C dx fs, x = .ref a ∧ H2 a = some (.ins C dx fs) ∧ Cls K C ∧ NoAttr K C f ∧ fs.length < 1000 ∧
  D.nx σ (upd H2 a (.ins C dx (putF f y fs)))
def InOp (X : Cx) (op : Operator) (rd : V → V → Hp → VK → Prop) : Prop :=
  ∀ (pins : List (Addr × Obj)) (s : Shared) (σ : St) (H : Hp) (x y : V) (u v : Value) (Q : VK), Inv X pins σ H s → RelV x u → RelV y v → rd x y H Q → wpAny (model X.prog X.w) X.A (inplaceOp op u v) (EP X pins σ Q) X.xe s
def sFldAug (K : PySem.W.Frag) (ta tv : TE) (rd : V → V → Hp → VK → Prop) (f : Str) : TS := fun D σ H => ta σ H fun x H1 => ∃ a C dx fs v, x = .ref a ∧ H1 a = some (.ins C dx fs) ∧ Cls K C ∧ NoAttr K C f ∧ fs.lookup f = some v ∧
  tv σ H1 fun y H2 => rd v y H2 fun z H3 => ∃ dx' fs', H3 a = some (.ins C dx' fs') ∧ fs'.length < 1000 ∧ D.nx σ (upd H3 a (.ins C dx' (putF f z fs')))
section
variable {X : Cx} {o e value : Expr} {f : Str} {pos pos' tpos : Pos} {ta tv : TE}
theorem pe_fld (he : PE X e ta) (hb : attributeBase e f X.env (eval e X.env) = eval e X.env) : PE X (.Attribute e f pos) (tFld X.K ta f) := by
  intro pins s σ H Q I h
  refine attr_of hb (thn (he pins s σ H _ I h) fun u s1 ⟨x, H1, I1, rx, a, C, dx, fs, v, ex, ea, c, n, l, q⟩ => ?_)
  subst ex
  obtain rfl : u = Value.ref a := rx
  exact getattr_ok I1 ea c n l fun u' s2 I2 ru => ⟨v, H1, I2, ru, q⟩
theorem ps_fld (ha : PE X o ta) (hv : PE X value tv) (hs : swapsWith value (some (.Attribute o f pos')) pos.line X.env = pure false) : PS X (.Assign [.Attribute o f pos'] value pos) (sFld X.K ta tv f) := by
  intro pins s σ H D I h
  refine plainObj_wpAny_Assign_Attribute (thn (hv pins s σ H _ I h) fun u s1 ⟨y, H1, I1, ry, q⟩ => thn (ha pins s1 σ H1 _ I1 q) fun ov s2 ⟨x, H2, I2, rx, a, C, dx, fs, ex, ea, c, n, l, q2⟩ => ?_) hs
  subst ex
  obtain rfl : ov = Value.ref a := rx
  exact setattr_ok I2 ea c n l ry fun s3 I3 => ⟨σ, _, I3, q2⟩
def rAdd : V → V → Hp → VK → Prop := fun x y H Q => ∃ i j, x = .int i ∧ y = .int j ∧ Q (.int (i + j)) H
def rSub : V → V → Hp → VK → Prop := fun x y H Q => ∃ i j, x = .int i ∧ y = .int j ∧ Q (.int (i - j)) H
theorem methcall_of {pl : Sem Bool} {m : Str} {apos : Pos} {args : List Expr} {pins : List (Addr × Obj)} {s : Shared} {σ : St} {H : Hp} {Q : Value → Shared → Prop} {te : TE} (he : PE X e te) (I : Inv X pins σ H s)
    (h : te σ H fun x H1 => ∃ a C dx fs g, x = .ref a ∧ H1 a = some (.ins C dx fs) ∧ Cls X.K C ∧ Meth X.K C m g ∧ fs.lookup m = none ∧
      ∀ s1, Inv X pins σ H1 s1 → wpAny (model X.prog X.w) X.A (callWith pos (.ref g) [.ref a] (backTo pos (starEach args X.env)) (backToKw pos (keywordEach [] X.env))) Q X.xe s1)
    (ht : eval (.Call (.Attribute e m apos) args [] pos) X.env = (do
      let ov ← eval e X.env
      standAt apos.atName
      let (f, first) ← holding [ov] (getMethod ov m pl)
      callWith pos f first (backTo pos (starEach args X.env)) (backToKw pos (keywordEach [] X.env)))) :
    wpAny (model X.prog X.w) X.A (eval (.Call (.Attribute e m apos) args [] pos) X.env) Q X.xe s := by
  refine PySem.W.methodCall_KW (pl := pl) (thn (he pins s σ H _ I h) fun u s1 ⟨x, H1, I1, rx, a, C, dx, fs, g, ex, ea, c, k, l, q⟩ => ?_) ht
  subst ex
  obtain rfl : u = Value.ref a := rx
  exact getmeth_ok I1 ea c k l (q s1 I1)
end
section
variable {X : Cx} {pins : List (Addr × Obj)} {σ : St} {H : Hp} {s : Shared} {A : Around} {E : Value → Shared → Prop} {Q : Value → Shared → Prop} {c : Value} {b : Bool}
inductive TyOf (K : PySem.W.Frag) (H : Hp) : V → Value → Prop where
  | non : TyOf K H .non (.type "NoneType")
  | bl (x : Bool) : TyOf K H (.bl x) (.type "bool")
  | int (i : Int) : TyOf K H (.int i) (.type "int")
  | str (x : Str) : TyOf K H (.str x) (.type "str")
  | flt (x : UInt64) : TyOf K H (.flt x) (.type "float")
  | lst {a : Addr} {xs : List V} (e : H a = some (.lst xs)) : TyOf K H (.ref a) (.type "list")
  | frz {a : Addr} {o : Obj} {xs : List V} (e : H a = some (.frz o (.lst xs))) : TyOf K H (.ref a) (.type "list")
  | tup {a : Addr} {xs : List V} (e : H a = some (.tup xs)) : TyOf K H (.ref a) (.type "tuple")
  | dK {a : Addr} {kvs : List (Key × V)} (e : H a = some (.dK kvs)) : TyOf K H (.ref a) (.type "dict")
  | dT {a : Addr} {kvs : List (List Key × V)} (e : H a = some (.dT kvs)) : TyOf K H (.ref a) (.type "dict")
  | ins {a C dx : Addr} {fs : List (Str × V)} (e : H a = some (.ins C dx fs)) (cl : Cls K C) (ha : PySem.W.findIn K (.ref C) "__class__" = some (some (.builtin "object.__class__")))
      (hn : PySem.W.specialIn K (.builtin "object.__class__") "__get__" = some (some (.builtin "getset_descriptor.__get__"))) (htk : PySem.W.takesIn K (.builtin "object.__class__") = some true)
      (hm : PySem.W.mroIn K C (.type "object") = some true) : TyOf K H (.ref a) (.ref C)
theorem isinst_ok {x : V} {u t : Value} (I : Inv X pins σ H s) (rx : RelV x u) (ty : TyOf X.K H x t) (e : PySem.W.kitOne X.K t c = some b) (h : ∀ tk, Q (.bool b) { s with toks := tk }) :
    wpAny (model X.prog X.w) A (call (.builtin "isinstance") [u, c]) Q E s := by
  cases ty with
  | non => cases (show u = Value.none from rx); exact PySem.W.kia_one PySem.W.kitx_none I.kIn True.intro e (fun z => nomatch z) h
  | bl y => cases (show u = Value.bool y from rx); exact PySem.W.kia_one PySem.W.kitx_bool I.kIn True.intro e (fun z => nomatch z) h
  | int i => obtain ⟨t, q⟩ := (show ∃ t, u = Value.int i t from rx); cases q; exact PySem.W.kia_one PySem.W.kitx_int I.kIn True.intro e (fun z => nomatch z) h
  | str y => obtain ⟨t, q⟩ := (show ∃ t, u = Value.str y t from rx); cases q; exact PySem.W.kia_one PySem.W.kitx_str I.kIn True.intro e (fun z => nomatch z) h
  | flt y => obtain ⟨t, q⟩ := (show ∃ t, u = Value.float y t from rx); cases q; exact PySem.W.kia_one PySem.W.kitx_float I.kIn True.intro e (fun z => nomatch z) h
  | @lst a xs ea =>
    cases (show u = Value.ref a from rx)
    obtain ⟨_, _, n, _, h1⟩ := (show ObjOk X.prog X.w H s.heap a (.lst xs) from I.hok a _ ea)
    exact PySem.W.kia_one PySem.W.kitx_list I.kIn ⟨_, h1, rfl⟩ e (fun z => nomatch z) h
  | @frz a ob xs ea =>
    cases (show u = Value.ref a from rx)
    obtain ⟨_, _, _, n, _, h1⟩ := (show ObjOk X.prog X.w H s.heap a (.frz ob (.lst xs)) from I.hok a _ ea)
    exact PySem.W.kia_one PySem.W.kitx_list I.kIn ⟨_, h1, rfl⟩ e (fun z => nomatch z) h
  | @tup a xs ea =>
    cases (show u = Value.ref a from rx)
    obtain ⟨_, _, _, p⟩ := (show ObjOk X.prog X.w H s.heap a (.tup xs) from I.hok a _ ea)
    obtain ⟨o, h1, h2, _⟩ := p
    exact PySem.W.kia_one PySem.W.kitx_tuple I.kIn ⟨o, h1, h2⟩ e (fun z => nomatch z) h
  | @dK a kvs ea =>
    cases (show u = Value.ref a from rx)
    obtain ⟨_, _, vs, _, p⟩ := (show ObjOk X.prog X.w H s.heap a (.dK kvs) from I.hok a _ ea)
    obtain ⟨o, es, ep, h1, h2, _⟩ := p
    exact PySem.W.kia_one PySem.W.kitx_dict I.kIn ⟨o, h1, h2.1⟩ e (fun z => nomatch z) h
  | @dT a kvs ea =>
    cases (show u = Value.ref a from rx)
    obtain ⟨_, _, xs, _, o, es, ep, h1, h2, _⟩ := (show ObjOk X.prog X.w H s.heap a (.dT kvs) from I.hok a _ ea)
    exact PySem.W.kia_one PySem.W.kitx_dict I.kIn ⟨o, h1, h2.1⟩ e (fun z => nomatch z) h
  | @ins a C dx fs ea cl ha hn htk hm =>
    cases (show u = Value.ref a from rx)
    obtain ⟨mA, O, _⟩ := ins_get I.hok ea
    obtain ⟨od, J, _⟩ := O.look
    exact PySem.W.kia_one (PySem.W.kitx_own (cl.get _) cl.hd ha hn htk hm) I.kIn J e (fun z => nomatch z) h
end
end L2
namespace L2
open PySem PySem.Spec PyProof.Rows
structure Room (k : Nat) (A : Around) : Prop where
  hd : A.handled = none
  dp : A.depth + 3 * k + 5 < recursionLimit
  un : A.units + 16 * k + 200 < cLine
theorem Room.mono {j k : Nat} {A : Around} (r : Room k A) (h : j ≤ k) : Room j A := ⟨r.hd, by have := r.dp; omega, by have := r.un; omega⟩
theorem Room.deeper {k : Nat} {A : Around} (r : Room (k + 1) A) (env : Env) : Room k (A.deeper env) :=
  ⟨r.hd, by have := r.dp; show A.depth + 1 + 3 * k + 5 < _; omega, by have := r.un; show A.units + 3 + 16 * k + 200 < _; omega⟩
theorem Room.in1 {k : Nat} {A : Around} (r : Room (k + 1) A) : Room k A.in1 :=
  ⟨r.hd, by have := r.dp; show A.depth + 3 * k + 5 < _; omega, by have := r.un; show A.units + 1 + 16 * k + 200 < _; omega⟩
theorem make_depth {A : Around} {C : Addr} {us : List Value} {kw : List (Str × Value)} : (A.under (.builtin "type.__call__" ⟨.ref C :: us, kw⟩)).depth = A.depth + 1 := by
  first | rfl | simp [Around.under, Code.weight, Code.isCreation, Code.isGuard, Code.isCaller, Code.frames, Code.isFrame, guardIds]
theorem make_units {A : Around} {C : Addr} {us : List Value} {kw : List (Str × Value)} : (A.under (.builtin "type.__call__" ⟨.ref C :: us, kw⟩)).units = A.units + 1 := by
  first | rfl | simp [Around.under, Code.cUnits, Code.frames, Code.isFrame]
theorem Room.make {k : Nat} {A : Around} (r : Room (k + 1) A) (C : Addr) (us : List Value) (kw : List (Str × Value)) : Room k (A.under (.builtin "type.__call__" ⟨.ref C :: us, kw⟩)) :=
  ⟨r.hd, by have := r.dp; rw [make_depth]; omega, by have := r.un; rw [make_units]; omega⟩
theorem Room.depth {k : Nat} {A : Around} (r : Room k A) : A.depth < recursionLimit := by have := r.dp; omega
theorem Room.units {k : Nat} {A : Around} (r : Room k A) : A.units + 64 < cLine := by have := r.un; omega
def tNil : TA := fun _ H Q => Q [] H
def tCons (ta : TE) (tr : TA) : TA := fun σ H Q => ta σ H fun x H1 => tr σ H1 fun xs H2 => Q (x :: xs) H2
section
variable {X : Cx} {e : Expr} {es : List Expr} {te : TE} {t : TA} {pos : Pos}
theorem pa_nil : PA X [] tNil := fun _ _ _ _ H Q I h => Calls.spliced_nil ⟨[], H, I, .nil, h⟩
theorem pa_cons (ha : PE X e te) (hr : PA X es t) (hs : starEach (e :: es) X.env = (false, eval e X.env) :: starEach es X.env := by rfl) : PA X (e :: es) (tCons te t) := by
  intro pos pins s σ H Q I h
  rw [hs]
  show wpAny _ _ (spliced ((false, eval e X.env) :: backTo pos (starEach es X.env))) _ _ s
  refine Calls.spliced_cons (thn (ha pins s σ H _ I h) fun u s1 ⟨x, H1, I1, r1, q1⟩ => ?_)
  exact thn (hr pos pins s1 σ H1 _ I1 q1) fun us s2 ⟨xs, H2, I2, r2, q2⟩ => ⟨x :: xs, H2, I2, .cons r1 r2, q2⟩
def tTup (t : TA) : TE := fun σ H Q => t σ H fun xs H1 => xs.length ≤ sizeLine ∧ ∀ p, H1 p = none → Q (.ref p) (upd H1 p (.tup xs))
def tLst (t : TA) : TE := fun σ H Q => t σ H fun xs H1 => xs.length ≤ sizeLine ∧ ∀ p, H1 p = none → Q (.ref p) (upd H1 p (.lst xs))
theorem pe_tup {x1} (h : PA X es t) : PE X (.Tuple es x1 pos) (tTup t) := by
  intro pins s σ H Q I hq
  refine wpAny_Tuple_spliced (thn (h pos pins s σ H _ I hq) fun us s1 ⟨xs, H1, I1, r, z, q⟩ => ⟨by rw [← r.length]; exact z, ?_⟩)
  have hf : H1 s1.heap.objs.size = none := I1.hok.fresh (Nat.le_refl _)
  refine ⟨.ref s1.heap.objs.size, upd H1 s1.heap.objs.size (.tup xs), I1.laid (t' := s1.toks) (fun b u e => Heap.get?_push_of_some _ e) (Nat.le_refl _) ?_, rfl, q _ hf⟩
  exact ⟨z, us, r, ⟨_, Heap.get?_push_size _ rfl, rfl, _, rfl⟩⟩
theorem pe_lst (h : PA X es t) : PE X (.List es pos) (tLst t) := by
  intro pins s σ H Q I hq
  refine wpAny_List_spliced (thn (h pos pins s σ H _ I hq) fun us s1 ⟨xs, H1, I1, r, z, q⟩ => ⟨by rw [← r.length]; exact z, ?_⟩)
  have hf : H1 s1.heap.objs.size = none := I1.hok.fresh (Nat.le_refl _)
  refine ⟨.ref s1.heap.objs.size, upd H1 s1.heap.objs.size (.lst xs), I1.laid (t' := s1.toks) (fun b u e => Heap.get?_push_of_some _ e) (Nat.le_refl _) ?_, rfl, q _ hf⟩
  exact ⟨z, us, 0, r, Heap.get?_push_size _ rfl⟩
end
abbrev Sp := List V → Hp → VK → XK → Prop
abbrev CXT := List Env → Hp → Shared → XK → Value → Shared → Prop
structure Env0 (P : Program) (w : World) (K : PySem.W.Frag) (mg : Str → Option Value) (base : Heap) (A : Around) (outer : List Env) (s : Shared) (H : Hp) : Prop where
  frames : A.frames = some outer
  mod : Mod K mg base
  bs : ∀ b o, base.get? b = some o → s.heap.get? b = some o ∧ H b = none
  bsz : base.objs.size ≤ s.heap.objs.size
  funs : s.heap.FunFrames base outer
  frf : ∀ b ∈ frs outer, H b = none
  hok : HOk P w H s.heap
  bare : AllBare s.gens
def CE (outer : List Env) (P : Program) (w : World) (H : Hp) (s : Shared) (Q : VK) (u : Value) (s' : Shared) : Prop :=
  ∃ v H', s'.os = s.os ∧ AllBare s'.gens ∧ Un (frs outer) [] H H' s.heap s'.heap ∧ HOk P w H' s'.heap ∧ RelV v u ∧ Q v H'
def CR (CX : CXT) (outer : List Env) (P : Program) (w : World) (H : Hp) (s : Shared) (Q : VK) (E : XK) (r : Result) (s' : Shared) : Prop :=
  match r with
  | .ok (.ret u) => CE outer P w H s Q u s'
  | .ok _ => False
  | .error e => CX outer H s E e s'
structure FnOk (P : Program) (w : World) (K : PySem.W.Frag) (mg : Str → Option Value) (base : Heap) (CX : CXT) (k : Nat) (f : Addr) (fd : FuncData) (ps : List Str) (sp : Sp) : Prop where
  len : ∀ vs H Q E, sp vs H Q E → vs.length = ps.length
  run : ∀ (A : Around) (outer : List Env) (s : Shared) (H : Hp) (args : Args) (us : List Value) (vs : List V) (Q : VK) (E : XK), Room k A → Env0 P w K mg base A outer s H → BindsTo s fd args (ps.zip us) → Vals vs us → sp vs H Q E →
    codeAny (model P w) A (.call (.ref f) args) (CR CX outer P w H s Q E) s
theorem FnOk.mono {P : Program} {w : World} {K : PySem.W.Frag} {mg : Str → Option Value} {base : Heap} {CX : CXT} {j k : Nat} {f : Addr} {fd : FuncData} {ps : List Str} {sp : Sp} (F : FnOk P w K mg base CX j f fd ps sp) (h : j ≤ k) :
    FnOk P w K mg base CX k f fd ps sp := ⟨F.len, fun A outer s H args us vs Q E hr => F.run A outer s H args us vs Q E (hr.mono h)⟩
theorem FnOk.imp {P : Program} {w : World} {K : PySem.W.Frag} {mg : Str → Option Value} {base : Heap} {CX : CXT} {k : Nat} {f : Addr} {fd : FuncData} {ps : List Str} {sp sp' : Sp} (F : FnOk P w K mg base CX k f fd ps sp)
    (h : ∀ vs H Q E, sp' vs H Q E → sp vs H Q E) : FnOk P w K mg base CX k f fd ps sp' :=
  ⟨fun vs H Q E q => F.len vs H Q E (h _ _ _ _ q), fun A outer s H args us vs Q E hr he hb hv hs => F.run A outer s H args us vs Q E hr he hb hv (h _ _ _ _ hs)⟩
theorem Env0.make {P : Program} {w : World} {K : PySem.W.Frag} {mg : Str → Option Value} {base : Heap} {A : Around} {outer : List Env} {s : Shared} {H : Hp} (e : Env0 P w K mg base A outer s H) (C : Addr) (us : List Value) (kw : List (Str × Value)) :
    Env0 P w K mg base (A.under (.builtin "type.__call__" ⟨.ref C :: us, kw⟩)) outer s H := ⟨by first | exact e.frames | (simpa [Around.under, Code.envs, Code.isFrame, pushEnvs] using e.frames), e.mod, e.bs, e.bsz, e.funs, e.frf, e.hok, e.bare⟩
theorem Env0.in1 {P : Program} {w : World} {K : PySem.W.Frag} {mg : Str → Option Value} {base : Heap} {A : Around} {outer : List Env} {s : Shared} {H : Hp} (e : Env0 P w K mg base A outer s H) :
    Env0 P w K mg base A.in1 outer s H := ⟨e.frames, e.mod, e.bs, e.bsz, e.funs, e.frf, e.hok, e.bare⟩
section
variable {X : Cx} {pins : List (Addr × Obj)} {σ : St} {H : Hp} {s s' : Shared}
theorem Inv.env0 (I : Inv X pins σ H s) : Env0 X.prog X.w X.K X.mg X.base X.A X.stack s H :=
  ⟨I.ok.frames, I.ok.mod, I.bs, Nat.le_trans I.ok.bsz I.sz, I.stack, I.stkFree, I.hok, I.bare⟩
theorem Inv.after {Q : VK} {u : Value} (I : Inv X pins σ H s) (h : CE X.stack X.prog X.w H s Q u s') : EP X pins σ Q u s' := by
  obtain ⟨v, H', os, bare, un, hok, r, q⟩ := h
  obtain ⟨hh, g, d, t, os'⟩ := s'
  obtain rfl : os' = s.os := os
  exact ⟨v, H', I.call (h' := hh) (g' := g) (d' := d) (t' := t) (ch := []) un hok bare (fun b z => absurd z (by simp)), r, q⟩
end
def tCall (sp : Sp) (dvs : List V) (E : XK) (t : TA) : TE := fun σ H Q => t σ H fun vs H1 => sp (vs ++ dvs) H1 Q E
def tMeth (C : Addr) (m : Str) (sp : Sp) (dvs : List V) (E : XK) (ta : TE) (t : TA) : TE := fun σ H Q => ta σ H fun x H1 => ∃ a dx fs, x = .ref a ∧ H1 a = some (.ins C dx fs) ∧ fs.lookup m = none ∧
  t σ H1 fun vs H2 => sp (x :: (vs ++ dvs)) H2 Q E
def tMake (C : Addr) (sp : Sp) (dvs : List V) (E : XK) (t : TA) : TE := fun σ H Q => t σ H fun vs H1 => ∀ x dx, H1 x = none → H1 dx = none → dx ≠ x →
  sp (.ref x :: (vs ++ dvs)) (upd (upd H1 dx (.own x)) x (.ins C dx [])) (fun v H2 => v = .non ∧ Q (.ref x) H2) E
def Binds (K : PySem.W.Frag) (fd : FuncData) (ps : List Str) (ds : List Value) : Prop :=
  ∀ (s : Shared) (us : List Value), K.In s.heap → (us ++ ds).length = ps.length → BindsTo s fd ⟨us, []⟩ (ps.zip (us ++ ds))
theorem Binds.all {K : PySem.W.Frag} {fd : FuncData} {ps : List Str} (h : ∀ us : List Value, us.length = ps.length → bindArgs fd ⟨us, []⟩ = pure (ps.zip us)) : Binds K fd ps [] := fun s us _ hl => by
  rw [List.append_nil] at hl ⊢
  exact .of_eq (h us hl)
def Passes (CX : CXT) (X : Cx) (E : XK) : Prop := ∀ (pins : List (Addr × Obj)) (σ : St) (H : Hp) (s : Shared) (e : Value) (s' : Shared), Inv X pins σ H s → CX X.stack H s E e s' → X.xe e s'
section
variable {X : Cx} {CX : CXT} {k : Nat} {f C : Addr} {fd : FuncData} {ps : List Str} {sp : Sp} {dvs : List V} {ds : List Value} {E : XK} {x m : Str} {p pos apos : Pos} {e o : Expr} {es : List Expr} {ta : TE} {t : TA}
theorem run_fn {pins : List (Addr × Obj)} {σ : St} {H : Hp} {s : Shared} {Q : VK} {us : List Value} {vs : List V} (F : FnOk X.prog X.w X.K X.mg X.base CX k f fd ps sp) (hr : Room k X.A) (hb : Binds X.K fd ps ds) (hd : Vals dvs ds) (hx : Passes CX X E)
    (I : Inv X pins σ H s) (r : Vals vs us) (h : sp (vs ++ dvs) H Q E) : wpAny (model X.prog X.w) X.A (call (.ref f) us) (EP X pins σ Q) X.xe s := by
  have r2 : Vals (vs ++ dvs) (us ++ ds) := r.append hd
  have hl : (us ++ ds).length = ps.length := by rw [← r2.length]; exact F.len _ _ _ _ h
  refine wpAny_call (codeAny_mono (F.run X.A X.stack s H ⟨us, []⟩ (us ++ ds) (vs ++ dvs) Q E hr I.env0 (hb s us I.kIn hl) r2 h) fun r s' hq => ?_)
  cases r with
  | error e => exact hx pins σ H s e s' I hq
  | ok fl =>
    cases fl with
    | ret u => exact I.after hq
    | next => exact False.elim hq
    | brk => exact False.elim hq
    | cont => exact False.elim hq
theorem pe_call (F : FnOk X.prog X.w X.K X.mg X.base CX k f fd ps sp) (hr : Room k X.A) (hg : Gl X x) (hm : X.mg x = some (.ref f)) (hk : PySem.W.keepIn X.K (.ref f) = true) (hb : Binds X.K fd ps ds) (hd : Vals dvs ds) (hx : Passes CX X E)
    (ha : PA X (e :: es) t) (hdb : (x == ("__debug__" : Str)) = false := by decide) (he : starEach (e :: es) X.env = (false, eval e X.env) :: starEach es X.env := by rfl) (hpl : (backTo pos (starEach es X.env)).any (·.1) = false := by rfl) :
    PE X (.Call (.Name x p) (e :: es) [] pos) (tCall sp dvs E t) := by
  intro pins s σ H Q I h
  refine wpAny_Call_Name_kw (ld_glob I hg hm ?_ hdb)
  refine PySem.W.callWith_K (h₀ := X.base) I.ok.mod.kin hk (thn (ha pos pins s σ H _ I h) fun us s1 ⟨vs, H1, I1, r, q⟩ => ⟨I1.kIn, ?_⟩) he hpl
  exact run_fn F hr hb hd hx I1 r q
theorem pe_meth {pl : Sem Bool} (he : PE X o ta) (c : Cls X.K C) (hm : Meth X.K C m f) (F : FnOk X.prog X.w X.K X.mg X.base CX k f fd ps sp) (hr : Room k X.A) (hb : Binds X.K fd ps ds) (hd : Vals dvs ds) (hx : Passes CX X E) (ha : PA X (e :: es) t)
    (hst : starEach (e :: es) X.env = (false, eval e X.env) :: starEach es X.env := by rfl) (hpl : (backTo pos (starEach es X.env)).any (·.1) = false := by rfl)
    (ht : eval (.Call (.Attribute o m apos) (e :: es) [] pos) X.env = (do
      let ov ← eval o X.env
      standAt apos.atName
      let (f, first) ← holding [ov] (getMethod ov m pl)
      callWith pos f first (backTo pos (starEach (e :: es) X.env)) (backToKw pos (keywordEach [] X.env))) := by rfl) :
    PE X (.Call (.Attribute o m apos) (e :: es) [] pos) (tMeth C m sp dvs E ta t) := by
  intro pins s σ H Q I h
  refine PySem.W.methodCall_KW (pl := pl) (thn (he pins s σ H _ I h) fun u s1 ⟨x, H1, I1, rx, a, dx, fs, ex, ea, l, q⟩ => ?_) ht
  subst ex
  obtain rfl : u = Value.ref a := rx
  refine getmeth_ok I1 ea c hm l ?_
  refine PySem.W.callWith_K (first := [.ref a]) (h₀ := X.base) I.ok.mod.kin hm.kp (thn (ha pos pins s1 σ H1 _ I1 q) fun us s2 ⟨vs, H2, I2, r, q2⟩ => ⟨I2.kIn, ?_⟩) hst hpl
  exact run_fn (us := .ref a :: us) (vs := .ref a :: vs) F hr hb hd hx I2 (.cons rfl r) q2
structure Mk (K : PySem.W.Frag) (C f : Addr) : Prop where
  makes : PySem.W.makesIn K C = true
  init : PySem.W.findIn K (.ref C) "__init__" = some (some (.ref f))
  fn : PySem.W.isFn K (.ref f) = true
  kp : PySem.W.keepIn K (.ref C) = true
theorem run_make {pins : List (Addr × Obj)} {σ : St} {H : Hp} {s : Shared} {Q : VK} {us : List Value} {vs : List V} (M : Mk X.K C f) (F : FnOk X.prog X.w X.K X.mg X.base CX k f fd ps sp) (hr : Room (k + 1) X.A) (hb : Binds X.K fd ps ds) (hd : Vals dvs ds)
    (hx : Passes CX X E) (I : Inv X pins σ H s) (r : Vals vs us)
    (h : ∀ x dx, H x = none → H dx = none → dx ≠ x → sp (.ref x :: (vs ++ dvs)) (upd (upd H dx (.own x)) x (.ins C dx [])) (fun v H2 => v = .non ∧ Q (.ref x) H2) E) :
    wpAny (model X.prog X.w) X.A (call (.ref C) us) (EP X pins σ Q) X.xe s := by
  have hq := h (s.heap.objs.size + 1) s.heap.objs.size (I.hok.fresh (Nat.le_succ _)) (I.hok.fresh (Nat.le_refl _)) (Nat.ne_of_lt (Nat.lt_succ_self _))
  have I2 := Inv.made (C := C) I
  have r2 : Vals (V.ref (s.heap.objs.size + 1) :: (vs ++ dvs)) (Value.ref (s.heap.objs.size + 1) :: (us ++ ds)) := .cons rfl (r.append hd)
  have hl : (Value.ref (s.heap.objs.size + 1) :: us ++ ds).length = ps.length := by
    have e := r2.length
    rw [F.len _ _ _ _ hq] at e
    exact e.symm
  refine wpAny_call (make_map (f := f) I.kIn M.makes M.init (beq_iff_eq.mp M.fn) (codeAny_mono (F.run _ X.stack _ _ ⟨Value.ref (s.heap.objs.size + 1) :: us, []⟩ (Value.ref (s.heap.objs.size + 1) :: (us ++ ds)) _ _ E (hr.make C us [])
    (I2.env0.make C us []) (hb _ (Value.ref (s.heap.objs.size + 1) :: us) I2.kIn hl) r2 hq) fun r s' hq' => ?_))
  cases r with
  | error e => exact hx pins σ _ _ e s' I2 hq'
  | ok fl =>
    cases fl with
    | ret u =>
      obtain ⟨v, H', I3, rv, ev, q3⟩ := I2.after hq'
      subst ev
      exact ⟨rv, ⟨V.ref (s.heap.objs.size + 1), H', I3, rfl, q3⟩⟩
    | next => exact False.elim hq'
    | brk => exact False.elim hq'
    | cont => exact False.elim hq'
theorem pe_make (M : Mk X.K C f) (F : FnOk X.prog X.w X.K X.mg X.base CX k f fd ps sp) (hr : Room (k + 1) X.A) (hg : Gl X x) (hm : X.mg x = some (.ref C)) (hb : Binds X.K fd ps ds) (hd : Vals dvs ds) (hx : Passes CX X E)
    (ha : PA X (e :: es) t) (hdb : (x == ("__debug__" : Str)) = false := by decide) (he : starEach (e :: es) X.env = (false, eval e X.env) :: starEach es X.env := by rfl) (hpl : (backTo pos (starEach es X.env)).any (·.1) = false := by rfl) :
    PE X (.Call (.Name x p) (e :: es) [] pos) (tMake C sp dvs E t) := by
  intro pins s σ H Q I h
  refine wpAny_Call_Name_kw (ld_glob I hg hm ?_ hdb)
  refine PySem.W.callWith_K (h₀ := X.base) I.ok.mod.kin M.kp (thn (ha pos pins s σ H _ I h) fun us s1 ⟨vs, H1, I1, r, q⟩ => ⟨I1.kIn, ?_⟩) he hpl
  exact run_make M F hr hb hd hx I1 r q
end
def PK (X : Cx) (kws : List Keyword) (t : TA) : Prop :=
  ∀ (pos : Pos) (pins : List (Addr × Obj)) (s : Shared) (σ : St) (H : Hp) (Q : List V → Hp → Prop), Inv X pins σ H s → t σ H Q → wpAny (model X.prog X.w) X.A (evalAll ((backToKw pos (keywordEach kws X.env)).map (·.2))) (AP X pins σ Q) X.xe s
section
variable {X : Cx} {CX : CXT} {k : Nat} {f C : Addr} {fd : FuncData} {ps ks : List Str} {sp : Sp} {E : XK} {x m : Str} {p pos apos kpos : Pos} {e o : Expr} {es : List Expr} {kws : List Keyword} {te ta : TE} {t tk : TA} {nm : Option Str}
structure KBinds (K : PySem.W.Frag) (fd : FuncData) (ps ks : List Str) (g : List Value → List Value → List Value) (gV : List V → List V → List V) : Prop where
  to : ∀ (s : Shared) (us ws : List Value), K.In s.heap → (g us ws).length = ps.length → BindsTo s fd ⟨us, ks.zip ws⟩ (ps.zip (g us ws))
  rel : ∀ {vs : List V} {us : List Value} {zs : List V} {ws : List Value}, Vals vs us → Vals zs ws → Vals (gV vs zs) (g us ws)
def tCallK (sp : Sp) (gV : List V → List V → List V) (E : XK) (t tk : TA) : TE := fun σ H Q => t σ H fun vs H1 => tk σ H1 fun zs H2 => sp (gV vs zs) H2 Q E
variable {g : List Value → List Value → List Value} {gV : List V → List V → List V}
end
structure FnScope (N P : List Str) (sc : Scope) : Prop where
  kind : sc.kind = .function
  co : sc.isCoroutine = false
  gen : sc.isGenerator = false
  nd : N.Nodup
  pre : N.take P.length = P
  par : ∀ x ∈ P, sc.names.lookup x = some .local ∨ sc.names.lookup x = some .cell
  nofree : ∀ y ∈ sc.names, y.2 ≠ .free
theorem bindL_out {kindOf : Str → Option NameKind} {x : Str} : ∀ {binds : List (Str × Value)} {m : Str → Option Value}, (∀ v, (x, v) ∉ binds) → bindL kindOf binds m x = m x
  | [], _, _ => rfl
  | (n, v) :: r, m, h => by
    unfold bindL
    rw [bindL_out fun w hw => h w (List.mem_cons_of_mem _ hw)]
    split
    · have : x ≠ n := by rintro rfl; exact h v List.mem_cons_self
      simp [this]
    · rfl
theorem bindC_out {kindOf : Str → Option NameKind} {x : Str} : ∀ {binds : List (Str × Value)} {m : Str → Option Value}, (∀ v, (x, v) ∉ binds) → bindC kindOf binds m x = m x
  | [], _, _ => rfl
  | (n, v) :: r, m, h => by
    unfold bindC
    rw [bindC_out fun w hw => h w (List.mem_cons_of_mem _ hw)]
    split
    · rfl
    · have : x ≠ n := by rintro rfl; exact h v List.mem_cons_self
      simp [this]
theorem bindL_get {kindOf : Str → Option NameKind} {x : Str} {v : Value} : ∀ {P : List Str} {vs : List Value} {i : Nat} {m : Str → Option Value}, P.Nodup → P[i]? = some x → vs[i]? = some v → kindOf x = some .local →
    bindL kindOf (P.zip vs) m x = some v
  | [], _, _, _, _, h, _, _ => by simp at h
  | _ :: _, [], _, _, _, _, h, _ => by simp at h
  | p :: P, w :: vs, 0, m, nd, h1, h2, hk => by
    simp at h1 h2; subst h1; subst h2
    show bindL kindOf ((p, w) :: P.zip vs) m p = _
    unfold bindL
    rw [bindL_out fun v hv => (List.nodup_cons.mp nd).1 (List.of_mem_zip hv).1, if_pos hk]
    simp
  | p :: P, w :: vs, i + 1, m, nd, h1, h2, hk => by
    show bindL kindOf ((p, w) :: P.zip vs) m x = _
    unfold bindL
    exact bindL_get (i := i) (List.nodup_cons.mp nd).2 (by simpa using h1) (by simpa using h2) hk
theorem bindC_get {kindOf : Str → Option NameKind} {x : Str} {v : Value} : ∀ {P : List Str} {vs : List Value} {i : Nat} {m : Str → Option Value}, P.Nodup → P[i]? = some x → vs[i]? = some v → kindOf x ≠ some .local →
    bindC kindOf (P.zip vs) m x = some v
  | [], _, _, _, _, h, _, _ => by simp at h
  | _ :: _, [], _, _, _, _, h, _ => by simp at h
  | p :: P, w :: vs, 0, m, nd, h1, h2, hk => by
    simp at h1 h2; subst h1; subst h2
    show bindC kindOf ((p, w) :: P.zip vs) m p = _
    unfold bindC
    rw [bindC_out fun v hv => (List.nodup_cons.mp nd).1 (List.of_mem_zip hv).1, if_neg hk]
    simp
  | p :: P, w :: vs, i + 1, m, nd, h1, h2, hk => by
    show bindC kindOf ((p, w) :: P.zip vs) m x = _
    unfold bindC
    exact bindC_get (i := i) (List.nodup_cons.mp nd).2 (by simpa using h1) (by simpa using h2) hk
def start (N : List Str) (vs : List V) : St := vs.map some ++ List.replicate (N.length - vs.length) none
def cxOf (CX : CXT) (P : Program) (w : World) (K : PySem.W.Frag) (mg : Str → Option Value) (base : Heap) (N : List Str) (qual : Str) (scope : Scope) (f : Addr) (cd : Value) (A : Around) (outer : List Env) (s : Shared) (H : Hp) (E : XK) : Cx where
  prog := P
  w := w
  K := K
  mg := mg
  base := base
  A := A.deeper (envOfC qual scope s.heap.objs.size f cd)
  N := N
  s₀ := s
  H₀ := H
  env := envOfC qual scope s.heap.objs.size f cd
  outer := outer
  stack := envOfC qual scope s.heap.objs.size f cd :: outer
  ex := []
  calm := true
  fn := fun _ => true
  pn := []
  xe := fun e s' => wpAny (model P w) (A.deeper (envOfC qual scope s.heap.objs.size f cd)) (leaving (envOfC qual scope s.heap.objs.size f cd) e) (fun _ s'' => CX outer H s E e s'') (fun e' s'' => CX outer H s E e' s'') s'
theorem cell_has {sc : Scope} {n : Nat} {x : Str} (h : sc.names.lookup x = some .cell) : ∃ c, (cellsFrom n sc.names []).lookup x = some c := by
  have q := PySem.W.cellsFrom_some sc.names n [] (.inl h)
  exact Option.isSome_iff_exists.mp q
theorem inv_start {CX : CXT} {P : Program} {w : World} {K : PySem.W.Frag} {mg : Str → Option Value} {base : Heap} {N ps : List Str} {qual : Str} {scope : Scope} {f : Addr} {cd : Value} {A : Around} {outer : List Env} {s s1 : Shared} {H : Hp} {E : XK} {us : List Value} {vs : List V}
    (S : FnScope N ps scope) (hd : A.handled = none) (e0 : Env0 P w K mg base A outer s H) (hl : vs.length = ps.length) (r : Vals vs us)
    (x : InCallC s s.heap.objs.size (bindL (envOfC qual scope s.heap.objs.size f cd).kindOf (ps.zip us) fun _ => none) (cellsFrom (s.heap.objs.size + 1) scope.names []) (bindC (envOfC qual scope s.heap.objs.size f cd).kindOf (ps.zip us) fun _ => none) s1) :
    Inv (cxOf CX P w K mg base N qual scope f cd A outer s H E) [] (start N vs) H s1 := by
  have hpl : ps.length ≤ N.length := by have := congrArg List.length S.pre; rw [List.length_take] at this; omega
  obtain ⟨h1, tk, rfl, hk⟩ := x.done
  have noA : ∀ b : Addr, b ∉ (cxOf CX P w K mg base N qual scope f cd A outer s H E).ex := fun b z => absurd (show b ∈ ([] : List Addr) from z) (by simp)
  refine ⟨⟨e0.mod, S.kind, rfl, rfl, Nat.le_refl _, fun y z c h1 h2 => ?_, fun y hy => ?_, fun y c _ h => ?_, fun _ => hd, Around.frames_deeper e0.frames, .inr ⟨rfl, rfl⟩, fun b z => absurd z (noA b), e0.bs, e0.bsz, fun b _ _ => noA b, fun b z => absurd z (noA b), e0.funs, e0.frf⟩,
    rfl, e0.bare, Un.kept hk, ⟨_, x.toInCall.ns, fun i y v h1 h2 h3 => ?_⟩, fun y c h => ⟨_, x.cell y c h⟩, e0.hok.fresh (Nat.le_refl _), fun y c h => ?_, fun p hp => absurd (show p ∈ ([] : List (Addr × Obj)) from hp) (by simp), e0.hok.kept hk, ?_⟩
  · exact name_of_addr x.apart (PySem.mem_of_lookup h1) (PySem.mem_of_lookup h2)
  · have hy : scope.names.lookup y = some .cell ∨ scope.names.lookup y = some .free := hy
    rcases hy with hy | hy
    · exact cell_has hy
    · exact absurd rfl (S.nofree _ (PySem.mem_of_lookup hy))
  · exact Nat.le_of_lt (x.above y c (PySem.mem_of_lookup h))
  · have hi : i < vs.length := by
      unfold start at h2
      by_cases hi : i < vs.length
      · exact hi
      · rw [List.getElem?_append_right (by simpa using hi)] at h2
        rw [List.getElem?_replicate] at h2
        split at h2 <;> cases h2
    have ha : vs[i]? = some v := by
      unfold start at h2
      rw [List.getElem?_append_left (by simpa using hi), List.getElem?_map] at h2
      cases e : vs[i]? with
      | none => rw [e] at h2; cases h2
      | some a => rw [e] at h2; cases h2; rfl
    obtain ⟨u, hu, rv⟩ := r.get ha
    have hp : ps[i]? = some y := by
      rw [← S.pre, List.getElem?_take_of_lt (by omega)]; exact h1
    have ndP : ps.Nodup := by rw [← S.pre]; exact S.nd.sublist (List.take_sublist _ _)
    refine ⟨u, rv, ?_⟩
    rcases S.par y (List.mem_of_getElem? hp) with k | k
    · exact .inl ⟨k, bindL_get ndP hp hu k⟩
    · obtain ⟨c, e⟩ := cell_has (n := s.heap.objs.size + 1) k
      refine .inr ⟨.inl k, c, e, ?_⟩
      have q := x.cell y c e
      rw [bindC_get ndP hp hu (by show scope.names.lookup y ≠ _; rw [k]; decide)] at q
      exact q
  · exact e0.hok.fresh (Nat.le_of_lt (x.above y c (PySem.mem_of_lookup h)))
  · unfold start
    show _ = N.length
    rw [List.length_append, List.length_map, List.length_replicate]
    omega
theorem fn_of {CX : CXT} {P : Program} {w : World} {K : PySem.W.Frag} {mg : Str → Option Value} {base : Heap} {k : Nat} {f : Addr} {name qual : Str} {params : Arguments} {body : List Stmt} {scope : Scope} {dV kV doc pm cdv ct oc : Value} {an od : Option Addr}
    {osl : Array (Option Value)} {N ps : List Str} {sp : Sp} (lk : K.lookup f = some ⟨oc, od, .func (PySem.W.fnOf name qual params body scope dV kV doc pm an cdv ct), osl⟩) (hcd : PySem.W.codeIn K cdv qual = true) (S : FnScope N ps scope)
    (len : ∀ vs H Q E, sp vs H Q E → vs.length = ps.length)
    (hbody : ∀ (A : Around) (outer : List Env) (s : Shared) (H : Hp) (vs : List V) (Q : VK) (E : XK), Room k (A.deeper (envOfC qual scope s.heap.objs.size f cdv)) → sp vs H Q E →
      ∃ t, PSs (cxOf CX P w K mg base N qual scope f cdv A outer s H E) body t ∧ t { nx := fun _ H' => Q .non H', rt := Q } (start N vs) H) :
    FnOk P w K mg base CX (k + 1) f (PySem.W.fnOf name qual params body scope dV kV doc pm an cdv ct) ps sp := by
  refine ⟨len, fun A outer s H args us vs Q E hr e0 hb r hsp => ?_⟩
  have hl := len _ _ _ _ hsp
  have KX : K.In s.heap := e0.mod.kin.keeps fun b o e => (e0.bs b o e).1
  have lim : s.heap.NoLimit := e0.mod.nolimit.keeps fun b o e => (e0.bs b o e).1
  have hkind : ∀ y ∈ ps.zip us, scope.names.lookup y.1 = some .local ∨ (scope.names.lookup y.1 = some .cell ∧ ((cellsFrom (s.heap.objs.size + 1) scope.names []).lookup y.1).isSome = true) := fun ⟨n, v⟩ hy => by
    rcases S.par n (List.of_mem_zip hy).1 with q | q
    · exact .inl q
    · exact .inr ⟨q, PySem.W.cellsFrom_some _ _ _ (.inl q)⟩
  refine codeAny_call_function hr.depth (KX _ _ lk) rfl S.co S.gen rfl (PySem.W.codeRec_of KX hcd) (hb _ _ _ _ ?_)
  refine wpAny_newFunctionEnv_cells S.kind hkind fun env he s1 x => ?_
  subst he
  refine ⟨lim.keeps x.toInCall.keep, codeAny_func ?_⟩
  obtain ⟨t, ht, hq⟩ := hbody A outer s H vs Q E (hr.deeper _) hsp
  have I : Inv (cxOf CX P w K mg base N qual scope f cdv A outer s H E) [] (start N vs) H s1 := inv_start S hr.hd e0 hl r x
  refine wpAny_mono (ht [] s1 (start N vs) H _ I hq) (fun fl s' hs => ?_) fun e s' hs => hs
  have fin : ∀ {σ' : St} {H' : Hp} {v : V} {u : Value}, Inv (cxOf CX P w K mg base N qual scope f cdv A outer s H E) [] σ' H' s' → RelV v u → Q v H' → CE outer P w H s Q u s' :=
    fun {σ' H' v u} J rv q => ⟨v, H', J.os, J.bare, J.base, J.hok, rv, q⟩
  cases fl with
  | ret u =>
    obtain ⟨v, σ', H', J, rv, q⟩ := hs
    exact fin J rv q
  | next =>
    obtain ⟨σ', H', J, q⟩ := hs
    exact fin (v := V.non) (u := Value.none) J rfl q
  | brk =>
    obtain ⟨_, _, _, q⟩ := hs
    exact False.elim q
  | cont =>
    obtain ⟨_, _, _, q⟩ := hs
    exact False.elim q
end L2
namespace L2
open PySem PySem.Spec PyProof.Rows
section
variable {X : Cx} {x : Str} {p pos : Pos} {e : Expr} {es : List Expr} {t : TA} {id T : String} {r : List V → Hp → VK → Prop}
def tCB (r : List V → Hp → VK → Prop) (t : TA) : TE := fun σ H Q => t σ H fun vs H1 => r vs H1 Q
theorem pe_callB (hc : CallR X (.builtin id) r) (hg : Gl X x) (hm : X.mg x = none) (hv : bootBuiltins x = some (.builtin id)) (ha : PA X (e :: es) t) (hn : x ≠ "__name__" := by decide) (hdb : (x == ("__debug__" : Str)) = false := by decide)
    (he : starEach (e :: es) X.env = (false, eval e X.env) :: starEach es X.env := by rfl) (hpl : (backTo pos (starEach es X.env)).any (·.1) = false := by rfl) : PE X (.Call (.Name x p) (e :: es) [] pos) (tCB r t) := by
  intro pins s σ H Q I h
  refine wpAny_Call_Name_kw (ld_blt I hg hm hv ?_ hn hdb)
  exact PyProof.Rows.callWith_builtin1 (thn (ha pos pins s σ H _ I h) fun us s1 ⟨vs, H1, I1, r1, q1⟩ => hc pins s1 σ H1 vs us Q I1 r1 q1) he hpl
theorem pe_callTy (hc : CallR X (.type T) r) (hg : Gl X x) (hm : X.mg x = none) (hv : bootBuiltins x = some (.type T)) (ha : PA X (e :: es) t) (hn : x ≠ "__name__" := by decide) (hdb : (x == ("__debug__" : Str)) = false := by decide)
    (he : starEach (e :: es) X.env = (false, eval e X.env) :: starEach es X.env := by rfl) (hpl : (backTo pos (starEach es X.env)).any (·.1) = false := by rfl) : PE X (.Call (.Name x p) (e :: es) [] pos) (tCB r t) := by
  intro pins s σ H Q I h
  refine wpAny_Call_Name_kw (ld_blt I hg hm hv ?_ hn hdb)
  exact PyProof.Rows.callWith_type1 (thn (ha pos pins s σ H _ I h) fun us s1 ⟨vs, H1, I1, r1, q1⟩ => hc pins s1 σ H1 vs us Q I1 r1 q1) he hpl
end
end L2
namespace HT
open PySem PyProof.Rows
def lexLt : List Int → List Int → Bool
  | [], [] => false
  | [], _ :: _ => true
  | _ :: _, [] => false
  | x :: xs, y :: ys => if x = y then lexLt xs ys else decide (x < y)
section
open PySem.SeqAt
open PySem.AutoSeq1 (wpAny_loadPart')
open PySem.MeetsSeq PySem.MeetsSeq2 PySem.MeetsSeq3
end
section
variable {prog : Program} {w : World} {A : Around} {E : Value → Shared → Prop} {s : Shared}
def sIx (n d : Nat) : Option Int → Nat
  | none => d
  | some v => if v < 0 then (v + (n : Int)).toNat else min v.toNat n
theorem sIx_le (n d : Nat) (hd : d ≤ n) (o : Option Int) : sIx n d o ≤ n := by
  cases o with
  | none => exact hd
  | some v =>
    show (if v < 0 then (v + (n : Int)).toNat else min v.toNat n) ≤ n
    by_cases hv : v < 0
    · rw [if_pos hv]; omega
    · rw [if_neg hv]; exact Nat.min_le_right _ _
end
end HT
namespace L2
open PySem PySem.Spec PyProof.Rows
abbrev TO := St → Hp → (Option Int → Hp → Prop) → Prop
def PO (X : Cx) (e : Option Expr) (t : TO) : Prop :=
  ∀ (pins : List (Addr × Obj)) (s : Shared) (σ : St) (H : Hp) (Q : Option Int → Hp → Prop), Inv X pins σ H s → t σ H Q →
    wpAny (model X.prog X.w) X.A (evalPart e X.env) (fun u s' => ∃ o H', Inv X pins σ H' s' ∧ IsPart u o ∧ Q o H') X.xe s
def tNoPart : TO := fun _ H Q => Q none H
def tPart (t : TE) : TO := fun σ H Q => t σ H fun x H1 => ∃ i, x = .int i ∧ Q (some i) H1
section
variable {X : Cx} {e : Expr} {te : TE} {lo hi : Option Expr} {tl th : TO} {pos p2 : Pos}
theorem po_none : PO X none tNoPart := by
  intro pins s σ H Q I h
  rw [evalPart_none]
  exact wpAny_pure ⟨none, H, I, .none, h⟩
theorem po_some (h : PE X e te) : PO X (some e) (tPart te) := by
  intro pins s σ H Q I hw
  rw [evalPart_some]
  refine thn (h pins s σ H _ I hw) fun u s1 ⟨x, H1, I1, r1, q1⟩ => ?_
  obtain ⟨i, rfl, q⟩ := q1
  obtain ⟨t, rfl⟩ := r1
  exact ⟨some i, H1, I1, .int i t, q⟩
def SlR (X : Cx) (r : V → Option Int → Option Int → Hp → VK → Prop) : Prop :=
  ∀ (pins : List (Addr × Obj)) (s : Shared) (σ : St) (H : Hp) (x : V) (v vl vu : Value) (lo hi : Option Int) (sl : Addr) (Q : VK), Inv X pins σ H s → RelV x v → s.heap.IsSliceOf sl vl vu .none → IsPart vl lo → IsPart vu hi → r x lo hi H Q →
    ∃ T id, typeLookup (.type T) "__getitem__" = pure (some (.builtin id)) ∧ s.TypeIs v T ∧ wpAny (model X.prog X.w) X.A (getItem v (.ref sl)) (EP X pins σ Q) X.xe s
theorem SlR.or {r r' : V → Option Int → Option Int → Hp → VK → Prop} (h : SlR X r) (h' : SlR X r') : SlR X (fun x lo hi H Q => r x lo hi H Q ∨ r' x lo hi H Q) := by
  intro pins s σ H x v vl vu lo hi sl Q I rx hs pl pu q
  rcases q with q | q
  · exact h pins s σ H x v vl vu lo hi sl Q I rx hs pl pu q
  · exact h' pins s σ H x v vl vu lo hi sl Q I rx hs pl pu q
def tSl (r : V → Option Int → Option Int → Hp → VK → Prop) (te : TE) (tl th : TO) : TE := fun σ H Q => te σ H fun x H1 => tl σ H1 fun l H2 => th σ H2 fun u H3 => r x l u H3 Q
theorem pe_slice {r : V → Option Int → Option Int → Hp → VK → Prop} (hr : SlR X r) (he : PE X e te) (hl : PO X lo tl) (hu : PO X hi th) : PE X (.Subscript e (.Slice lo hi none p2) pos) (tSl r te tl th) := by
  intro pins s σ H Q I h
  refine Subscript_ (thn (he pins s σ H _ I h) fun v s1 ⟨x, H1, I1, r1, q1⟩ => ?_)
  refine wpAny_Slice (thn (hl pins s1 σ H1 _ I1 q1) fun vl s2 ⟨l, H2, I2, pl, q2⟩ => thn (hu pins s2 σ H2 _ I2 q2) fun vu s3 ⟨u, H3, I3, pu, q3⟩ => ?_)
  rw [evalPart_none]
  refine wpAny_pure ?_
  have I4 : Inv X pins σ H3 { s3 with heap := s3.heap.push { cls := .type "slice", data := .fields #[vl, vu, .none] } } := I3.kept (t' := s3.toks) fun b ob q => Heap.get?_push_of_some _ q
  obtain ⟨T, id, hT, ht, hg⟩ := hr pins { s3 with heap := s3.heap.push { cls := .type "slice", data := .fields #[vl, vu, .none] } } σ H3 x v vl vu l u s3.heap.objs.size Q I4 r1 (Heap.IsSliceOf.new ..) pl pu q3
  show wpAny (model X.prog X.w) X.A (subscriptTail e (.Slice lo hi none p2) v (.ref s3.heap.objs.size)) (EP X pins σ Q) X.xe { s3 with heap := s3.heap.push { cls := .type "slice", data := .fields #[vl, vu, .none] } }
  exact tail_any (ops := [.ref s3.heap.objs.size, v]) ht hT hg (by with_unfolding_all rfl)
def cutV (xs : List V) (lo hi : Option Int) : List V := (xs.drop (HT.sIx xs.length 0 lo)).take (HT.sIx xs.length xs.length hi - HT.sIx xs.length 0 lo)
theorem cutV_length (xs : List V) (lo hi : Option Int) : (cutV xs lo hi).length ≤ xs.length := by
  unfold cutV
  rw [List.length_take, List.length_drop]
  omega
def rSlT (K : PySem.W.Frag) : V → Option Int → Option Int → Hp → VK → Prop := fun x lo hi H Q => ∃ a xs, x = .ref a ∧ SqT K H a xs ∧
  ¬ (HT.sIx xs.length 0 lo = 0 ∧ HT.sIx xs.length xs.length hi = xs.length) ∧ ∀ p, H p = none → Q (.ref p) (upd H p (.tup (cutV xs lo hi)))
def rLtT (K : PySem.W.Frag) : R2 := fun x y H Q => ∃ a b ns ms, x = .ref a ∧ y = .ref b ∧ SqT K H a (ns.map V.int) ∧ SqT K H b (ms.map V.int) ∧ Q (.bl (HT.lexLt ns ms)) H
def rCatT (K : PySem.W.Frag) : R2 := fun x y H Q => ∃ a b xs ys, x = .ref a ∧ y = .ref b ∧ SqT K H a xs ∧ SqT K H b ys ∧ xs ≠ [] ∧ xs.length + ys.length ≤ sizeLine ∧
  (ys = [] → Q (.ref a) H) ∧ (ys ≠ [] → ∀ p, H p = none → Q (.ref p) (upd H p (.tup (xs ++ ys))))
end
end L2
namespace L2
open PySem PySem.Spec PyProof.Rows
def ixN (n : Nat) (i : Int) : Option Nat := if 0 ≤ i then (if i < n then some i.toNat else none) else if -(n : Int) ≤ i then some (i + n).toNat else none
def atI {α : Type} (xs : List α) (i : Int) : Option α := (ixN xs.length i).bind fun j => xs[j]?
theorem ixN_seq {n : Nat} {i : Int} {j : Nat} (h : ixN n i = some j) : seqIndex? i n = some j ∧ j < n ∧ -(n : Int) ≤ i ∧ i < n := by
  unfold ixN at h
  by_cases h0 : 0 ≤ i
  · rw [if_pos h0] at h
    by_cases h1 : i < n
    · rw [if_pos h1] at h
      have e : i.toNat = j := Option.some.inj h
      exact ⟨by rw [seqIndex_of h0 h1, e], by omega, by omega, h1⟩
    · rw [if_neg h1] at h; cases h
  · rw [if_neg h0] at h
    by_cases h1 : -(n : Int) ≤ i
    · rw [if_pos h1] at h
      have e : (i + n).toNat = j := Option.some.inj h
      exact ⟨by rw [seqIndex_neg (by omega) h1, e], by omega, h1, by omega⟩
    · rw [if_neg h1] at h; cases h
theorem atI_get {α : Type} {xs : List α} {i : Int} {v : α} (h : atI xs i = some v) : ∃ j, seqIndex? i xs.length = some j ∧ xs[j]? = some v ∧ j < xs.length ∧ -(xs.length : Int) ≤ i ∧ i < xs.length := by
  unfold atI at h
  cases e : ixN xs.length i with
  | none => rw [e] at h; cases h
  | some j =>
    rw [e] at h
    obtain ⟨h1, h2, h3, h4⟩ := ixN_seq e
    exact ⟨j, h1, h, h2, h3, h4⟩
theorem atI_nat {α : Type} {xs : List α} {j : Nat} {v : α} (h : xs[j]? = some v) : atI xs (j : Int) = some v := by
  have hj : j < xs.length := (List.getElem?_eq_some_iff.mp h).1
  have e : ixN xs.length (j : Int) = some j := by
    unfold ixN
    rw [if_pos (by omega), if_pos (by omega)]; simp
  unfold atI; rw [e]; exact h
def PlainIx (b : Expr) : Prop := ∀ o i, subscripted b false o i = operate [o, i] (getItem o i)
def IxR (X : Cx) (r : R2) : Prop :=
  ∀ (value slice : Expr) (pins : List (Addr × Obj)) (s : Shared) (σ : St) (H : Hp) (x y : V) (v u : Value) (Q : VK), Inv X pins σ H s → RelV x v → RelV y u → r x y H Q →
    subscripted slice false v u = operate [v, u] (getItem v u) → wpAny (model X.prog X.w) X.A (subscriptTail value slice v u) (EP X pins σ Q) X.xe s
def MtR (X : Cx) (id : String) (r : V → List V → Hp → VK → Prop) : Prop :=
  ∀ (pins : List (Addr × Obj)) (s : Shared) (σ : St) (H : Hp) (x : V) (xs : List V) (v : Value) (us : List Value) (Q : VK), Inv X pins σ H s → RelV x v → Vals xs us → r x xs H Q →
    wpAny (model X.prog X.w) X.A (call (.builtin id) (v :: us)) (EP X pins σ Q) X.xe s
section
variable {X : Cx} {a b : Expr} {ta tb : TE} {pos : Pos}
theorem IxR.or {r r' : R2} (h : IxR X r) (h' : IxR X r') : IxR X (fun x y H Q => r x y H Q ∨ r' x y H Q) := by
  intro value slice pins s σ H x y v u Q I rx ry q hs
  rcases q with q | q
  · exact h value slice pins s σ H x y v u Q I rx ry q hs
  · exact h' value slice pins s σ H x y v u Q I rx ry q hs
theorem MtR.or {id : String} {r r' : V → List V → Hp → VK → Prop} (h : MtR X id r) (h' : MtR X id r') : MtR X id (fun x xs H Q => r x xs H Q ∨ r' x xs H Q) := by
  intro pins s σ H x xs v us Q I rx rs q
  rcases q with q | q
  · exact h pins s σ H x xs v us Q I rx rs q
  · exact h' pins s σ H x xs v us Q I rx rs q
theorem pe_ix {r : R2} (hr : IxR X r) (ha : PE X a ta) (hb : PE X b tb) (hs : PlainIx b) : PE X (.Subscript a b pos) (tOp r ta tb) := by
  intro pins s σ H Q I h
  exact Subscript_ (binT ha hb I h fun v u s2 x y H2 I2 rx ry q => hr a b pins s2 σ H2 x y v u Q I2 rx ry q (hs _ _))
def rIxL (K : PySem.W.Frag) : R2 := fun x y H Q => ∃ p xs i v, x = .ref p ∧ y = .int i ∧ SqL K H p xs ∧ atI xs i = some v ∧ Q v H
def rIxT (K : PySem.W.Frag) : R2 := fun x y H Q => ∃ p xs i v, x = .ref p ∧ y = .int i ∧ SqT K H p xs ∧ atI xs i = some v ∧ Q v H
def rIxS : R2 := fun x y H Q => ∃ z i c, x = .str z ∧ y = .int i ∧ z.length ≤ sizeLine ∧ atI z.cps.toList i = some c ∧ Q (.str ⟨#[c]⟩) H
theorem ix_list : IxR X (rIxL X.K) := by
  intro value slice pins s σ H x y v u Q I rx ry h hs
  obtain ⟨p, xs, i, z, rfl, rfl, hq, he, q⟩ := h
  cases rx
  obtain ⟨t, rfl⟩ := ry
  obtain ⟨its, r, pl, hz⟩ := I.list hq
  obtain ⟨j, h1, h2, h3, h4, h5⟩ := atI_get he
  obtain ⟨w, ew, rw'⟩ := r.get h2
  have hl := r.length
  have hn := line63
  have fin : EP X pins σ Q w s := ⟨z, H, I, rw', q⟩
  by_cases h0 : 0 ≤ i
  · have hj : i.toNat = j := by
      rw [seqIndex_of h0 h5] at h1
      exact Option.some.inj h1
    exact item_listR pl.isList h0 (by omega) (by rw [hj]; simpa using ew) fin hs
  · have hj : (i + (its.toArray.size : Int)).toNat = j := by
      rw [seqIndex_neg (by omega) h4] at h1
      rw [List.size_toArray, ← hl]
      exact Option.some.inj h1
    exact subscriptTail_builtinR (x := w) pl.isList.typeIs slot_list_getitem.lookup
      (wpAny_getItem_list_neg (Q := fun r s' => r = w ∧ EP X pins σ Q r s') pl.isList (by omega) (by rw [List.size_toArray] <;> omega) (by omega) (by rw [hj]; simpa using ew) ⟨rfl, fin⟩) hs
theorem ix_tup : IxR X (rIxT X.K) := by
  intro value slice pins s σ H x y v u Q I rx ry h hs
  obtain ⟨p, xs, i, z, rfl, rfl, hq, he, q⟩ := h
  cases rx
  obtain ⟨t, rfl⟩ := ry
  obtain ⟨its, r, pl, hz⟩ := I.tuple hq
  obtain ⟨j, h1, h2, h3, h4, h5⟩ := atI_get he
  obtain ⟨w, ew, rw'⟩ := r.get h2
  have hl := r.length
  have hn := line63
  have fin : EP X pins σ Q w s := ⟨z, H, I, rw', q⟩
  exact subscriptTail_builtinR (x := w) pl.typeIs slot_tuple_getitem.lookup
    (getItem_tuple (j := j) (Q := fun r s' => r = w ∧ EP X pins σ Q r s') pl (by omega) (by omega) (by rw [List.size_toArray, ← hl]; exact h1) (by simpa using ew) ⟨rfl, fin⟩) hs
theorem ix_str : IxR X rIxS := by
  intro value slice pins s σ H x y v u Q I rx ry h hs
  obtain ⟨z, i, c, rfl, rfl, hz, he, q⟩ := h
  obtain ⟨t, rfl⟩ := rx
  obtain ⟨t', rfl⟩ := ry
  obtain ⟨j, h1, h2, h3, h4, h5⟩ := atI_get he
  have hl : z.cps.toList.length = z.length := by simp [Str.length]
  rw [hl] at h1 h4 h5
  have hn := line63
  exact tail_any (typeIs_str s z t) slot_str_getitem.lookup (getItem_str (c := c) (by
    have e1 : decide (i < -(2 ^ 63 : Int)) = false := decide_eq_false (by omega)
    have e2 : decide (i ≥ 2 ^ 63) = false := decide_eq_false (by omega)
    rw [e1, e2, Bool.or_false]) (by rw [h1]; simpa using h2) ⟨.str ⟨#[c]⟩, H, I.tok _, ⟨_, rfl⟩, q⟩) hs
def rIx (K : PySem.W.Frag) : R2 := fun x y H Q => rIxL K x y H Q ∨ rIxT K x y H Q ∨ rIxS x y H Q
theorem mapSeq_set (its : List Value) (n j : Nat) (u : Value) : Obj.mapSeq (·.setIfInBounds j u) { cls := .type "list", data := .seq its.toArray n } = { cls := .type "list", data := .seq (its.set j u).toArray n } := by
  simp [Obj.mapSeq]
theorem Inv.lst {pins : List (Addr × Obj)} {σ : St} {H : Hp} {s : Shared} {p : Addr} {xs : List V} (I : Inv X pins σ H s) (h : H p = some (.lst xs)) :
    ∃ (its : List Value) (n : Nat), Vals xs its ∧ s.heap.get? p = some { cls := .type "list", data := .seq its.toArray n } ∧ xs.length ≤ sizeLine := by
  obtain ⟨z, its, n, r, e⟩ := I.hok p _ h
  exact ⟨its, n, r, e, z⟩
theorem Inv.lstUpd {pins : List (Addr × Obj)} {σ : St} {H : Hp} {s : Shared} {p : Addr} {xs ys : List V} {its its' : List Value} {n n' : Nat} {f : Obj → Obj} (I : Inv X pins σ H s) (h : H p = some (.lst xs))
    (ho : s.heap.get? p = some { cls := .type "list", data := .seq its.toArray n }) (hf : f { cls := .type "list", data := .seq its.toArray n } = { cls := .type "list", data := .seq its'.toArray n' }) (r : Vals ys its') (hz : ys.length ≤ sizeLine) (t : Nat) :
    Inv X pins σ (upd H p (.lst ys)) { s with heap := s.heap.update p f, toks := t } := by
  have e : (s.heap.update p f).get? p = some { cls := .type "list", data := .seq its'.toArray n' } := by
    rw [Heap.get?_update_self f ho (by rw [hf] <;> rfl), hf]
  refine I.write (x := p) (e := p) (by rw [h]; trivial) (.inl rfl) (fun b u hb q => (Heap.get?_update_other _ _ (Ne.symm hb)).trans q) ⟨_, e⟩ ?_
  exact ⟨hz, its', n', r, e⟩
def rSetL : V → V → V → Hp → (Hp → Prop) → Prop := fun o i v H Q => ∃ p xs k j, o = .ref p ∧ i = .int k ∧ H p = some (.lst xs) ∧ ixN xs.length k = some j ∧ Q (upd H p (.lst (xs.set j v)))
theorem set_list : PSet X rSetL := by
  intro pins s σ H o i v ov iv u Q I ro ri rv h
  obtain ⟨p, xs, k, j, rfl, rfl, hp, hj, q⟩ := h
  cases ro
  obtain ⟨t, rfl⟩ := ri
  obtain ⟨its, n, r, ho, hz⟩ := I.lst hp
  obtain ⟨h1, h2, h3, h4⟩ := ixN_seq hj
  have hl := r.length
  have hn := line63
  have I' : Inv X pins σ (upd H p (.lst (xs.set j v))) { s with heap := s.heap.update p (Obj.mapSeq (·.setIfInBounds j u)) } :=
    I.lstUpd hp ho (mapSeq_set its n j u) (r.set rv j) (by rw [List.length_set]; exact hz) s.toks
  by_cases h0 : 0 ≤ k
  · have hk : k.toNat = j := by
      rw [seqIndex_of h0 h4] at h1
      exact Option.some.inj h1
    exact PySem.W.ki_setAt ho h0 (by omega) (by rw [List.size_toArray, ← hl]; exact h4) (by rw [hk]; exact ⟨_, I', q⟩)
  · have hk : (k + (its.toArray.size : Int)).toNat = j := by
      rw [seqIndex_neg (by omega) h3] at h1
      rw [List.size_toArray, ← hl]
      exact Option.some.inj h1
    exact PySem.W.ki_setBack ho (by omega) (by rw [List.size_toArray, ← hl]; exact h3) (by omega) (by rw [hk]; exact ⟨_, I', q⟩)
theorem slice_bounds (lo hi : Option Int) (n : Nat) : (sliceBounds lo hi none n).1 = ((HT.sIx n 0 lo : Nat) : Int) ∧ (sliceBounds lo hi none n).2.1 = ((HT.sIx n n hi : Nat) : Int) ∧ (sliceBounds lo hi none n).2.2 = 1 := by
  refine ⟨?_, ?_, rfl⟩
  · cases lo with
    | none => simp [sliceBounds, HT.sIx]
    | some i =>
      simp only [sliceBounds, HT.sIx, Option.getD_none, show (1 : Int) > 0 by decide, if_true]
      by_cases h : i < 0
      · simp only [h, if_true] <;> omega
      · simp only [h, if_false] <;> omega
  · cases hi with
    | none => simp [sliceBounds, HT.sIx]
    | some i =>
      simp only [sliceBounds, HT.sIx, Option.getD_none, show (1 : Int) > 0 by decide, if_true]
      by_cases h : i < 0
      · simp only [h, if_true] <;> omega
      · simp only [h, if_false] <;> omega
theorem slicePick_cut (its : List Value) (lo hi : Option Int) : slicePick its.toArray lo hi none = ((its.drop (HT.sIx its.length 0 lo)).take (HT.sIx its.length its.length hi - HT.sIx its.length 0 lo)).toArray := by
  obtain ⟨h1, h2, h3⟩ := slice_bounds lo hi its.toArray.size
  unfold slicePick
  rw [h1, h2, h3]
  simp only [sliceRange_one, pick_run, List.size_toArray] <;> rfl
def rSlL (K : PySem.W.Frag) : V → Option Int → Option Int → Hp → VK → Prop := fun x lo hi H Q => ∃ a xs, x = .ref a ∧ SqL K H a xs ∧ ∀ p, H p = none → Q (.ref p) (upd H p (.lst (cutV xs lo hi)))
theorem sl_list : SlR X (rSlL X.K) := by
  intro pins s σ H x v vl vu lo hi sl Q I rx hs pl pu h
  obtain ⟨a, xs, rfl, hx, q⟩ := h
  cases rx
  obtain ⟨its, r, ht, hz⟩ := I.list hx
  have hlen := r.length
  refine ⟨"list", _, slot_list_getitem.lookup, ht.isList.typeIs, ?_⟩
  refine wpAny_getItem_list_slice ht.isList hs pl pu .none (by simp) ?_ (by rw [List.size_toArray] <;> omega)
  rw [slicePick_cut, ← hlen]
  refine ⟨.ref s.heap.objs.size, _, I.laid (t' := s.toks) (o := .lst (cutV xs lo hi)) (fun b ob q => Heap.get?_push_of_some _ q) (Nat.le_refl _) ?_, rfl, q _ (I.hok.fresh (Nat.le_refl _))⟩
  exact ⟨Nat.le_trans (cutV_length xs lo hi) hz, _, 0, (r.drop (HT.sIx xs.length 0 lo)).take (HT.sIx xs.length xs.length hi - HT.sIx xs.length 0 lo), Heap.get?_push_size _ rfl⟩
def flatV : V → Bool
  | .non => true
  | .bl _ => true
  | .int _ => true
  | .str _ => true
  | _ => false
def eqV : V → V → Bool
  | .non, .non => true
  | .bl a, .bl b => a == b
  | .bl a, .int b => (if a then 1 else 0) == b
  | .int a, .bl b => a == (if b then 1 else 0)
  | .int a, .int b => a == b
  | .str a, .str b => a == b
  | _, _ => false
theorem eqAt_V {A : Around} {s : Shared} {y x : V} {u v : Value} (ry : RelV y u) (rx : RelV x v) (fy : flatV y = true) (fx : flatV x = true) : SeqAt.EqAt A s u v (eqV y x) := by
  cases y with
  | non =>
    cases ry
    cases x with
    | non => cases rx; exact SeqAt.EqAt.same _
    | bl b => cases rx; exact SeqAt.EqAt.none_bool b
    | int b => obtain ⟨t, rfl⟩ := rx; exact SeqAt.EqAt.none_int b t
    | str b => obtain ⟨t, rfl⟩ := rx; exact SeqAt.EqAt.none_str b t
    | _ => exact absurd (show false = true from fx) Bool.false_ne_true
  | bl a =>
    cases ry
    cases x with
    | non => cases rx; exact SeqAt.EqAt.bool_none a
    | bl b => cases rx; exact SeqAt.EqAt.bool_bool a b
    | int b => obtain ⟨t, rfl⟩ := rx; exact SeqAt.EqAt.bool_int a b t
    | str b => obtain ⟨t, rfl⟩ := rx; exact SeqAt.EqAt.bool_str a b t
    | _ => exact absurd (show false = true from fx) Bool.false_ne_true
  | int a =>
    obtain ⟨t', rfl⟩ := ry
    cases x with
    | non => cases rx; exact SeqAt.EqAt.int_none a t'
    | bl b => cases rx; exact SeqAt.EqAt.int_bool a t' b
    | int b => obtain ⟨t, rfl⟩ := rx; exact SeqAt.EqAt.int_int a t' b t
    | str b => obtain ⟨t, rfl⟩ := rx; exact SeqAt.EqAt.int_str a t' b t
    | _ => exact absurd (show false = true from fx) Bool.false_ne_true
  | str a =>
    obtain ⟨t', rfl⟩ := ry
    cases x with
    | non => cases rx; exact SeqAt.EqAt.str_none a t'
    | bl b => cases rx; exact SeqAt.EqAt.str_bool a t' b
    | int b => obtain ⟨t, rfl⟩ := rx; exact SeqAt.EqAt.str_int a t' b t
    | str b => obtain ⟨t, rfl⟩ := rx; exact SeqAt.EqAt.str_str a t' b t
    | _ => exact absurd (show false = true from fx) Bool.false_ne_true
  | _ => exact absurd (show false = true from fy) Bool.false_ne_true
def eqU (x : V) (u : Value) : Bool := match u with
  | .none => eqV .non x
  | .bool b => eqV (.bl b) x
  | .int i _ => eqV (.int i) x
  | .str z _ => eqV (.str z) x
  | _ => false
def inV (x : V) (xs : List V) : Bool := xs.any fun y => eqV y x
def rIn (K : PySem.W.Frag) (neg : Bool) : R2 := fun x y H Q => ∃ p xs, y = .ref p ∧ (SqL K H p xs ∨ SqT K H p xs) ∧ flatV x = true ∧ xs.all flatV = true ∧ Q (.bl (if neg then !inV x xs else inV x xs)) H
theorem call_len_seq : CallR X (.builtin "len") (fun xs H Q => ∃ p ys, xs = [.ref p] ∧ (SqL X.K H p ys ∨ SqT X.K H p ys) ∧ Q (.int ys.length) H) := by
  intro pins s σ H xs us Q I r h
  obtain ⟨p, ys, rfl, hq, q⟩ := h
  obtain ⟨u, rfl, rx⟩ := vals1 r
  cases rx
  have hn := line63
  rcases hq with hq | hq
  · obtain ⟨its, r', pl, hz⟩ := I.list hq
    have hlen := r'.length
    exact Calls.call_len_list pl.isList (by simp only [List.size_toArray] <;> omega) ⟨.int ys.length, H, I.tok _, ⟨s.toks + 1, by rw [List.size_toArray, hlen]⟩, q⟩
  · obtain ⟨its, r', pl, hz⟩ := I.tuple hq
    have hlen := r'.length
    exact len_tuple pl (by simp only [List.size_toArray] <;> omega) ⟨.int ys.length, H, I.tok _, ⟨s.toks + 1, by rw [List.size_toArray, hlen]⟩, q⟩
theorem call_len_str : CallR X (.builtin "len") (fun xs H Q => ∃ z, xs = [.str z] ∧ z.length ≤ sizeLine ∧ Q (.int z.length) H) := by
  intro pins s σ H xs us Q I r h
  obtain ⟨z, rfl, hz, q⟩ := h
  obtain ⟨u, rfl, t, rfl⟩ := vals1 r
  have hn := line63
  exact len_str (by omega) ⟨.int z.length, H, I.tok _, ⟨_, rfl⟩, q⟩
theorem CallR.or {f : Value} {r r' : List V → Hp → VK → Prop} (h : CallR X f r) (h' : CallR X f r') : CallR X f (fun xs H Q => r xs H Q ∨ r' xs H Q) := by
  intro pins s σ H xs us Q I rs q
  rcases q with q | q
  · exact h pins s σ H xs us Q I rs q
  · exact h' pins s σ H xs us Q I rs q
def tyV (K : PySem.W.Frag) (T : String) (x : V) (H : Hp) : Prop := match x with
  | .str _ => T = "str"
  | .int _ => T = "int"
  | .ref p => (T = "list" ∧ ∃ xs, SqL K H p xs) ∨ (T = "tuple" ∧ ∃ o, K.lookup p = some o ∧ o.cls = .type "tuple" ∧ o.dict = none) ∨
      (T = "dict" ∧ ((∃ kvs, H p = some (.dK kvs)) ∨ ∃ kvs, H p = some (.dT kvs))) ∨ (T = "set" ∧ ∃ S n, H p = some (.set S n))
  | _ => False
theorem tyV_is {pins : List (Addr × Obj)} {σ : St} {H : Hp} {s : Shared} {T : String} {x : V} {v : Value} (I : Inv X pins σ H s) (r : RelV x v) (ty : tyV X.K T x H) :
    s.TypeIs v T ∧ ∀ a, v = .ref a → ∃ ob, s.heap.get? a = some ob ∧ ob.dict = none := by
  cases x with
  | str z =>
    obtain ⟨t, rfl⟩ := r
    cases (show T = "str" from ty)
    exact ⟨typeIs_str s z t, fun _ e => nomatch e⟩
  | int i =>
    obtain ⟨t, rfl⟩ := r
    cases (show T = "int" from ty)
    exact ⟨typeIs_int s i t, fun _ e => nomatch e⟩
  | ref p =>
    cases r
    rcases ty with ⟨rfl, xs, hq⟩ | ⟨rfl, o, hk, hc, hd⟩ | ⟨rfl, hk⟩ | ⟨rfl, S, n, hk⟩
    · obtain ⟨its, _, pl, _⟩ := I.list hq
      refine ⟨pl.isList.typeIs, fun a e => ?_⟩
      cases e
      obtain ⟨o, n, e, c, hd, _⟩ := pl
      exact ⟨o, e, hd⟩
    · refine ⟨⟨o, I.kIn p o hk, hc⟩, fun a e => ?_⟩
      cases e
      exact ⟨o, I.kIn _ o hk, hd⟩
    · have z : ∃ o, s.heap.get? p = some o ∧ o.ExactDict := by
        rcases hk with ⟨kvs, hk⟩ | ⟨kvs, hk⟩
        · obtain ⟨_, _, _, _, o, _, _, e, ex, _⟩ := I.hok p _ hk
          exact ⟨o, e, ex⟩
        · obtain ⟨_, _, _, _, o, _, _, e, ex, _⟩ := I.hok p _ hk
          exact ⟨o, e, ex⟩
      obtain ⟨o, e, ex⟩ := z
      refine ⟨⟨o, e, ex.1⟩, fun a e2 => ?_⟩
      cases e2
      exact ⟨o, e, ex.2.1⟩
    · obtain ⟨o, _, _, _, e, ex, _⟩ := I.hok p _ hk
      refine ⟨⟨o, e, ex.1⟩, fun a e2 => ?_⟩
      cases e2
      exact ⟨o, e, ex.2.1⟩
  | _ => exact False.elim ty
def tBM0 (K : PySem.W.Frag) (T : String) (r : V → List V → Hp → VK → Prop) (to : TE) : TE := fun σ H Q => to σ H fun x H1 => tyV K T x H1 ∧ r x [] H1 Q
def tBM (K : PySem.W.Frag) (T : String) (r : V → List V → Hp → VK → Prop) (to : TE) (t : TA) : TE := fun σ H Q => to σ H fun x H1 => tyV K T x H1 ∧ t σ H1 fun xs H2 => r x xs H2 Q
variable {o e : Expr} {es : List Expr} {to : TE} {t : TA} {name : Str} {apos cpos : Pos} {T id : String} {r : V → List V → Hp → VK → Prop}
theorem pe_bm0 (pa : PlainAttrs T) (slot : Slot T name id) (hty : typeOf (.builtin id) = pure (.type "method_descriptor")) (hm : MtR X id r) (ho : PE X o to)
    (hbase : attributeBase o name X.env (eval o X.env) = eval o X.env := by rfl) (hline : (apos.endLine == cpos.line) = true := by rfl) : PE X (.Call (.Attribute o name apos) [] [] cpos) (tBM0 X.K T r to) := by
  intro pins s σ H Q I h
  refine wpAny_Call_method0_late hbase hline (thn (ho pins s σ H _ I h) fun v s1 ⟨x, H1, I1, r1, ty, q1⟩ => ?_)
  obtain ⟨h1, h2⟩ := tyV_is I1 r1 ty
  exact ⟨T, id, pa, slot, hty, h1, h2, Calls.callWith_builtin rfl (PySem.evalArgs_none (hm pins s1 σ H1 x [] v [] Q I1 r1 .nil q1))⟩
theorem pe_bm (pa : PlainAttrs T) (slot : Slot T name id) (hty : typeOf (.builtin id) = pure (.type "method_descriptor")) (hm : MtR X id r) (ho : PE X o to) (ha : PA X (e :: es) t)
    (hbase : attributeBase o name X.env (eval o X.env) = eval o X.env := by rfl)
    (hfew : ((backTo cpos (starEach (e :: es) X.env)).all (fun x => !x.1) && (backToKw cpos (keywordEach [] X.env)).all (fun x => x.1.isSome)
      && decide ((e :: es).length + ([] : List Keyword).length + (if ([] : List Keyword).isEmpty then 0 else 1) < 30)) = true := by rfl)
    (hline : (apos.endLine == cpos.line) = true := by rfl) (hs : starEach (e :: es) X.env = (false, eval e X.env) :: starEach es X.env := by rfl) (hplain : (backTo cpos (starEach es X.env)).any (·.1) = false := by rfl) :
    PE X (.Call (.Attribute o name apos) (e :: es) [] cpos) (tBM X.K T r to t) := by
  intro pins s σ H Q I h
  refine wpAny_Call_method_late hbase hfew hline rfl (thn (ho pins s σ H _ I h) fun v s1 ⟨x, H1, I1, r1, ty, q1⟩ => ?_)
  obtain ⟨h1, h2⟩ := tyV_is I1 r1 ty
  refine ⟨T, id, pa, slot, hty, h1, h2, ?_⟩
  have hA := ha cpos pins s1 σ H1 _ I1 q1
  rw [hs] at hA ⊢
  refine Calls.callWith_builtin (by show (false || (backTo cpos (starEach es X.env)).any (·.1)) = false; rw [hplain] <;> rfl) (Calls.evalArgs_plain ?_)
  exact thn hA fun us s2 ⟨vs, H2, I2, r2, q2⟩ => hm pins s2 σ H2 x vs v us Q I2 r1 r2 q2
/- xs.append(e), list.index on a module's tuple .. are MtR facts of 06m -/
end
end L2
namespace L2
open PySem PySem.Spec PyProof.Rows
def MtM (X : Cx) (id : String) (r : V → List V → Hp → VK → Prop) : Prop :=
  ∀ (pins : List (Addr × Obj)) (s : Shared) (σ : St) (H : Hp) (x : V) (xs : List V) (v : Value) (us : List Value) (Q : VK), Inv X pins σ H s → RelV x v → Vals xs us → r x xs H Q →
    wpAny (model X.prog X.w) X.A (call (.builtin id) (v :: us)) (EP X pins σ Q) X.xe s
theorem Vals.one : ∀ {x : V} {us : List Value}, Vals [x] us → ∃ u, us = [u] ∧ RelV x u
  | _, _, .cons r .nil => ⟨_, rfl, r⟩
theorem Vals.two : ∀ {x y : V} {us : List Value}, Vals [x, y] us → ∃ u v, us = [u, v] ∧ RelV x u ∧ RelV y v
  | _, _, _, .cons r (.cons q .nil) => ⟨_, _, rfl, r, q⟩
theorem Vals.zero : ∀ {us : List Value}, Vals [] us → us = []
  | _, .nil => rfl
theorem Vals.dropLast {xs : List V} {us : List Value} (h : Vals xs us) : Vals xs.dropLast us.dropLast := by
  induction h with
  | nil => exact .nil
  | cons r t ih =>
    cases t with
    | nil => exact .nil
    | cons q t' => exact .cons r ih
theorem Vals.eraseIdx : ∀ {xs : List V} {us : List Value} (i : Nat), Vals xs us → Vals (xs.eraseIdx i) (us.eraseIdx i)
  | _, _, _, .nil => .nil
  | _, _, 0, .cons _ t => t
  | _, _, i + 1, .cons r t => .cons r (Vals.eraseIdx i t)
theorem Vals.reverse {xs : List V} {us : List Value} (h : Vals xs us) : Vals xs.reverse us.reverse := by
  induction h with
  | nil => exact .nil
  | cons r t ih => rw [List.reverse_cons, List.reverse_cons]; exact Vals.append ih (.cons r .nil)
section
variable {X : Cx} {pins : List (Addr × Obj)} {σ : St} {H : Hp} {s : Shared} {l b : Addr} {xs ys zs : List V}
theorem Inv.lset {its its' : List Value} {n : Nat} {f : Array Value → Array Value} {t' : Nat} (I : Inv X pins σ H s) (hH : H l = some (.lst xs))
    (e : s.heap.get? l = some { cls := .type "list", data := .seq its.toArray n }) (hf : f its.toArray = its'.toArray) (hv : Vals ys its') (hz : ys.length ≤ sizeLine) :
    Inv X pins σ (upd H l (.lst ys)) { s with heap := s.heap.update l (Obj.mapSeq f), toks := t' } := by
  have q := PySem.IsL.update e f
  rw [hf] at q
  refine I.write (x := l) (e := l) (by rw [hH]; exact trivial) (.inl rfl) (fun b' u hb hu => (Heap.get?_update_other s.heap (Obj.mapSeq f) (Ne.symm hb)).trans hu) ⟨_, q⟩ ?_
  exact ⟨hz, its', _, hv, q⟩
theorem Inv.lnew {its : List Value} {t' : Nat} (I : Inv X pins σ H s) (hv : Vals ys its) (hz : ys.length ≤ sizeLine) :
    Inv X pins σ (upd H s.heap.objs.size (.lst ys)) { s with heap := s.heap.push { cls := .type "list", data := .seq its.toArray }, toks := t' } :=
  I.laid (fun _ _ q => Heap.get?_push_of_some _ q) (Nat.le_refl _) ⟨hz, its, 0, hv, Heap.get?_push_size _ rfl⟩
theorem Inv.fresh (I : Inv X pins σ H s) : H s.heap.objs.size = none := I.hok.fresh (Nat.le_refl _)
theorem Inv.lstM (I : Inv X pins σ H s) (hH : H l = some (.lst xs)) : xs.length ≤ sizeLine ∧ ∃ (its : List Value) (n : Nat), Vals xs its ∧ xs.length = its.length ∧ s.heap.get? l = some { cls := .type "list", data := .seq its.toArray n } := by
  obtain ⟨z, its, n, r, e⟩ := I.hok l _ hH
  exact ⟨z, its, n, r, r.length, e⟩
theorem notLongL {n : Nat} (h : n ≤ sizeLine) : Builtin.List.listTooLong n = false := by
  unfold Builtin.List.listTooLong
  exact decide_eq_false (by omega)
end
section
variable {X : Cx}
def rAppend : V → List V → Hp → VK → Prop := fun x vs H Q => ∃ l xs y, x = .ref l ∧ vs = [y] ∧ H l = some (.lst xs) ∧ xs.length < sizeLine ∧ Q .non (upd H l (.lst (xs ++ [y])))
theorem mt_append : MtM X "list.append" rAppend := by
  intro pins s σ H x vs v us Q I rx rv h
  obtain ⟨l, xs, y, rfl, rfl, hH, hz, q⟩ := h
  cases rx
  obtain ⟨u, rfl, ru⟩ := rv.one
  obtain ⟨z, its, n, r, hl, e⟩ := I.lstM hH
  refine call_meets F.slot_list_append ⟨_, e, rfl⟩ F.entry_list_append (F.args_list_append_2 _ _) (PySem.list_append l its.toArray n u (by rw [List.size_toArray]; omega)) ⟨e, ?_⟩
  refine ⟨.non, _, I.lset (its' := its ++ [u]) hH e (by simp) (r.append (.cons ru .nil)) ?_, rfl, q⟩
  rw [List.length_append, List.length_singleton]
  omega
def rExtend : V → List V → Hp → VK → Prop := fun x vs H Q => ∃ l b xs zs, x = .ref l ∧ vs = [.ref b] ∧ H l = some (.lst xs) ∧ H b = some (.lst zs) ∧ xs.length + zs.length ≤ sizeLine ∧ Q .non (upd H l (.lst (xs ++ zs)))
theorem mt_extend : MtM X "list.extend" rExtend := by
  intro pins s σ H x vs v us Q I rx rv h
  obtain ⟨l, b, xs, zs, rfl, rfl, hH, hB, hz, q⟩ := h
  cases rx
  obtain ⟨u, rfl, ru⟩ := rv.one
  cases ru
  obtain ⟨z, its, n, r, hl, e⟩ := I.lstM hH
  obtain ⟨z2, its2, n2, r2, hl2, e2⟩ := I.lstM hB
  have hsz : its.toArray.size + its2.toArray.size ≤ sizeLine := by rw [List.size_toArray, List.size_toArray]; omega
  have hlong : ¬ (!its.toArray.isEmpty && Builtin.List.listTooLong (its.toArray.size + its2.toArray.size)) = true := by
    rw [notLongL hsz, Bool.and_false]
    exact Bool.false_ne_true
  refine call_meets F.slot_list_extend ⟨_, e, rfl⟩ F.entry_list_extend (F.args_list_extend_2 _ _)
    (AutoSeq1.list_extend_list_list_0 l its.toArray n b its2.toArray n2 hlong (by rw [List.size_toArray]; omega) (by omega)) ⟨e, e2, ?_⟩
  refine ⟨.non, _, I.lset (its' := its ++ its2) hH e (by simp) (r.append r2) ?_, rfl, q⟩
  rw [List.length_append]
  omega
def rPop : V → List V → Hp → VK → Prop := fun x vs H Q => ∃ l xs y, x = .ref l ∧ vs = [] ∧ H l = some (.lst xs) ∧ xs[xs.length - 1]? = some y ∧ Q y (upd H l (.lst xs.dropLast))
def rPopAt : V → List V → Hp → VK → Prop := fun x vs H Q => ∃ l xs i k y, x = .ref l ∧ vs = [.int i] ∧ H l = some (.lst xs) ∧ -(2 ^ 63) ≤ i ∧ i < 2 ^ 63 ∧ seqIndex? i xs.length = some k ∧ xs[k]? = some y ∧ Q y (upd H l (.lst (xs.eraseIdx k)))
def rReverse : V → List V → Hp → VK → Prop := fun x vs H Q => ∃ l xs, x = .ref l ∧ vs = [] ∧ H l = some (.lst xs) ∧ Q .non (upd H l (.lst xs.reverse))
def rClear : V → List V → Hp → VK → Prop := fun x vs H Q => ∃ l xs, x = .ref l ∧ vs = [] ∧ H l = some (.lst xs) ∧ Q .non (upd H l (.lst []))
def rCat : R2 := fun x y H Q => ∃ l b xs zs, x = .ref l ∧ y = .ref b ∧ H l = some (.lst xs) ∧ H b = some (.lst zs) ∧ xs.length + zs.length ≤ sizeLine ∧ ∀ p, H p = none → Q (.ref p) (upd H p (.lst (xs ++ zs)))
theorem op_cat : OpR X (binaryOp .Add) rCat := by
  intro pins s σ H x y v u Q I rx ry h
  obtain ⟨l, b, xs, zs, rfl, rfl, hH, hB, hz, q⟩ := h
  cases rx
  cases ry
  obtain ⟨z, its, n, r, hl, e⟩ := I.lstM hH
  obtain ⟨z2, its2, n2, r2, hl2, e2⟩ := I.lstM hB
  refine PySem.P.add_list e e2 ?_ (by rw [List.size_toArray, List.size_toArray]; omega)
  have ea : its.toArray ++ its2.toArray = (its ++ its2).toArray := by simp
  rw [ea]
  exact ⟨.ref _, _, I.lnew (t' := s.toks) (r.append r2) (by rw [List.length_append]; omega), rfl, q _ I.fresh⟩
def rRep : R2 := fun x y H Q => ∃ l k xs, x = .ref l ∧ y = .int k ∧ H l = some (.lst xs) ∧ -(2 ^ 63) ≤ k ∧ k < 2 ^ 63 ∧ xs.length * k.toNat ≤ sizeLine ∧
  ∀ p, H p = none → Q (.ref p) (upd H p (.lst (List.replicate k.toNat xs).flatten))
end
section
variable {prog : Program} {w : World} {A : Around} {E : Value → Shared → Prop} {s : Shared}
end
section
variable {X : Cx}
end
end L2
namespace Att
open PySem PySem.W PySem.Calls PyProof.Rows
theorem ints_of_wellAll {P : Params} {h : Heap} : ∀ (ns : List Int) (vs : List Value), WellAll P h vs (ns.map WData.int) → IntsAre vs ns := by
  intro ns
  induction ns with
  | nil =>
    intro vs w
    rw [List.map_nil] at w
    cases w
    exact .nil
  | cons n ns ih =>
    intro vs w
    rw [List.map_cons] at w
    cases w with
    | cons a b =>
      cases a
      exact .cons _ _ (ih _ b)
theorem script_of {l : OpenLaw} {n : Nat} (hn : l.most = some n) {P : Params} {h : Heap} {args : List WData} {vals : List Value}
    (hpre : l.row.toRowW.claim.pre args = true) (hwl : WellAll P h vals args) :
    ∃ a vs ns, vals = [Value.ref a] ∧ args = [WData.list (ns.map WData.int)] ∧ h.get? a = some { cls := .type "list", data := .seq vs.toArray } ∧ IntsAre vs ns ∧ ns.length ≤ n := by
  have hsh : WShape.hasAll [] args [.list .int] = true := (pre_splitW hpre).1
  have hc : l.pre.holds [] { args := args } = true := (pre_splitW hpre).2
  obtain ⟨d, r, rfl, h1, h2⟩ := hasAllW_cons hsh
  obtain rfl := hasAllW_nil h2
  obtain ⟨xs, rfl, h3⟩ := hasW_list h1
  obtain ⟨ns, rfl⟩ := items_int h3
  have hlen : ns.length ≤ n := by
    unfold OpenLaw.pre at hc
    have h4 : (WTm.not (.lt (.lit (.int (n : Int))) (.len (.arg 0)))).holds [] { args := [.list (ns.map .int)] } = true := by
      have h4 := (holds_andW hc).1
      rw [hn] at h4
      exact h4
    have h5 := condW_of h4 (w_not (w_lt w_lit (w_len_list (w_arg rfl))))
    rw [List.length_map] at h5
    refine Nat.le_of_not_lt fun q => ?_
    have q' : (n : Int) < ((ns.length : Nat) : Int) := by omega
    first
      | (rw [decide_eq_true q'] at h5; exact absurd h5 (by decide))
      | (simp at h5; omega)
  cases hwl with
  | cons w1 w2 =>
    cases w2
    cases w1 with
    | list ho hall => exact ⟨_, _, ns, rfl, rfl, ho, ints_of_wellAll ns _ hall, hlen⟩
theorem post_true (l : OpenLaw) (args : List WData) : l.row.toRowW.claim.post args (.bool true) args = true :=
  postW_of (r := l.row.toRowW) (X := (true == true))
    (show WShape.has [] (.bool true) .bool = true by first | rfl | decide | simp [WShape.has, WShape.arms, WShape.armsAll])
    (show (WTm.eq .res (.lit (.bool true))).value [] { args := args, res := some (.bool true), after := args } = some (.bool (true == true)) from w_eq_bool (w_res rfl) w_lit) rfl
theorem attach_call {l : OpenLaw} {n : Nat} {q : Program} {loose : List Str} {XP : (Str → Option Value) → Heap → Prop} {YP : World → Heap → Prop} {d : DefRec}
    (hn : l.most = some n) (hdf : d.params.defaults = [])
    (call : ∀ (w : World) (s₀ s₁ : Shared) (mg mb : Str → Option Value) (fa : Addr) (o : Obj) (pm cd doc : Value) (a : Addr) (vs : List Value) (ns : List Int),
      Ground q loose [] XP w s₀ mg mb s₁.heap → YP w s₁.heap →
      s₁.heap.get? fa = some o → o.data = .func (docDef d.name d.params d.body d.scope pm cd doc) → s₁.heap.CodeRec cd d.name → mg d.name = some (.ref fa) →
      s₁.heap.get? a = some { cls := .type "list", data := .seq vs.toArray } → IntsAre vs ns → ns.length ≤ n → s₁.gens = #[] →
      codeAny (model l.prog w) callerA (.call (.ref fa) ⟨[.ref a], []⟩) (fun r s' => r = .ok (.ret (.bool true)) ∧ OldK s₁.heap s'.heap ∧ s'.os = s₁.os ∧ AllBare s'.gens) s₁) :
    WalkO q loose XP YP l.row.toRowW d [] (fun f vs => PySem.call f vs) := by
  intro w s₀ s₁ mg mb G Y fa o pm cd doc dV kV ho hd hcd hD hmg hg args vals as hpre hlay hrd hwl hlo
  obtain rfl : dV = .none := Dflts.none hD hdf
  obtain rfl : kV = .none := Dflts.noKw hD
  obtain ⟨a, vs, ns, rfl, rfl, hobj, hints, hlen⟩ := script_of hn hpre hwl
  refine enter_call (codeAny_mono (call w s₀ s₁ mg mb fa o pm cd doc a vs ns G Y ho (fd_plain hd) hcd hmg hobj hints hlen hg) fun r s' hq => ?_)
  obtain ⟨rfl, h2, h3, h4⟩ := hq
  exact ⟨.inl ⟨.bool true, .bool true, [], rfl, fun _ => rfl, .bool true, post_true l _, fun _ => ⟨List.Pairwise.nil, fun _ hm => (nomatch hm)⟩⟩, h2, h3, h4⟩
section
variable {prog : Program} {w : World} {A : Around} {E : Value → Shared → Prop} {s : Shared} {K : Frag}
def noObjs (h : Heap) : Heap := { h with objs := #[] }
def ledger (h : Heap) (L d : Addr) : List (Addr × Obj) := (List.range h.objs.size).filterMap fun a => if a = L ∨ a = d then none else (h.get? a).map fun o => (a, o)
end
end Att
namespace L2
open PySem PySem.Spec PyProof.Rows
theorem vals_ints : ∀ {vs : List Value} {ns : List Int}, IntsAre vs ns → Vals (ns.map V.int) vs
  | _, _, .nil => .nil
  | _, _, .cons n t h => .cons ⟨t, rfl⟩ (vals_ints h)
def Only (H : Hp) : Prop := ∀ b, H b = none ∨ ∃ o xs, H b = some (.frz o (.lst xs))
theorem law_call {P : Program} {w : World} {K : PySem.W.Frag} {mg mb : Str → Option Value} {CX : CXT} {k : Nat} {fa a : Addr} {fd : FuncData} {x : Str} {sp : Sp} {s₁ : Shared} {vs : List Value} {ns : List Int}
    (KX : K.In s₁.heap) (hns : s₁.heap.Ns mainGlobals mg) (hb : s₁.heap.Ns builtinsNs mb) (hbb : ∀ x : Str, x ≠ "__name__" → mb x = bootBuiltins x) (hlim : s₁.heap.NoLimit) (hg : s₁.gens = #[])
    (ha : s₁.heap.get? a = some { cls := .type "list", data := .seq vs.toArray }) (hi : IntsAre vs ns) (hl : ns.length ≤ sizeLine) (hr : Room k callerA)
    (F : ∀ base : Heap, K.In base → base.Ns mainGlobals mg → FnOk P w K mg base CX k fa fd [x] sp) (hbind : ∀ (s : Shared) (u : Value), BindsTo s fd ⟨[u], []⟩ [(x, u)])
    (hsp : ∀ H : Hp, Only H → SqL K H a (ns.map V.int) → sp [.ref a] H (fun v _ => v = .bl true) fun _ _ _ => False)
    (hCX : ∀ H e s', CX [] H s₁ (fun _ _ _ => False) e s' → False) :
    codeAny (model P w) callerA (.call (.ref fa) ⟨[.ref a], []⟩) (fun r s' => r = .ok (.ret (.bool true)) ∧ OldK s₁.heap s'.heap ∧ s'.os = s₁.os ∧ AllBare s'.gens) s₁ := by
  have rv := vals_ints hi
  have lenV := hi.length
  -- from an abstract heap in which nothing but the script may be tracked
  have core : ∀ H : Hp, Only H → SqL K H a (ns.map V.int) → HOk P w H s₁.heap → (∀ b, H b ≠ none → b = a) → (H a ≠ none → K.lookup a = none) →
      codeAny (model P w) callerA (.call (.ref fa) ⟨[.ref a], []⟩) (fun r s' => r = .ok (.ret (.bool true)) ∧ OldK s₁.heap s'.heap ∧ s'.os = s₁.os ∧ AllBare s'.gens) s₁ := by
    intro H hO hS hok hA hK
    have base_of : ∀ {b : Addr} {o : Obj}, s₁.heap.get? b = some o → H b = none → (hidT s₁.heap H).get? b = some o := fun e n => hidT_get e n
    have noA : ∀ {b : Addr} {o : Obj} {es : Array DictEntry} {ep : Nat}, s₁.heap.get? b = some o → o.data = .dict es ep → H b = none := fun {b o es ep} e d => by
      cases q : H b with
      | none => rfl
      | some u =>
        have e' : b = a := hA b (by rw [q]; simp)
        subst e'
        rw [ha] at e; cases e
        have d' : Data.seq vs.toArray _ = Data.dict es ep := d
        cases d'
    have nsK : ∀ {b : Addr} {m : Str → Option Value}, s₁.heap.Ns b m → (hidT s₁.heap H).Ns b m := fun {b m} ⟨o, es, ep, e, d, r⟩ => ⟨o, es, ep, base_of e (noA e d), d, r⟩
    have hKb : K.In (hidT s₁.heap H) := fun b o e => base_of (KX b o e) (by
      cases q : H b with
      | none => rfl
      | some u =>
        have e' : b = a := hA b (by rw [q]; simp)
        subst e'
        rw [hK (by rw [q]; simp)] at e; cases e)
    have hM : Mod K mg (hidT s₁.heap H) := ⟨hKb, nsK hns, ⟨mb, nsK hb, hbb⟩, let ⟨mc, h1, h2⟩ := hlim; ⟨mc, nsK h1, h2⟩⟩
    have e0 : Env0 P w K mg (hidT s₁.heap H) callerA [] s₁ H := ⟨rfl, hM, fun b o e => of_hidT e, Nat.le_of_eq (hidT_size _ _), trivial, fun b hb => absurd (show b ∈ ([] : List Addr) from hb) (by simp), hok, .of_eq hg⟩
    refine codeAny_mono ((F _ hKb (nsK hns)).run callerA [] s₁ H ⟨[.ref a], []⟩ [.ref a] [.ref a] _ _ hr e0 (hbind s₁ (.ref a)) (.cons rfl .nil) (hsp H hO hS)) fun r s' h => ?_
    cases r with
    | error e => exact (hCX H e s' h).elim
    | ok fl =>
      cases fl with
      | next => exact False.elim h
      | brk => exact False.elim h
      | cont => exact False.elim h
      | ret u =>
        obtain ⟨v, H', os, bare, un, hok', r', q⟩ := h
        have q' : v = .bl true := q
        subst q'
        obtain rfl : u = Value.bool true := r'
        refine ⟨rfl, OldK.of_keep fun b o e => ?_, os, bare⟩
        cases q : H b with
        | none => exact un.keep b o e q (by intro z; exact absurd (show b ∈ ([] : List Addr) from z) (by simp)) (by simp)
        | some u =>
          rcases hO b with z | ⟨ob, xs, z⟩
          · rw [q] at z; cases z
          · have z2 := un.frzs b ob _ z
            obtain ⟨e1, _⟩ := hok b _ z
            obtain ⟨e2, _⟩ := hok' b _ z2
            rw [e] at e1; cases e1
            exact e2
  cases hk : K.lookup a with
  | some o =>
    -- the script is one of the module's own objects
    have e := KX a o hk
    rw [ha] at e
    cases e
    refine core (fun _ => none) (fun _ => .inl rfl) (.inr ⟨_, vs.toArray, _, hk, rfl, rfl, rfl, by rw [List.size_toArray, lenV]; exact hl, by simpa using rv⟩) (fun b u z => by have z' : (none : Option HO) = some u := z; cases z') (fun b z => absurd rfl z) fun z => absurd rfl z
  | none =>
    refine core (fun b => if b = a then some (.frz { cls := .type "list", data := .seq vs.toArray } (.lst (ns.map V.int))) else none) (fun b => ?_) (.inl (.inr ⟨{ cls := .type "list", data := .seq vs.toArray }, if_pos rfl⟩)) (fun b u z => ?_) (fun b z => ?_) fun _ => hk
    · by_cases hb : b = a
      · exact .inr ⟨_, _, if_pos hb⟩
      · exact .inl (if_neg hb)
    · by_cases hb : b = a
      · have z' := (if_pos hb).symm.trans z
        cases z'
        subst hb
        exact ⟨ha, by rw [List.length_map]; exact hl, vs, _, rv, ha⟩
      · have z' := (if_neg hb).symm.trans z
        cases z'
    · by_cases hb : b = a
      · exact hb
      · exact absurd (if_neg hb) z
end L2
namespace L2
open PySem PySem.Spec PyProof.Rows
abbrev KOf {K : PySem.W.Frag} {h : Heap} (_ : K.In h) : PySem.W.Frag := K
theorem walk_of {l : PySem.W.OpenLaw} {n k : Nat} {q : Program} {loose : List Str} {XP : (Str → Option Value) → Heap → Prop} {YP : World → Heap → Prop} {d : DefRec} {K : Params → PySem.W.Frag} {CX : World → CXT} {sp : World → Sp} {x : Str}
    (hn : l.most = some n) (hn2 : n ≤ sizeLine) (hdf : d.params.defaults = []) (hr : Room k callerA)
    (hY : ∀ (w : World) (h : Heap), YP w h → (K w.params).In h)
    (F : ∀ (w : World) (mg : Str → Option Value) (fa : Addr) (h : Heap), (K w.params).In h → h.Ns mainGlobals mg → mg d.name = some (.ref fa) →
      ∃ fd : FuncData, (∀ (s : Shared) (u : Value), BindsTo s fd ⟨[u], []⟩ [(x, u)]) ∧
        ∀ base : Heap, (K w.params).In base → base.Ns mainGlobals mg → FnOk l.prog w (K w.params) mg base (CX w) k fa fd [x] (sp w))
    (hsp : ∀ (w : World) (H : Hp) (a : Addr) (ns : List Int), ns.length ≤ n → Only H → SqL (K w.params) H a (ns.map V.int) → sp w [.ref a] H (fun v _ => v = .bl true) fun _ _ _ => False)
    (hCX : ∀ (w : World) (H : Hp) (s : Shared) (e : Value) (s' : Shared), CX w [] H s (fun _ _ _ => False) e s' → False) :
    PySem.W.WalkO q loose XP YP l.row.toRowW d [] (fun f vs => PySem.call f vs) := by
  refine Att.attach_call hn hdf fun w s₀ s₁ mg mb fa o pm cd doc a vs ns G Y ho hd hcd hmg hobj hints hlen hg => ?_
  have KX := hY w _ Y
  obtain ⟨fd, hb, hF⟩ := F w mg fa _ KX G.T.g hmg
  exact law_call KX G.T.g G.T.b G.T.builtins G.T.nolimit hg hobj hints (Nat.le_trans hlen hn2) hr hF hb (fun H hO hS => hsp w H a ns hlen hO hS) fun H e s' => hCX w H s₁ e s'
end L2
/- THE LAST THEOREM (shape; LID, My.* are yours):
   My.Adr: a structure of the addresses that your layer names (classes, functions); My.Txt K t: a structure (Prop) of the equations over K;
   My.txt_mk : {K} {implicit addresses ..} (e1 : nsIn K mainGlobals "law" = some (some (.ref f))) (e2 : K.lookup f = some ⟨oc, od, .func (fnOf "law" "law" params body scope dV kV doc pm an cdv ct), sl⟩) (e3 : codeIn K cdv "law" = true) .. : ∃ t, My.Txt K t
set_option maxRecDepth 100000 in
set_option maxHeartbeats 0 in
theorem PySem.Challenge.cw_LID_holds : PySem.Challenge.rw_LID.Holds := by
  w_on; o_law; k_head; (case hw => w_witness2)
  k_fill
  refine L2.walk_of (l := PySem.Challenge.rw_LID) (n := 63) (k := 40) (x := "script") (CX := fun w => ..) (sp := fun _ => My.sp_law) rfl (by decide) rfl ⟨rfl, by decide, by decide⟩ (fun w h Y => PySem.W.kIn_of Y) ?F ?S ?C
  case F =>
    intro w mg fa h KX G hmg
    have T : ∃ t, My.Txt (L2.KOf KX) t := by
      dsimp only [L2.KOf]                          -- K must stand as «<heap const> w.params» for k_is
      refine' My.txt_mk ?e1 ?e2 ?e3 ..
      (case e1 => PySem.W.k_is)                    -- in the order: a name -> its address -> its object -> its parts
      (case e2 => PySem.W.k_is)
      ..
    obtain ⟨t, T⟩ := T
    have e0 := hmg.symm.trans (PySem.W.mg_of KX G T.law)
    cases e0                                       -- fa is the law's own address
    exact ⟨_, fun s u => .of_eq rfl, fun base kb nb => My.law_fn T kb nb⟩     -- if «.of_eq rfl» comes too early: refine' ⟨_, ?b, fun base kb nb => My.law_fn T kb nb⟩; exact fun s u => .of_eq rfl
  case S => exact fun w H a ns hl hO hS => ..
  case C => exact ..
(the tactic k_is has no namespace: write k_is) -/
namespace L2
open PySem PySem.Spec PyProof.Rows
def inClass (s : Stmt) (j : Nat) : Stmt := match s with
  | .ClassDef _ _ _ body _ _ _ _ _ _ _ => body.getD j (.Pass ⟨0, 0, 0, 0⟩)
  | _ => .Pass ⟨0, 0, 0, 0⟩
def defArgs (s : Stmt) : Arguments := match s with
  | .FunctionDef _ a _ _ _ _ _ _ _ _ => a
  | _ => { posonlyargs := [], args := [], vararg := none, kwonlyargs := [], kw_defaults := [], kwarg := none, defaults := [] }
def defBody (s : Stmt) : List Stmt := match s with
  | .FunctionDef _ _ b _ _ _ _ _ _ _ => b
  | _ => []
def defScope (s : Stmt) : Scope := match s with
  | .FunctionDef _ _ _ _ _ _ sc _ _ _ => sc
  | _ => { kind := .function, names := [], isGenerator := false, isCoroutine := false }
abbrev CX0 : CXT := fun _ _ _ _ _ _ => False
abbrev E0 : XK := fun _ _ _ => False
theorem pass0 {X : Cx} : Passes CX0 X E0 := fun _ _ _ _ _ _ _ h => h.elim
structure Fun (K : PySem.W.Frag) (x qual : Str) (st : Stmt) (f : Addr) (fd : FuncData) : Prop where
  ex : ∃ (oc : Value) (od : Option Addr) (kV doc pm : Value) (an : Option Addr) (cdv ct : Value) (osl : Array (Option Value)),
    fd = PySem.W.fnOf x qual (defArgs st) (defBody st) (defScope st) .none kV doc pm an cdv ct ∧ K.lookup f = some ⟨oc, od, .func fd, osl⟩ ∧ PySem.W.codeIn K cdv qual = true
  kp : PySem.W.keepIn K (.ref f) = true
section
variable {P : Program} {w : World} {K : PySem.W.Frag} {mg : Str → Option Value} {base : Heap}
theorem Fun.ok {x qual : Str} {st : Stmt} {f : Addr} {fd : FuncData} {N ps : List Str} {k : Nat} {sp : Sp} (F : Fun K x qual st f fd) (S : FnScope N ps (defScope st)) (len : ∀ vs H Q E, sp vs H Q E → vs.length = ps.length)
    (hbody : ∀ (cdv : Value) (A : Around) (outer : List Env) (s : Shared) (H : Hp) (vs : List V) (Q : VK) (E : XK), Room k (A.deeper (envOfC qual (defScope st) s.heap.objs.size f cdv)) → sp vs H Q E →
      ∃ t, PSs (cxOf CX0 P w K mg base N qual (defScope st) f cdv A outer s H E).nox (defBody st) t ∧ t { nx := fun _ H' => Q .non H', rt := Q } (start N vs) H) : FnOk P w K mg base CX0 (k + 1) f fd ps sp := by
  obtain ⟨oc, od, kV, doc, pm, an, cdv, ct, osl, rfl, lk, hcd⟩ := F.ex
  refine fn_of lk hcd S len fun A outer s H vs Q E hr hsp => ?_
  obtain ⟨t, h, q⟩ := hbody cdv A outer s H vs Q E hr hsp
  exact ⟨t, h.nox, q⟩
theorem Fun.binds {x qual : Str} {st : Stmt} {f : Addr} {fd : FuncData} {ps : List Str} (F : Fun K x qual st f fd)
    (h : ∀ (kV doc pm : Value) (an : Option Addr) (cdv ct : Value) (us : List Value), us.length = ps.length → bindArgs (PySem.W.fnOf x qual (defArgs st) (defBody st) (defScope st) .none kV doc pm an cdv ct) ⟨us, []⟩ = pure (ps.zip us)) : Binds K fd ps [] := by
  obtain ⟨oc, od, kV, doc, pm, an, cdv, ct, osl, rfl, lk, hcd⟩ := F.ex
  exact .all (h kV doc pm an cdv ct)
theorem fun_mk {x qual : Str} {st : Stmt} {f : Addr} {oc : Value} {od an : Option Addr} {osl : Array (Option Value)} {kV doc pm cdv ct : Value} (l : K.lookup f = some ⟨oc, od, .func (PySem.W.fnOf x qual (defArgs st) (defBody st) (defScope st) .none kV doc pm an cdv ct), osl⟩)
    (c : PySem.W.codeIn K cdv qual = true) (k : PySem.W.keepIn K (.ref f) = true) : Fun K x qual st f (PySem.W.fnOf x qual (defArgs st) (defBody st) (defScope st) .none kV doc pm an cdv ct) := ⟨⟨oc, od, kV, doc, pm, an, cdv, ct, osl, rfl, l, c⟩, k⟩
end
theorem small1000 {n : Nat} (h : n ≤ 1000) : n < sizeLine := Nat.lt_of_le_of_lt h (by decide)
section
variable {X : Cx}
theorem pv (i : Nat) {x : Str} {pos : Pos} (hN : X.N[i]? = some x := by rfl) (hv : Vis X.env.scope x := by first | exact Or.inl rfl | exact Or.inr (Or.inl rfl) | exact Or.inr (Or.inr rfl)) (hd : (x == ("__debug__" : Str)) = false := by decide)
    (hcd : (x == ("__classdict__" : Str)) = false := by decide) : PE X (.Name x pos) (tVar i) := pe_var hN hv hd hcd
end
theorem iteF {A B : Prop} (h : B) : if false = true then A else B := by
  rw [if_neg Bool.false_ne_true]
  exact h
theorem iteT {A B : Prop} (h : A) : if true = true then A else B := by
  rw [if_pos rfl]
  exact h
theorem ite2 {c A B : Prop} [Decidable c] (h1 : c → A) (h2 : ¬ c → B) : if c then A else B := by
  by_cases h : c
  · rw [if_pos h]
    exact h1 h
  · rw [if_neg h]
    exact h2 h
def Same (H H' : Hp) : Prop := ∀ b o, H b = some o → H' b = some o
theorem Same.refl (H : Hp) : Same H H := fun _ _ h => h
theorem Same.trans {H H1 H2 : Hp} (a : Same H H1) (b : Same H1 H2) : Same H H2 := fun c o h => b c o (a c o h)
theorem Same.free {H H' : Hp} (e : Same H H') {l : Addr} (h : H' l = Option.none) : H l = Option.none := by
  cases q : H l with
  | none => rfl
  | some o =>
    rw [e l o q] at h
    cases h
theorem Same.seq {K : PySem.W.Frag} {H H' : Hp} {a : Addr} {xs : List V} (e : Same H H') (h : SqL K H a xs) : SqL K H' a xs := by
  rcases h with (h | ⟨o, h⟩) | h
  · exact .inl (.inl (e _ _ h))
  · exact .inl (.inr ⟨o, e _ _ h⟩)
  · exact .inr h
end L2
namespace L2
open PySem PySem.Spec PyProof.Rows
theorem cf_or {x : Str} {c : Addr} : ∀ (names : List (Str × NameKind)) (n : Nat) (acc : List (Str × Addr)), (cellsFrom n names acc).lookup x = some c → n ≤ c ∨ acc.lookup x = some c
  | [], _, _, h => .inr h
  | (y, k) :: r, n, acc, h => by
    unfold cellsFrom at h
    split at h
    · rcases cf_or r (n + 1) _ h with z | z
      · exact .inl (Nat.le_of_succ_le z)
      · rw [List.lookup_cons] at z
        cases e : x == y with
        | true => rw [e] at z; cases z; exact .inl (Nat.le_refl _)
        | false => rw [e] at z; exact .inr z
    · exact cf_or r n acc h
theorem cf_own {x : Str} {c : Addr} : ∀ (names : List (Str × NameKind)) (n : Nat) (acc : List (Str × Addr)), (x, NameKind.cell) ∈ names → (cellsFrom n names acc).lookup x = some c → n ≤ c
  | [], _, _, m, _ => nomatch m
  | (y, k) :: r, n, acc, m, h => by
    unfold cellsFrom at h
    split at h
    · by_cases m' : (x, NameKind.cell) ∈ r
      · exact Nat.le_of_succ_le (cf_own r (n + 1) _ m' h)
      · have e : (x, NameKind.cell) = (y, k) := (List.mem_cons.mp m).resolve_right m'
        cases e
        rcases cf_or r (n + 1) _ h with z | z
        · exact Nat.le_of_succ_le z
        · rw [List.lookup_cons, beq_self_eq_true] at z
          cases z
          exact Nat.le_refl _
    · rename_i hk
      have m' : (x, NameKind.cell) ∈ r := by
        rcases List.mem_cons.mp m with e | m'
        · cases e; exact absurd rfl hk
        · exact m'
      exact cf_own r n acc m' h
theorem cf_out {x : Str} : ∀ {names : List (Str × NameKind)} {n : Nat} {acc : List (Str × Addr)}, (x, NameKind.cell) ∉ names → (cellsFrom n names acc).lookup x = acc.lookup x
  | [], _, _, _ => rfl
  | (y, k) :: r, n, acc, h => by
    unfold cellsFrom
    have hr : (x, NameKind.cell) ∉ r := fun m => h (List.mem_cons_of_mem _ m)
    split
    · rename_i hk
      have hy : (x == y) = false := by
        cases e : x == y with
        | false => rfl
        | true =>
          exfalso
          refine h ?_
          rw [beq_iff_eq.mp e, beq_iff_eq.mp hk]
          exact List.mem_cons_self
      rw [cf_out hr, List.lookup_cons, hy]
    · exact cf_out hr
theorem cf_inj : ∀ (names : List (Str × NameKind)) (n : Nat) (acc : List (Str × Addr)), (∀ x c, acc.lookup x = some c → c < n) → (∀ x y c, acc.lookup x = some c → acc.lookup y = some c → x = y) →
    ∀ x y c, (cellsFrom n names acc).lookup x = some c → (cellsFrom n names acc).lookup y = some c → x = y
  | [], _, _, _, hi => hi
  | (z, k) :: r, n, acc, hl, hi => by
    unfold cellsFrom
    split
    · refine cf_inj r (n + 1) _ (fun x c h => ?_) (fun x y c h1 h2 => ?_)
      · rw [List.lookup_cons] at h
        cases e : x == z with
        | true => rw [e] at h; cases h; exact Nat.lt_succ_self _
        | false => rw [e] at h; exact Nat.lt_succ_of_lt (hl x c h)
      · rw [List.lookup_cons] at h1 h2
        cases e1 : x == z with
        | true =>
          rw [e1] at h1
          cases h1
          cases e2 : y == z with
          | true => rw [beq_iff_eq.mp e1, beq_iff_eq.mp e2]
          | false => rw [e2] at h2; exact absurd (hl y _ h2) (Nat.lt_irrefl _)
        | false =>
          rw [e1] at h1
          cases e2 : y == z with
          | true => rw [e2] at h2; cases h2; exact absurd (hl x _ h1) (Nat.lt_irrefl _)
          | false => rw [e2] at h2; exact hi x y c h1 h2
    · exact cf_inj r n acc hl hi
theorem cf_cell {x : Str} {c : Addr} : ∀ (names : List (Str × NameKind)) (h : Heap) (acc : List (Str × Addr)), (cellsFrom h.objs.size names acc).lookup x = some c → (pushCells h names).IsCell c none ∨ acc.lookup x = some c
  | [], _, _, z => .inr z
  | (y, k) :: r, h, acc, z => by
    unfold cellsFrom at z
    unfold pushCells
    split at z
    · rename_i hk
      rw [if_pos hk]
      have z' : (cellsFrom (h.push { cls := .type "cell", data := .cell none }).objs.size r ((y, h.objs.size) :: acc)).lookup x = some c := by rw [Heap.size_push]; exact z
      rcases cf_cell r _ _ z' with q | q
      · exact .inl q
      · rw [List.lookup_cons] at q
        cases e : x == y with
        | true =>
          rw [e] at q
          cases q
          exact .inl ⟨_, pushCells_keeps _ _ _ _ (Heap.get?_push_size _ rfl), rfl⟩
        | false => rw [e] at q; exact .inr q
    · rename_i hk
      rw [if_neg hk]
      exact cf_cell r h acc z
theorem clos_go {env : Env} (f : Str × NameKind → List (Str × Addr) → Sem (ForInStep (List (Str × Addr))))
    (hf : ∀ name kind cs, f (name, kind) cs = if kind == .free then (do let a ← cellOf env name; pure (.yield ((name, a) :: cs))) else pure (.yield cs)) :
    ∀ (names : List (Str × NameKind)) (acc : List (Str × Addr)), (∀ y ∈ names, y.2 = .free → ∃ c, env.cells.lookup y.1 = some c) → (∀ x c, acc.lookup x = some c → env.cells.lookup x = some c) →
    ∃ cl, forIn names acc f = pure cl ∧ (∀ x c, cl.lookup x = some c → env.cells.lookup x = some c) ∧ (∀ y ∈ names, y.2 = .free → ∃ c, cl.lookup y.1 = some c) ∧ ∀ x c, acc.lookup x = some c → ∃ c', cl.lookup x = some c'
  | [], acc, _, ha => ⟨acc, rfl, ha, (fun _ m => nomatch m), fun x c e => ⟨c, e⟩⟩
  | (y, k) :: r, acc, h, ha => by
    rw [List.forIn_cons, hf]
    have hr : ∀ y ∈ r, y.2 = NameKind.free → ∃ c, env.cells.lookup y.1 = some c := fun z m => h z (List.mem_cons_of_mem _ m)
    by_cases hk : (k == NameKind.free) = true
    · obtain ⟨c, hc⟩ := h (y, k) List.mem_cons_self (beq_iff_eq.mp hk)
      have e : cellOf env y = pure c := by unfold cellOf; rw [hc]
      rw [if_pos hk, e, pure_bind, pure_bind]
      have ha' : ∀ x d, ((y, c) :: acc).lookup x = some d → env.cells.lookup x = some d := fun x d e => by
        rw [List.lookup_cons] at e
        cases e1 : x == y with
        | true => rw [e1] at e; cases e; rw [beq_iff_eq.mp e1]; exact hc
        | false => rw [e1] at e; exact ha x d e
      obtain ⟨cl, q1, q2, q3, q4⟩ := clos_go f hf r ((y, c) :: acc) hr ha'
      refine ⟨cl, q1, q2, fun z m hz => ?_, fun x d e => ?_⟩
      · rcases List.mem_cons.mp m with e | m
        · subst e
          exact q4 y c (by rw [List.lookup_cons, beq_self_eq_true])
        · exact q3 z m hz
      · by_cases e1 : (x == y) = true
        · exact q4 x c (by rw [List.lookup_cons, e1])
        · exact q4 x d (by rw [List.lookup_cons]; simp only [e1]; exact e)
    · rw [if_neg hk, pure_bind]
      obtain ⟨cl, q1, q2, q3, q4⟩ := clos_go f hf r acc hr ha
      refine ⟨cl, q1, q2, fun z m hz => ?_, q4⟩
      rcases List.mem_cons.mp m with e | m
      · subst e; exact absurd (beq_iff_eq.mpr hz) hk
      · exact q3 z m hz
theorem clos_ok {scope : Scope} {env : Env} (h : ∀ y ∈ scope.names, y.2 = .free → ∃ c, env.cells.lookup y.1 = some c) :
    ∃ cl, closureFor scope env = pure cl ∧ (∀ x c, cl.lookup x = some c → env.cells.lookup x = some c) ∧ ∀ y ∈ scope.names, y.2 = .free → ∃ c, cl.lookup y.1 = some c := by
  obtain ⟨cl, q1, q2, q3, _⟩ := clos_go (env := env) (fun x cs => if x.2 == .free then (do let a ← cellOf env x.1; pure (.yield ((x.1, a) :: cs))) else pure (.yield cs)) (fun _ _ _ => rfl) scope.names [] h (fun _ _ e => nomatch e)
  refine ⟨cl, ?_, q2, q3⟩
  unfold closureFor
  have e : (fun (x : Str × NameKind) (r : List (Str × Addr)) => (match x with
      | (name, kind) => if (kind == NameKind.free) = true then (do let __do_lift ← cellOf env name; pure (ForInStep.yield ((name, __do_lift) :: r))) else pure (ForInStep.yield r) : Sem (ForInStep (List (Str × Addr))))) =
      fun x cs => if x.2 == .free then (do let a ← cellOf env x.1; pure (.yield ((x.1, a) :: cs))) else pure (.yield cs) := by
    funext x cs
    rfl
  have q : (forIn scope.names ([] : List (Str × Addr)) fun (x : Str × NameKind) (r : List (Str × Addr)) => (match x with
      | (name, kind) => if (kind == NameKind.free) = true then (do let __do_lift ← cellOf env name; pure (ForInStep.yield ((name, __do_lift) :: r))) else pure (ForInStep.yield r) : Sem (ForInStep (List (Str × Addr))))) = pure cl := by
    rw [e]; exact q1
  simpa using q
theorem newEnv_block {M : Model} {A : Around} {E : Value → Shared → Prop} {s : Shared} {scope : Scope} {globals : Addr} {cl : List (Str × Addr)} {qual : Str} {env : Env} {Q : Env → Shared → Prop}
    (hQ : ∀ h', h'.Ns s.heap.objs.size (fun _ => none) → (∀ b o, s.heap.get? b = some o → h'.get? b = some o) →
      (∀ x c, (cellsFrom (s.heap.objs.size + 1) scope.names cl).lookup x = some c → h'.IsCell c none ∨ cl.lookup x = some c) →
      Q { scope, locals := s.heap.objs.size, globals, cells := cellsFrom (s.heap.objs.size + 1) scope.names cl, qual, func := none, code := env.code, frame := env.frame, builtins := env.builtins } { s with heap := h' }) :
    wpAny M A (newFunctionEnv scope globals cl [] qual none .none (some env)) Q E s := by
  simp only [newFunctionEnv, Option.isSome_some, if_true]
  refine wpAny_bind (wpAny_alloc ?_)
  refine wpAny_bind (wpAny_layCells _ (fun name kind cells => by cases hkc : kind == NameKind.cell <;> simp [hkc]) _ _ _ _ ?_)
  have hsz : (s.heap.push { cls := .type "dict", data := .dict #[] }).objs.size = s.heap.objs.size + 1 := Heap.size_push ..
  have q := hQ (pushCells (s.heap.push { cls := .type "dict", data := .dict #[] }) scope.names) ((Heap.Ns.new s.heap (.type "dict")).keeps (pushCells_keeps _ _)) (fun b o e => pushCells_keeps _ _ b o (Heap.get?_push_of_some _ e))
    (fun x c e => cf_cell scope.names (s.heap.push { cls := .type "dict", data := .dict #[] }) cl (by rw [hsz]; exact e))
  show wpAny _ _ _ _ _ _
  rw [show ({ s with heap := s.heap.push { cls := .type "dict", data := .dict #[] } } : Shared).heap.objs.size = s.heap.objs.size + 1 from hsz]
  exact wpAny_bind (wpAny_pure (wpAny_pure q))
theorem relabel_free {env : Env} {x : Str} : ∀ {names : List (Str × NameKind)}, names.lookup x = some .free →
    (names.map fun (n, k) => if (k == NameKind.free && env.scope.kind == .function && env.kindOf n == some .cell) then (n, NameKind.cell) else (n, k)).lookup x = some .cell ∨
    (names.map fun (n, k) => if (k == NameKind.free && env.scope.kind == .function && env.kindOf n == some .cell) then (n, NameKind.cell) else (n, k)).lookup x = some .free
  | [], h => by simp at h
  | (n, k) :: r, h => by
    have ih := @relabel_free env x r
    show List.lookup x ((if (k == NameKind.free && env.scope.kind == .function && env.kindOf n == some .cell) = true then (n, NameKind.cell) else (n, k)) :: _) = _ ∨ List.lookup x ((if (k == NameKind.free && env.scope.kind == .function && env.kindOf n == some .cell) = true then (n, NameKind.cell) else (n, k)) :: _) = _
    cases hx : x == n with
    | true =>
      simp only [List.lookup_cons, hx] at h
      cases h
      split <;> simp [List.lookup_cons, hx]
    | false =>
      simp only [List.lookup_cons, hx] at h
      split <;> (simp only [List.lookup_cons, hx]; exact ih h)
theorem relabel_back {env : Env} {x : Str} {kd : NameKind} : ∀ {names : List (Str × NameKind)},
    (names.map fun (n, k) => if (k == NameKind.free && env.scope.kind == .function && env.kindOf n == some .cell) then (n, NameKind.cell) else (n, k)).lookup x = some kd →
    names.lookup x = some kd ∨ names.lookup x = some .free
  | [], h => by simp at h
  | (n, k) :: r, h => by
    have ih := @relabel_back env x kd r
    have h' : List.lookup x ((if (k == NameKind.free && env.scope.kind == .function && env.kindOf n == some .cell) = true then (n, NameKind.cell) else (n, k)) :: (r.map fun (n, k) => if (k == NameKind.free && env.scope.kind == .function && env.kindOf n == some .cell) then (n, NameKind.cell) else (n, k))) = some kd := h
    cases hx : x == n with
    | true =>
      by_cases hc : (k == NameKind.free && env.scope.kind == .function && env.kindOf n == some .cell) = true
      · have hk : k = .free := by
          have := (Bool.and_eq_true _ _ ▸ (Bool.and_eq_true _ _ ▸ hc).1).1
          exact beq_iff_eq.mp this
        subst hk
        exact .inr (by simp [List.lookup_cons, hx])
      · rw [if_neg hc] at h'
        simp only [List.lookup_cons, hx] at h'
        cases h'
        exact .inl (by simp [List.lookup_cons, hx])
    | false =>
      have h2 : List.lookup x (r.map fun (n, k) => if (k == NameKind.free && env.scope.kind == .function && env.kindOf n == some .cell) then (n, NameKind.cell) else (n, k)) = some kd := by
        split at h' <;> simpa only [List.lookup_cons, hx] using h'
      rcases ih h2 with z | z
      · exact .inl (by simp only [List.lookup_cons, hx]; exact z)
      · exact .inr (by simp only [List.lookup_cons, hx]; exact z)
def cxIn (X : Cx) (N : List Str) (scope : Scope) (cl : List (Str × Addr)) (s : Shared) (H : Hp) (fp : List Addr) : Cx where
  prog := X.prog
  w := X.w
  K := X.K
  mg := X.mg
  base := X.base
  A := X.A
  N := N
  s₀ := s
  H₀ := H
  env := { scope := relabel scope X.env, locals := s.heap.objs.size, globals := X.env.globals, cells := cellsFrom (s.heap.objs.size + 1) scope.names cl, qual := X.env.qual, func := none, code := X.env.code, frame := X.env.frame, builtins := X.env.builtins }
  outer := X.stack
  stack := X.stack
  ex := fp
  fn := fun x => scope.names.lookup x == some .cell
  calm := X.calm
  pn := []
  xe := fun _ _ => False
structure BlScope (X : Cx) (scope : Scope) (own : List Str) (fr : List (Str × Nat)) : Prop where
  kind : scope.kind = .function
  free : ∀ y ∈ scope.names, y.2 = .free → X.env.scope.names.lookup y.1 = some .cell ∨ X.env.scope.names.lookup y.1 = some .free
  loc : ∀ y ∈ scope.names, y.2 = .local → scope.names.lookup y.1 = some .local
  look : ∀ y ∈ scope.names, scope.names.lookup y.1 = some y.2
  cap : ∀ y ∈ fr, scope.names.lookup y.1 = some .free ∧ X.N[y.2]? = some y.1
def capS (k : Nat) (fr : List (Str × Nat)) (σ : St) : St := List.replicate k none ++ fr.map fun y => (σ[y.2]?).getD none
def capN (own : List Str) (fr : List (Str × Nat)) : List Str := own ++ fr.map (·.1)
section
variable {X : Cx} {pins : List (Addr × Obj)} {σ : St} {H : Hp} {s : Shared}
theorem inv_block {scope : Scope} {own : List Str} {fr : List (Str × Nat)} {cl : List (Str × Addr)} {fp : List Addr} {h' : Heap} (I : Inv X pins σ H s) (B : BlScope X scope own fr)
    (hcl : ∀ x c, cl.lookup x = some c → X.env.cells.lookup x = some c) (hcl2 : ∀ y ∈ scope.names, y.2 = .free → ∃ c, cl.lookup y.1 = some c)
    (hfp : ∀ b ∈ fp, FpOk X pins H b) (hfo : ∀ b ∈ fp, ∃ o, s.heap.get? b = some o)
    (hn : h'.Ns s.heap.objs.size (fun _ => none)) (hk : ∀ b o, s.heap.get? b = some o → h'.get? b = some o)
    (hc : ∀ x c, (cellsFrom (s.heap.objs.size + 1) scope.names cl).lookup x = some c → h'.IsCell c none ∨ cl.lookup x = some c) :
    Inv (cxIn X (capN own fr) scope cl s H fp) [] (capS own.length fr σ) H { s with heap := h' } := by
  have clt : ∀ x c, cl.lookup x = some c → c < s.heap.objs.size := fun x c e => by
    obtain ⟨v, z⟩ := I.cell x c (hcl x c e)
    exact z.lt
  have ownC : ∀ x c, (cellsFrom (s.heap.objs.size + 1) scope.names cl).lookup x = some c → s.heap.objs.size + 1 ≤ c ∨ cl.lookup x = some c := fun x c e => cf_or _ _ _ e
  have bsz : X.base.objs.size ≤ s.heap.objs.size := Nat.le_trans I.ok.bsz I.sz
  refine ⟨⟨I.ok.mod, B.kind, I.ok.glob, I.ok.blt, Nat.le_refl _, ?_, ?_, ?_, I.ok.hd, I.ok.frames, .inl rfl, ?_, I.bs, bsz, ?_, ?_, I.stack, I.stkFree⟩, rfl, I.bare, Un.kept hk, ⟨_, hn, ?_⟩, ?_, I.hok.fresh (Nat.le_refl _), ?_, ?_, I.hok.kept hk, ?_⟩
  · exact cf_inj _ _ _ (fun x c e => Nat.lt_succ_of_lt (clt x c e)) fun x y c e1 e2 => I.ok.inj x y c (hcl x c e1) (hcl y c e2)
  · intro x hx
    have hx : (relabel scope X.env).names.lookup x = some .cell ∨ (relabel scope X.env).names.lookup x = some .free := hx
    have q : scope.names.lookup x = some .cell ∨ scope.names.lookup x = some .free := by
      rcases hx with z | z
      · exact relabel_back z
      · exact (relabel_back z).elim .inr .inr
    refine Option.isSome_iff_exists.mp (PySem.W.cellsFrom_some scope.names _ _ ?_)
    rcases q with z | z
    · exact .inl z
    · obtain ⟨c, e⟩ := hcl2 _ (PySem.mem_of_lookup z) rfl
      exact .inr (by rw [e]; rfl)
  · intro x c hf e
    have hf : (scope.names.lookup x == some .cell) = true := hf
    exact Nat.le_of_succ_le (cf_own _ _ _ (PySem.mem_of_lookup (beq_iff_eq.mp hf)) e)
  · intro b hb
    obtain ⟨o, ho⟩ := hfo b hb
    refine ⟨Nat.ne_of_lt (Heap.lt_size ho), fun x c e => ?_⟩
    rcases ownC x c e with z | z
    · intro q
      subst q
      exact absurd (Nat.lt_of_lt_of_le (Heap.lt_size ho) (Nat.le_of_succ_le z)) (Nat.lt_irrefl _)
    · exact (hfp b hb).2.2.2.2.1 x c (hcl x c z)
  · intro b o e hb
    rcases (hfp b hb).2.2.2.1 with z | z
    · exact I.ok.noex b o e z
    · exact absurd (Nat.lt_of_lt_of_le (Heap.lt_size e) (Nat.le_trans I.ok.bsz z)) (Nat.lt_irrefl _)
  · intro b hb z
    rcases List.mem_cons.mp (I.stkSub b z) with q | q
    · exact (hfp b hb).2.1 q
    · exact (hfp b hb).2.2.1 q
  · intro i x v h1 h2 h3
    have h1 : (capN own fr)[i]? = some x := h1
    unfold capN at h1
    unfold capS at h2
    by_cases hi : i < own.length
    · rw [List.getElem?_append_left (by rw [List.length_replicate]; exact hi), List.getElem?_replicate, if_pos hi] at h2
      cases h2
    · have hi' : own.length ≤ i := Nat.le_of_not_lt hi
      rw [List.getElem?_append_right hi', List.getElem?_map] at h1
      rw [List.getElem?_append_right (by rw [List.length_replicate]; exact hi'), List.length_replicate, List.getElem?_map] at h2
      cases e : fr[i - own.length]? with
      | none => rw [e] at h1; cases h1
      | some y =>
        rw [e] at h1 h2
        have hy1 : y.1 = x := Option.some.inj h1
        have hy2 : (σ[y.2]?).getD none = some v := Option.some.inj h2
        obtain ⟨c1, c2⟩ := B.cap y (List.mem_of_getElem? e)
        rw [hy1] at c1 c2
        have hs : σ[y.2]? = some (some v) := by
          cases e2 : σ[y.2]? with
          | none => rw [e2] at hy2; cases hy2
          | some o => rw [e2] at hy2; cases o with
            | none => cases hy2
            | some w => cases hy2; rfl
        obtain ⟨m, hm, hl⟩ := I.loc
        have hfree := B.free _ (PySem.mem_of_lookup c1) rfl
        obtain ⟨u, r, l⟩ := hl y.2 x v c2 hs (hfree.elim (fun z => .inr (.inl z)) fun z => .inr (.inr z))
        refine ⟨u, r, ?_⟩
        obtain ⟨k, c, e3, z⟩ : (X.env.kindOf x = some .cell ∨ X.env.kindOf x = some .free) ∧ ∃ c, X.env.cells.lookup x = some c ∧ s.heap.IsCell c (some u) := by
          rcases l with ⟨k, _⟩ | q
          · have k : X.env.scope.names.lookup x = some .local := k
            rcases hfree with z | z <;> (rw [z] at k; cases k)
          · exact q
        obtain ⟨d, hd⟩ := hcl2 _ (PySem.mem_of_lookup c1) rfl
        have hd' := hcl x d hd
        rw [e3] at hd'
        cases hd'
        obtain ⟨c', hc'⟩ : ∃ c', (cellsFrom (s.heap.objs.size + 1) scope.names cl).lookup x = some c' := Option.isSome_iff_exists.mp (PySem.W.cellsFrom_some scope.names _ _ (.inr (by rw [hd]; rfl)))
        have hcc : c' = c := by
          rcases ownC x c' hc' with q | q
          · -- an own cell of that name: it is free, so no
            exfalso
            have : (x, NameKind.cell) ∉ scope.names := fun m => by
              have := B.look _ m
              rw [c1] at this
              cases this
            exact absurd hc' (by
              rw [cf_out this]
              intro z
              rw [hd] at z
              cases z
              exact absurd (clt x _ hd) (Nat.not_lt.mpr (Nat.le_of_succ_le q)))
          · rw [hd] at q; cases q; rfl
        subst hcc
        refine .inr ⟨?_, c', hc', z.keeps hk⟩
        exact relabel_free c1
  · intro x c e
    rcases hc x c e with z | z
    · exact ⟨_, z⟩
    · obtain ⟨v, q⟩ := I.cell x c (hcl x c z)
      exact ⟨v, q.keeps hk⟩
  · intro x c e
    rcases ownC x c e with z | z
    · exact I.hok.fresh (Nat.le_of_succ_le z)
    · exact I.freeC x c (hcl x c z)
  · intro p hp
    exact absurd (show p ∈ ([] : List (Addr × Obj)) from hp) (by simp)
  · show (capS _ _ _).length = (capN _ _).length
    unfold capS capN
    simp
end
def PTs (X : Cx) (ifs : List Expr) (t : TT) : Prop :=
  ∀ (pins : List (Addr × Obj)) (s : Shared) (σ : St) (H : Hp) (Q : Bool → Hp → Prop), Inv X pins σ H s → t σ H Q →
    wpAny (model X.prog X.w) X.A (forIn ifs true fun c r => if r = true then do let ok ← isTrue c X.env (eval c X.env); pure (ForInStep.yield ok) else pure (ForInStep.yield r)) (TP X pins σ Q) X.xe s
def tYes : TT := fun _ H Q => Q true H
theorem pts_nil {X : Cx} : PTs X [] tYes := fun pins s σ H Q I h => wpAny_tests_nil ⟨H, I, h⟩
theorem pts_one {X : Cx} {c : Expr} {t : TT} (hc : PT X c t) : PTs X [c] t := fun pins s σ H Q I h => wpAny_tests_one (hc pins s σ H Q I h)
section
variable {prog : Program} {w : World} {A : Around} {R : Result → Shared → Prop} {s : Shared}
theorem compLoop_any {elt target iter : Expr} {ifs : List Expr} {scope : Scope} {pos : Pos} {it acc : Value} {env : Env} (I : Nat → Shared → Prop)
    (turn : ∀ n s, I n s → wpAny (model prog w) A (pyNext it) (fun r s₁ => match r with
      | none => R (.ok .next) s₁
      | some v => wpAny (model prog w) A (letOwnedTupleGo target it v) (fun _ s₁ => wpAny (model prog w) A (assign target env v) (fun _ s₂ =>
          wpAny (model prog w) A (forIn ifs true fun c r => if r = true then do let ok ← isTrue c env (eval c env); pure (ForInStep.yield ok) else pure (ForInStep.yield r)) (fun ok s₃ =>
            if ok = true then wpAny (model prog w) A (eval elt env) (fun x s₄ =>
              wpAny (model prog w) A (call (.builtin "list.append") [acc, x]) (fun _ s₅ => ∃ m, m < n ∧ I m s₅) (fun _ _ => False) s₄) (fun _ _ => False) s₃
            else ∃ m, m < n ∧ I m s₃) (fun _ _ => False) s₂) (fun _ _ => False) s₁) (fun _ _ => False) s₁) (fun _ _ => False) s)
    (n : Nat) (h : I n s) :
    codeAny (model prog w) A (.compLoop (.ListComp elt [⟨target, iter, ifs, 0⟩] scope pos) 0 it acc env) R s := by
  refine codeAny_loop rfl I (fun n s hI => ?_) n h
  show wpAny _ A ((compTurn (.ListComp elt [⟨target, iter, ifs, 0⟩] scope pos) 0 it acc env).onRaise (fun x => do noteFrame x env; theTreesLotGoes x)) _ _ s
  refine wpAny_noted ?_
  rw [compTurn_list]
  refine wpAny_bind (wpAny_standAt (wpAny_bind (wpAny_mono (turn n s hI) (fun r s₁ h₁ => ?_) fun _ _ h' => h'.elim)))
  cases r with
  | none => exact wpAny_pure h₁
  | some v =>
    refine wpAny_bind (wpAny_mono h₁ (fun _ s₁' h₁' => ?_) fun _ _ h' => h'.elim)
    refine wpAny_bind (wpAny_mono h₁' (fun _ s₂ h₂ => wpAny_bind (wpAny_mono h₂ (fun ok s₃ h₃ => ?_) fun _ _ h' => h'.elim)) fun _ _ h' => h'.elim)
    cases ok with
    | false => exact wpAny_pure ⟨rfl, h₃⟩
    | true =>
      exact wpAny_bind (wpAny_bind (wpAny_mono h₃ (fun x s₄ h₄ => wpAny_bind (wpAny_mono h₄ (fun _ s₅ h₅ => wpAny_pure (wpAny_pure ⟨rfl, h₅⟩)) fun _ _ h' => h'.elim)) fun _ _ h' => h'.elim))
end
def tBlock (g : TG) (tt : TT) (te : TE) (J : It) (D : Addr) (σ0 : St) (H1 : Hp) (Q : VK) : Prop :=
  ∃ W : Nat → Nat → St → Hp → Prop, (∃ m, W 0 m σ0 (upd H1 D (.lst []))) ∧ ∀ i m σ' H2, W i m σ' H2 →
    (J.stop i H2 ∧ Q (.ref D) H2) ∨ (J.go i H2 ∧ ∀ x H3, J.yld i H2 x H3 → g x σ' H3 fun σ4 H4 => tt σ4 H4 fun b H5 =>
      if b = true then te σ4 H5 fun y H6 => ∃ vs, H6 D = some (.lst vs) ∧ vs.length < sizeLine ∧ ∃ m', m' < m ∧ W (i + 1) m' σ4 (upd H6 D (.lst (vs ++ [y])))
      else ∃ m', m' < m ∧ W (i + 1) m' σ4 H5)
def tComp (k : Nat) (fr : List (Str × Nat)) (wi : TI) (g : TG) (tt : TT) (te : TE) : TE := fun σ H Q => wi σ H fun J H1 => ∀ D, H1 D = none → tBlock g tt te J D (capS k fr σ) H1 Q
section
variable {X : Cx} {tg iter elt : Expr} {ifs : List Expr} {scope : Scope} {pos : Pos} {own : List Str} {fr : List (Str × Nat)} {wi : TI} {g : TG} {tt : TT} {te : TE}
theorem comp_run {pins : List (Addr × Obj)} {s2 : Shared} {σ : St} {H2 : Hp} {it : Addr} {fp : List Addr} {tn : Nat → Heap → Prop} {J : It} {Q : VK} {cl : List (Str × Addr)} {RR : Value → Addr → Result → Shared → Prop} {E : Value → Shared → Prop}
    (hc : X.calm = true) (B : BlScope X scope own fr)
    (hb : ∀ cl s H fp, PG (cxIn X (capN own fr) scope cl s H fp) tg g ∧ PTs (cxIn X (capN own fr) scope cl s H fp) ifs tt ∧ PE (cxIn X (capN own fr) scope cl s H fp) elt te)
    (hcl : ∀ x c, cl.lookup x = some c → X.env.cells.lookup x = some c) (hcl2 : ∀ y ∈ scope.names, y.2 = .free → ∃ c, cl.lookup y.1 = some c)
    (I2 : Inv X pins σ H2 s2) (T : Turn X.prog X.w X.K tg J fp it tn) (st2 : tn 0 s2.heap) (f2 : ∀ b ∈ fp, FpOk X pins H2 b) (q : ∀ D, H2 D = none → tBlock g tt te J D (capS own.length fr σ) H2 Q)
    (hRR : ∀ D C s' H', Inv X pins σ H' s' → Q (.ref D) H' → (∃ m, s'.heap.Ns C m) → C ≠ X.env.locals → (∀ x c, X.env.cells.lookup x = some c → c ≠ C) → (∀ p ∈ X.pn ++ pins, p.1 ≠ C) → X.s₀.heap.objs.size ≤ C → H' C = none → RR (.ref D) C (.ok .next) s') :
    wpAny (model X.prog X.w) X.A (newList []) (fun acc s₃ => wpAny (model X.prog X.w) X.A (newFunctionEnv scope X.env.globals cl [] X.env.qual none .none (some X.env)) (fun cenv s₄ =>
      codeAny (model X.prog X.w) X.A (.compStart (.ListComp elt [⟨tg, iter, ifs, 0⟩] scope pos) 0 (.ref it) acc { cenv with scope := relabel scope X.env }) (RR acc cenv.locals) s₄) E s₃) E s2 := by
  refine wpAny_newObj_type ?_
  have fr0 : H2 s2.heap.objs.size = none := I2.hok.fresh (Nat.le_refl _)
  have I3 := I2.lnew (its := []) (ys := []) (t' := s2.toks) .nil (Nat.zero_le _)
  generalize hs3 : ({ s2 with heap := s2.heap.push { cls := .type "list", data := .seq ([] : List Value).toArray } } : Shared) = s3 at *
  have k23 : ∀ b o, s2.heap.get? b = some o → s3.heap.get? b = some o := fun b o e => by rw [← hs3]; exact Heap.get?_push_of_some _ e
  have sz3 : s3.heap.objs.size = s2.heap.objs.size + 1 := by rw [← hs3]; exact Heap.size_push ..
  have I3' : Inv X pins σ (upd H2 s2.heap.objs.size (.lst [])) s3 := I3
  have fne : ∀ b ∈ fp, b ≠ s2.heap.objs.size := fun b hb z => by
    obtain ⟨o, ho, _⟩ := T.obj 0 _ st2 b hb
    exact absurd (Heap.lt_size ho) (by rw [z]; exact Nat.lt_irrefl _)
  have f3 : ∀ b ∈ fp, FpOk X pins (upd H2 s2.heap.objs.size (.lst [])) b := fun b hb => ⟨by rw [upd_ne (fne b hb)]; exact (f2 b hb).1, (f2 b hb).2⟩
  have st3 : tn 0 s3.heap := T.keep 0 _ _ st2 fun b _ o e => k23 b o e
  have hfo : ∀ b ∈ fp, ∃ o, s3.heap.get? b = some o := fun b hb => let ⟨o, ho, _⟩ := T.obj 0 _ st3 b hb; ⟨o, ho⟩
  refine newEnv_block fun h' hn hk hce => ?_
  have I4 := inv_block (own := own) I3' B hcl hcl2 f3 hfo hn hk hce
  obtain ⟨hg, ht, he⟩ := hb cl s3 (upd H2 s2.heap.objs.size (.lst [])) fp
  have st4 : tn 0 h' := T.keep 0 _ _ st3 fun b _ o e => hk b o e
  have stat : ∀ {H' : Hp}, (∀ b ∈ fp, H' b = none) → ∀ b ∈ fp, FpOk (cxIn X (capN own fr) scope cl s3 (upd H2 s2.heap.objs.size (.lst [])) fp) [] H' b := fun {H'} hnn b hb =>
    ⟨hnn b hb, (I4.ok.exf b hb).1, I4.ok.exfs b hb, .inl hb, (I4.ok.exf b hb).2, fun p hp => absurd (show p ∈ ([] : List (Addr × Obj)) from hp) (by simp)⟩
  obtain ⟨W, ⟨m0, w0⟩, turn⟩ := q s2.heap.objs.size fr0
  have loop : codeAny (model X.prog X.w) X.A (.compLoop (.ListComp elt [⟨tg, iter, ifs, 0⟩] scope pos) 0 (.ref it) (.ref s2.heap.objs.size) (cxIn X (capN own fr) scope cl s3 (upd H2 s2.heap.objs.size (.lst [])) fp).env)
      (RR (.ref s2.heap.objs.size) s3.heap.objs.size) { s3 with heap := h' } := by
    refine compLoop_any (fun n s' => ∃ i σ' H', Inv (cxIn X (capN own fr) scope cl s3 (upd H2 s2.heap.objs.size (.lst [])) fp) [] σ' H' s' ∧ tn i s'.heap ∧ (∀ b ∈ fp, H' b = none) ∧ W i n σ' H') ?_ m0
      ⟨0, _, _, I4, st4, fun b hb => (f3 b hb).1, w0⟩
    rintro n s5 ⟨i, σ5, H5, I5, st5, fr5, w5⟩
    rcases turn i n σ5 H5 w5 with ⟨stop, qn⟩ | ⟨go, step⟩
    · refine thn (T.done (cxIn X (capN own fr) scope cl s3 (upd H2 s2.heap.objs.size (.lst [])) fp) rfl rfl rfl hc i [] s5 σ5 H5 _ I5 (stat fr5) st5 stop) fun r s6 ⟨hr, I6⟩ => ?_
      subst hr
      have I7 : Inv X pins σ H5 s6 := I3'.call' (ch := fp) I6.os I6.base I6.hok I6.bare fun b hb => ⟨(f3 b hb).2.2.2.1, (f3 b hb).2.1, (f3 b hb).2.2.2.2.1, (f3 b hb).2.2.2.2.2⟩
      obtain ⟨m6, hn6, _⟩ := I6.loc
      refine hRR _ _ s6 H5 I7 qn ⟨m6, hn6⟩ (Nat.ne_of_gt I3'.lt) (fun x c e => ?_) (fun p hp => ?_) I3'.sz I6.free
      · obtain ⟨v, z⟩ := I3'.cell x c e
        exact Nat.ne_of_lt z.lt
      · exact Nat.ne_of_lt (Heap.lt_size (I3'.pin p hp).1)
    · refine thn (T.item (cxIn X (capN own fr) scope cl s3 (upd H2 s2.heap.objs.size (.lst [])) fp) rfl rfl rfl hc i [] s5 σ5 H5 _ I5 (stat fr5) st5 go) fun r s6 ⟨u, hr, h6⟩ => ?_
      subst hr
      refine thn h6 fun _ s7 ⟨x, H7, I7, r7, y7, st7, fr7⟩ => ?_
      have I7' := I7.pinned (stat fr7) (T.obj _ _ st7)
      refine thn (hg _ s7 σ5 H7 x u _ I7' r7 (step x H7 y7)) fun _ s8 ⟨σ8, H8, I8, q8⟩ => ?_
      refine thn (ht _ s8 σ8 H8 _ I8 q8) fun b s9 ⟨H9, I9, q9⟩ => ?_
      have again : ∀ {sA : Shared} {σA : St} {HA : Hp} {m' : Nat}, Inv (cxIn X (capN own fr) scope cl s3 (upd H2 s2.heap.objs.size (.lst [])) fp) ([] ++ pinsAt fp s7.heap) σA HA sA → m' < n → W (i + 1) m' σA HA →
          ∃ m, m < n ∧ ∃ i σ' H', Inv (cxIn X (capN own fr) scope cl s3 (upd H2 s2.heap.objs.size (.lst [])) fp) [] σ' H' sA ∧ tn i sA.heap ∧ (∀ b ∈ fp, H' b = none) ∧ W i m σ' H' := fun {sA σA HA m'} IA hm wA => by
        refine ⟨m', hm, i + 1, σA, HA, IA.unpinned, T.keep _ _ _ st7 fun b hb o e => (IA.pin (b, o) (List.mem_append_right _ (List.mem_append_right _ (mem_pinsAt hb e)))).1, fun b hb => ?_, wA⟩
        obtain ⟨o, e, d⟩ := T.obj _ _ st7 b hb
        exact (IA.pin (b, o) (List.mem_append_right _ (List.mem_append_right _ (mem_pinsAt hb e)))).2.1
      cases b with
      | false =>
        obtain ⟨m', hm, w9⟩ := q9
        exact again I9 hm w9
      | true =>
        have q9 : te σ8 H9 _ := q9
        show wpAny _ _ _ _ _ _
        refine thn (he _ s9 σ8 H9 _ I9 q9) fun y sA ⟨vy, HA, IA, rA, vs, hvs, hlen, m', hm, wA⟩ => ?_
        refine thn (mt_append (X := cxIn X (capN own fr) scope cl s3 (upd H2 s2.heap.objs.size (.lst [])) fp) _ sA σ8 HA (.ref s2.heap.objs.size) [vy] (.ref s2.heap.objs.size) [y] (fun _ HB => W (i + 1) m' σ8 HB) IA rfl (.cons rA .nil) ⟨_, vs, vy, rfl, rfl, hvs, hlen, wA⟩) fun _ sB ⟨_, HB, IB, _, wB⟩ => ?_
        exact again IB hm wB
  exact codeAny_compStart_list loop (T.self _ 0 _ _ _ st4 loop)
theorem SameBut.get {a : Addr} {h h' : Heap} (x : Heap.SameBut a h h') : ∀ b o, b ≠ a → h.get? b = some o → h'.get? b = some o := fun b o n e => (x.2 b n).trans e
theorem pe_comp (hc : X.calm = true) (B : BlScope X scope own fr) (hi : PI X tg iter wi)
    (hb : ∀ cl s H fp, PG (cxIn X (capN own fr) scope cl s H fp) tg g ∧ PTs (cxIn X (capN own fr) scope cl s H fp) ifs tt ∧ PE (cxIn X (capN own fr) scope cl s H fp) elt te)
    (hs : ∀ x, foldedSetIterable iter X.env x = pure x := by intro _; rfl) :
    PE X (.ListComp elt [⟨tg, iter, ifs, 0⟩] scope pos) (tComp own.length fr wi g tt te) := by
  intro pins s σ H Q I h
  obtain ⟨cl, hclos, hcl, hcl2⟩ := clos_ok (scope := scope) (env := X.env) fun y hy hf => I.ok.has y.1 (B.free y hy hf)
  rw [eval_ListComp]
  refine wpAny_comprehension_free (use := none) rfl hs hclos B.kind B.loc (thn (hi pins s σ H _ I h) fun v s1 h1 => thn h1 fun itv s2 h2 => ?_)
  obtain ⟨it, fp, tn, J, H2, e, I2, T, st2, f2, q⟩ := h2
  subst e
  refine comp_run (RR := fun acc C => compPost (model X.prog X.w) X.A X.xe none (EP X pins σ Q) acc C) (Q := Q) hc B hb hcl hcl2 I2 T st2 f2 q ?_
  intro D C s' H' I' hq hn n1 n2 n3 n4 n5
  obtain ⟨m, hn⟩ := hn
  refine ⟨m, hn, fun h' hs' => ⟨.ref D, H', I'.turned (it := C) (t' := s'.toks) (fun b o hb e => SameBut.get hs' b o hb e) n5 (Ne.symm (Ne.symm n1)) (.inr n4) n2 n3, rfl, hq⟩⟩
end
end L2
namespace L2
open PySem PySem.Spec PyProof.Rows
section
variable {X : Cx}
theorem op_mulG : OpR X (binaryOp .Mult) (rI IntMulOk fun i j => .int (i * j)) :=
  opI fun i j t u s Q E c h => PyProof.Rows.mul_int h c
def cV : V → Option Value
  | .ty n => some (.type n)
  | .ref a => some (.ref a)
  | _ => none
theorem call_isinst : CallR X (.builtin "isinstance") (fun xs H Q => ∃ x y c t b, xs = [x, y] ∧ cV y = some c ∧ TyOf X.K H x t ∧ PySem.W.kitOne X.K t c = some b ∧ Q (.bl b) H) := by
  intro pins s σ H xs us Q I r h
  obtain ⟨x, y, c, t, b, rfl, hc, ty, e, q⟩ := h
  obtain ⟨u, v, rfl, rx, ry⟩ := vals2 r
  have hv : v = c := by
    cases y <;> first | (cases hc; done) | (cases hc; cases ry; rfl)
  subst hv
  exact isinst_ok I rx ty e fun tk => ⟨.bl b, H, I.tok _, rfl, q⟩
theorem all_range (bs : List Bool) : (List.range bs.length).all (fun i => (bs[i]?).getD true) = bs.all id := by
  rw [Bool.eq_iff_iff, List.all_eq_true, List.all_eq_true]
  constructor
  · intro h b hb
    obtain ⟨i, hi, rfl⟩ := List.mem_iff_getElem.mp hb
    have := h i (List.mem_range.mpr hi)
    rw [List.getElem?_eq_getElem hi] at this
    exact this
  · intro h i hi
    have hi := List.mem_range.mp hi
    rw [List.getElem?_eq_getElem hi]
    exact h _ (List.getElem_mem hi)
theorem any_range (bs : List Bool) : (List.range bs.length).any (fun i => (bs[i]?).getD true) = bs.any id := by
  rw [Bool.eq_iff_iff, List.any_eq_true, List.any_eq_true]
  constructor
  · rintro ⟨i, hi, h⟩
    have hi := List.mem_range.mp hi
    rw [List.getElem?_eq_getElem hi] at h
    exact ⟨_, List.getElem_mem hi, h⟩
  · rintro ⟨b, hb, h⟩
    obtain ⟨i, hi, rfl⟩ := List.mem_iff_getElem.mp hb
    exact ⟨i, List.mem_range.mpr hi, by rw [List.getElem?_eq_getElem hi]; exact h⟩
theorem bools_truth {A : Around} {prog : Program} {w : World} {bs : List Bool} {its : List Value} (r : Vals (bs.map V.bl) its) : TruthOf prog w A (fun i v => its.toArray[i]? = some v) (fun i => (bs[i]?).getD true) := by
  intro i v s Q E hP hQ
  have hP : its[i]? = some v := by simpa using hP
  have hl := r.length
  rw [List.length_map] at hl
  have hi : i < bs.length := by rw [hl]; exact (List.getElem?_eq_some_iff.mp hP).1
  obtain ⟨u, hu, rv⟩ := r.get (i := i) (x := .bl bs[i]) (by rw [List.getElem?_map, List.getElem?_eq_getElem hi]; rfl)
  rw [hP] at hu
  cases hu
  cases rv
  have hQ : Q ((bs[i]?).getD true) s := hQ
  rw [List.getElem?_eq_getElem hi] at hQ
  exact wpAny_truthy_bool hQ
theorem call_all (hc : X.calm = true) : CallR X (.builtin "all") (fun xs H Q => ∃ (p : Addr) (bs : List Bool), xs = [.ref p] ∧ SqL X.K H p (bs.map V.bl) ∧ Q (.bl (bs.all id)) H) := by
  intro pins s σ H xs us Q I r h
  obtain ⟨p, bs, rfl, hq, q⟩ := h
  obtain ⟨u, rfl, rx⟩ := vals1 r
  cases rx
  obtain ⟨its, rv, pl, hz⟩ := I.list hq
  have hl := rv.length
  rw [List.length_map] at hl
  refine call_all_walk (wpAny_pyIter_list pl.isList ?_)
  have hne : p ≠ s.heap.objs.size := fun e => by
    obtain ⟨o, n, ho, _⟩ := pl
    exact absurd (Heap.lt_size ho) (by rw [e]; exact Nat.lt_irrefl _)
  refine ⟨s.heap.objs.size, _, _, _, _, _, fun i => (bs[i]?).getD true, rfl, Walks.list (A := X.A.in1) (I.ok.hd hc) _ p hne its.toArray, ⟨⟨_, Heap.get?_push_size _ rfl, rfl, rfl⟩, pl.isList.at fun o e => Heap.get?_push_of_some _ e⟩, bools_truth rv, fun h' tk kp => ?_⟩
  have e : (List.range its.toArray.size).all (fun i => (bs[i]?).getD true) = bs.all id := by
    rw [List.size_toArray, ← hl]; exact all_range bs
  rw [e]
  have f := I.fpOk (H' := H) (Nat.le_refl s.heap.objs.size) (I.hok.fresh (Nat.le_refl _))
  exact ⟨.bl _, H, (I.kept (h' := s.heap.push { cls := .type "list_iterator", data := .fields #[.ref p, .int 0 0] }) (t' := s.toks) fun b o e => Heap.get?_push_of_some _ e).turned (it := s.heap.objs.size) (t' := tk) (fun b o hb e => kp b o (by simpa using hb) e) f.1 f.2.1 f.2.2.2.1 f.2.2.2.2.1 f.2.2.2.2.2, rfl, q⟩
theorem call_any (hc : X.calm = true) : CallR X (.builtin "any") (fun xs H Q => ∃ (p : Addr) (bs : List Bool), xs = [.ref p] ∧ SqL X.K H p (bs.map V.bl) ∧ Q (.bl (bs.any id)) H) := by
  intro pins s σ H xs us Q I r h
  obtain ⟨p, bs, rfl, hq, q⟩ := h
  obtain ⟨u, rfl, rx⟩ := vals1 r
  cases rx
  obtain ⟨its, rv, pl, hz⟩ := I.list hq
  have hl := rv.length
  rw [List.length_map] at hl
  refine call_any_walk (wpAny_pyIter_list pl.isList ?_)
  have hne : p ≠ s.heap.objs.size := fun e => by
    obtain ⟨o, n, ho, _⟩ := pl
    exact absurd (Heap.lt_size ho) (by rw [e]; exact Nat.lt_irrefl _)
  refine ⟨s.heap.objs.size, _, _, _, _, _, fun i => (bs[i]?).getD true, rfl, Walks.list (A := X.A.in1) (I.ok.hd hc) _ p hne its.toArray, ⟨⟨_, Heap.get?_push_size _ rfl, rfl, rfl⟩, pl.isList.at fun o e => Heap.get?_push_of_some _ e⟩, bools_truth rv, fun h' tk kp => ?_⟩
  have e : (List.range its.toArray.size).any (fun i => (bs[i]?).getD true) = bs.any id := by
    rw [List.size_toArray, ← hl]; exact any_range bs
  rw [e]
  have f := I.fpOk (H' := H) (Nat.le_refl s.heap.objs.size) (I.hok.fresh (Nat.le_refl _))
  exact ⟨.bl _, H, (I.kept (h' := s.heap.push { cls := .type "list_iterator", data := .fields #[.ref p, .int 0 0] }) (t' := s.toks) fun b o e => Heap.get?_push_of_some _ e).turned (it := s.heap.objs.size) (t' := tk) (fun b o hb e => kp b o (by simpa using hb) e) f.1 f.2.1 f.2.2.2.1 f.2.2.2.2.1 f.2.2.2.2.2, rfl, q⟩
def rngV (lo hi : Int) : List V := (List.range (hi - lo).toNat).map fun i => V.int (lo + (i : Nat))
end
inductive EqD (K : PySem.W.Frag) (H : Hp) : Nat → V → V → Bool → Prop where
  | flat {n : Nat} {x y : V} (hx : flatV x = true) (hy : flatV y = true) : EqD K H n x y (eqV x y)
  | same {n : Nat} {a : Addr} : EqD K H n (.ref a) (.ref a) true
  | list {n : Nat} {a c : Addr} {xs ys : List V} {bs : List Bool} (ne : a ≠ c) (ha : SqL K H a xs) (hc : SqL K H c ys) (hl : xs.length = ys.length) (hb : bs.length = xs.length)
      (he : ∀ (j : Nat) x y b, xs[j]? = some x → ys[j]? = some y → bs[j]? = some b → EqD K H n x y b) : EqD K H (n + 1) (.ref a) (.ref c) (bs.all id)
  | listL {n : Nat} {a c : Addr} {xs ys : List V} (ne : a ≠ c) (ha : SqL K H a xs) (hc : SqL K H c ys) (hl : xs.length ≠ ys.length) : EqD K H (n + 1) (.ref a) (.ref c) false
  | tuple {n : Nat} {a c : Addr} {xs ys : List V} {bs : List Bool} (ne : a ≠ c) (ha : SqT K H a xs) (hc : SqT K H c ys) (hl : xs.length = ys.length) (hb : bs.length = xs.length)
      (he : ∀ (j : Nat) x y b, xs[j]? = some x → ys[j]? = some y → bs[j]? = some b → EqD K H n x y b) : EqD K H (n + 1) (.ref a) (.ref c) (bs.all id)
def ItemsEq (K : PySem.W.Frag) (H : Hp) (n : Nat) (xs ys : List V) (bs : List Bool) : Prop :=
  xs.length = ys.length ∧ bs.length = xs.length ∧ ∀ (j : Nat) x y b, xs[j]? = some x → ys[j]? = some y → bs[j]? = some b → EqD K H n x y b
section
variable {X : Cx} {pins : List (Addr × Obj)} {σ : St} {H : Hp} {s : Shared}
theorem items_at {A : Around} {xs ys : List V} {us vs : List Value} {bs : List Bool} (rx : Vals xs us) (ry : Vals ys vs) (hl : xs.length = ys.length) (hb : bs.length = xs.length)
    (ih : ∀ (j : Nat) x y b, xs[j]? = some x → ys[j]? = some y → bs[j]? = some b → ∀ u v, RelV x u → RelV y v → SeqAt.EqAt A s u v b) :
    ∀ j (h1 : j < us.toArray.size) (h2 : j < vs.toArray.size), SeqAt.EqAt A s us.toArray[j] vs.toArray[j] ((bs[j]?).getD true) := by
  intro j h1 h2
  have e1 := rx.length
  have e2 := ry.length
  have h1' : j < us.length := by simpa using h1
  have h2' : j < vs.length := by simpa using h2
  have g1 : xs[j]? = some (xs[j]'(by omega)) := List.getElem?_eq_getElem _
  have g2 : ys[j]? = some (ys[j]'(by omega)) := List.getElem?_eq_getElem _
  have g3 : bs[j]? = some (bs[j]'(by omega)) := List.getElem?_eq_getElem _
  obtain ⟨u, hu, ru⟩ := rx.get g1
  obtain ⟨v, hv, rv⟩ := ry.get g2
  have eu : us.toArray[j] = u := by
    rw [List.getElem?_eq_getElem h1'] at hu; simpa using hu
  have ev : vs.toArray[j] = v := by
    rw [List.getElem?_eq_getElem h2'] at hv; simpa using hv
  rw [eu, ev, g3]
  exact ih j _ _ _ g1 g2 g3 u v ru rv
theorem EqD.at {n : Nat} {x y : V} {b : Bool} (I : Inv X pins σ H s) (e : EqD X.K H n x y b) : ∀ {A : Around} {u v : Value}, A.units + n < cLine → RelV x u → RelV y v → SeqAt.EqAt A s u v b := by
  induction e with
  | flat hx hy => intro A u v _ ru rv; exact eqAt_V ru rv hx hy
  | same => intro A u v _ ru rv; cases ru; cases rv; exact SeqAt.EqAt.same _
  | @list n a c xs ys bs ne ha hc hl hb he ih =>
    intro A u v hA ru rv
    cases ru
    cases rv
    obtain ⟨its, r1, p1, _⟩ := I.list ha
    obtain ⟨its', r2, p2, _⟩ := I.list hc
    have e1 := r1.length
    have e2 := r2.length
    have q := SeqAt.RcAt.lists (e := fun j => (bs[j]?).getD true) p1.isList p2.isList (by simp; omega) (by omega) (items_at (A := A.in1) r1 r2 hl hb fun j x y b h1 h2 h3 u v ru rv => ih j x y b h1 h2 h3 (show A.units + 1 + n < cLine by omega) ru rv)
    rw [show its.toArray.size = bs.length by simp; omega, all_range] at q
    exact SeqAt.EqAt.of_refs ne q
  | @listL n a c xs ys ne ha hc hl =>
    intro A u v hA ru rv
    cases ru
    cases rv
    obtain ⟨its, r1, p1, _⟩ := I.list ha
    obtain ⟨its', r2, p2, _⟩ := I.list hc
    have e1 := r1.length
    have e2 := r2.length
    exact SeqAt.EqAt.of_refs ne (SeqAt.RcAt.lists_lengths p1.isList p2.isList (by simp; omega) (by omega))
  | @tuple n a c xs ys bs ne ha hc hl hb he ih =>
    intro A u v hA ru rv
    cases ru
    cases rv
    obtain ⟨its, r1, p1, _⟩ := I.tuple ha
    obtain ⟨its', r2, p2, _⟩ := I.tuple hc
    have e1 := r1.length
    have e2 := r2.length
    have q := SeqAt.RcAt.tuples (e := fun j => (bs[j]?).getD true) p1 p2 (by omega) (items_at (A := A.in1) r1 r2 hl hb fun j x y b h1 h2 h3 u v ru rv => ih j x y b h1 h2 h3 (show A.units + 1 + n < cLine by omega) ru rv)
    rw [show min its.toArray.size its'.toArray.size = bs.length by simp; omega, all_range, show (its.toArray.size == its'.toArray.size) = true by simp; omega, Bool.and_true] at q
    exact SeqAt.EqAt.of_refs ne q
def rEqL (K : PySem.W.Frag) (neg : Bool) : R2 := fun x y H Q => ∃ a c xs ys, x = .ref a ∧ y = .ref c ∧ SqL K H a xs ∧ SqL K H c ys ∧
  ((xs.length ≠ ys.length ∧ Q (.bl neg) H) ∨ ∃ bs, ItemsEq K H 6 xs ys bs ∧ Q (.bl (if neg then !bs.all id else bs.all id)) H)
def rEqT (K : PySem.W.Frag) (neg : Bool) : R2 := fun x y H Q => ∃ a c xs ys bs, x = .ref a ∧ y = .ref c ∧ SqT K H a xs ∧ SqT K H c ys ∧ ItemsEq K H 6 xs ys bs ∧ Q (.bl (if neg then !bs.all id else bs.all id)) H
theorem op_eqT (hu : X.A.units + 8 < cLine) : OpR X (compareOp .Eq) (rEqT X.K false) := by
  intro pins s σ H x y v u Q I rx ry h
  obtain ⟨a, c, xs, ys, bs, rfl, rfl, ha, hc, ⟨hl, hb, he⟩, q⟩ := h
  cases rx
  cases ry
  obtain ⟨its, r1, p1, _⟩ := I.tuple ha
  obtain ⟨its', r2, p2, _⟩ := I.tuple hc
  have e1 := r1.length
  have e2 := r2.length
  refine SeqAt.eq_tupleAt (e := fun j => (bs[j]?).getD true) p1 p2 (by omega) (items_at (A := X.A.in1) r1 r2 hl hb fun j x y b h1 h2 h3 u v ru rv => (he j x y b h1 h2 h3).at I (show X.A.units + 1 + 6 < cLine by omega) ru rv) ?_
  rw [show min its.toArray.size its'.toArray.size = bs.length by simp; omega, all_range, show (its.toArray.size == its'.toArray.size) = true by simp; omega, Bool.and_true]
  exact ⟨.bl (bs.all id), H, I, rfl, q⟩
end
theorem k_int_int (K : PySem.W.Frag) : PySem.W.kitOne K (.type "int") (.type "int") = some true := by rfl
theorem k_int_bool (K : PySem.W.Frag) : PySem.W.kitOne K (.type "int") (.type "bool") = some false := by kernel_rfl
theorem k_tup_tup (K : PySem.W.Frag) : PySem.W.kitOne K (.type "tuple") (.type "tuple") = some true := by rfl
end L2
namespace L2
open PySem PySem.Spec PyProof.Rows
structure Cal (P : Program) (w : World) (K : PySem.W.Frag) (mg : Str → Option Value) (base : Heap) (x : Str) (k : Nat) (sp : Sp) : Prop where
  ex : ∃ (f : Addr) (fd : FuncData) (ps : List Str), FnOk P w K mg base CX0 k f fd ps sp ∧ mg x = some (.ref f) ∧ PySem.W.keepIn K (.ref f) = true ∧ Binds K fd ps []
theorem pe_cal {X : Cx} {x : Str} {k : Nat} {sp : Sp} {e : Expr} {es : List Expr} {t : TA} {p pos : Pos} (C : Cal X.prog X.w X.K X.mg X.base x k sp) (hr : Room k X.A) (hg : Gl X x) (ha : PA X (e :: es) t)
    (hdb : (x == ("__debug__" : Str)) = false := by decide) (he : starEach (e :: es) X.env = (false, eval e X.env) :: starEach es X.env := by rfl) (hpl : (backTo pos (starEach es X.env)).any (·.1) = false := by rfl) :
    PE X (.Call (.Name x p) (e :: es) [] pos) (tCall sp [] E0 t) := by
  obtain ⟨f, fd, ps, F, hm, hk, hb⟩ := C.ex
  exact pe_call F hr hg hm hk hb .nil pass0 ha hdb he hpl
structure CalM (P : Program) (w : World) (K : PySem.W.Frag) (mg : Str → Option Value) (base : Heap) (C : Addr) (m : Str) (k : Nat) (sp : Sp) : Prop where
  ex : ∃ (f : Addr) (fd : FuncData) (ps : List Str), FnOk P w K mg base CX0 k f fd ps sp ∧ Meth K C m f ∧ Binds K fd ps []
structure CalI (P : Program) (w : World) (K : PySem.W.Frag) (mg : Str → Option Value) (base : Heap) (x : Str) (C : Addr) (k : Nat) (sp : Sp) : Prop where
  ex : ∃ (f : Addr) (fd : FuncData) (ps : List Str), FnOk P w K mg base CX0 k f fd ps sp ∧ Mk K C f ∧ mg x = some (.ref C) ∧ Binds K fd ps []
theorem pe_new {X : Cx} {x : Str} {C : Addr} {k : Nat} {sp : Sp} {e : Expr} {es : List Expr} {t : TA} {p pos : Pos} (M : CalI X.prog X.w X.K X.mg X.base x C k sp) (hr : Room (k + 1) X.A) (hg : Gl X x) (ha : PA X (e :: es) t)
    (hdb : (x == ("__debug__" : Str)) = false := by decide) (he : starEach (e :: es) X.env = (false, eval e X.env) :: starEach es X.env := by rfl) (hpl : (backTo pos (starEach es X.env)).any (·.1) = false := by rfl) :
    PE X (.Call (.Name x p) (e :: es) [] pos) (tMake C sp [] E0 t) := by
  obtain ⟨f, fd, ps, F, hm, hk, hb⟩ := M.ex
  exact pe_make hm F hr hg hk hb .nil pass0 ha hdb he hpl
def blOk (outer : List (Str × NameKind)) (N : List Str) (scope : Scope) (fr : List (Str × Nat)) : Bool :=
  scope.kind == .function && scope.names.all (fun y => y.2 != .free || outer.lookup y.1 == some .cell || outer.lookup y.1 == some .free) && scope.names.all (fun y => scope.names.lookup y.1 == some y.2) &&
  fr.all fun y => scope.names.lookup y.1 == some .free && N[y.2]? == some y.1
theorem bl_of {X : Cx} {scope : Scope} {own : List Str} {fr : List (Str × Nat)} (h : blOk X.env.scope.names X.N scope fr = true) : BlScope X scope own fr := by
  unfold blOk at h
  simp only [Bool.and_eq_true, List.all_eq_true] at h
  obtain ⟨⟨⟨h1, h2⟩, h3⟩, h4⟩ := h
  refine ⟨?_, fun y hy hf => ?_, fun y hy hl => ?_, fun y hy => ?_, fun y hy => ?_⟩
  · cases e : scope.kind <;> rw [e] at h1 <;> first | rfl | (exact absurd h1 (by decide))
  · have := h2 y hy
    rw [hf] at this
    simp only [Bool.or_eq_true, beq_iff_eq] at this
    rcases this with (q | q) | q
    · exact absurd q (by decide)
    · exact .inl q
    · exact .inr q
  · have := h3 y hy
    rw [hl] at this
    exact beq_iff_eq.mp this
  · exact beq_iff_eq.mp (h3 y hy)
  · have := h4 y hy
    exact ⟨beq_iff_eq.mp this.1, beq_iff_eq.mp this.2⟩
def Sh (k : Nat) (cap σ : St) : Prop := ∃ o, o.length = k ∧ σ = o ++ cap
theorem Sh.mk1 {cap : St} {a : Option V} : Sh 1 cap (a :: cap) := ⟨[a], rfl, rfl⟩
theorem Sh.one {cap σ : St} (h : Sh 1 cap σ) : ∃ a, σ = a :: cap := by
  obtain ⟨o, h1, rfl⟩ := h
  match o, h1 with
  | [a], _ => exact ⟨a, rfl⟩
theorem Sh.two {cap σ : St} (h : Sh 2 cap σ) : ∃ a b, σ = a :: b :: cap := by
  obtain ⟨o, h1, rfl⟩ := h
  match o, h1 with
  | [a, b], _ => exact ⟨a, b, rfl⟩
def capOf (fr : List (Str × Nat)) (σ : St) : St := fr.map fun y => (σ[y.2]?).getD none
def Wv (n k : Nat) (cap : St) (Pv : Nat → List V → Hp → Prop) : Nat → Nat → St → Hp → Prop := fun i m σ H => m = n - i ∧ i ≤ n ∧ Sh k cap σ ∧ ∃ vs, Pv i vs H
def Lf (D : Addr) (n k : Nat) (cap : St) (Pv : Nat → List V → Hp → Prop) (i : Nat) (σ4 : St) (y : V) (H6 : Hp) : Prop :=
  ∃ vs, H6 D = some (.lst vs) ∧ vs.length < sizeLine ∧ ∃ m', m' < n - i ∧ Wv n k cap Pv (i + 1) m' σ4 (upd H6 D (.lst (vs ++ [y])))
def Lf0 (n k : Nat) (cap : St) (Pv : Nat → List V → Hp → Prop) (i : Nat) (σ4 : St) (H5 : Hp) : Prop := ∃ m', m' < n - i ∧ Wv n k cap Pv (i + 1) m' σ4 H5
theorem leaf {D : Addr} {n k : Nat} {cap : St} {Pv : Nat → List V → Hp → Prop} {i : Nat} {σ4 : St} {y : V} {H6 : Hp} {vs ws : List V} (hi : i < n) (sh : Sh k cap σ4) (hD : H6 D = some (.lst vs)) (hl : vs.length < sizeLine)
    (p : Pv (i + 1) ws (upd H6 D (.lst (vs ++ [y])))) : Lf D n k cap Pv i σ4 y H6 := ⟨vs, hD, hl, n - (i + 1), by omega, rfl, hi, sh, ws, p⟩
theorem leaf0 {n k : Nat} {cap : St} {Pv : Nat → List V → Hp → Prop} {i : Nat} {σ4 : St} {H5 : Hp} {ws : List V} (hi : i < n) (sh : Sh k cap σ4) (p : Pv (i + 1) ws H5) : Lf0 n k cap Pv i σ4 H5 := ⟨n - (i + 1), by omega, rfl, hi, sh, ws, p⟩
def tTurn (g : TG) (tt : TT) (te : TE) (D : Addr) (n k : Nat) (cap : St) (Pv : Nat → List V → Hp → Prop) (i : Nat) (x : V) (σ' : St) (H : Hp) : Prop :=
  g x σ' H fun σ4 H4 => tt σ4 H4 fun b H5 => if b = true then te σ4 H5 fun y H6 => Lf D n k cap Pv i σ4 y H6 else Lf0 n k cap Pv i σ4 H5
section
variable {K : PySem.W.Frag} {a D : Addr} {xs : List V} {g : TG} {tt : TT} {te : TE} {k : Nat} {fr : List (Str × Nat)} {σ : St} {H1 : Hp} {Q : VK}
theorem sh0 : Sh k (capOf fr σ) (capS k fr σ) := ⟨List.replicate k none, List.length_replicate, rfl⟩
theorem comp_any {J : It} {n : Nat} (it : Nat → V → Prop) (Pv : Nat → List V → Hp → Prop) (h0 : Pv 0 [] (upd H1 D (.lst [])))
    (go : ∀ i vs H, i < n → Pv i vs H → J.go i H ∧ ∀ x H', J.yld i H x H' → H' = H ∧ it i x) (stop : ∀ vs H, Pv n vs H → J.stop n H)
    (hs : ∀ i x vs σ' H, i < n → it i x → Sh k (capOf fr σ) σ' → Pv i vs H → tTurn g tt te D n k (capOf fr σ) Pv i x σ' H) (hd : ∀ vs H, Pv n vs H → Q (.ref D) H) : tBlock g tt te J D (capS k fr σ) H1 Q := by
  refine ⟨Wv n k (capOf fr σ) Pv, ⟨n, by simp, Nat.zero_le _, sh0, [], h0⟩, ?_⟩
  rintro i m σ' H2 ⟨rfl, hi, sh, vs, p⟩
  by_cases hlt : i < n
  · obtain ⟨g1, g2⟩ := go i vs H2 hlt p
    refine .inr ⟨g1, fun x H3 y => ?_⟩
    obtain ⟨rfl, hx⟩ := g2 x H3 y
    exact hs i x vs σ' _ hlt hx sh p
  · have e : i = n := by omega
    subst e
    exact .inl ⟨stop vs H2 p, hd vs H2 p⟩
theorem comp_itr {lo : Int} {n : Nat} (Pv : Nat → List V → Hp → Prop) (h0 : Pv 0 [] (upd H1 D (.lst [])))
    (hs : ∀ i x vs σ' H, i < n → x = .int (lo + i) → Sh k (capOf fr σ) σ' → Pv i vs H → tTurn g tt te D n k (capOf fr σ) Pv i x σ' H) (hd : ∀ vs H, Pv n vs H → Q (.ref D) H) : tBlock g tt te (Itr lo n) D (capS k fr σ) H1 Q :=
  comp_any (fun i x => x = .int (lo + i)) Pv h0 (fun i vs H hi p => ⟨hi, fun x H' y => y⟩) (fun vs H p => Nat.le_refl _) hs hd
end
def Ext (l : Addr) (H H' : Hp) : Prop := ∀ b o, b ≠ l → H b = some o → H' b = some o
theorem Ext.refl (l : Addr) (H : Hp) : Ext l H H := fun _ _ _ e => e
theorem Ext.trans {l : Addr} {H H1 H2 : Hp} (a : Ext l H H1) (b : Ext l H1 H2) : Ext l H H2 := fun c o n e => b c o n (a c o n e)
theorem Ext.new {l p : Addr} {H : Hp} {o : HO} (h : H p = none) : Ext l H (upd H p o) := fun c u _ e => by rw [upd_ne (ne_of_none e h)]; exact e
theorem Ext.set {l : Addr} {H : Hp} {o : HO} : Ext l H (upd H l o) := fun c u n e => by rw [upd_ne n]; exact e
theorem Same.ext {l : Addr} {H H' : Hp} (s : Same H H') : Ext l H H' := fun c o _ e => s c o e
theorem Same.new {p : Addr} {H : Hp} {o : HO} (h : H p = none) : Same H (upd H p o) := fun c u e => by rw [upd_ne (ne_of_none e h)]; exact e
theorem Same.upd {p : Addr} {H H' : Hp} {o : HO} (s : Same H H') (h : H p = none) : Same H (upd H' p o) := fun c u e => by rw [upd_ne (ne_of_none e h)]; exact s c u e
theorem Ext.upd {l p : Addr} {H H' : Hp} {o : HO} (s : Ext l H H') (h : H p = none) : Ext l H (upd H' p o) := fun c u n e => by rw [upd_ne (ne_of_none e h)]; exact s c u n e
theorem Ext.free {l p : Addr} {H H' : Hp} (s : Ext l H H') (n : p ≠ l) (h : H' p = none) : H p = none := by
  cases e : H p with
  | none => rfl
  | some o => rw [s p o n e] at h; cases h
theorem cx_K {CX : CXT} {P : Program} {w : World} {K : PySem.W.Frag} {mg : Str → Option Value} {base : Heap} {N : List Str} {qual : Str} {scope : Scope} {f : Addr} {cd : Value} {A : Around} {outer : List Env} {s : Shared} {H : Hp} {E : XK} : (cxOf CX P w K mg base N qual scope f cd A outer s H E).K = K := rfl
theorem in_K {X : Cx} {N : List Str} {scope : Scope} {cl : List (Str × Addr)} {s : Shared} {H : Hp} {fp : List Addr} : (cxIn X N scope cl s H fp).K = X.K := rfl
theorem wish_K {X : Cx} {E : Value → Shared → Prop} : (X.wish E).K = X.K := rfl
theorem pe_globI {X : Cx} {x : Str} {i : Int} {pos : Pos} (hg : Gl X x) (hm : ∃ t, X.mg x = some (.int i t)) (hd : (x == ("__debug__" : Str)) = false := by decide) : PE X (.Name x pos) (tC (.int i)) := by
  obtain ⟨t, e⟩ := hm
  exact pe_glob hg e ⟨t, rfl⟩ hd
theorem atI_at {α : Type} {xs : List α} {i : Int} {v : α} (h0 : 0 ≤ i) (h : xs[i.toNat]? = some v) : atI xs i = some v := by
  have e : ((i.toNat : Nat) : Int) = i := Int.toNat_of_nonneg h0
  rw [← e]
  exact atI_nat h
def isStar : Expr → Bool
  | .Starred _ _ => true
  | _ => false
theorem star_cons {e : Expr} {es : List Expr} {env : Env} (h : isStar e = false) : starEach (e :: es) env = (false, eval e env) :: starEach es env := by
  cases e <;> first | rfl | cases h
theorem star_any {pos : Pos} {env : Env} : ∀ {es : List Expr}, es.all (fun x => !isStar x) = true → (backTo pos (starEach es env)).any (·.1) = false
  | [], _ => rfl
  | e :: es, h => by
    rw [List.all_cons, Bool.and_eq_true] at h
    have h1 : isStar e = false := by simpa using h.1
    rw [star_cons h1]
    show ((false, _).1 || (backTo pos (starEach es env)).any (·.1)) = false
    rw [star_any h.2]
    rfl
section
variable {X : Cx} {x : Str} {p pos : Pos} {e : Expr} {es : List Expr} {te : TE} {t : TA} {id T : String} {r : List V → Hp → VK → Prop}
theorem pa_c (ha : PE X e te) (hr : PA X es t) (h : isStar e = false := by rfl) : PA X (e :: es) (tCons te t) := pa_cons ha hr (star_cons h)
theorem pe_cB (hc : CallR X (.builtin id) r) (hg : Gl X x) (hm : X.mg x = none) (hv : bootBuiltins x = some (.builtin id)) (ha : PA X (e :: es) t) (h : isStar e = false := by rfl) (h2 : es.all (fun x => !isStar x) = true := by rfl)
    (hn : x ≠ "__name__" := by decide) (hdb : (x == ("__debug__" : Str)) = false := by decide) : PE X (.Call (.Name x p) (e :: es) [] pos) (tCB r t) := pe_callB hc hg hm hv ha hn hdb (star_cons h) (star_any h2)
theorem pe_cT (hc : CallR X (.type T) r) (hg : Gl X x) (hm : X.mg x = none) (hv : bootBuiltins x = some (.type T)) (ha : PA X (e :: es) t) (h : isStar e = false := by rfl) (h2 : es.all (fun x => !isStar x) = true := by rfl)
    (hn : x ≠ "__name__" := by decide) (hdb : (x == ("__debug__" : Str)) = false := by decide) : PE X (.Call (.Name x p) (e :: es) [] pos) (tCB r t) := pe_callTy hc hg hm hv ha hn hdb (star_cons h) (star_any h2)
theorem pe_c {k : Nat} {sp : Sp} (C : Cal X.prog X.w X.K X.mg X.base x k sp) (hr : Room k X.A) (hg : Gl X x) (ha : PA X (e :: es) t) (h : isStar e = false := by rfl) (h2 : es.all (fun x => !isStar x) = true := by rfl)
    (hdb : (x == ("__debug__" : Str)) = false := by decide) : PE X (.Call (.Name x p) (e :: es) [] pos) (tCall sp [] E0 t) := pe_cal C hr hg ha hdb (star_cons h) (star_any h2)
theorem pe_n {C : Addr} {k : Nat} {sp : Sp} (M : CalI X.prog X.w X.K X.mg X.base x C k sp) (hr : Room (k + 1) X.A) (hg : Gl X x) (ha : PA X (e :: es) t) (h : isStar e = false := by rfl) (h2 : es.all (fun x => !isStar x) = true := by rfl)
    (hdb : (x == ("__debug__" : Str)) = false := by decide) : PE X (.Call (.Name x p) (e :: es) [] pos) (tMake C sp [] E0 t) := pe_new M hr hg ha hdb (star_cons h) (star_any h2)
theorem pi_r1 {tg a : Expr} {ta : TA} (hg : Gl X "range") (hm : X.mg "range" = none) (ha : PA X [a] ta) (h : isStar a = false := by rfl) : PI X tg (.Call (.Name "range" p) [a] [] pos) (iRng1 ta) := pi_range1 hg hm ha (star_cons h)
theorem pi_r2 {tg a b : Expr} {ta : TA} (hg : Gl X "range") (hm : X.mg "range" = none) (ha : PA X [a, b] ta) (h : isStar a = false := by rfl) (h2 : isStar b = false := by rfl) : PI X tg (.Call (.Name "range" p) [a, b] [] pos) (iRng2 ta) :=
  pi_range2 hg hm ha (by rw [star_cons h, star_cons h2]; rfl) (star_cons h2)
end
theorem scal_ii {i j : Int} : scal (.int i) (.int j) = true := rfl
theorem scal_bb {i j : Bool} : scal (.bl i) (.bl j) = true := rfl
theorem scal_ss {i j : Str} : scal (.str i) (.str j) = true := rfl
theorem pe_ty {X : Cx} {x : Str} {n : String} {pos : Pos} (hg : Gl X x) (hm : X.mg x = none) (hv : bootBuiltins x = some (.type n)) (hn : x ≠ "__name__" := by decide) (hd : (x == ("__debug__" : Str)) = false := by decide) : PE X (.Name x pos) (tC (.ty n)) := pe_bltn (v := .ty n) hg hm hv rfl hn hd
section
variable {X : Cx} (K : PySem.W.Frag) (hK : X.K = K)
include hK
theorem ix_listK : IxR X (rIxL K) := by subst hK; exact ix_list
end
end L2
set_option maxHeartbeats 1000000
namespace HT
open PySem PySem.Spec PyProof.Rows
section
variable {prog : Program} {w : World} {A : Around} {E : Value → Shared → Prop} {s : Shared}
end
end HT
namespace L2
open PySem PySem.Spec PyProof.Rows
def tRev (K : PySem.W.Frag) (te : TE) : TE := fun σ H Q => te σ H fun x H1 => ∃ a u v, x = .ref a ∧ SqT K H1 a [u, v] ∧ ∀ p, H1 p = none → Q (.ref p) (upd H1 p (.tup [v, u]))
section
variable {X : Cx} {e es : Expr} {te ts : TE} {pos p2 : Pos}
end
end L2
set_option maxHeartbeats 1000000
namespace L2
open PySem PySem.Spec PyProof.Rows
section
variable {X : Cx}
def rGetL (K : PySem.W.Frag) : V → V → Hp → VK → Prop := fun x y H Q => ∃ p xs i v, x = .ref p ∧ y = .int i ∧ 0 ≤ i ∧ SqL K H p xs ∧ xs[i.toNat]? = some v ∧ Q v H
end
def Big (x : Int) : Prop := -(100000000000000000000000000000000) < x ∧ x < 100000000000000000000000000000000
theorem Big.mul {x y : Int} (hx : Big x) (hy : Big y) : IntMulOk x y := by
  have e : (2 : Nat) ^ 200 > 100000000000000000000000000000000 := by decide +kernel
  have b : ∀ {z : Int}, Big z → Builtin.Int.intBits z ≤ 2 ^ 20 := fun {z} h => by
    have hz : z.natAbs < 2 ^ 200 := by have := h.1; have := h.2; omega
    unfold Builtin.Int.intBits
    split
    · exact Nat.zero_le _
    · rename_i h0
      have : z.natAbs.log2 < 200 := (Nat.log2_lt (by intro c; apply h0; simpa using c)).mpr hz
      have e2 : (2 : Nat) ^ 20 = 1048576 := by decide
      rw [e2]
      omega
  exact .of_bits (b hx) (b hy)
def atZ (ns : List Int) (i : Int) : Int := ns.getD i.toNat 0
theorem atZ_get {ns : List Int} {i : Int} (h : i.toNat < ns.length) : (ns.map V.int)[i.toNat]? = some (.int (atZ ns i)) := by
  rw [List.getElem?_map, List.getElem?_eq_getElem h]
  simp [atZ, h]
theorem atZ_mem {ns : List Int} {i : Int} (h : i.toNat < ns.length) : atZ ns i ∈ ns := by
  unfold atZ
  rw [List.getD_eq_getElem?_getD, List.getElem?_eq_getElem h]
  exact List.getElem_mem h
def arrZ (a b : List Int) : List (Int × Int) → Int
  | [] => 0
  | q :: ps => arrZ a b ps + atZ a q.1 * atZ b q.2
def arrZ' (a b : List Int) (ps : List (Int × Int)) : Int := arrZ a b ps.reverse
def dotZ (a b : List Int) : Nat → Int
  | 0 => 0
  | n + 1 => dotZ a b n + atZ a n * atZ b n
def formZ (ps : List (Int × Int)) (a b : List Int) : Int := dotZ a b a.length - arrZ' a b ps
def mirS (ns : List Int) (k : Int) : List (Int × Int) → Int
  | [] => 0
  | q :: ps => mirS ns k ps + (if q.1 = k then atZ ns q.2 else if q.2 = k then atZ ns q.1 else 0)
def mirT (ns : List Int) (k : Int) (ps : List (Int × Int)) : Int := mirS ns k ps.reverse
def mirZ (k : Int) (ns : List Int) (ps : List (Int × Int)) : List Int := ns.set k.toNat (mirT ns k ps - atZ ns k)
def NoLoop (ps : List (Int × Int)) : Prop := ∀ q ∈ ps, q.1 ≠ q.2
def NonNeg (ps : List (Int × Int)) : Prop := ∀ q ∈ ps, 0 ≤ q.1 ∧ 0 ≤ q.2
def Med (x : Int) : Prop := -(1000000000000000000000000000000) ≤ x ∧ x ≤ 1000000000000000000000000000000
theorem Med.big {x : Int} (h : Med x) : Big x := by unfold Med at h; unfold Big; omega
end L2
set_option maxHeartbeats 1000000
namespace L2
open PySem PySem.Spec PyProof.Rows
section
variable {X : Cx} {pins : List (Addr × Obj)} {σ : St} {H : Hp} {s : Shared} {h' : Heap}
end
def Itz (K : PySem.W.Frag) (a b : Addr) : It :=
  ⟨fun i H => ∃ xs ys x y, SqL K H a xs ∧ SqL K H b ys ∧ xs[i]? = some x ∧ ys[i]? = some y,
   fun i H v H' => ∃ x y p, v = .ref p ∧ H p = none ∧ H' = upd H p (.tup [x, y]) ∧ (∀ xs, SqL K H a xs → xs[i]? = some x) ∧ ∀ ys, SqL K H b ys → ys[i]? = some y,
   fun i H => ∃ xs ys, SqL K H a xs ∧ SqL K H b ys ∧ (xs.length ≤ i ∨ ys.length ≤ i)⟩
section
variable {X : Cx}
def iZip (K : PySem.W.Frag) (ta : TA) : TI := fun σ H R => ta σ H fun vs H1 => ∃ a b, vs = [.ref a, .ref b] ∧ (∃ xs, SqL K H1 a xs) ∧ (∃ ys, SqL K H1 b ys) ∧ R (Itz K a b) H1
end
section
variable {K : PySem.W.Frag} {a b D : Addr} {xs ys : List V} {g : TG} {tt : TT} {te : TE} {k : Nat} {fr : List (Str × Nat)} {σ : St} {H1 : Hp} {Q : VK}
end
end L2
set_option maxHeartbeats 1000000
namespace L2
open PySem PySem.Spec PyProof.Rows
def nrm (a b : Int) : Int × Int := (a / (Int.gcd a b : Int), b / (Int.gcd a b : Int))
def Low (x : Int × Int) : Prop := 0 < x.2 ∧ Int.gcd x.1 x.2 = 1
theorem emulL (a b p : Int) : a % p * b % p = a * b % p := by rw [Int.mul_emod, Int.emod_emod, ← Int.mul_emod]
theorem emulR (a b p : Int) : a * (b % p) % p = a * b % p := by rw [Int.mul_emod, Int.emod_emod, ← Int.mul_emod]
theorem gcd_pos' {a b : Int} (hb : 0 < b) : 0 < (Int.gcd a b : Int) := by
  have : 0 < Int.gcd a b := Int.gcd_pos_of_ne_zero_right a (by omega)
  omega
theorem nrm_fst {a b : Int} : (nrm a b).1 * (Int.gcd a b : Int) = a := Int.ediv_mul_cancel (Int.gcd_dvd_left ..)
theorem nrm_snd {a b : Int} : (nrm a b).2 * (Int.gcd a b : Int) = b := Int.ediv_mul_cancel (Int.gcd_dvd_right ..)
theorem nrm_pos {a b : Int} (hb : 0 < b) : 0 < (nrm a b).2 := by
  have h2 := @nrm_snd a b
  have g0 := gcd_pos' (a := a) hb
  rcases Int.lt_trichotomy 0 (nrm a b).2 with h | h | h
  · exact h
  · rw [← h, Int.zero_mul] at h2; omega
  · have := Int.mul_neg_of_neg_of_pos h g0
    omega
theorem nrm_low {a b : Int} (hb : 0 < b) : Low (nrm a b) := by
  refine ⟨nrm_pos hb, ?_⟩
  have h := Int.gcd_mul_right (nrm a b).1 (Int.gcd a b : Int) (nrm a b).2
  rw [nrm_fst, nrm_snd] at h
  have g0 := gcd_pos' (a := a) hb
  have : Int.gcd a b = Int.gcd (nrm a b).1 (nrm a b).2 * Int.gcd a b := by simpa using h
  have g1 : 0 < Int.gcd a b := by omega
  exact (Nat.eq_of_mul_eq_mul_right g1 (by omega)).symm
theorem natAbs_ediv_le (a : Int) {g : Int} (hg : 0 < g) (hd : g ∣ a) : (a / g).natAbs ≤ a.natAbs := by
  obtain ⟨k, rfl⟩ := hd
  rw [Int.mul_ediv_cancel_left _ (by omega), Int.natAbs_mul]
  exact Nat.le_mul_of_pos_left _ (by omega)
def Bd (B : Nat) (x : Int × Int) : Prop := x.1.natAbs ≤ B ∧ x.2.natAbs ≤ B
theorem nrm_bd {a b : Int} {B : Nat} (hb : 0 < b) (h1 : a.natAbs ≤ B) (h2 : b.natAbs ≤ B) : Bd B (nrm a b) :=
  ⟨Nat.le_trans (natAbs_ediv_le a (gcd_pos' hb) (Int.gcd_dvd_left ..)) h1, Nat.le_trans (natAbs_ediv_le b (gcd_pos' hb) (Int.gcd_dvd_right ..)) h2⟩
def Isn (p : Int) (x : Int × Int) : Prop := (p = 0 ∧ Low x) ∨ (0 < p ∧ 0 ≤ x.1 ∧ x.1 < p ∧ x.2 = 1)
def plusN (p : Int) (x y : Int × Int) : Int × Int := if p = 0 then nrm (x.1 * y.2 + y.1 * x.2) (x.2 * y.2) else ((x.1 + y.1) % p, 1)
def minusN (p : Int) (x y : Int × Int) : Int × Int := if p = 0 then nrm (x.1 * y.2 - y.1 * x.2) (x.2 * y.2) else ((x.1 - y.1) % p, 1)
def timesN (p : Int) (x y : Int × Int) : Int × Int := if p = 0 then nrm (x.1 * y.1) (x.2 * y.2) else (x.1 * y.1 % p, 1)
def intN (p k : Int) : Int × Int := if p = 0 then (k, 1) else (k % p, 1)
theorem Isn.pos {p : Int} {x : Int × Int} (h : Isn p x) : 0 < x.2 := by
  rcases h with ⟨_, h⟩ | ⟨_, _, _, h⟩
  · exact h.1
  · omega
theorem isn_nrm {p a b : Int} (hp : p = 0) (hb : 0 < b) : Isn p (nrm a b) := .inl ⟨hp, nrm_low hb⟩
theorem gcd_step (a b : Int) : Int.gcd b (a % b) = Int.gcd a b := by
  rw [Int.emod_def, Int.sub_eq_add_neg, ← Int.mul_neg, Int.gcd_add_mul_left_right, Int.gcd_comm]
def CDivG (i j : Int) : Prop := 0 < j ∧ j.natAbs ≤ 100000000000000000000000000000000
theorem op_fdivG {X : Cx} : OpR X (binaryOp .FloorDiv) (rI CDivG fun i j => .int (i / j)) := opI fun i j _ _ _ _ _ hc q => by
  have h1 : (0 : Int) < j := hc.1
  have h2 := hc.2
  refine floordiv_int (by omega) (by rw [Int.fdiv_eq_ediv_of_nonneg i (by omega)]; exact q) (.inl (PyProof.noPylong_of_log2 ?_))
  have : j.natAbs.log2 < 200 := (Nat.log2_lt (by omega)).mpr (Nat.lt_of_le_of_lt h2 (by decide +kernel))
  omega
theorem Bd.big {B : Nat} {x : Int × Int} (h : Bd B x) (hB : B < 100000000000000000000000000000000) : Big x.1 ∧ Big x.2 := by
  obtain ⟨h1, h2⟩ := h
  exact ⟨⟨by omega, by omega⟩, ⟨by omega, by omega⟩⟩
structure FunD (K : PySem.W.Frag) (x qual : Str) (st : Stmt) (f : Addr) (fd : FuncData) (T : Addr) : Prop where
  ex : ∃ (oc : Value) (od : Option Addr) (kV doc pm : Value) (an : Option Addr) (cdv ct : Value) (osl : Array (Option Value)),
    fd = PySem.W.fnOf x qual (defArgs st) (defBody st) (defScope st) (.ref T) kV doc pm an cdv ct ∧ K.lookup f = some ⟨oc, od, .func fd, osl⟩ ∧ PySem.W.codeIn K cdv qual = true
section
variable {P : Program} {w : World} {K : PySem.W.Frag} {mg : Str → Option Value} {base : Heap}
theorem FunD.ok {x qual : Str} {st : Stmt} {f T : Addr} {fd : FuncData} {N ps : List Str} {k : Nat} {sp : Sp} (F : FunD K x qual st f fd T) (S : FnScope N ps (defScope st)) (len : ∀ vs H Q E, sp vs H Q E → vs.length = ps.length)
    (hbody : ∀ (cdv : Value) (A : Around) (outer : List Env) (s : Shared) (H : Hp) (vs : List V) (Q : VK) (E : XK), Room k (A.deeper (envOfC qual (defScope st) s.heap.objs.size f cdv)) → sp vs H Q E →
      ∃ t, PSs (cxOf CX0 P w K mg base N qual (defScope st) f cdv A outer s H E).nox (defBody st) t ∧ t { nx := fun _ H' => Q .non H', rt := Q } (start N vs) H) : FnOk P w K mg base CX0 (k + 1) f fd ps sp := by
  obtain ⟨oc, od, kV, doc, pm, an, cdv, ct, osl, rfl, lk, hcd⟩ := F.ex
  refine fn_of lk hcd S len fun A outer s H vs Q E hr hsp => ?_
  obtain ⟨t, h, q⟩ := hbody cdv A outer s H vs Q E hr hsp
  exact ⟨t, h.nox, q⟩
end
structure CalD (P : Program) (w : World) (K : PySem.W.Frag) (mg : Str → Option Value) (base : Heap) (C : Addr) (m : Str) (k : Nat) (sp : Sp) (dvs : List V) : Prop where
  ex : ∃ (f : Addr) (fd : FuncData) (ps : List Str) (ds : List Value), FnOk P w K mg base CX0 k f fd ps sp ∧ Meth K C m f ∧ Binds K fd ps ds ∧ Vals dvs ds
theorem binds_default {K : PySem.W.Frag} {fd : FuncData} {ps : List Str} {T : Addr} {oc : Value} {od : Option Addr} {osl : Array (Option Value)} {items : Array Value} {n : Nat} {ds : List Value} (lk : K.lookup T = some ⟨oc, od, .seq items n, osl⟩) (hd : fd.defaults = .ref T)
    (h : ∀ us : List Value, (us ++ ds).length = ps.length → ∃ k, bindArgs fd ⟨us, []⟩ = seqItems? fd.defaults >>= k ∧ k (some items) = pure (ps.zip (us ++ ds))) : Binds K fd ps ds := fun s us KX hl => by
  obtain ⟨k, h1, h2⟩ := h us hl
  exact .of_defaults hd (KX T _ lk) rfl h1 h2
def rEqN (K : PySem.W.Frag) : R2 := fun x y H Q => rEq x y H Q ∨ rEqT K false x y H Q
def rNeN (K : PySem.W.Frag) : R2 := fun x y H Q => rNe x y H Q ∨ rEqT K true x y H Q
theorem op_eqN {X : Cx} (hu : X.A.units + 8 < cLine) : OpR X (compareOp .Eq) (rEqN X.K) := op_eq.or (op_eqT hu)
theorem pair_eq {K : PySem.W.Frag} {H : Hp} {t u : Addr} {a b : Int} (neg : Bool) {Q : VK} (ht : H t = some (.tup [.int a, .int b])) (hu : H u = some (.tup [.int a, .int b])) (q : Q (.bl !neg) H) : rEqT K neg (.ref t) (.ref u) H Q := by
  have e : ∀ i : Int, eqV (.int i) (.int i) = true := fun i => by simp [eqV]
  refine ⟨t, u, _, _, [true, true], rfl, rfl, SqT.of ht, SqT.of hu, ⟨rfl, rfl, fun j x y c e1 e2 e3 => ?_⟩, ?_⟩
  · match j, e1, e2, e3 with
    | 0, e1, e2, e3 =>
      cases e1; cases e2; cases e3
      have := EqD.flat (K := K) (H := H) (n := 6) (x := .int a) (y := .int a) rfl rfl
      rw [e] at this
      exact this
    | 1, e1, e2, e3 =>
      cases e1; cases e2; cases e3
      have := EqD.flat (K := K) (H := H) (n := 6) (x := .int b) (y := .int b) rfl rfl
      rw [e] at this
      exact this
    | j + 2, e1, _, _ => cases e1
  · cases neg <;> exact q
end L2
namespace L2
open PySem PySem.Spec PyProof.Rows
def rBits : V → List V → Hp → VK → Prop := fun x vs H Q => ∃ i : Int, x = .int i ∧ vs = [] ∧ Q (.int ((Builtin.Int.intBits i : Nat) : Int)) H
theorem mt_bits {X : Cx} : MtM X "int.bit_length" rBits := by
  intro pins s σ H x vs v us Q I rx rv h
  obtain ⟨i, rfl, rfl, q⟩ := h
  obtain ⟨t, rfl⟩ := rx
  have hus := rv.zero
  subst hus
  exact call_gives F.slot_int_bit_length (typeIs_int s i t) F.entry_int_bit_length (F.args_int_bit_length_1 _) (AutoIntG2.int_bit_length_int_0 i t) ⟨.int ((Builtin.Int.intBits i : Nat) : Int), H, I.tok _, ⟨_, rfl⟩, q⟩
theorem bits_le {i : Int} {n : Nat} (h : i.natAbs < 2 ^ n) : Builtin.Int.intBits i ≤ n := by
  unfold Builtin.Int.intBits
  split
  · exact Nat.zero_le _
  · rename_i h0
    have h1 : i.natAbs ≠ 0 := by
      intro e
      exact h0 (by simp [Int.natAbs_eq_zero.mp e])
    exact (Nat.log2_lt h1).mpr h
end L2
set_option maxHeartbeats 1000000
namespace L2
open PySem PySem.Spec PyProof.Rows
def Ite (K : PySem.W.Frag) (a : Addr) : It :=
  ⟨fun i H => ∃ xs x, SqL K H a xs ∧ xs[i]? = some x,
   fun i H v H' => ∃ x p, v = .ref p ∧ H p = none ∧ H' = upd H p (.tup [.int i, x]) ∧ (∀ xs, SqL K H a xs → xs[i]? = some x),
   fun i H => ∃ xs, SqL K H a xs ∧ xs.length ≤ i⟩
section
variable {X : Cx}
def iEnm (K : PySem.W.Frag) (ta : TA) : TI := fun σ H R => ta σ H fun vs H1 => ∃ a, vs = [.ref a] ∧ (∃ xs, SqL K H1 a xs) ∧ R (Ite K a) H1
end
section
variable {K : PySem.W.Frag} {a b D : Addr} {xs ys : List V} {g : TG} {tt : TT} {te : TE} {k : Nat} {fr : List (Str × Nat)} {σ : St} {H1 : Hp} {Q : VK}
end
end L2
set_option maxHeartbeats 1000000
namespace L2
open PySem PySem.Spec PyProof.Rows
theorem pick_rev (vs : List Value) : slicePick vs.toArray none none (some (-1)) = vs.reverse.toArray := by
  unfold slicePick
  have e : sliceRange (sliceBounds none none (some (-1)) vs.toArray.size).1 (sliceBounds none none (some (-1)) vs.toArray.size).2.1 (sliceBounds none none (some (-1)) vs.toArray.size).2.2 = (List.range vs.length).map fun k => vs.length - 1 - k := by
    have h1 : ¬ ((some (-1 : Int)).getD 1 > 0) := by decide
    have b : sliceBounds none none (some (-1)) vs.toArray.size = ((vs.length : Int) - 1, -1, -1) := by
      simp [sliceBounds]
    rw [b]
    unfold sliceRange
    have h0 : ¬ ((-1 : Int) > 0) := by decide
    simp only [h0, if_false]
    have hc : (if (vs.length : Int) - 1 > -1 then ((vs.length : Int) - 1 - -1 - -1 - 1) / (- -1) else 0).toNat = vs.length := by
      by_cases hn : (vs.length : Int) - 1 > -1
      · rw [if_pos hn]
        have : ((vs.length : Int) - 1 - -1 - -1 - 1) / (- -1) = vs.length := by
          have e : (- -1 : Int) = 1 := by decide
          rw [e, Int.ediv_one]; omega
        rw [this]; simp
      · rw [if_neg hn]; omega
    rw [hc]
    apply List.map_congr_left
    intro k hk
    have hk' : k < vs.length := List.mem_range.mp hk
    omega
  rw [e]
  congr 1
  apply List.ext_getElem?
  intro i
  have g : ∀ l : List Nat, (∀ j ∈ l, j < vs.length) → ∀ i : Nat, (l.filterMap (vs.toArray[·]?))[i]? = (l[i]?).bind (vs[·]?) := by
    intro l
    induction l with
    | nil => intro _ i; simp
    | cons a r ih =>
      intro h i
      have ha : a < vs.length := h a (List.mem_cons_self ..)
      have e : vs.toArray[a]? = some vs[a] := by simp [ha]
      rw [List.filterMap_cons, e]
      cases i with
      | zero => simp [ha]
      | succ i => simpa using ih (fun j hj => h j (List.mem_cons_of_mem _ hj)) i
  rw [g _ (fun j hj => by obtain ⟨k, hk, rfl⟩ := List.mem_map.mp hj; have := List.mem_range.mp hk; omega) i]
  by_cases hi : i < vs.length
  · rw [List.getElem?_map, List.getElem?_range hi, List.getElem?_reverse hi]
    rfl
  · rw [List.getElem?_eq_none (by simp; omega), List.getElem?_eq_none (by simp; omega)]
    rfl
def tRevL (K : PySem.W.Frag) (te : TE) : TE := fun σ H Q => te σ H fun x H1 => ∃ a xs, x = .ref a ∧ SqL K H1 a xs ∧ ∀ p, H1 p = none → Q (.ref p) (upd H1 p (.lst xs.reverse))
section
variable {X : Cx} {e es : Expr} {te ts : TE} {pos p2 : Pos}
theorem pe_revL (K : PySem.W.Frag) (hK : X.K = K) (he : PE X e te) (hs : PE X es ts) (hts : ∀ σ H Q, Q (.int (-1)) H → ts σ H Q) : PE X (.Subscript e (.Slice none none (some es) p2) pos) (tRevL K te) := by
  subst hK
  intro pins s σ H Q I h
  refine Subscript_ (thn (he pins s σ H _ I h) fun v s1 ⟨x, H1, I1, r1, q1⟩ => ?_)
  obtain ⟨a, ys, rfl, hx, q⟩ := q1
  cases r1
  refine wpAny_Slice ?_
  rw [evalPart_none]
  refine wpAny_pure ?_
  refine wpAny_pure ?_
  rw [evalPart_some]
  refine thn (hs pins s1 σ H1 (fun x H2 => x = .int (-1) ∧ H2 = H1) I1 (hts _ _ _ ⟨rfl, rfl⟩)) fun vu s3 ⟨u, H3, I3, pu, q3⟩ => ?_
  obtain ⟨rfl, rfl⟩ := q3
  obtain ⟨t, rfl⟩ := pu
  have I4 : Inv X pins σ H3 { s3 with heap := s3.heap.push { cls := .type "slice", data := .fields #[.none, .none, .int (-1) t] } } := I3.kept (t' := s3.toks) fun b ob q => Heap.get?_push_of_some _ q
  obtain ⟨its, r, ht, hz⟩ := I4.list hx
  have hlen := r.length
  show wpAny (model X.prog X.w) X.A (subscriptTail e (.Slice none none (some es) p2) (.ref a) (.ref s3.heap.objs.size)) (EP X pins σ Q) X.xe { s3 with heap := s3.heap.push { cls := .type "slice", data := .fields #[.none, .none, .int (-1) t] } }
  refine tail_any (ops := [.ref a, .ref s3.heap.objs.size]) ht.isList.typeIs slot_list_getitem.lookup (wpAny_getItem_list_slice ht.isList (Heap.IsSliceOf.new ..) .none .none (.int (-1) t) (by simp) ?_ (by rw [List.size_toArray] <;> omega)) (by with_unfolding_all rfl)
  rw [pick_rev]
  refine ⟨.ref (Heap.push _ _).objs.size, _, I4.laid (t' := s3.toks) (o := .lst ys.reverse) (fun b ob q => Heap.get?_push_of_some _ q) (Nat.le_refl _) ?_, rfl, q _ (I4.hok.fresh (Nat.le_refl _))⟩
  exact ⟨by rw [List.length_reverse]; exact hz, _, 0, Vals.reverse r, Heap.get?_push_size _ rfl⟩
end
end L2
namespace L2
open PySem PySem.Spec PyProof.Rows PySem.W
structure Trk (B : Heap) (fr : List Env) (e : Addr) (cls c0 fl : Value) (h : Heap) : Prop where
  st : B.StaysIn h
  nw : B.get? e = none
  ff : h.FunFrames B fr
  ob : ∃ (o : Obj) (vs : Array Value) (T : Addr) (oT : Obj) (us : Array Value), h.get? e = some o ∧ o.cls = cls ∧ o.data = .fields vs ∧ vs[2]? = some c0 ∧ vs[1]? = some (.ref T) ∧ B.get? T = none ∧ T ≠ e ∧ h.get? T = some oT ∧ oT.data = .fields us ∧ us[3]? = some fl
theorem Trk.there {B h : Heap} {fr : List Env} {e : Addr} {cls c0 fl : Value} (x : Trk B fr e cls c0 fl h) : ∃ o, h.get? e = some o ∧ o.cls = cls :=
  let ⟨o, _, _, _, _, a, b, _⟩ := x.ob; ⟨o, a, b⟩
theorem Trk.outer {B h : Heap} {env : Env} {fr : List Env} {e : Addr} {cls c0 fl : Value} (x : Trk B (env :: fr) e cls c0 fl h) : Trk B fr e cls c0 fl h := ⟨x.st, x.nw, x.ff.2.2, x.ob⟩
section
variable {M : Model} {A : Around} {E : Value → Shared → Prop} {s : Shared} {B : Heap} {fr : List Env} {e L : Addr} {cls c0 : Value} {Q : Unit → Shared → Prop}
theorem slots_of_other {h h' : Heap} {T : Addr} {oT : Obj} {us : Array Value} (hT : h.get? T = some oT) (hd : oT.data = .fields us) (k : ∀ b, b ≠ T → h'.get? b = h.get? b) : h.UpToSlots h' := fun b o hb hn =>
  ⟨o.slots, by rw [k b (fun z => by rw [z, hT] at hb; cases hb; exact hn us hd)]; exact hb⟩
theorem ff_slots {h h' : Heap} {B : Heap} {fr : List Env} (x : h.FunFrames B fr) (k : h.UpToSlots h') : h'.FunFrames B fr := x.of_keeps fun b o hb hn => let ⟨_, q⟩ := k b o hb hn; ⟨_, q, rfl⟩
theorem trk_mark {f0 : Value} (fo : Option Addr) (x : Trk B fr e cls c0 f0 s.heap) (k : ∀ h', Trk B fr e cls c0 (fo.elim .none fun f => rawInt f) h' → s.heap.UpToSlots h' → Q () { s with heap := h' }) : wpAny M A (setFlight (.ref e) fo) Q E s := by
  obtain ⟨o, vs, T, oT, us, he, hc, hd, g2, g1, nT, ne, hT, dT, g3⟩ := x.ob
  have z3 : 3 < us.size := (Array.getElem?_eq_some_iff.mp g3).1
  unfold setFlight
  refine wpAny_bind (wpAny_field he hd g1 ?_)
  rw [if_pos (by simp)]
  have oth : ∀ b, b ≠ T → (s.heap.update T (Obj.mapFields (·.setIfInBounds 3 (fo.elim Value.none fun f => rawInt f)))).get? b = s.heap.get? b := fun b hb => Heap.get?_update_other _ _ hb.symm
  have up := slots_of_other hT dT oth
  have me := Heap.get?_update_self (Obj.mapFields (·.setIfInBounds 3 (fo.elim Value.none fun f => rawInt f))) hT (Obj.isFreed_of_fields (Obj.data_mapFields dT _))
  exact wpAny_setField hT dT z3 (k _ ⟨fun b u hb => by rw [oth b (fun z => by rw [z, nT] at hb; cases hb)]; exact x.st b u hb, x.nw, ff_slots x.ff up, o, vs, T, _, _, by rw [oth e ne.symm]; exact he, hc, hd, g2, g1, nT, ne, me, Obj.data_mapFields dT _, by simp [z3]⟩ up)
theorem trk_entry {env : Env} {o : Obj} {vs : Array Value} {hd0 : Value} {bb : Bool} (fA : A.frames = some (env :: fr)) (ff : s.heap.FunFrames B (env :: fr)) (fE : env.frame = some L) (st : B.StaysIn s.heap) (nw : B.get? e = none)
    (he : s.heap.get? e = some o) (hd : o.data = .fields vs) (g2 : vs[2]? = some c0) (k : ∀ h', Trk B (env :: fr) e o.cls c0 (rawInt L) h' → s.heap.UpToSlots h' → Q () { s with heap := h' }) :
    wpAny M A (do let a ← frameOf env; let pl ← entryPlaceOf L bb; let b ← EntryCells.newEntry hd0 a .none (rawInt L) .none pl; setField (.ref e) 1 b) Q E s := by
  have z2 : 2 < vs.size := (Array.getElem?_eq_some_iff.mp g2).1
  have nfr : e ∉ (env :: fr).filterMap (·.frame) := fun z => by
    obtain ⟨_, u, hu, hn⟩ := ff.mem z
    rw [he] at hu
    cases hu
    exact hn vs hd
  refine wpAny_bind (wpAny_frameOf_fun fA ff fE fun g sg => wpAny_bind (wpAny_entryPlaceOf fun pl ip => ?_))
  unfold EntryCells.newEntry newFields
  refine wpAny_bind (wpAny_newObj_type (?_ : _) (ip.sizeOk5 _ _ _ _ _))
  have ge : g.get? e = some o := (sg.2.1 e nfr).trans he
  have stg : B.StaysIn g := fun b u hb => (sg.2.1 b fun z => by rw [(ff.mem z).1] at hb; cases hb).trans (st b u hb)
  have gs : s.heap.UpToSlots g := fun b u hb _ => sg.2.2 b u hb
  generalize htb : ({ cls := .type "traceback", dict := none, data := .fields ([hd0, .ref L, .none, rawInt L, .none] ++ (if pl.isEmpty then List.replicate 6 Value.none else pl)).toArray } : Obj) = tb
  have tbf : tb.isFreed = false := by rw [← htb]; rfl
  have ge2 : (g.push tb).get? e = some o := Heap.get?_push_of_some tb ge
  have nT : g.objs.size ≠ e := Nat.ne_of_gt (Heap.lt_size ge)
  have oth : ∀ b u, b ≠ e → g.get? b = some u → ((g.push tb).update e (Obj.mapFields (·.setIfInBounds 1 (Value.ref g.objs.size)))).get? b = some u := fun b u hb q => by
    rw [Heap.get?_update_other _ _ hb.symm]
    exact Heap.get?_push_of_some tb q
  have up : g.UpToSlots ((g.push tb).update e (Obj.mapFields (·.setIfInBounds 1 (Value.ref g.objs.size)))) := fun b u q hn => ⟨u.slots, oth b u (fun z => by rw [z, ge] at q; cases q; exact hn vs hd) q⟩
  have me := Heap.get?_update_self (Obj.mapFields (·.setIfInBounds 1 (Value.ref g.objs.size))) ge2 (Obj.isFreed_of_fields (Obj.data_mapFields hd _))
  have hT : ((g.push tb).update e (Obj.mapFields (·.setIfInBounds 1 (Value.ref g.objs.size)))).get? g.objs.size = some tb := by
    rw [Heap.get?_update_other _ _ nT.symm]
    exact Heap.get?_push_size g tbf
  refine wpAny_setField ge2 hd (by omega) (k _ ⟨fun b u hb => oth b u (fun z => by rw [z, nw] at hb; cases hb) (stg b u hb), nw, ff_slots ff (gs.trans up), _, _, g.objs.size, tb, _, me, Obj.cls_mapFields _ _, Obj.data_mapFields hd _, by rw [Array.getElem?_setIfInBounds_ne (by decide)]; exact g2, by simp [show 1 < vs.size by omega], stg.fresh, nT, hT, by rw [← htb], ?_⟩ (gs.trans up))
  first | (simp; done) | (rcases ip with rfl | ⟨_, _, _, _, _, _, _, rfl⟩ <;> simp)
theorem trk_first {env : Env} {o : Obj} {vs : Array Value} (fA : A.frames = some (env :: fr)) (ff : s.heap.FunFrames B (env :: fr)) (fE : env.frame = some L) (st : B.StaysIn s.heap) (nw : B.get? e = none)
    (he : s.heap.get? e = some o) (hd : o.data = .fields vs) (g2 : vs[2]? = some c0) (g1 : vs[1]? = some .none) (k : ∀ h', Trk B (env :: fr) e o.cls c0 (rawInt L) h' → s.heap.UpToSlots h' → Q () { s with heap := h' }) : wpAny M A (noteFrame (.ref e) env) Q E s := by
  unfold noteFrame
  rw [fE]
  refine wpAny_bind (wpAny_field he hd g1 ?_)
  exact trk_entry fA ff fE st nw he hd g2 k
theorem trk_next {env : Env} (fA : A.frames = some (env :: fr)) (fE : env.frame = some L) (x : Trk B (env :: fr) e cls c0 .none s.heap) (k : ∀ h', Trk B (env :: fr) e cls c0 (rawInt L) h' → s.heap.UpToSlots h' → Q () { s with heap := h' }) : wpAny M A (noteFrame (.ref e) env) Q E s := by
  obtain ⟨o, vs, T, oT, us, he, hc, hd, g2, g1, nT, ne, hT, dT, g3⟩ := x.ob
  have z3 : 3 < us.size := (Array.getElem?_eq_some_iff.mp g3).1
  have oth : ∀ b, b ≠ T → (s.heap.update T (Obj.mapFields (·.setIfInBounds 3 Value.none))).get? b = s.heap.get? b := fun b hb => Heap.get?_update_other _ _ hb.symm
  have up := slots_of_other hT dT oth
  unfold noteFrame
  rw [fE]
  refine wpAny_bind (wpAny_field he hd g1 ?_)
  rw [if_pos (by simp)]
  refine wpAny_bind (wpAny_field hT dT g3 ?_)
  rw [if_neg (by simp [rawInt])]
  refine wpAny_bind (wpAny_setField hT dT z3 ?_)
  exact trk_entry fA (ff_slots x.ff up) fE (fun b u hb => by rw [oth b (fun z => by rw [z, nT] at hb; cases hb)]; exact x.st b u hb) x.nw ((oth e ne.symm).trans he) hd g2 fun h' y q => k h' (hc ▸ y) (up.trans q)
theorem trk_leave {env : Env} (fA : A.frames = some (env :: fr)) (fE : env.frame = some L) (x : Trk B (env :: fr) e cls c0 .none s.heap) (k : ∀ h', Trk B fr e cls c0 .none h' → s.heap.UpToSlots h' → Q () { s with heap := h' }) : wpAny M A (leaving env (.ref e)) Q E s := by
  unfold leaving
  exact wpAny_bind (trk_next fA fE x fun h1 y q => trk_mark (s := { s with heap := h1 }) none y fun h2 y2 q2 => k h2 y2.outer (q.trans q2))
theorem trk_held {env : Env} (fE : env.frame = some L) (x : Trk B (env :: fr) e cls c0 (rawInt L) s.heap) (k : ∀ h', Trk B fr e cls c0 .none h' → s.heap.UpToSlots h' → Q () { s with heap := h' }) : wpAny M A (leaving env (.ref e)) Q E s := by
  obtain ⟨o, vs, T, oT, us, he, hc, hd, g2, g1, nT, ne, hT, dT, g3⟩ := x.ob
  unfold leaving noteFrame
  rw [fE]
  refine wpAny_bind (wpAny_bind (wpAny_field he hd g1 ?_))
  rw [if_pos (by simp)]
  refine wpAny_bind (wpAny_field hT dT g3 ?_)
  rw [if_pos (by simp)]
  exact wpAny_pure (trk_mark none x fun h2 y2 q2 => k h2 y2.outer q2)
theorem trk_made {env : Env} {h0 : Heap} {as : List Value} (fA : A.frames = some (env :: fr)) (fE : env.frame = some L) (st : B.StaysIn h0) (ff : h0.FunFrames B (env :: fr)) (x : Heap.MadeExcOf h0 s.heap e cls as)
    (k : ∀ h', Trk B fr e cls .none .none h' → s.heap.UpToSlots h' → Q () { s with heap := h' }) : wpAny M A (leaving env (.ref e)) Q E s := by
  obtain ⟨t, he, _, _⟩ := x.there
  have nw : B.get? e = none := by
    cases q : B.get? e with
    | none => rfl
    | some u => have := st e u q; rw [x.new] at this; cases this
  unfold leaving
  exact wpAny_bind (trk_first fA (ff.of_keeps fun b u hb _ => ⟨u, x.keeps b u hb, rfl⟩) fE (fun b u hb => x.keeps b u (st b u hb)) nw he rfl rfl rfl fun h1 y q => trk_mark (s := { s with heap := h1 }) none y fun h2 y2 q2 => k h2 y2.outer (q.trans q2))
end
end L2
namespace L2
open PySem PySem.Spec PyProof.Rows PySem.W
theorem HOk.track {P : Program} {w : World} {H : Hp} {h h' : Heap} (x : HOk P w H h) (k : ∀ b u o, H b = some u → h.get? b = some o → h'.get? b = some o) : HOk P w H h' := fun a o e =>
  (x a o e).stay (fun b u hb q => by
    rcases hb with rfl | hb
    · exact k b o u e q
    · exact k b _ u hb q) (fun _ z => z) fun _ _ z => z
theorem ObjOk.there {P : Program} {w : World} {H : Hp} {h : Heap} {a : Addr} {o : HO} (x : ObjOk P w H h a o) : ∃ u, h.get? a = some u := by
  cases o with
  | lst xs => obtain ⟨_, _, _, _, e⟩ := x; exact ⟨_, e⟩
  | tup xs => obtain ⟨_, _, _, p⟩ := x; obtain ⟨o, e, _⟩ := p; exact ⟨_, e⟩
  | dK kvs => obtain ⟨_, _, _, _, o, _, _, e, _⟩ := x; exact ⟨_, e⟩
  | dT kvs => obtain ⟨_, _, _, _, o, _, _, e, _⟩ := x; exact ⟨_, e⟩
  | set S n => obtain ⟨o, _, _, _, e, _⟩ := x; exact ⟨_, e⟩
  | ins C dx fs => obtain ⟨_, _, _, e, _⟩ := x; exact ⟨_, e⟩
  | own y => obtain ⟨_, e⟩ := x; exact ⟨_, e⟩
  | xd fs => obtain ⟨_, ⟨_, _, _, e, _⟩, _⟩ := x; exact ⟨_, e⟩
  | rng lo hi => obtain ⟨_, _, _, e⟩ := x; exact ⟨_, e⟩
  | frz ob u => obtain ⟨e, _⟩ := x; exact ⟨_, e⟩
  | tbl ps => exact ⟨_, (show h.get? a = some _ from x)⟩
  | met f y => exact ⟨_, (show h.get? a = some _ from x)⟩
  | ext φ => obtain ⟨_, ⟨_, e⟩, _⟩ := x; exact ⟨_, e⟩
structure Fly (P : Program) (w : World) (outer : List Env) (H : Hp) (s : Shared) (a : Addr) (cls c0 : Value) (H' : Hp) (s' : Shared) : Prop where
  os : s'.os = s.os
  bare : AllBare s'.gens
  hok : HOk P w H' s'.heap
  un : Un (frs outer) [] H H' s.heap s'.heap
  fly : ∃ B, Trk B outer a cls c0 .none s'.heap ∧ (∀ b o, s.heap.get? b = some o → b ∉ frs outer → ∃ o', B.get? b = some o') ∧ ∀ b u, H' b = some u → ∃ o', B.get? b = some o'
  new : ∀ o, s.heap.get? a ≠ some o
  free : H' a = none
def CXe (P : Program) (w : World) : CXT := fun outer H s E e s' => ∃ (a : Addr) (cls c0 : Value) (H' : Hp), e = .ref a ∧ Fly P w outer H s a cls c0 H' s' ∧ E cls none H' ∧ (c0 = .none ∨ E cls (some 0) H')
section
variable {P : Program} {w : World} {K : PySem.W.Frag} {mg : Str → Option Value} {base : Heap} {N : List Str} {qual : Str} {scope : Scope} {f : Addr} {cd : Value} {A : Around} {outer : List Env} {s : Shared} {H : Hp} {E : XK} {pins : List (Addr × Obj)} {σ : St} {H1 : Hp} {s1 s2 : Shared} {e : Addr} {cls : Value}
theorem xe_made {vs : List Value} (I : Inv (cxOf (CXe P w) P w K mg base N qual scope f cd A outer s H E) pins σ H1 s1) (hx : Heap.MadeExcOf s1.heap s2.heap e cls vs) (ho : s2.os = s1.os) (hg : AllBare s2.gens) (hE : E cls none H1) :
    (cxOf (CXe P w) P w K mg base N qual scope f cd A outer s H E).xe (.ref e) s2 := by
  show wpAny (model P w) (A.deeper (envOfC qual scope s.heap.objs.size f cd)) (leaving (envOfC qual scope s.heap.objs.size f cd) (.ref e)) (fun _ s'' => CXe P w outer H s E (.ref e) s'') (fun e' s'' => CXe P w outer H s E e' s'') s2
  have hin : ∀ env ∈ (envOfC qual scope s.heap.objs.size f cd :: outer), ∀ b, env.frame = some b → b ∈ frs (envOfC qual scope s.heap.objs.size f cd :: outer) := fun env he b hb => List.mem_filterMap.mpr ⟨env, he, hb⟩
  have hstk : s1.heap.FunFrames base (envOfC qual scope s.heap.objs.size f cd :: outer) := I.stack
  have hfree : ∀ b ∈ frs (envOfC qual scope s.heap.objs.size f cd :: outer), H1 b = none := I.stkFree
  have hsub : ∀ b ∈ frs (envOfC qual scope s.heap.objs.size f cd :: outer), b ∈ s.heap.objs.size :: frs outer := I.stkSub
  refine trk_made (B := hideAll s1.heap (frs (envOfC qual scope s.heap.objs.size f cd :: outer))) (h0 := s1.heap) I.ok.frames rfl (fun b o q => of_hideAll _ q) (funFrames_hide hstk hin) hx fun h' x1 x4 => ?_
  have keepB : ∀ b o, s1.heap.get? b = some o → b ∉ frs (envOfC qual scope s.heap.objs.size f cd :: outer) → h'.get? b = some o := fun b o q nb => x1.st b o (hideAll_get _ q nb)
  have hne : s1.heap.get? e = none := hx.new
  have ub : Un (frs outer) [] H H1 s.heap s1.heap := I.base
  have nst : ∀ b o, s.heap.get? b = some o → b ∉ frs outer → b ∉ frs (envOfC qual scope s.heap.objs.size f cd :: outer) := fun b o q nb z => by
    rcases List.mem_cons.mp (hsub b z) with e1 | z
    · exact absurd (Heap.lt_size q) (by rw [e1]; exact Nat.lt_irrefl _)
    · exact nb z
  have slotS : ∀ b o, s1.heap.get? b = some o → b ∈ frs (envOfC qual scope s.heap.objs.size f cd :: outer) → ∃ sl, h'.get? b = some { o with slots := sl } := fun b o q hb => by
    obtain ⟨_, o', ho', hd⟩ := hstk.mem hb
    rw [q] at ho'
    cases ho'
    exact x4 b o (hx.keeps b o q) hd
  refine ⟨e, cls, .none, H1, rfl, ⟨ho.trans I.os, hg, HOk.track I.hok (fun b u o hb q => keepB b o q (fun z => by rw [hfree b z] at hb; cases hb)), ⟨fun b o q n hb hx => ?_, fun b o q n hb hx => ?_, fun b o q n hx => ub.free b o q n hx, fun b o q hx => ?_, ub.tups, ub.frzs, ub.tbls⟩, ⟨_, x1, fun b o q nb => ?_, fun b u hb => ?_⟩, fun o q => ?_, ?_⟩, hE, .inl rfl⟩
  · exact keepB b o (ub.keep b o q n hb hx) (nst b o q hb)
  · obtain ⟨sl, e1⟩ := ub.slot b o q n hb hx
    obtain ⟨sl', e2⟩ := slotS b _ e1 (by unfold frs at hb ⊢; rw [List.filterMap_cons]; split <;> first | exact hb | exact List.mem_cons_of_mem _ hb)
    exact ⟨sl', e2⟩
  · obtain ⟨o', e1⟩ := ub.there b o q hx
    by_cases z : b ∈ frs (envOfC qual scope s.heap.objs.size f cd :: outer)
    · obtain ⟨sl, e2⟩ := slotS b o' e1 z
      exact ⟨_, e2⟩
    · exact ⟨o', keepB b o' e1 z⟩
  · obtain ⟨o', e1⟩ := ub.there b o q (by simp)
    exact ⟨o', hideAll_get _ e1 (nst b o q nb)⟩
  · obtain ⟨o', e1⟩ := ObjOk.there (I.hok b u hb)
    exact ⟨o', hideAll_get _ e1 fun z => by rw [hfree b z] at hb; cases hb⟩
  · obtain ⟨o', e1⟩ := ub.there e o q (by simp)
    rw [hne] at e1
    cases e1
  · cases z : H1 e with
    | none => rfl
    | some u =>
      obtain ⟨o', e1⟩ := ObjOk.there (I.hok e u z)
      rw [hne] at e1
      cases e1
theorem pass_on {E' : XK} (hE : ∀ cls o H', E' cls o H' → E cls o H') : Passes (CXe P w) (cxOf (CXe P w) P w K mg base N qual scope f cd A outer s H E) E' := by
  intro pins σ H1 s1 e s2 I h
  obtain ⟨a, cls, c0, H', rfl, F, e', e2'⟩ := h
  have F : Fly P w (envOfC qual scope s.heap.objs.size f cd :: outer) H1 s1 a cls c0 H' s2 := F
  obtain ⟨B, fl, inB, trB⟩ := F.fly
  show wpAny (model P w) (A.deeper (envOfC qual scope s.heap.objs.size f cd)) (leaving (envOfC qual scope s.heap.objs.size f cd) (.ref a)) (fun _ s'' => CXe P w outer H s E (.ref a) s'') (fun e' s'' => CXe P w outer H s E e' s'') s2
  have hsub : ∀ b ∈ frs (envOfC qual scope s.heap.objs.size f cd :: outer), b ∈ s.heap.objs.size :: frs outer := I.stkSub
  refine trk_leave (B := B) I.ok.frames rfl fl fun h' x1 x4 => ?_
  have ub : Un (frs outer) [] H H1 s.heap s1.heap := I.base
  have sup : ∀ b, b ∈ frs outer → b ∈ frs (envOfC qual scope s.heap.objs.size f cd :: outer) := fun b hb => by
    unfold frs at hb ⊢
    rw [List.filterMap_cons]
    split <;> first | exact hb | exact List.mem_cons_of_mem _ hb
  have nst : ∀ b o, s.heap.get? b = some o → b ∉ frs outer → b ∉ frs (envOfC qual scope s.heap.objs.size f cd :: outer) := fun b o q nb z => by
    rcases List.mem_cons.mp (hsub b z) with e1 | z
    · exact absurd (Heap.lt_size q) (by rw [e1]; exact Nat.lt_irrefl _)
    · exact nb z
  have keepB : ∀ b o, (∃ o', B.get? b = some o') → s2.heap.get? b = some o → h'.get? b = some o := fun b o ⟨o', hb⟩ q => by
    have := fl.st b o' hb
    rw [q] at this
    cases this
    exact x1.st b _ hb
  have slotS : ∀ b o, s2.heap.get? b = some o → b ∈ frs (envOfC qual scope s.heap.objs.size f cd :: outer) → ∃ sl, h'.get? b = some { o with slots := sl } := fun b o q hb => by
    obtain ⟨_, o', ho', hd⟩ := fl.ff.mem hb
    rw [q] at ho'
    cases ho'
    exact x4 b o q hd
  refine ⟨a, cls, c0, H', rfl, ⟨F.os.trans I.os, F.bare, HOk.track F.hok (fun b u o hb q => keepB b o (trB b u hb) q), ⟨fun b o q n hb hx => ?_, fun b o q n hb hx => ?_, fun b o q n hx => ?_, fun b o q hx => ?_, fun b xs z => F.un.tups b xs (ub.tups b xs z), fun b o u z => F.un.frzs b o u (ub.frzs b o u z), fun b ps z => ?_⟩, ⟨B, x1, fun b o q nb => ?_, trB⟩, fun o q => ?_, F.free⟩, hE cls _ H' e', e2'.imp id (hE cls _ H')⟩
  · have e1 := ub.keep b o q n hb hx
    exact keepB b o (inB b o e1 (nst b o q hb)) (F.un.keep b o e1 (ub.free b o q n hx) (nst b o q hb) hx)
  · obtain ⟨sl, e1⟩ := ub.slot b o q n hb hx
    obtain ⟨sl', e2⟩ := F.un.slot b _ e1 (ub.free b o q n hx) (sup b hb) hx
    obtain ⟨sl'', e3⟩ := slotS b _ e2 (sup b hb)
    exact ⟨sl'', e3⟩
  · obtain ⟨o', e1⟩ := ub.there b o q hx
    exact F.un.free b o' e1 (ub.free b o q n hx) hx
  · obtain ⟨o', e1⟩ := ub.there b o q hx
    obtain ⟨o'', e2⟩ := F.un.there b o' e1 hx
    by_cases z : b ∈ frs (envOfC qual scope s.heap.objs.size f cd :: outer)
    · obtain ⟨sl, e3⟩ := slotS b o'' e2 z
      exact ⟨_, e3⟩
    · exact ⟨o'', keepB b o'' (inB b o' e1 z) e2⟩
  · obtain ⟨m1, e1⟩ := ub.tbls b ps z
    obtain ⟨m2, e2⟩ := F.un.tbls b _ e1
    exact ⟨m1 ++ m2, by rw [e2, Array.append_assoc]⟩
  · obtain ⟨o', e1⟩ := ub.there b o q (by simp)
    exact inB b o' e1 (nst b o q nb)
  · obtain ⟨o', e1⟩ := ub.there a o q (by simp)
    exact F.new o' e1
end
end L2
namespace L2
open PySem PySem.Spec PyProof.Rows PySem.W
def tRaise (t : TA) (R : Hp → Prop) : TS := fun _ σ H => t σ H fun vs H1 => vs.length ≤ 1000 ∧ R H1
section
variable {X : Cx} {x : Str} {C : Addr} {bm bmN : List Value} {B Bn newId nid initId inN : String} {np cpos pos : Pos} {e₀ : Expr} {rest : List Expr} {t : TA} {R : Hp → Prop}
theorem ps_raise (hc : X.calm = true) (O : OwnCls x C bm newId X.mg X.base) (Fn : ExcBaseFacts Bn newId inN bmN) (hBn : bm.contains (.type Bn) = true) (FB : ExcBaseFacts B nid initId bm) (hg : Gl X x) (ha : PA X (e₀ :: rest) t)
    (hxe : ∀ pins σ H1 s1 s2 e vs, Inv X pins σ H1 s1 → Heap.MadeExcOf s1.heap s2.heap e (.ref C) vs → s2.os = s1.os → AllBare s2.gens → R H1 → X.xe (.ref e) s2)
    (h1 : isStar e₀ = false := by rfl) (h2 : rest.all (fun x => !isStar x) = true := by rfl) (hd : (x == ("__debug__" : Str)) = false := by decide) :
    PS X (.Raise (some (.Call (.Name x np) (e₀ :: rest) [] cpos)) none pos) (tRaise t R) := by
  intro pins s σ H D I h
  have he := star_cons (e := e₀) (es := rest) (env := X.env) h1
  have hpl := star_any (pos := cpos) (env := X.env) h2
  obtain ⟨tl, N, nm, q, bs, hdct, sn, sub, ab, col, dd, k0, k1, k2, k3, k5, mN, hC, hN, hni, T⟩ := O.obj
  refine wpAny_Raise_call_subU (C := C) (nm := nm) (q := q) (N := N) (bs := bs) (bm := tl) (hdct := hdct) (sn := sn) (sub := sub) (ab := ab) (col := col) (dd := dd) (k0 := k0) (k1 := k1) (k2 := k2) (k3 := k3) (k5 := k5)
    Fn hBn FB (mN := mN) (T.hasType FB.hasBase) (I.ok.hd hc) (by rw [he]; show (false || (backTo cpos (starEach rest X.env)).any (·.1)) = false; rw [hpl]; rfl) hni (ld_glob I hg O.bound ⟨rfl, ?_⟩ hd)
  have hA := ha cpos pins s σ H _ I h
  rw [he] at hA ⊢
  refine Calls.evalArgs_plain (wpAny_mono hA (fun us s2 ⟨vs, H2, I2, rv, hl, r2⟩ => ⟨rfl, ?_, I2.bk _ _ hC, hN.keeps I2.bk, T.keeps I2.bk, fun h' e hm => ?_⟩) fun _ _ y => y)
  · rw [← rv.length]
    exact Nat.le_of_lt (small1000 hl)
  · exact hxe pins σ H2 s2 _ e us I2 hm rfl I2.bare r2
end
end L2
namespace L2
open PySem PySem.Spec PyProof.Rows PySem.W
section
variable {P : Program} {w : World} {K : PySem.W.Frag} {mg : Str → Option Value} {base : Heap}
theorem Fun.okE {x qual : Str} {st : Stmt} {f : Addr} {fd : FuncData} {N ps : List Str} {k : Nat} {sp : Sp} (F : Fun K x qual st f fd) (S : FnScope N ps (defScope st)) (len : ∀ vs H Q E, sp vs H Q E → vs.length = ps.length)
    (hbody : ∀ (cdv : Value) (A : Around) (outer : List Env) (s : Shared) (H : Hp) (vs : List V) (Q : VK) (E : XK), Room k (A.deeper (envOfC qual (defScope st) s.heap.objs.size f cdv)) → sp vs H Q E →
      ∃ t, PSs (cxOf (CXe P w) P w K mg base N qual (defScope st) f cdv A outer s H E) (defBody st) t ∧ t { nx := fun _ H' => Q .non H', rt := Q } (start N vs) H) : FnOk P w K mg base (CXe P w) (k + 1) f fd ps sp := by
  obtain ⟨oc, od, kV, doc, pm, an, cdv, ct, osl, rfl, lk, hcd⟩ := F.ex
  exact fn_of lk hcd S len fun A outer s H vs Q E hr hsp => hbody cdv A outer s H vs Q E hr hsp
theorem own_cls {x : Str} {C : Addr} {bmB : List Value} {newId : String} {h : Heap} (X : K.In h) (b : mg x = some (.ref C)) (q : excIn K C bmB newId = true) : OwnCls x C bmB newId mg h := by
  refine ⟨b, ?_⟩
  unfold excIn at q
  split at q
  · rename_i dd cd sl ho
    split at q
    · rename_i C' bm k0 k1 k2 k3 n k5 hm hs
      simp only [Bool.and_eq_true, beq_iff_eq, Bool.not_eq_true'] at q
      obtain ⟨⟨⟨⟨⟨rfl, rfl⟩, hdel⟩, ht⟩, hok⟩, hni⟩ := q
      obtain ⟨nm, bs, mro, ns, qn, hd, sn, sub, ab, col, del⟩ := cd
      dsimp only at hm hdel hok hni
      subst hm hdel
      have hsl : sl = #[k0, k1, k2, k3, some (.builtin n), k5] := by
        obtain ⟨l⟩ := sl
        simp only at hs
        rw [hs]
      subst hsl
      exact ⟨bm, ns, nm, qn, bs, hd, sn, sub, ab, col, dd, k0, k1, k2, k3, k5, _, X _ _ ho, .of_isNs (isNs_of_in X hok), nsMap_none_of_in X hok hni, tail_of_in X ht⟩
    · cases q
  · cases q
end
section
variable {X : Cx} {pins : List (Addr × Obj)} {σ : St} {H H' : Hp} {s s' : Shared} {a : Addr} {cls : Value}
theorem Fly.land {B : Heap} {c0 f0 : Value} (I : Inv X pins σ H s) (hl : X.env.locals ∈ frs X.stack) (F : Fly X.prog X.w X.stack H s a cls c0 H' s') (fl : Trk B X.stack a cls c0 f0 s'.heap)
    (inB : ∀ b o, s.heap.get? b = some o → b ∉ frs X.stack → ∃ o', B.get? b = some o') (trB : ∀ b u, H' b = some u → ∃ o', B.get? b = some o') {h' : Heap} (st : B.StaysIn h') (x4 : s'.heap.UpToSlots h') : Inv X pins σ H' { s' with heap := h' } := by
  have keepB : ∀ b o, (∃ o', B.get? b = some o') → s'.heap.get? b = some o → h'.get? b = some o := fun b o ⟨o', hb⟩ q => by
    have := fl.st b o' hb
    rw [q] at this
    cases this
    exact st b _ hb
  have slotS : ∀ b o, s'.heap.get? b = some o → b ∈ frs X.stack → ∃ sl, h'.get? b = some { o with slots := sl } := fun b o q hb => by
    obtain ⟨_, o', ho', hd⟩ := fl.ff.mem hb
    rw [q] at ho'
    cases ho'
    exact x4 b o q hd
  have sup : ∀ b, b ∈ X.fs → b ∈ frs X.stack := fun b hb => by
    rcases I.ok.stk with e | ⟨e, hf⟩
    · rw [e]; exact hb
    · rw [e]
      unfold Cx.fs frs at *
      rw [List.filterMap_cons, hf]
      exact List.mem_cons_of_mem _ hb
  have nst : ∀ b, b ≠ X.env.locals → b ∉ X.fs → b ∉ frs X.stack := fun b h1 h2 z => by
    rcases List.mem_cons.mp (I.stkSub b z) with e | z
    · exact h1 e
    · exact h2 z
  obtain ⟨hh, g, d, t, os'⟩ := s'
  obtain rfl : os' = s.os := F.os
  show Inv X pins σ H' { s with heap := h', gens := g, drawn := d, toks := t }
  refine I.step (ch := []) (fun b z => absurd z (by simp)) (fun b o n1 n2 _ q n => ?_) (fun b o n1 n2 _ q n => ?_) (fun b o _ q n => F.un.free b o q n (by simp)) (fun b o _ q => ?_) F.un.tups F.un.frzs F.un.tbls (fun m hn => ?_) (HOk.track F.hok fun b u o hb q => keepB b o (trB b u hb) q) F.bare
  · exact keepB b o (inB b o q (nst b n1 n2)) (F.un.keep b o q n (nst b n1 n2) (by simp))
  · obtain ⟨sl, e1⟩ := F.un.slot b o q n (sup b n2) (by simp)
    obtain ⟨sl', e2⟩ := slotS b _ e1 (sup b n2)
    exact ⟨sl', e2⟩
  · obtain ⟨o', e1⟩ := F.un.there b o q (by simp)
    by_cases z : b ∈ frs X.stack
    · obtain ⟨sl, e2⟩ := slotS b o' e1 z
      exact ⟨_, e2⟩
    · exact ⟨o', keepB b o' (inB b o q z) e1⟩
  · obtain ⟨o, es, ep, ho, hd, r⟩ := hn
    obtain ⟨sl, e1⟩ := F.un.slot _ o ho I.free hl (by simp)
    obtain ⟨sl', e2⟩ := slotS _ _ e1 hl
    exact ⟨_, es, ep, e2, hd, r⟩
end
end L2
namespace L2
open PySem PySem.Spec PyProof.Rows PySem.W
section
variable {M : Model} {A : Around} {E : Value → Shared → Prop}
variable {nm q : Str} {C N : Addr} {bs bm : List Value} {hdct : Bool} {sn : List Str} {sub : List Value} {ab : Bool} {col : Option Bool} {dd : Option Addr} {k0 k1 k2 k3 k5 : Option Value} {newId : String}
variable {nm' q' : Str} {C' N' : Addr} {bs' bm' : List Value} {hdct' : Bool} {sn' : List Str} {sub' : List Value} {ab' : Bool} {col' : Option Bool} {dd' : Option Addr} {j0 j1 j2 j3 j5 : Option Value} {newId' : String}
theorem matches_own {h : Heap} {g : Array GenState} {d : Drawn} {t : Nat} {os : OsState} {e : Addr} {oe : Obj} {Q : Bool → Shared → Prop}
    (hC : h.get? C = some (excClassObj nm q C N bs bm hdct sn sub ab col dd k0 k1 k2 k3 k5 newId)) (hD : h.get? C' = some (excClassObj nm' q' C' N' bs' bm' hdct' sn' sub' ab' col' dd' j0 j1 j2 j3 j5 newId'))
    (he : h.get? e = some oe) (hcls : oe.cls = .ref C) (hbase : bm'.contains (.type "BaseException") = true) (hsub : bm.contains (.ref C') = true)
    (hq : Q true ⟨h, g, d, t, os⟩) : wpAny M A (excMatches (.ref e) (.ref C')) Q E ⟨h, g, d, t, os⟩ := by
  have hcB : (Value.ref C' :: bm').contains (.type "BaseException") = true := by rw [List.contains_cons, hbase, Bool.or_true]
  have hcC : (Value.ref C :: bm).contains (.ref C') = true := by rw [List.contains_cons, hsub, Bool.or_true]
  have f := tc_notTuple
  unfold excMatches
  repeat (first | (with_reducible refine wpAny_loadPart_at he ?_; rw [hcls]) | with_reducible refine wpAny_loadPart_at hD ?_ | (with_reducible refine wpAny_isSubtype_exc hD ?_; rw [hcB]) | (with_reducible refine wpAny_isSubtype_exc hC ?_; rw [hcC]) | wp_step)
  exact hq
end
end L2
namespace L2
open PySem PySem.Spec PyProof.Rows PySem.W
abbrev Cx.pnx (X : Cx) (pins : List (Addr × Obj)) : Cx := { X with pn := X.pn ++ pins }
abbrev Cx.hnd (X : Cx) (pins : List (Addr × Obj)) (a : Addr) : Cx := { X with pn := X.pn ++ pins, A := X.A.mark (some (.ref a)), calm := false, xe := fun _ _ => False }
section
variable {X : Cx} {pins pins' : List (Addr × Obj)} {σ : St} {H : Hp} {s : Shared} {a : Addr}
theorem Inv.pnx (I : Inv X pins σ H s) : Inv (X.pnx pins) [] σ H s :=
  ⟨⟨I.ok.mod, I.ok.kind, I.ok.glob, I.ok.blt, I.ok.above, I.ok.inj, I.ok.has, I.ok.cab, I.ok.hd, I.ok.frames, I.ok.stk, I.ok.exf, I.ok.bs, I.ok.bsz, I.ok.noex, I.ok.exfs, I.ok.funs, I.ok.frf⟩, I.os, I.bare, I.base, I.loc, I.cell, I.free, I.freeC, fun p hp => I.pin p (by simpa using hp), I.hok, I.len⟩
theorem Inv.unpnx (I : Inv (X.pnx pins) pins' σ H s) : Inv X pins σ H s :=
  ⟨⟨I.ok.mod, I.ok.kind, I.ok.glob, I.ok.blt, I.ok.above, I.ok.inj, I.ok.has, I.ok.cab, I.ok.hd, I.ok.frames, I.ok.stk, I.ok.exf, I.ok.bs, I.ok.bsz, I.ok.noex, I.ok.exfs, I.ok.funs, I.ok.frf⟩, I.os, I.bare, I.base, I.loc, I.cell, I.free, I.freeC, fun p hp => I.pin p (List.mem_append_left _ hp), I.hok, I.len⟩
theorem Inv.hnd (I : Inv X pins σ H s) (a : Addr) : Inv (X.hnd pins a) [] σ H s :=
  ⟨⟨I.ok.mod, I.ok.kind, I.ok.glob, I.ok.blt, I.ok.above, I.ok.inj, I.ok.has, I.ok.cab, (fun z => nomatch z), I.ok.frames, I.ok.stk, I.ok.exf, I.ok.bs, I.ok.bsz, I.ok.noex, I.ok.exfs, I.ok.funs, I.ok.frf⟩, I.os, I.bare, I.base, I.loc, I.cell, I.free, I.freeC, fun p hp => I.pin p (by simpa using hp), I.hok, I.len⟩
theorem Inv.unhnd (ok : X.Ok) (I : Inv (X.hnd pins a) pins' σ H s) : Inv X pins σ H s :=
  ⟨ok, I.os, I.bare, I.base, I.loc, I.cell, I.free, I.freeC, fun p hp => I.pin p (List.mem_append_left _ hp), I.hok, I.len⟩
theorem Inv.track {o : HO} (I : Inv X pins σ H s) (hn : H a = none) (h0 : ∀ u, X.s₀.heap.get? a ≠ some u) (hL : a ≠ X.env.locals) (hc : ∀ x c, X.env.cells.lookup x = some c → c ≠ a) (hp : ∀ p ∈ X.pn ++ pins, p.1 ≠ a)
    (new : ObjOk X.prog X.w (upd H a o) s.heap a o) : Inv X pins σ (upd H a o) s := by
  have ne : ∀ {b : Addr} {u : HO}, H b = some u → b ≠ a := fun {b u} hb z => by rw [z, hn] at hb; cases hb
  refine ⟨I.ok, I.os, I.bare, ⟨I.base.keep, I.base.slot, fun b u q n hx => ?_, I.base.there, fun b xs z => ?_, fun b u v z => ?_, fun b ps z => ?_⟩, I.loc, I.cell, ?_, fun x c e => ?_, fun p hp' => ?_, fun b u hb => ?_, I.len⟩
  · rw [upd_ne (fun z => h0 u (by rw [← z]; exact q))]
    exact I.base.free b u q n hx
  · have := I.base.tups b xs z
    rw [upd_ne (ne this)]
    exact this
  · have := I.base.frzs b u v z
    rw [upd_ne (ne this)]
    exact this
  · obtain ⟨m, e⟩ := I.base.tbls b ps z
    exact ⟨m, by rw [upd_ne (ne e)]; exact e⟩
  · rw [upd_ne hL.symm]; exact I.free
  · rw [upd_ne (hc x c e)]; exact I.freeC x c e
  · obtain ⟨p1, p2, p3, p4, p5⟩ := I.pin p hp'
    exact ⟨p1, by rw [upd_ne (hp p hp')]; exact p2, p3, p4, p5⟩
  · by_cases hb' : b = a
    · subst hb'
      rw [upd_same] at hb
      cases hb
      exact new
    · rw [upd_ne hb'] at hb
      exact (I.hok b u hb).stay (fun _ _ _ q => q) (fun c z => by rw [upd_ne (ne z)]; exact z) fun c xs z => by rw [upd_ne (ne z)]; exact z
theorem Inv.goes {h' : Heap} {m' : Str → Option Value} {t' : Nat} (I : Inv X pins σ H s) (hn : h'.Ns X.env.locals m') (sb : Heap.SameBut X.env.locals s.heap h') : Inv X pins (List.replicate X.N.length none) H { s with heap := h', toks := t' } := by
  have neL : ∀ b o, X.s₀.heap.get? b = some o → b ≠ X.env.locals := fun b o e => Nat.ne_of_lt (Nat.lt_of_lt_of_le (Heap.lt_size e) I.ok.above)
  have k : ∀ b o, b ≠ X.env.locals → s.heap.get? b = some o → h'.get? b = some o := fun b o n e => (sb.2 b n).trans e
  refine ⟨I.ok, I.os, I.bare, ⟨fun b o q n hb hx => k b o (neL b o q) (I.base.keep b o q n hb hx), fun b o q n hb hx => ?_, I.base.free, fun b o q hx => ?_, I.base.tups, I.base.frzs, I.base.tbls⟩, ⟨m', hn, fun i x v e1 e2 => ?_⟩, fun x c e => ?_, I.free, I.freeC, fun p hp => ?_, HOk.track I.hok fun b u o hb q => k b o (fun z => by rw [z, I.free] at hb; cases hb) q, by simp⟩
  · obtain ⟨sl, e1⟩ := I.base.slot b o q n hb hx
    exact ⟨sl, k b _ (neL b o q) e1⟩
  · obtain ⟨o', e1⟩ := I.base.there b o q hx
    exact ⟨o', k b o' (neL b o q) e1⟩
  · rw [List.getElem?_replicate] at e2
    split at e2
    · cases e2
    · cases e2
  · obtain ⟨v, o, ho, hd⟩ := I.cell x c e
    exact ⟨v, o, k c o (I.cne x c e) ho, hd⟩
  · obtain ⟨p1, p2, p3, p4, p5⟩ := I.pin p hp
    exact ⟨k _ _ p3 p1, p2, p3, p4, p5⟩
end
def isExc (a : Addr) (cls : Value) : HO := .ext fun h => ∃ ob, h.get? a = some ob ∧ ob.cls = cls
theorem isExc_ok {P : Program} {w : World} {H : Hp} {h : Heap} {a : Addr} {cls : Value} {ob : Obj} (e : h.get? a = some ob) (c : ob.cls = cls) : ObjOk P w H h a (isExc a cls) :=
  ⟨⟨ob, e, c⟩, ⟨ob, e⟩, fun h1 h2 ⟨o, e1, c1⟩ k => ⟨o, k o e1, c1⟩⟩
def hEnds (X : Cx) (D : Ends) : Ends := { nx := fun _ H => D.nx (List.replicate X.N.length none) H, rt := D.rt, bk := fun _ H => D.bk (List.replicate X.N.length none) H, ct := fun _ H => D.ct (List.replicate X.N.length none) H }
def tTry (X : Cx) (E' : XK) (tb : TS) (i : Nat) (th : TS) : TS := fun D σ H => tb D σ H ∧ ∀ (cls : Value) (H' : Hp) (a : Addr) (σ' : St), E' cls none H' → H' a = none → σ'.length = X.N.length → th (hEnds X D) (σ'.set i (some (.ref a))) (upd H' a (isExc a cls))
section
variable {X : Cx} {x n : Str} {np hpos pos : Pos} {body suite : List Stmt} {b₀ : Stmt} {E' : XK} {tb th : TS} {i : Nat} {D : Addr} {bmD : List Value} {newD : String}
theorem ps_try (hstk : X.stack = X.env :: X.outer) (hfr : X.env.frame = some X.env.locals) (hex : X.ex = [])
    (hb : ∀ pins xt, Passes (CXe X.prog X.w) ((X.pnx pins).wish xt) E' → PSs ((X.pnx pins).wish xt) body tb) (hs : ∀ pins a, PSs (X.hnd pins a) (b₀ :: suite) th)
    (hg : Gl X x) (OD : OwnCls x D bmD newD X.mg X.base) (hDB : bmD.contains (.type "BaseException") = true)
    (hC : ∀ cls H', E' cls none H' → ∃ C nm q N bs bm hdct sn sub ab col dd k0 k1 k2 k3 k5 new, cls = .ref C ∧ X.base.get? C = some (excClassObj nm q C N bs bm hdct sn sub ab col dd k0 k1 k2 k3 k5 new) ∧ bm.contains (.ref D) = true)
    (hN : X.N.Nodup) (hi : X.N[i]? = some n) (hn : X.env.scope.names.lookup n = some .local) (hd : (x == ("__debug__" : Str)) = false := by decide) :
    PS X (.Try body [.ExceptHandler (some (.Name x np)) (some n) (b₀ :: suite) hpos] [] [] pos) (tTry X E' tb i th) := by
  intro pins s σ H Dn I h
  obtain ⟨hbody, hhand⟩ := h
  rw [arm_exec_Try]
  refine wpAny_bind (wpAny_standAt (wpAny_tryStmt_except ?_))
  have hp : Passes (CXe X.prog X.w) ((X.pnx pins).wish fun e s' => ∃ pins' σ' H1 s1, Inv (X.pnx pins) pins' σ' H1 s1 ∧ CXe X.prog X.w X.stack H1 s1 E' e s') E' := fun pins' σ' H1 s1 e s' I1 h => ⟨pins', σ', H1, s1, I1.unwish, h⟩
  have hl : X.env.locals ∈ frs X.stack := by rw [hstk]; unfold frs; rw [List.filterMap_cons, hfr]; exact List.mem_cons_self
  refine wpAny_mono (hb pins _ hp [] s σ H Dn (I.pnx.wish _) hbody) (fun f s₁ h₁ => ?_) (fun e s₁ h₁ => ?_)
  · cases f with
    | next => obtain ⟨σ', H', J, q⟩ := h₁; exact wpAny_execs_nil ⟨σ', H', J.unwish.unpnx, q⟩
    | brk => obtain ⟨σ', H', J, q⟩ := h₁; exact ⟨σ', H', J.unwish.unpnx, q⟩
    | cont => obtain ⟨σ', H', J, q⟩ := h₁; exact ⟨σ', H', J.unwish.unpnx, q⟩
    | ret u => obtain ⟨v, σ', H', J, r, q⟩ := h₁; exact ⟨v, σ', H', J.unwish.unpnx, r, q⟩
  · obtain ⟨pins', σ', H1, s1, I1, a, cls, c0, H', rfl, F, hE, _⟩ := h₁
    obtain ⟨B, fl, inB, trB⟩ := F.fly
    have J1 : Inv X pins σ' H1 s1 := I1.unpnx
    refine trk_next (B := B) (env := X.env) (fr := X.outer) (by rw [I.ok.frames, hstk]) hfr (hstk ▸ fl) fun h₄ held₄ sm₄ => ?_
    refine trk_mark (s := { s₁ with heap := h₄ }) none held₄ fun h₅ fl₅ sm₅ => ?_
    have J5 : Inv X pins σ' H' { s₁ with heap := h₅ } := F.land J1 hl fl inB trB fl₅.st (sm₄.trans sm₅)
    obtain ⟨C, nm, q, N, bs, bm, hdct, sn, sub, ab, col, dd, k0, k1, k2, k3, k5, new, rfl, hCb, hsub⟩ := hC cls H' hE
    obtain ⟨tl, N', nm', q', bs', hdct', sn', sub', ab', col', dd', j0, j1, j2, j3, j5, mN, hDb, _, _, T⟩ := OD.obj
    obtain ⟨ob, hob, hobc⟩ := fl₅.there
    refine wpAny_handleBy_cons (codeAny_handlers_test (ld_glob (X := X.hnd pins a) (J5.hnd a) hg OD.bound ?_ hd)) (by intro q; cases q)
    refine matches_own (J5.bk _ _ hCb) (J5.bk _ _ hDb) hob hobc (T.hasType hDB) hsub ?_
    refine codeAny_handlers_suite_as (trk_mark (s := { s₁ with heap := h₅ }) none fl₅ fun h₆ fl₆ sm₆ => ?_)
    have J6 : Inv X pins σ' H' { s₁ with heap := h₆ } := F.land J1 hl fl inB trB fl₆.st ((sm₄.trans sm₅).trans sm₆)
    obtain ⟨ob6, hob6, hobc6⟩ := fl₆.there
    have new1 : ∀ b o, s1.heap.get? b = some o → b ≠ a := fun b o e z => F.new o (by rw [← z]; exact e)
    have J7 := J6.track (a := a) (o := isExc a (.ref C)) F.free (fun u z => by
        obtain ⟨o', e1⟩ := J1.base.there a u z (by rw [hex]; simp)
        exact F.new o' e1) (by
        obtain ⟨m, ⟨o, _, _, ho, _⟩, _⟩ := J1.loc
        exact (new1 _ o ho).symm) (fun y c e => by
        obtain ⟨v, o, ho, _⟩ := J1.cell y c e
        exact new1 _ o ho) (fun p hp => new1 _ _ (J1.pin p hp).1) (isExc_ok hob6 hobc6)
    refine store_ok J7 hN hi (.inl hn) (v := .ref a) rfl (fun s7 J8 => ?_) (.inr hn)
    have hk : X.env.kindOf n = some .local := hn
    have hcls : (X.env.scope.kind == .class || (X.env.scope.kind == .module && X.env.locals != X.env.globals)) = false := by rw [I.ok.kind]; rfl
    refine wpAny_mono (hs pins a [] s7 _ _ (hEnds X Dn) (J8.hnd a) (hhand _ _ _ _ hE F.free J1.len)) (fun f s8 h8 => ?_) fun _ _ z => z.elim
    cases f with
    | next =>
      obtain ⟨σ8, H8, J, q⟩ := h8
      have J9 := Inv.unhnd I.ok J
      obtain ⟨m, hn8, _⟩ := J9.loc
      exact wpAny_nameGoes hk hn8 hcls fun h' m' hn' sb => ⟨_, _, J9.goes hn' sb, q⟩
    | brk =>
      obtain ⟨σ8, H8, J, q⟩ := h8
      have J9 := Inv.unhnd I.ok J
      obtain ⟨m, hn8, _⟩ := J9.loc
      exact wpAny_nameGoes hk hn8 hcls fun h' m' hn' sb => ⟨_, _, J9.goes hn' sb, q⟩
    | cont =>
      obtain ⟨σ8, H8, J, q⟩ := h8
      have J9 := Inv.unhnd I.ok J
      obtain ⟨m, hn8, _⟩ := J9.loc
      exact wpAny_nameGoes hk hn8 hcls fun h' m' hn' sb => ⟨_, _, J9.goes hn' sb, q⟩
    | ret u =>
      obtain ⟨v, σ8, H8, J, r, q⟩ := h8
      have J9 := Inv.unhnd I.ok J
      obtain ⟨m, hn8, _⟩ := J9.loc
      exact wpAny_nameGoes hk hn8 hcls fun h' m' hn' sb => ⟨v, _, _, J9.goes hn' sb, r, q⟩
end
end L2
namespace L2
open PySem PySem.Spec PySem.Calls PyProof.Rows PySem.W Builtin Builtin.ObjectAttr Builtin.Getset_descriptor
structure ExcCls (K : PySem.W.Frag) (C : Addr) : Prop where
  ga : findIn K (.ref C) "__getattribute__" = some (some (.builtin "BaseException.__getattribute__"))
  gt : findIn K (.ref C) "__getattr__" = some none
  cl : findIn K (.ref C) "__class__" = some (some (.builtin "object.__class__"))
  so : mroIn K C (.type "object") = some true
  sb : mroIn K C (.type "BaseException") = some true
section
variable {prog : Program} {w : World} {A : Around} {E : Value → Shared → Prop} {h : Heap} {g : Array GenState} {d : Drawn} {t : Nat} {os : OsState} {a C : Addr} {ox : Obj} {K : PySem.W.Frag}
theorem xcls_get {tp : Value} {R : Result → Shared → Prop} (Z : ExcCls K C) (X : K.In h) (hx : h.get? a = some ox) (hc : ox.cls = .ref C) (hq : R (.ok (.ret (.ref C))) ⟨h, g, d, t, os⟩) :
    codeAny (model prog w) A (.call (.builtin "getset_descriptor.__get__") ⟨[.builtin "object.__class__", .ref a, tp], []⟩) R ⟨h, g, d, t, os⟩ := by
  have L0 : Looks (model prog w) h (typeOf (.ref a)) (.ref C) := hc ▸ (Looks.ld hx).andThen .now
  have L1 := looks_mroIn (M := model prog w) X Z.so
  refine codeAny_call_builtin KF.slot_gs.plain KF.entry_gs (KF.slot_gs.check _ _ _ _ _ _ _ _ KF.type_class (KF.args_gs _ _ _) ?_)
  unfold Builtin.«getset_descriptor.__get__» descrGet
  rw [dga_obj]
  refine wpAny_bind (wpAny_pure ?_)
  unfold descrGetter descrCheckInstance descrNameAndClass isInstance
  simp only [KF.owner_class]
  repeat lk
  refine ⟨Code.quiet_builtin _ (by decide +kernel), codeAny_builtin KF.entry_class ?_⟩
  unfold Builtin.«object.__class__» shownTypeOf
  repeat lk
  exact hq
theorem xcls_entry {tk : Tok} {Q : Fin → Shared → Prop} (Z : ExcCls K C) (X : K.In h) (hx : h.get? a = some ox) (hc : ox.cls = .ref C) (hq : Q (.done (.ret (.ref C))) ⟨h, g, d, t, os⟩) :
    wpAny (model prog w) A (Builtin.«object.__getattribute__» ⟨[.ref a, .str "__class__" tk], []⟩) Q E ⟨h, g, d, t, os⟩ := by
  have hT5 : (⟨h, g, d, t, os⟩ : Shared).TypeIs (.builtin "object.__class__") "getset_descriptor" := F.typeOf_object_class
  have f5 := F.typeOf_object_class
  have f6 := F.slot_gs_get.lookup
  have f7 := F.slot_gs_set.lookup
  have L4 := looks_findIn (M := model prog w) X Z.cl
  repeat (any_goals (first | assumption | (with_reducible refine wpAny_loadPart_at hx ?_; rw [hc]) | with_reducible refine L4.at ?_ | wp_step))
  refine xcls_get Z X hx hc ?_
  repeat (any_goals (first | assumption | wp_step))
theorem xcls_check {M : Model} {nameV : Value} {Q : Unit → Shared → Prop} (Z : ExcCls K C) (X : K.In h) (hx : h.get? a = some ox) (hc : ox.cls = .ref C) (hq : Q () ⟨h, g, d, t, os⟩) :
    wpAny M A (checkBuiltinCall "BaseException.__getattribute__" ⟨[.ref a, nameV], []⟩) Q E ⟨h, g, d, t, os⟩ := by
  have hk : builtinKind "BaseException.__getattribute__" = some .slot := by decide +kernel
  have hsplit : splitId "BaseException.__getattribute__" = some ("BaseException", "__getattribute__") := by decide +kernel
  have L1 := looks_mroIn (M := M) X Z.sb
  have ha := F.args_bexc_ga (.ref a) nameV
  simp only [checkBuiltinCall, hk, hsplit]
  refine wpAny_bind ?_
  unfold isInstance
  repeat (first | (with_reducible refine wpAny_loadPart_at hx ?_; rw [hc]) | with_reducible refine L1.at ?_ | wp_step)
  exact hq
theorem xcls_call {tk : Tok} {R : Result → Shared → Prop} (Z : ExcCls K C) (X : K.In h) (hx : h.get? a = some ox) (hc : ox.cls = .ref C) (hq : R (.ok (.ret (.ref C))) ⟨h, g, d, t, os⟩) :
    codeAny (model prog w) A (.call (.builtin "BaseException.__getattribute__") ⟨[.ref a, .str "__class__" tk], []⟩) R ⟨h, g, d, t, os⟩ :=
  codeAny_call_builtin F.excAttr_ValueError.ga.plain F.entry_bexc_ga (xcls_check Z X hx hc (xcls_entry Z X hx hc hq))
theorem xcls_by {tk : Tok} {fill expr : Bool} {Q : Value → Shared → Prop} (Z : ExcCls K C) (X : K.In h) (hx : h.get? a = some ox) (hc : ox.cls = .ref C) (hq : Q (.ref C) ⟨h, g, d, t, os⟩) :
    wpAny (model prog w) A (getAttrBy (.ref a) (.str "__class__" tk) fill expr) Q E ⟨h, g, d, t, os⟩ := by
  have f3 := F.excAttr_ValueError.ga.bind (.ref a)
  have hx0 : (expr && onTheHeap (Value.builtin "BaseException.__getattribute__")) = false := by cases expr <;> rfl
  have hx2 : (Value.builtin "BaseException.__getattribute__" == Value.builtin "object.__getattribute__") = false := by decide +kernel
  have hx1 : (onTheHeap (Value.ref C) && Value.builtin "BaseException.__getattribute__" == Value.builtin "object.__getattribute__") = false := by rw [hx2]; rfl
  have L1 := looks_findIn (M := model prog w) X Z.ga
  have L2 := looks_findIn (M := model prog w) X Z.gt
  repeat (any_goals (first | assumption | (with_reducible refine wpAny_loadPart_at hx ?_; rw [hc]) | with_reducible refine L1.at ?_ | with_reducible refine L2.at ?_ | wp_step))
  refine xcls_call Z X hx hc ?_
  repeat (any_goals (first | assumption | wp_step))
theorem xcls_attr {Q : Option Value → Shared → Prop} (Z : ExcCls K C) (X : K.In h) (hx : h.get? a = some ox) (hc : ox.cls = .ref C) (hq : Q (some (.ref C)) ⟨h, g, d, t + 1, os⟩) :
    wpAny (model prog w) A (getAttr? (.ref a) "__class__") Q E ⟨h, g, d, t, os⟩ := by
  unfold getAttr? getAttrBy?
  refine wpAny_bind (wpAny_mkText (wpAny_bind (wpAny_attempt (xcls_by Z X hx hc ?_))))
  exact wpAny_pure hq
def ExcAt (a C : Addr) (h : Heap) : Prop := ∃ ob, h.get? a = some ob ∧ ob.cls = .ref C
theorem kitx_exc (Z : ExcCls K C) (hC : (clsIn K C).isSome = true) : KitX K (.ref a) (.ref C) (ExcAt a C) where
  ty := fun _ _ _ ⟨ob, hx, hc⟩ => hc ▸ (Looks.ld hx).andThen .now
  it := fun _ _ X _ => by
    obtain ⟨cdD, hcD⟩ := Option.isSome_iff_exists.mp hC
    unfold clsIn at hcD
    split at hcD
    · rename_i c' d' cd' sl' ho
      intro A' Q' E' s' k q
      unfold isType loadHead
      exact wpAny_bind (wpAny_loadPart (k _ _ (X _ _ ho)) (wpAny_pure q))
    · cases hcD
  ne := fun h tp dd its n sl X htp => by
    obtain ⟨cdD, hcD⟩ := Option.isSome_iff_exists.mp hC
    refine Bool.eq_false_iff.mpr fun q => ?_
    have e : C = tp := Value.ref.inj (beq_iff_eq.mp q)
    subst e
    unfold clsIn at hcD
    split at hcD
    · rename_i c' d' cd' sl' ho
      have z := (X _ _ ho).symm.trans htp
      cases z
    · cases hcD
  ca := fun {_ _ _ _ _ s} X ⟨ob, hx, hc⟩ k => by
    obtain ⟨hh, g, d, t, os⟩ := s
    exact xcls_attr Z X hx hc k
end
end L2
namespace L2
open PySem PySem.Spec PyProof.Rows PySem.W
section
variable {X : Cx}
theorem exc_at {pins : List (Addr × Obj)} {σ : St} {H : Hp} {s : Shared} {a C : Addr} (I : Inv X pins σ H s) (ha : H a = some (isExc a (.ref C))) : ExcAt a C s.heap := (I.hok a _ ha).1
theorem call_isx : CallR X (.builtin "isinstance") (fun xs H Q => ∃ (a C : Addr) (y : V) (c : Value) (b : Bool), xs = [.ref a, y] ∧ cV y = some c ∧ H a = some (isExc a (.ref C)) ∧ ExcCls X.K C ∧ (clsIn X.K C).isSome = true ∧ PySem.W.kitOne X.K (.ref C) c = some b ∧ Q (.bl b) H) := by
  intro pins s σ H xs us Q I r h
  obtain ⟨a, C, y, c, b, rfl, hc, ha, Z, hC, e, q⟩ := h
  obtain ⟨u, v, rfl, rx, ry⟩ := vals2 r
  have hv : v = c := by
    cases y <;> first | (cases hc; done) | (cases hc; cases ry; rfl)
  subst hv
  cases rx
  exact PySem.W.kia_one (kitx_exc Z hC) I.kIn (exc_at I ha) e (fun z => nomatch z) fun tk => ⟨.bl b, H, I.tok _, rfl, q⟩
theorem vals_cV : ∀ {ys : List V} {cs us : List Value}, Vals ys us → ys.map cV = cs.map some → us = cs
  | [], [], _, .nil, _ => rfl
  | y :: ys, c :: cs, _, .cons r rs, h => by
    simp only [List.map_cons, List.cons.injEq] at h
    rw [vals_cV rs h.2]
    congr 1
    obtain ⟨hc, _⟩ := h
    cases y <;> first | (cases hc; done) | (cases hc; cases r; rfl)
theorem call_isxT : CallR X (.builtin "isinstance") (fun xs H Q => ∃ (a C t : Addr) (ys : List V) (cs : List Value) (b : Bool), xs = [.ref a, .ref t] ∧ H t = some (.tup ys) ∧ ys.map cV = cs.map some ∧ H a = some (isExc a (.ref C)) ∧ ExcCls X.K C ∧ (clsIn X.K C).isSome = true ∧ PySem.W.kitAny X.K (.ref C) cs = some b ∧ Q (.bl b) H) := by
  intro pins s σ H xs us Q I r h
  obtain ⟨a, C, t, ys, cs, b, rfl, ht, hc, ha, Z, hC, e, q⟩ := h
  obtain ⟨u, v, rfl, rx, ry⟩ := vals2 r
  cases rx
  cases ry
  obtain ⟨_, its, rv, p⟩ := (show ObjOk X.prog X.w H s.heap t (.tup ys) from I.hok t _ ht)
  obtain rfl := vals_cV rv hc
  obtain ⟨⟨oc, odd, oda, osl⟩, h1, h2, n, h3⟩ := p
  dsimp only at h2 h3
  subst h2 h3
  exact PySem.W.kia_tup (kitx_exc Z hC) I.kIn (exc_at I ha) h1 e (fun z => nomatch z) fun tk => ⟨.bl b, H, I.tok _, rfl, q⟩
theorem call_isxK (K : PySem.W.Frag) (hK : X.K = K) : CallR X (.builtin "isinstance") (fun xs H Q => ∃ (a C : Addr) (y : V) (c : Value) (b : Bool), xs = [.ref a, y] ∧ cV y = some c ∧ H a = some (isExc a (.ref C)) ∧ ExcCls K C ∧ (clsIn K C).isSome = true ∧ PySem.W.kitOne K (.ref C) c = some b ∧ Q (.bl b) H) := by subst hK; exact call_isx
theorem call_isxTK (K : PySem.W.Frag) (hK : X.K = K) : CallR X (.builtin "isinstance") (fun xs H Q => ∃ (a C t : Addr) (ys : List V) (cs : List Value) (b : Bool), xs = [.ref a, .ref t] ∧ H t = some (.tup ys) ∧ ys.map cV = cs.map some ∧ H a = some (isExc a (.ref C)) ∧ ExcCls K C ∧ (clsIn K C).isSome = true ∧ PySem.W.kitAny K (.ref C) cs = some b ∧ Q (.bl b) H) := by subst hK; exact call_isxT
end
end L2
namespace L2
open PySem PySem.Spec PyProof.Rows PySem.W
structure CalE (P : Program) (w : World) (K : PySem.W.Frag) (mg : Str → Option Value) (base : Heap) (x : Str) (k : Nat) (sp : Sp) : Prop where
  ex : ∃ (f : Addr) (fd : FuncData) (ps : List Str), FnOk P w K mg base (CXe P w) k f fd ps sp ∧ mg x = some (.ref f) ∧ PySem.W.keepIn K (.ref f) = true ∧ Binds K fd ps []
structure CalME (P : Program) (w : World) (K : PySem.W.Frag) (mg : Str → Option Value) (base : Heap) (C : Addr) (m : Str) (k : Nat) (sp : Sp) : Prop where
  ex : ∃ (f : Addr) (fd : FuncData) (ps : List Str), FnOk P w K mg base (CXe P w) k f fd ps sp ∧ Meth K C m f ∧ Binds K fd ps []
structure CalIE (P : Program) (w : World) (K : PySem.W.Frag) (mg : Str → Option Value) (base : Heap) (x : Str) (C : Addr) (k : Nat) (sp : Sp) : Prop where
  ex : ∃ (f : Addr) (fd : FuncData) (ps : List Str), FnOk P w K mg base (CXe P w) k f fd ps sp ∧ Mk K C f ∧ mg x = some (.ref C) ∧ Binds K fd ps []
section
variable {X : Cx} {x m : Str} {k : Nat} {sp : Sp} {e o : Expr} {es : List Expr} {ta : TE} {t : TA} {p pos apos : Pos} {E : XK} {C : Addr}
theorem pe_cE (M : CalE X.prog X.w X.K X.mg X.base x k sp) (hx : Passes (CXe X.prog X.w) X E) (hr : Room k X.A) (hg : Gl X x) (ha : PA X (e :: es) t) (h : isStar e = false := by rfl) (h2 : es.all (fun x => !isStar x) = true := by rfl)
    (hdb : (x == ("__debug__" : Str)) = false := by decide) : PE X (.Call (.Name x p) (e :: es) [] pos) (tCall sp [] E t) := by
  obtain ⟨f, fd, ps, F, hm, hk, hb⟩ := M.ex
  exact pe_call F hr hg hm hk hb .nil hx ha hdb (star_cons h) (star_any h2)
theorem pe_mthE {pl : Sem Bool} (c : Cls X.K C) (M : CalME X.prog X.w X.K X.mg X.base C m k sp) (hx : Passes (CXe X.prog X.w) X E) (hr : Room k X.A) (ho : PE X o ta) (ha : PA X (e :: es) t)
    (h : isStar e = false := by rfl) (h2 : es.all (fun x => !isStar x) = true := by rfl)
    (ht : eval (.Call (.Attribute o m apos) (e :: es) [] pos) X.env = (do
      let ov ← eval o X.env
      standAt apos.atName
      let (f, first) ← holding [ov] (getMethod ov m pl)
      callWith pos f first (backTo pos (starEach (e :: es) X.env)) (backToKw pos (keywordEach [] X.env))) := by rfl) :
    PE X (.Call (.Attribute o m apos) (e :: es) [] pos) (tMeth C m sp [] E ta t) := by
  obtain ⟨f, fd, ps, F, hm, hb⟩ := M.ex
  exact pe_meth ho c hm F hr hb .nil hx ha (star_cons h) (star_any h2) ht
end
theorem hnd_K {X : Cx} {pins : List (Addr × Obj)} {a : Addr} : (X.hnd pins a).K = X.K := rfl
theorem pnx_K {X : Cx} {pins : List (Addr × Obj)} : (X.pnx pins).K = X.K := rfl
def CDivZ (i j : Int) : Prop := j ≠ 0 ∧ j.natAbs ≤ 100000000000000000000000000000000
theorem op_fdivZ {X : Cx} : OpR X (binaryOp .FloorDiv) (rI CDivZ fun i j => .int (i.fdiv j)) := opI fun i j _ _ _ _ _ hc q => by
  have h1 := hc.1
  have h2 := hc.2
  refine floordiv_int h1 q (.inl (PyProof.noPylong_of_log2 ?_))
  have : j.natAbs.log2 < 200 := (Nat.log2_lt (by omega)).mpr (Nat.lt_of_le_of_lt h2 (by decide +kernel))
  omega
theorem FunD.okE {P : Program} {w : World} {K : PySem.W.Frag} {mg : Str → Option Value} {base : Heap} {x qual : Str} {st : Stmt} {f T : Addr} {fd : FuncData} {N ps : List Str} {k : Nat} {sp : Sp} (F : FunD K x qual st f fd T) (S : FnScope N ps (defScope st)) (len : ∀ vs H Q E, sp vs H Q E → vs.length = ps.length)
    (hbody : ∀ (cdv : Value) (A : Around) (outer : List Env) (s : Shared) (H : Hp) (vs : List V) (Q : VK) (E : XK), Room k (A.deeper (envOfC qual (defScope st) s.heap.objs.size f cdv)) → sp vs H Q E →
      ∃ t, PSs (cxOf (CXe P w) P w K mg base N qual (defScope st) f cdv A outer s H E) (defBody st) t ∧ t { nx := fun _ H' => Q .non H', rt := Q } (start N vs) H) : FnOk P w K mg base (CXe P w) (k + 1) f fd ps sp := by
  obtain ⟨oc, od, kV, doc, pm, an, cdv, ct, osl, rfl, lk, hcd⟩ := F.ex
  exact fn_of lk hcd S len fun A outer s H vs Q E hr hsp => hbody cdv A outer s H vs Q E hr hsp
structure CalDE (P : Program) (w : World) (K : PySem.W.Frag) (mg : Str → Option Value) (base : Heap) (C : Addr) (m : Str) (k : Nat) (sp : Sp) (dvs : List V) : Prop where
  ex : ∃ (f : Addr) (fd : FuncData) (ps : List Str) (ds : List Value), FnOk P w K mg base (CXe P w) k f fd ps sp ∧ Meth K C m f ∧ Binds K fd ps ds ∧ Vals dvs ds
theorem pe_mthDE {X : Cx} {m : Str} {C : Addr} {k : Nat} {sp : Sp} {dvs : List V} {o e : Expr} {es : List Expr} {ta : TE} {t : TA} {apos pos : Pos} {E : XK} {pl : Sem Bool} (c : Cls X.K C) (M : CalDE X.prog X.w X.K X.mg X.base C m k sp dvs) (hx : Passes (CXe X.prog X.w) X E) (hr : Room k X.A) (ho : PE X o ta) (ha : PA X (e :: es) t)
    (h : isStar e = false := by rfl) (h2 : es.all (fun x => !isStar x) = true := by rfl)
    (ht : eval (.Call (.Attribute o m apos) (e :: es) [] pos) X.env = (do
      let ov ← eval o X.env
      standAt apos.atName
      let (f, first) ← holding [ov] (getMethod ov m pl)
      callWith pos f first (backTo pos (starEach (e :: es) X.env)) (backToKw pos (keywordEach [] X.env))) := by rfl) :
    PE X (.Call (.Attribute o m apos) (e :: es) [] pos) (tMeth C m sp dvs E ta t) := by
  obtain ⟨f, fd, ps, ds, F, hm, hb, hd⟩ := M.ex
  exact pe_meth ho c hm F hr hb hd hx ha (star_cons h) (star_any h2) ht
abbrev bmV : List Value := [.type "ValueError", .type "Exception", .type "BaseException", .type "object"]
abbrev newV : String := "ValueError.__new__"
theorem boot_ValueError : bootBuiltins "ValueError" = some (.type "ValueError") := by decide +kernel
section
variable {P : Program} {w : World} {K : PySem.W.Frag} {mg : Str → Option Value} {base : Heap} {N : List Str} {qual : Str} {scope : Scope} {f : Addr} {cd : Value} {A : Around} {outer : List Env} {s : Shared} {H : Hp} {E : XK}
theorem ps_rse {x : Str} {C : Addr} {np cpos pos : Pos} {e₀ : Expr} {rest : List Expr} {t : TA} (O : OwnCls x C bmV newV mg base) (hg : Gl (cxOf (CXe P w) P w K mg base N qual scope f cd A outer s H E) x)
    (ha : PA (cxOf (CXe P w) P w K mg base N qual scope f cd A outer s H E) (e₀ :: rest) t) (h1 : isStar e₀ = false := by rfl) (h2 : rest.all (fun x => !isStar x) = true := by rfl) (hd : (x == ("__debug__" : Str)) = false := by decide) :
    PS (cxOf (CXe P w) P w K mg base N qual scope f cd A outer s H E) (.Raise (some (.Call (.Name x np) (e₀ :: rest) [] cpos)) none pos) (tRaise t (E (.ref C) none)) :=
  ps_raise rfl O PySem.F.excBase_ValueError rfl PySem.F.excBase_ValueError hg ha (fun pins σ H1 s1 s2 e vs I hm ho hg hE => xe_made I hm ho hg hE) h1 h2 hd
theorem cls_of_mro {C : Addr} {b : Value} {r : Bool} (m : mroIn K C b = some r) : (clsIn K C).isSome = true := by
  unfold mroIn at m
  cases h : clsIn K C with
  | none => rw [h] at m; cases m
  | some cd => rfl
theorem own_under {C D : Addr} {bmB : List Value} {newId : String} {h : Heap} (X : K.In h) (q : excIn K C bmB newId = true) (m : mroIn K C (.ref D) = some true) (ne : C ≠ D) :
    ∃ C' nm q N bs bm hdct sn sub ab col dd k0 k1 k2 k3 k5 new, Value.ref C = .ref C' ∧ h.get? C' = some (excClassObj nm q C' N bs bm hdct sn sub ab col dd k0 k1 k2 k3 k5 new) ∧ bm.contains (.ref D) = true := by
  unfold excIn at q
  split at q
  · rename_i dd cd sl ho
    split at q
    · rename_i C' bm k0 k1 k2 k3 n k5 hm hs
      simp only [Bool.and_eq_true, beq_iff_eq, Bool.not_eq_true'] at q
      obtain ⟨⟨⟨⟨⟨rfl, rfl⟩, hdel⟩, ht⟩, hok⟩, hni⟩ := q
      have hcl : clsIn K C' = some cd := by unfold clsIn; rw [ho]
      obtain ⟨nm, bs, mro, ns, qn, hd, sn, sub, ab, col, del⟩ := cd
      dsimp only at hm hdel hok hni
      subst hm hdel
      have hsl : sl = #[k0, k1, k2, k3, some (.builtin n), k5] := by
        obtain ⟨l⟩ := sl
        simp only at hs
        rw [hs]
      subst hsl
      refine ⟨C', nm, qn, ns, bs, bm, hd, sn, sub, ab, col, dd, k0, k1, k2, k3, k5, _, rfl, X _ _ ho, ?_⟩
      unfold mroIn at m
      rw [hcl] at m
      have m : (Value.ref C' :: bm).contains (.ref D) = true := Option.some.inj m
      rw [List.contains_cons, Bool.or_eq_true] at m
      rcases m with m | m
      · exact absurd (Value.ref.inj (beq_iff_eq.mp m)).symm ne
      · exact m
    · cases q
  · cases q
end
end L2
namespace L2
open PySem PySem.Spec PyProof.Rows
structure RoomH (k : Nat) (A : Around) : Prop where
  dp : A.depth + 3 * k + 5 < recursionLimit
  un : A.units + 16 * k + 200 < cLine
theorem Room.h {k : Nat} {A : Around} (r : Room k A) : RoomH k A := ⟨r.dp, r.un⟩
theorem Room.mark {k : Nat} {A : Around} (r : Room k A) (v : Option Value) : RoomH k (A.mark v) := ⟨r.dp, r.un⟩
theorem RoomH.mono {j k : Nat} {A : Around} (r : RoomH k A) (h : j ≤ k) : RoomH j A := ⟨by have := r.dp; omega, by have := r.un; omega⟩
theorem RoomH.depth {k : Nat} {A : Around} (r : RoomH k A) : A.depth < recursionLimit := by have := r.dp; omega
theorem RoomH.deeper {k : Nat} {A : Around} (r : RoomH (k + 1) A) (env : Env) : RoomH k (A.deeper env) := by
  have h1 := r.dp
  have h2 := r.un
  constructor
  · show A.depth + 1 + 3 * k + 5 < _
    omega
  · show A.units + 3 + 16 * k + 200 < _
    omega
structure FnOkH (P : Program) (w : World) (K : PySem.W.Frag) (mg : Str → Option Value) (base : Heap) (CX : CXT) (k : Nat) (f : Addr) (fd : FuncData) (ps : List Str) (sp : Sp) : Prop where
  len : ∀ vs H Q E, sp vs H Q E → vs.length = ps.length
  run : ∀ (A : Around) (outer : List Env) (s : Shared) (H : Hp) (args : Args) (us : List Value) (vs : List V) (Q : VK) (E : XK), RoomH k A → Env0 P w K mg base A outer s H → BindsTo s fd args (ps.zip us) → Vals vs us → sp vs H Q E →
    codeAny (model P w) A (.call (.ref f) args) (CR CX outer P w H s Q E) s
abbrev cxOfH (CX : CXT) (P : Program) (w : World) (K : PySem.W.Frag) (mg : Str → Option Value) (base : Heap) (N : List Str) (qual : Str) (scope : Scope) (f : Addr) (cd : Value) (A : Around) (outer : List Env) (s : Shared) (H : Hp) (E : XK) : Cx := { cxOf CX P w K mg base N qual scope f cd A outer s H E with calm := false }
theorem inv_startH {CX : CXT} {P : Program} {w : World} {K : PySem.W.Frag} {mg : Str → Option Value} {base : Heap} {N ps : List Str} {qual : Str} {scope : Scope} {f : Addr} {cd : Value} {A : Around} {outer : List Env} {s s1 : Shared} {H : Hp} {E : XK} {us : List Value} {vs : List V}
    (S : FnScope N ps scope) (e0 : Env0 P w K mg base A outer s H) (hl : vs.length = ps.length) (r : Vals vs us)
    (x : InCallC s s.heap.objs.size (bindL (envOfC qual scope s.heap.objs.size f cd).kindOf (ps.zip us) fun _ => none) (cellsFrom (s.heap.objs.size + 1) scope.names []) (bindC (envOfC qual scope s.heap.objs.size f cd).kindOf (ps.zip us) fun _ => none) s1) :
    Inv (cxOfH CX P w K mg base N qual scope f cd A outer s H E) [] (start N vs) H s1 := by
  have I := inv_start (CX := CX) (E := E) (A := { A with handled := none }) S rfl ⟨e0.frames, e0.mod, e0.bs, e0.bsz, e0.funs, e0.frf, e0.hok, e0.bare⟩ hl r x
  exact ⟨⟨I.ok.mod, I.ok.kind, I.ok.glob, I.ok.blt, I.ok.above, I.ok.inj, I.ok.has, I.ok.cab, (fun z => nomatch z), Around.frames_deeper e0.frames, I.ok.stk, I.ok.exf, I.ok.bs, I.ok.bsz, I.ok.noex, I.ok.exfs, I.ok.funs, I.ok.frf⟩, I.os, I.bare, I.base, I.loc, I.cell, I.free, I.freeC, I.pin, I.hok, I.len⟩
theorem fn_ofH {CX : CXT} {P : Program} {w : World} {K : PySem.W.Frag} {mg : Str → Option Value} {base : Heap} {k : Nat} {f : Addr} {name qual : Str} {params : Arguments} {body : List Stmt} {scope : Scope} {dV kV doc pm cdv ct oc : Value} {an od : Option Addr}
    {osl : Array (Option Value)} {N ps : List Str} {sp : Sp} (lk : K.lookup f = some ⟨oc, od, .func (PySem.W.fnOf name qual params body scope dV kV doc pm an cdv ct), osl⟩) (hcd : PySem.W.codeIn K cdv qual = true) (S : FnScope N ps scope)
    (len : ∀ vs H Q E, sp vs H Q E → vs.length = ps.length)
    (hbody : ∀ (A : Around) (outer : List Env) (s : Shared) (H : Hp) (vs : List V) (Q : VK) (E : XK), RoomH k (A.deeper (envOfC qual scope s.heap.objs.size f cdv)) → sp vs H Q E →
      ∃ t, PSs (cxOfH CX P w K mg base N qual scope f cdv A outer s H E) body t ∧ t { nx := fun _ H' => Q .non H', rt := Q } (start N vs) H) :
    FnOkH P w K mg base CX (k + 1) f (PySem.W.fnOf name qual params body scope dV kV doc pm an cdv ct) ps sp := by
  refine ⟨len, fun A outer s H args us vs Q E hr e0 hb r hsp => ?_⟩
  have hl := len _ _ _ _ hsp
  have KX : K.In s.heap := e0.mod.kin.keeps fun b o e => (e0.bs b o e).1
  have lim : s.heap.NoLimit := e0.mod.nolimit.keeps fun b o e => (e0.bs b o e).1
  have hkind : ∀ y ∈ ps.zip us, scope.names.lookup y.1 = some .local ∨ (scope.names.lookup y.1 = some .cell ∧ ((cellsFrom (s.heap.objs.size + 1) scope.names []).lookup y.1).isSome = true) := fun ⟨n, v⟩ hy => by
    rcases S.par n (List.of_mem_zip hy).1 with q | q
    · exact .inl q
    · exact .inr ⟨q, PySem.W.cellsFrom_some _ _ _ (.inl q)⟩
  refine codeAny_call_function hr.depth (KX _ _ lk) rfl S.co S.gen rfl (PySem.W.codeRec_of KX hcd) (hb _ _ _ _ ?_)
  refine wpAny_newFunctionEnv_cells S.kind hkind fun env he s1 x => ?_
  subst he
  refine ⟨lim.keeps x.toInCall.keep, codeAny_func ?_⟩
  obtain ⟨t, ht, hq⟩ := hbody A outer s H vs Q E (hr.deeper _) hsp
  have I : Inv (cxOfH CX P w K mg base N qual scope f cdv A outer s H E) [] (start N vs) H s1 := inv_startH S e0 hl r x
  refine wpAny_mono (ht [] s1 (start N vs) H _ I hq) (fun fl s' hs => ?_) fun e s' hs => hs
  have fin : ∀ {σ' : St} {H' : Hp} {v : V} {u : Value}, Inv (cxOfH CX P w K mg base N qual scope f cdv A outer s H E) [] σ' H' s' → RelV v u → Q v H' → CE outer P w H s Q u s' :=
    fun {σ' H' v u} J rv q => ⟨v, H', J.os, J.bare, J.base, J.hok, rv, q⟩
  cases fl with
  | ret u =>
    obtain ⟨v, σ', H', J, rv, q⟩ := hs
    exact fin J rv q
  | next =>
    obtain ⟨σ', H', J, q⟩ := hs
    exact fin (v := V.non) (u := Value.none) J rfl q
  | brk =>
    obtain ⟨_, _, _, q⟩ := hs
    exact False.elim q
  | cont =>
    obtain ⟨_, _, _, q⟩ := hs
    exact False.elim q
section
variable {P : Program} {w : World} {K : PySem.W.Frag} {mg : Str → Option Value} {base : Heap}
theorem Fun.okH {x qual : Str} {st : Stmt} {f : Addr} {fd : FuncData} {N ps : List Str} {k : Nat} {sp : Sp} (F : Fun K x qual st f fd) (S : FnScope N ps (defScope st)) (len : ∀ vs H Q E, sp vs H Q E → vs.length = ps.length)
    (hbody : ∀ (cdv : Value) (A : Around) (outer : List Env) (s : Shared) (H : Hp) (vs : List V) (Q : VK) (E : XK), RoomH k (A.deeper (envOfC qual (defScope st) s.heap.objs.size f cdv)) → sp vs H Q E →
      ∃ t, PSs (cxOfH CX0 P w K mg base N qual (defScope st) f cdv A outer s H E).nox (defBody st) t ∧ t { nx := fun _ H' => Q .non H', rt := Q } (start N vs) H) : FnOkH P w K mg base CX0 (k + 1) f fd ps sp := by
  obtain ⟨oc, od, kV, doc, pm, an, cdv, ct, osl, rfl, lk, hcd⟩ := F.ex
  refine fn_ofH lk hcd S len fun A outer s H vs Q E hr hsp => ?_
  obtain ⟨t, h, q⟩ := hbody cdv A outer s H vs Q E hr hsp
  exact ⟨t, h.nox, q⟩
structure CalH (P : Program) (w : World) (K : PySem.W.Frag) (mg : Str → Option Value) (base : Heap) (x : Str) (k : Nat) (sp : Sp) : Prop where
  ex : ∃ (f : Addr) (fd : FuncData) (ps : List Str), FnOkH P w K mg base CX0 k f fd ps sp ∧ mg x = some (.ref f) ∧ PySem.W.keepIn K (.ref f) = true ∧ Binds K fd ps []
end
section
variable {X : Cx} {CX : CXT} {k : Nat} {f C : Addr} {fd : FuncData} {ps : List Str} {sp : Sp} {dvs : List V} {ds : List Value} {E : XK} {x m : Str} {p pos apos : Pos} {e o : Expr} {es : List Expr} {ta : TE} {t : TA}
theorem run_fnH {pins : List (Addr × Obj)} {σ : St} {H : Hp} {s : Shared} {Q : VK} {us : List Value} {vs : List V} (F : FnOkH X.prog X.w X.K X.mg X.base CX k f fd ps sp) (hr : RoomH k X.A) (hb : Binds X.K fd ps ds) (hd : Vals dvs ds) (hx : Passes CX X E)
    (I : Inv X pins σ H s) (r : Vals vs us) (h : sp (vs ++ dvs) H Q E) : wpAny (model X.prog X.w) X.A (call (.ref f) us) (EP X pins σ Q) X.xe s := by
  have r2 : Vals (vs ++ dvs) (us ++ ds) := r.append hd
  have hl : (us ++ ds).length = ps.length := by rw [← r2.length]; exact F.len _ _ _ _ h
  refine wpAny_call (codeAny_mono (F.run X.A X.stack s H ⟨us, []⟩ (us ++ ds) (vs ++ dvs) Q E hr I.env0 (hb s us I.kIn hl) r2 h) fun r s' hq => ?_)
  cases r with
  | error e => exact hx pins σ H s e s' I hq
  | ok fl =>
    cases fl with
    | ret u => exact I.after hq
    | next => exact False.elim hq
    | brk => exact False.elim hq
    | cont => exact False.elim hq
theorem pe_callH (F : FnOkH X.prog X.w X.K X.mg X.base CX k f fd ps sp) (hr : RoomH k X.A) (hg : Gl X x) (hm : X.mg x = some (.ref f)) (hk : PySem.W.keepIn X.K (.ref f) = true) (hb : Binds X.K fd ps ds) (hd : Vals dvs ds) (hx : Passes CX X E)
    (ha : PA X (e :: es) t) (hdb : (x == ("__debug__" : Str)) = false := by decide) (he : starEach (e :: es) X.env = (false, eval e X.env) :: starEach es X.env := by rfl) (hpl : (backTo pos (starEach es X.env)).any (·.1) = false := by rfl) :
    PE X (.Call (.Name x p) (e :: es) [] pos) (tCall sp dvs E t) := by
  intro pins s σ H Q I h
  refine wpAny_Call_Name_kw (ld_glob I hg hm ?_ hdb)
  refine PySem.W.callWith_K (h₀ := X.base) I.ok.mod.kin hk (thn (ha pos pins s σ H _ I h) fun us s1 ⟨vs, H1, I1, r, q⟩ => ⟨I1.kIn, ?_⟩) he hpl
  exact run_fnH F hr hb hd hx I1 r q
theorem pe_cH (C : CalH X.prog X.w X.K X.mg X.base x k sp) (hr : RoomH k X.A) (hg : Gl X x) (ha : PA X (e :: es) t) (h : isStar e = false := by rfl) (h2 : es.all (fun x => !isStar x) = true := by rfl)
    (hdb : (x == ("__debug__" : Str)) = false := by decide) : PE X (.Call (.Name x p) (e :: es) [] pos) (tCall sp [] E0 t) := by
  obtain ⟨f, fd, ps, F, hm, hk, hb⟩ := C.ex
  exact pe_callH F hr hg hm hk hb .nil pass0 ha hdb (star_cons h) (star_any h2)
end
end L2
namespace L2
open PySem PySem.Spec PyProof.Rows
section
variable {X : Cx}
def rEqTs (K : PySem.W.Frag) : R2 := fun x y H Q => rEq x y H Q ∨ ∃ a xs z, x = .ref a ∧ y = .str z ∧ SqT K H a xs ∧ Q (.bl false) H
def rNeTs (K : PySem.W.Frag) : R2 := fun x y H Q => rNe x y H Q ∨ rEqT K true x y H Q
end
end L2
set_option maxHeartbeats 1000000
namespace L2
open PySem PySem.Spec PyProof.Rows
def LIM : Nat := 2 ^ 4000
theorem lim_bits {z : Int} (h : z.natAbs < LIM) : Builtin.Int.intBits z ≤ 4000 := bits_le h
theorem mulL {x y : Int} (hx : x.natAbs < LIM) (hy : y.natAbs < LIM) : IntMulOk x y := by
  have e2 : (2 : Nat) ^ 20 = 1048576 := by decide
  refine .of_bits ?_ ?_
  · rw [e2]; have := lim_bits hx; omega
  · rw [e2]; have := lim_bits hy; omega
def CDivL (i j : Int) : Prop := 0 < j ∧ j.natAbs < LIM
end L2
set_option maxHeartbeats 1000000
namespace L2
open PySem PySem.Spec PyProof.Rows
abbrev sg (x : Str) : List Nat := x.cps.toList
def mkS (l : List Nat) : Str := ⟨l.toArray⟩
theorem sg_mk (l : List Nat) : sg (mkS l) = l := rfl
theorem mk_sg (x : Str) : mkS (sg x) = x := rfl
theorem sg_len (x : Str) : (sg x).length = x.length := by simp [Str.length]
def Its (z : Str) : It := ⟨fun i _ => i < z.length, fun i H x H' => H' = H ∧ ∃ c, z.cps[i]? = some c ∧ x = .str ⟨#[c]⟩, fun i _ => z.length ≤ i⟩
theorem turn_str {P : Program} {w : World} {K : PySem.W.Frag} {tg : Expr} (z : Str) (t : Tok) (it : Addr) : Turn P w K tg (Its z) [it] it (fun i h => h.IsStrIter it "str_ascii_iterator" z t i) where
  mem := by simp
  obj := fun i h st b hb => by
    have e : b = it := by simpa using hb
    subst e
    obtain ⟨o, e, c, d⟩ := st
    exact ⟨o, e, fun v z => by rw [d] at z; cases z⟩
  keep := fun i h h' st k => by
    obtain ⟨o, e, c, d⟩ := st
    exact ⟨o, k it (by simp) o e, c, d⟩
  item := by
    intro X hP hw hK hc i pins s σ H E I hf st hg
    subst hP hw hK
    have hg : i < z.length := hg
    obtain ⟨f0, f1, f2, f3, f4, f5⟩ := hf it (by simp)
    have hx : z.cps[i]? = some (z.cps[i]'hg) := Array.getElem?_eq_getElem hg
    refine wpAny_pyNext_ascii_item st hx fun h' st' sb => ?_
    have I1 : Inv X pins σ H { s with heap := h', toks := s.toks + 1 } := I.turned (fun b o hb e => (sb.2 b hb).trans e) f0 f1 f3 f4 f5
    obtain ⟨o, e, c, d⟩ := id st'
    exact ⟨_, rfl, go_of (s := { s with heap := h', toks := s.toks + 1 }) e c d (by decide) ⟨.str ⟨#[z.cps[i]'hg]⟩, H, I1, ⟨_, rfl⟩, ⟨rfl, _, hx, rfl⟩, st', fun b hb => (hf b hb).1⟩⟩
  done := by
    intro X hP hw hK hc i pins s σ H E I hf st hg
    subst hP hw hK
    have hg : z.length ≤ i := hg
    obtain ⟨f0, f1, f2, f3, f4, f5⟩ := hf it (by simp)
    exact wpAny_pyNext_ascii_end (I.ok.hd hc) st (Array.getElem?_eq_none hg) fun h' eb => ⟨rfl, I.turned (t' := s.toks) (fun b o hb e => eb b o hb e) f0 f1 f3 f4 f5⟩
  self := fun A i s Q E st h => by
    refine wpAny_pyIter_slot st.typeIs F.slot_str_ascii_iterator_iter (wpAny_call_entry F.slot_str_ascii_iterator_iter st.typeIs F.entry_str_ascii_iterator_iter ?_ (F.args_str_ascii_iterator_iter_1 _))
    show wpAny _ _ (ret (.ref it)) _ _ s
    exact wpAny_pure ⟨_, rfl, "str_ascii_iterator", _, st.typeIs, F.slot_str_ascii_iterator_next.lookup, h⟩
section
variable {X : Cx} {tg : Expr}
def Ascii (x : Str) : Prop := x.cps.all (· < 128) = true
def iStr (tl : TE) : TI := fun σ H R => tl σ H fun x H1 => ∃ z, x = .str z ∧ Ascii z ∧ R (Its z) H1
theorem pi_str {l : Expr} {tl : TE} (hl : PE X l tl) : PI X tg l (iStr tl) := by
  intro pins s σ H R I h
  refine thn (hl pins s σ H _ I h) fun v s1 ⟨x, H1, I1, r1, q1⟩ => ?_
  obtain ⟨z, rfl, ha, q⟩ := q1
  obtain ⟨t, rfl⟩ := r1
  refine wpAny_pyIter_ascii ha ?_
  refine ⟨s1.heap.objs.size, [s1.heap.objs.size], _, _, H1, rfl, I1.kept (t' := s1.toks) fun b o e => Heap.get?_push_of_some _ e, turn_str z t _, ⟨_, Heap.get?_push_size _ rfl, rfl, rfl⟩, fun b hb => ?_, q⟩
  have e : b = s1.heap.objs.size := by simpa using hb
  subst e
  exact I1.fpOk (Nat.le_refl _) (I1.hok.fresh (Nat.le_refl _))
theorem for_str {z : Str} {g : TG} {tb : TS} {Dn : Ends} {σ : St} {H : Hp} (Pv : Nat → St → Hp → Prop) (h0 : Pv 0 σ H)
    (hs : ∀ (i c : Nat) σ H, (sg z)[i]? = some c → Pv i σ H → g (.str (mkS [c])) σ H fun σ2 H2 => tb { Dn with nx := Pv (i + 1), ct := Pv (i + 1), bk := Dn.nx } σ2 H2) (hd : ∀ σ H, Pv z.length σ H → Dn.nx σ H) :
    ∃ W : Nat → Nat → St → Hp → Prop, (∃ m, W 0 m σ H) ∧ ∀ i m σ H, W i m σ H →
      ((Its z).stop i H ∧ Dn.nx σ H) ∨ ((Its z).go i H ∧ ∃ N : St → Hp → Prop, (∀ σ' H', N σ' H' → ∃ m', m' < m ∧ W (i + 1) m' σ' H') ∧ ∀ x H', (Its z).yld i H x H' → g x σ H' fun σ2 H2 => tb { Dn with nx := N, ct := N, bk := Dn.nx } σ2 H2) := by
  refine ⟨fun i m σ H => m = z.length - i ∧ i ≤ z.length ∧ Pv i σ H, ⟨z.length, by simp, Nat.zero_le _, h0⟩, ?_⟩
  rintro i m σ H ⟨rfl, hi, p⟩
  by_cases hlt : i < z.length
  · refine .inr ⟨hlt, Pv (i + 1), fun σ' H' p' => ⟨z.length - (i + 1), by omega, rfl, hlt, p'⟩, fun x H' y => ?_⟩
    obtain ⟨rfl, c, hc, rfl⟩ := y
    exact hs i c σ _ (by simpa using hc) p
  · have e : i = z.length := by omega
    subst e
    exact .inl ⟨Nat.le_refl _, hd σ H p⟩
theorem comp_its {z : Str} {g : TG} {tt : TT} {te : TE} {k : Nat} {fr : List (Str × Nat)} {D : Addr} {σ : St} {H1 : Hp} {Q : VK} (Pv : Nat → List V → Hp → Prop) (h0 : Pv 0 [] (upd H1 D (.lst [])))
    (hs : ∀ i c vs σ' H, i < z.length → (sg z)[i]? = some c → Sh k (capOf fr σ) σ' → Pv i vs H → tTurn g tt te D z.length k (capOf fr σ) Pv i (.str (mkS [c])) σ' H) (hd : ∀ vs H, Pv z.length vs H → Q (.ref D) H) : tBlock g tt te (Its z) D (capS k fr σ) H1 Q :=
  comp_any (fun i x => ∃ c, (sg z)[i]? = some c ∧ x = .str (mkS [c])) Pv h0 (fun i vs H hi p => ⟨hi, fun x H' y => by obtain ⟨e, c, hc, ex⟩ := y; exact ⟨e, c, by simpa using hc, ex⟩⟩) (fun vs H p => Nat.le_refl _)
    (fun i x vs σ' H hi hx sh p => by obtain ⟨c, hc, rfl⟩ := hx; exact hs i c vs σ' H hi hc sh p) hd
end
def cutT (z : Str) (lo hi : Option Int) : Str := mkS (((sg z).drop (HT.sIx z.length 0 lo)).take (HT.sIx z.length z.length hi - HT.sIx z.length 0 lo))
theorem str_slice_one (lo hi : Option Int) (n : Nat) : Builtin.Str.strSliceIndices lo hi 1 n = sliceRange ((HT.sIx n 0 lo : Nat) : Int) ((HT.sIx n n hi : Nat) : Int) 1 := by
  unfold Builtin.Str.strSliceIndices
  simp only [show (1 : Int) > 0 by decide, if_true]
  have e1 : (match lo with | none => (0 : Int) | some i => max 0 (min (if i < 0 then i + (n : Int) else i) (n : Int))) = ((HT.sIx n 0 lo : Nat) : Int) := by
    cases lo with
    | none => rfl
    | some i =>
      simp only [HT.sIx]
      by_cases h : i < 0
      · simp only [h, if_true]; omega
      · simp only [h, if_false]; omega
  have e2 : (match hi with | none => (n : Int) | some i => max 0 (min (if i < 0 then i + (n : Int) else i) (n : Int))) = ((HT.sIx n n hi : Nat) : Int) := by
    cases hi with
    | none => rfl
    | some i =>
      simp only [HT.sIx]
      by_cases h : i < 0
      · simp only [h, if_true]; omega
      · simp only [h, if_false]; omega
  rw [← e1, ← e2]
  cases lo <;> cases hi <;> rfl
def rSlS : V → Option Int → Option Int → Hp → VK → Prop := fun x lo hi H Q => ∃ z, x = .str z ∧ z.length ≤ sizeLine ∧ Q (.str (cutT z lo hi)) H
theorem sl_str {X : Cx} : SlR X rSlS := by
  intro pins s σ H x v vl vu lo hi sl Q I rx hs pl pu h
  obtain ⟨z, rfl, hz, q⟩ := h
  obtain ⟨t, rfl⟩ := rx
  refine ⟨"str", _, F.slot_str_getitem.lookup, typeIs_str s z t, ?_⟩
  obtain ⟨l, hl1, hl2⟩ : ∃ l : Option (Int × Tok), vl = partValue l ∧ l.map (·.1) = lo := by cases pl with | none => exact ⟨none, rfl, rfl⟩ | int i t => exact ⟨some (i, t), rfl, rfl⟩
  obtain ⟨u, hu1, hu2⟩ : ∃ l : Option (Int × Tok), vu = partValue l ∧ l.map (·.1) = hi := by cases pu with | none => exact ⟨none, rfl, rfl⟩ | int i t => exact ⟨some (i, t), rfl, rfl⟩
  subst hl1 hu1 hl2 hu2
  have hp : (slicePicked z l u none) = sliceRange ((HT.sIx z.length 0 (l.map (·.1)) : Nat) : Int) ((HT.sIx z.length z.length (u.map (·.1)) : Nat) : Int) 1 := str_slice_one _ _ _
  have hc : (⟨((slicePicked z l u none).filterMap (z.cps[·]?)).toArray⟩ : Str) = cutT z (l.map (·.1)) (u.map (·.1)) := by
    unfold cutT mkS
    rw [hp, sliceRange_one, pick_run]
  refine wpAny_getItem_str_slice (l := l) (u := u) (st := none) hs rfl ?_
  unfold sliceMade
  have hlen : (slicePicked z l u none).length = ((((sg z).drop (HT.sIx z.length 0 (l.map (·.1)))).take (HT.sIx z.length z.length (u.map (·.1)) - HT.sIx z.length 0 (l.map (·.1)))).length) ∨ True := .inr trivial
  split
  · rename_i hb
    have hb2 : (slicePicked z l u none).length = z.length := by
      have := (Bool.and_eq_true _ _).mp hb
      simpa using this.2
    have e : cutT z (l.map (·.1)) (u.map (·.1)) = z := by
      rw [← hc, hp, sliceRange_one, pick_run]
      rw [hp, sliceRange_one, List.length_map, List.length_range] at hb2
      have := HT.sIx_le z.length z.length (Nat.le_refl _) (u.map (·.1))
      have e2 : (sg z).length = z.length := sg_len z
      have hd : ((z.cps.toList.drop (HT.sIx z.length 0 (l.map (·.1)))).take (HT.sIx z.length z.length (u.map (·.1)) - HT.sIx z.length 0 (l.map (·.1)))) = z.cps.toList := by
        by_cases h0 : HT.sIx z.length 0 (l.map (·.1)) = 0
        · rw [h0, List.drop_zero]
          exact List.take_of_length_le (by rw [show z.cps.toList.length = z.length from e2]; omega)
        · have hz0 : z.length = 0 := by omega
          have : z.cps.toList = [] := List.length_eq_zero_iff.mp (by rw [show z.cps.toList.length = z.length from e2]; exact hz0)
          rw [this]; simp
      rw [hd]
    rw [e] at q
    exact ⟨.str z, H, I, ⟨t, rfl⟩, q⟩
  · rw [hc]
    have hle : (cutT z (l.map (·.1)) (u.map (·.1))).length ≤ sizeLine := by
      rw [← sg_len]
      unfold cutT
      rw [sg_mk, List.length_take, List.length_drop, sg_len]
      omega
    exact ⟨hle, .str _, H, I.tok _, ⟨_, rfl⟩, q⟩
section
variable {X : Cx}
def rStarts : V → List V → Hp → VK → Prop := fun x vs H Q => ∃ z y, x = .str z ∧ vs = [.str y] ∧ Q (.bl (Txt.startswith z y)) H
theorem mt_starts : MtM X "str.startswith" rStarts := by
  intro pins s σ H x vs v us Q I rx rv h
  obtain ⟨z, y, rfl, rfl, q⟩ := h
  obtain ⟨t, rfl⟩ := rx
  obtain ⟨u, rfl, ⟨t', rfl⟩⟩ := rv.one
  exact SC.startswith ⟨.bl _, H, I, rfl, q⟩
def rIndexS : V → List V → Hp → VK → Prop := fun x vs H Q => ∃ z y i r, x = .str z ∧ vs = [.str y] ∧ Builtin.Str.occurrences z y 0 z.length 1 = i :: r ∧ Q (.int (i : Nat)) H
theorem mt_indexS : MtM X "str.index" rIndexS := by
  intro pins s σ H x vs v us Q I rx rv h
  obtain ⟨z, y, i, r, rfl, rfl, e, q⟩ := h
  obtain ⟨t, rfl⟩ := rx
  obtain ⟨u, rfl, ⟨t', rfl⟩⟩ := rv.one
  exact call_gives F.slot_str_index (typeIs_str s z t) F.entry_str_index (F.args_str_index_2 _ _) (gives_str_index z y t t' i r e) ⟨.int (i : Nat), H, I.tok _, ⟨_, rfl⟩, q⟩
def partT (z y : Str) : Str × Str × Str := match Builtin.Str.occurrences z y 0 z.length 1 with
  | i :: _ => (Builtin.Str.strSub z 0 i, y, Builtin.Str.strSub z (i + y.length) z.length)
  | [] => (z, Str.empty, Str.empty)
def rPart : V → List V → Hp → VK → Prop := fun x vs H Q => ∃ z y, x = .str z ∧ vs = [.str y] ∧ 0 < y.length ∧ z.length ≤ sizeLine ∧ ∀ p, H p = none → Q (.ref p) (upd H p (.tup [.str (partT z y).1, .str (partT z y).2.1, .str (partT z y).2.2]))
theorem mt_part : MtM X "str.partition" rPart := by
  intro pins s σ H x vs v us Q I rx rv h
  obtain ⟨z, y, rfl, rfl, hy, hz, q⟩ := h
  obtain ⟨t, rfl⟩ := rx
  obtain ⟨u, rfl, ⟨t', rfl⟩⟩ := rv.one
  refine call_meets F.slot_str_partition (typeIs_str _ _ _) F.entry_str_partition (F.args_str_partition_2 _ _) (meets_str_partition z y t t' (by rw [beq_eq_false_iff_ne]; omega) hz) ?_
  have hn : H s.heap.objs.size = none := I.hok.fresh (Nat.le_refl _)
  have q' := q s.heap.objs.size hn
  unfold partT at q'
  revert q'
  cases Builtin.Str.occurrences z y 0 z.length 1 with
  | nil =>
    intro q'
    refine ⟨.ref s.heap.objs.size, _, ?_, rfl, q'⟩
    exact I.laid (fun b o e => Heap.get?_push_of_some _ e) (Nat.le_refl _) ⟨by simp only [List.length_cons, List.length_nil]; rw [sizeLine_eq]; decide, [.str z t, .str Str.empty s.toks, .str Str.empty s.toks], .cons ⟨_, rfl⟩ (.cons ⟨_, rfl⟩ (.cons ⟨_, rfl⟩ .nil)), ⟨_, Heap.get?_push_size s.heap rfl, rfl, 0, rfl⟩⟩
  | cons i r =>
    intro q'
    refine ⟨.ref s.heap.objs.size, _, ?_, rfl, q'⟩
    exact I.laid (fun b o e => Heap.get?_push_of_some _ e) (Nat.le_refl _) ⟨by simp only [List.length_cons, List.length_nil]; rw [sizeLine_eq]; decide, [.str (Builtin.Str.strSub z 0 i) s.toks, .str y t', .str (Builtin.Str.strSub z (i + y.length) z.length) (s.toks + 1)], .cons ⟨_, rfl⟩ (.cons ⟨_, rfl⟩ (.cons ⟨_, rfl⟩ .nil)), ⟨_, Heap.get?_push_size s.heap rfl, rfl, 0, rfl⟩⟩
theorem vals_strs : ∀ (tk : Nat) (xs : List Str), Vals (xs.map V.str) (strsFrom tk xs)
  | _, [] => .nil
  | tk, x :: r => .cons ⟨_, rfl⟩ (vals_strs (tk + 1) r)
def rSplit : V → List V → Hp → VK → Prop := fun x vs H Q => ∃ z y, x = .str z ∧ vs = [.str y] ∧ 0 < y.length ∧ z.length ≤ sizeLine ∧ (Txt.split z y).length ≤ sizeLine ∧ ∀ p, H p = none → Q (.ref p) (upd H p (.lst ((Txt.split z y).map V.str)))
theorem mt_split : MtM X "str.split" rSplit := by
  intro pins s σ H x vs v us Q I rx rv h
  obtain ⟨z, y, rfl, rfl, hy, hz, hn, q⟩ := h
  obtain ⟨t, rfl⟩ := rx
  obtain ⟨u, rfl, ⟨t', rfl⟩⟩ := rv.one
  have hy' : (y.length == 0) = false := by rw [beq_eq_false_iff_ne]; omega
  have hf : H s.heap.objs.size = none := I.hok.fresh (Nat.le_refl _)
  have q' := q s.heap.objs.size hf
  have self : (q2 : Q (.ref s.heap.objs.size) (upd H s.heap.objs.size (.lst [V.str z]))) → EP X pins σ Q (.ref s.heap.objs.size) { s with heap := s.heap.push { cls := .type "list", data := .seq [Value.str z t].toArray } } := fun q2 =>
    ⟨.ref s.heap.objs.size, _, I.laid (t' := s.toks) (o := .lst [V.str z]) (fun b o e => Heap.get?_push_of_some _ e) (Nat.le_refl _) ⟨by simp only [List.length_cons, List.length_nil]; rw [sizeLine_eq]; decide, [.str z t], 0, .cons ⟨_, rfl⟩ .nil, Heap.get?_push_size s.heap rfl⟩, rfl, q2⟩
  unfold Txt.split at q' hn
  cases h1 : (decide (z.length < y.length) || decide (Builtin.Str.strKind z < Builtin.Str.strKind y))
  · rw [h1] at q' hn
    cases h2 : (Builtin.Str.occurrences z y 0 z.length (z.length + 1)).isEmpty
    · rw [h2] at q' hn
      simp only [Bool.false_eq_true, if_false] at q' hn
      refine call_meets F.slot_str_split (typeIs_str _ _ _) F.entry_str_split (F.args_str_split_2 _ _) (meets_str_split_sep z y t t' h1 hy' h2 hz hn) ?_
      exact ⟨.ref s.heap.objs.size, _, I.laid (o := .lst ((Builtin.Str.partsBetween z (Builtin.Str.occurrences z y 0 z.length (z.length + 1)) y.length).map V.str)) (fun b o e => Heap.get?_push_of_some _ e) (Nat.le_refl _) ⟨by rw [List.length_map]; exact hn, _, 0, vals_strs _ _, Heap.get?_push_size s.heap rfl⟩, rfl, q'⟩
    · rw [h2] at q'
      simp only [Bool.false_eq_true, if_false, if_true, List.map] at q'
      exact call_meets F.slot_str_split (typeIs_str _ _ _) F.entry_str_split (F.args_str_split_2 _ _) (meets_str_split_not_found z y t t' h1 hy' h2) (self q')
  · rw [h1] at q'
    simp only [if_true, List.map] at q'
    exact call_meets F.slot_str_split (typeIs_str _ _ _) F.entry_str_split (F.args_str_split_2 _ _) (meets_str_split_cannot_occur z y t t' h1) (self q')
theorem call_int_txt : CallR X (.type "int") (fun xs H Q => ∃ z n, xs = [.str z] ∧ PySem.intText? z = some n ∧ z.length ≤ 640 ∧ Q (.int n) H) := by
  intro pins s σ H xs us Q I r h
  obtain ⟨z, n, rfl, e, hl, q⟩ := h
  obtain ⟨u, rfl, ⟨t, rfl⟩⟩ := r.one
  exact PySem.W.KIN.call_text e hl ⟨.int n, H, I.tok _, ⟨_, rfl⟩, q⟩
def repT (z : Str) (n : Int) : Str := ⟨(List.replicate n.toNat z.cps).foldl (· ++ ·) #[]⟩
theorem op_mulS : OpR X (binaryOp .Mult) (fun x y H Q => ∃ z n, x = .str z ∧ y = .int n ∧ 1 < n ∧ n < 1000 ∧ 0 < z.length ∧ z.length < 1000 ∧ z.length * n.toNat ≤ sizeLine ∧ (repT z n).length ≤ sizeLine ∧ Q (.str (repT z n)) H) := by
  intro pins s σ H x y v u Q I rx ry h
  obtain ⟨z, n, rfl, rfl, h1, h2, h3, h4, h6, h5, q⟩ := h
  obtain ⟨t, rfl⟩ := rx
  obtain ⟨t', rfl⟩ := ry
  have e0 : (n == 1 || z.length == 0) = false := by
    rw [Bool.or_eq_false_iff, beq_eq_false_iff_ne, beq_eq_false_iff_ne]
    omega
  refine PySem.P.mul_str (by rw [decide_eq_false (by omega), decide_eq_false (by omega)]; rfl) (fun _ _ => ?_) (fun _ _ => ?_) ?_
  · have : (1000 : Int) ≤ (2 ^ 63 - 1) / n := Int.le_ediv_of_mul_le (by omega) (by omega)
    omega
  · unfold Builtin.Str.tooLong
    exact decide_eq_false (by omega)
  · rw [if_neg (by omega), e0]
    exact ⟨h5, .str _, H, I.tok _, ⟨_, rfl⟩, q⟩
end
theorem strs_of : ∀ {ts : List Str} {its : List Value}, Vals (ts.map V.str) its → ∃ l : List (Str × Tok), its = strValues l ∧ l.map (·.1) = ts
  | [], _, .nil => ⟨[], rfl, rfl⟩
  | t :: ts, _, .cons ⟨k, e⟩ r => by
    obtain ⟨l, e1, e2⟩ := strs_of r
    subst e
    exact ⟨(t, k) :: l, by rw [e1]; rfl, by rw [← e2]; rfl⟩
def rJoin (K : PySem.W.Frag) : V → List V → Hp → VK → Prop := fun x vs H Q => ∃ z a ts, x = .str z ∧ vs = [.ref a] ∧ SqL K H a (ts.map V.str) ∧ JoinOk z ts = true ∧ Q (.str (Txt.join z ts)) H
theorem mt_join {X : Cx} : MtM X "str.join" (rJoin X.K) := by
  intro pins s σ H x vs v us Q I rx rv h
  obtain ⟨z, a, ts, rfl, rfl, hq, ok, q⟩ := h
  obtain ⟨t, rfl⟩ := rx
  obtain ⟨u, rfl, e⟩ := rv.one
  cases e
  obtain ⟨its, r, p, hz⟩ := I.list hq
  obtain ⟨l, rfl, ht⟩ := strs_of r
  exact SC.join p.isList ht ok fun t' k => ⟨.str _, H, I.tok _, ⟨_, rfl⟩, q⟩
section
variable {X : Cx} {pos : Pos} {body : List Stmt} {h₀ : ExceptHandler} {hs : List ExceptHandler} {E' : XK} {tb : TS}
end
section
variable {X : Cx} {o e : Expr} {es : List Expr} {to : TE} {t : TA} {name : Str} {apos cpos : Pos} {T id : String} {r : V → List V → Hp → VK → Prop}
end
theorem pe_globS {X : Cx} {x : Str} {z : Str} {pos : Pos} (hg : Gl X x) (hm : ∃ t, X.mg x = some (.str z t)) (hd : (x == ("__debug__" : Str)) = false := by decide) : PE X (.Name x pos) (tC (.str z)) := by
  obtain ⟨t, hm⟩ := hm
  exact pe_glob hg hm ⟨t, rfl⟩ hd
end L2
set_option maxHeartbeats 1000000
namespace L2
open PySem PySem.Spec PyProof.Rows PySem.Builtin PySem.Builtin.Str PySem.StrLaws
def inter (s : List Nat) : List (List Nat) → List Nat
  | [] => []
  | [a] => a
  | a :: b :: r => a ++ s ++ inter s (b :: r)
theorem inter_flat (s : List Nat) : ∀ (r : List (List Nat)) (a : List Nat), inter s (a :: r) = a ++ (r.map fun p => s ++ p).flatten
  | [], a => by simp [inter]
  | b :: r, a => by
    show a ++ s ++ inter s (b :: r) = _
    rw [inter_flat s r b]
    simp
def Cl (t s : List Nat) : Nat → List (List Nat) → Prop
  | _, [] => False
  | o, [a] => ∀ i, o ≤ i → i + s.length ≤ t.length → (t.drop i).take s.length ≠ s
  | o, a :: b :: r => (∀ i, o ≤ i → i < o + a.length → (t.drop i).take s.length ≠ s) ∧ (t.drop (o + a.length)).take s.length = s ∧ o + a.length + s.length ≤ t.length ∧ Cl t s (o + a.length + s.length) (b :: r)
def bnd (w : Nat) : Nat → List (List Nat) → List Nat
  | _, [] => []
  | _, [a] => []
  | o, a :: b :: r => (o + a.length) :: bnd w (o + a.length + w) (b :: r)
theorem occ_skip (x y : Str) (hi limit : Nat) : ∀ (l : List Nat) (st : Array Nat × Nat), (∀ i ∈ l, st.2 ≤ i → i + y.length ≤ hi → subAt x y i = false) → (forIn l st (occBody x y hi limit)).run = st
  | [], st, _ => rfl
  | i :: l, st, h => by
    rw [List.forIn_cons]
    have : occBody x y hi limit i st = pure (ForInStep.yield (st.fst, st.snd)) := by
      unfold occBody
      rw [if_neg]
      rintro ⟨⟨⟨_, h1⟩, h2⟩, h3⟩
      rw [h i (List.mem_cons_self ..) h1 h2] at h3
      cases h3
    rw [this]
    exact occ_skip x y hi limit l (st.1, st.2) fun j hj => h j (List.mem_cons_of_mem _ hj)
theorem subAt_f {x y : Str} {i : Nat} (h : ((sg x).drop i).take y.length ≠ sg y) : subAt x y i = false := by
  rw [subAt_eq]
  exact beq_eq_false_iff_ne.mpr h
theorem subAt_t {x y : Str} {i : Nat} (h : ((sg x).drop i).take y.length = sg y) : subAt x y i = true := by
  rw [subAt_eq]
  exact beq_iff_eq.mpr h
theorem forIn_app {α β : Type} (f : α → β → Id (ForInStep β)) (hf : ∀ a b, ∃ b', f a b = pure (ForInStep.yield b')) : ∀ (l l' : List α) (b : β), (forIn (l ++ l') b f).run = (forIn l' (forIn l b f).run f).run
  | [], l', b => rfl
  | a :: l, l', b => by
    rw [List.cons_append, List.forIn_cons, List.forIn_cons]
    obtain ⟨b', e⟩ := hf a b
    rw [e]
    exact forIn_app f hf l l' b'
theorem occBody_yield (x y : Str) (hi limit : Nat) (i : Nat) (st : Array Nat × Nat) : ∃ b', occBody x y hi limit i st = pure (ForInStep.yield b') := by
  unfold occBody
  split
  · exact ⟨_, rfl⟩
  · exact ⟨_, rfl⟩
theorem occ_cl (x y : Str) (hy : 0 < y.length) : ∀ (ps : List (List Nat)) (o : Nat) (found : Array Nat), o ≤ x.length → Cl (sg x) (sg y) o ps → found.size + ps.length ≤ x.length + 2 →
    (forIn (List.range' o (x.length + 1 - o)) (found, o) (occBody x y x.length (x.length + 1))).run.fst.toList = found.toList ++ bnd y.length o ps
  | [], _, _, _, h, _ => h.elim
  | [a], o, found, ho, h, hl => by
    rw [occ_skip x y]
    · simp [bnd]
    · intro i hi h1 h2
      have h3 : i + (sg y).length ≤ (sg x).length := by rw [sg_len, sg_len]; exact h2
      refine subAt_f ?_
      have := h i (by simpa using h1) h3
      rwa [sg_len] at this
  | a :: b :: r, o, found, ho, h, hl => by
    obtain ⟨h1, h2, h3, h4⟩ := h
    rw [sg_len] at h2 h3 h4
    rw [sg_len] at h3
    have e : List.range' o (x.length + 1 - o) = List.range' o a.length ++ ((o + a.length) :: (List.range' (o + a.length + 1) (y.length - 1) ++ List.range' (o + a.length + y.length) (x.length + 1 - (o + a.length + y.length)))) := by
      have e1 : x.length + 1 - o = a.length + (1 + ((y.length - 1) + (x.length + 1 - (o + a.length + y.length)))) := by omega
      rw [e1, ← List.range'_append_1, ← List.range'_append_1, ← List.range'_append_1]
      simp only [List.range'_one, List.singleton_append]
      rw [show o + a.length + 1 + (y.length - 1) = o + a.length + y.length by omega]
    rw [e, forIn_app _ (occBody_yield x y _ _)]
    rw [occ_skip x y x.length (x.length + 1) (List.range' o a.length) (found, o)]
    · rw [List.forIn_cons]
      have eb : occBody x y x.length (x.length + 1) (o + a.length) (found, o) = pure (ForInStep.yield (found.push (o + a.length), o + a.length + y.length)) := by
        unfold occBody
        rw [if_pos]
        refine ⟨⟨⟨?_, ?_⟩, ?_⟩, subAt_t h2⟩
        · show found.size < x.length + 1
          simp at hl
          omega
        · show o ≤ o + a.length
          omega
        · omega
      rw [eb]
      show (forIn (List.range' (o + a.length + 1) (y.length - 1) ++ List.range' (o + a.length + y.length) (x.length + 1 - (o + a.length + y.length))) (found.push (o + a.length), o + a.length + y.length) (occBody x y x.length (x.length + 1))).run.fst.toList = _
      rw [forIn_app _ (occBody_yield x y _ _), occ_skip x y x.length (x.length + 1) (List.range' (o + a.length + 1) (y.length - 1))]
      · rw [occ_cl x y hy (b :: r) _ _ (by omega) h4 (by simp at hl ⊢; omega)]
        simp [bnd]
      · intro i hi h5
        have := List.mem_range'_1.mp hi
        have h5 : o + a.length + y.length ≤ i := h5
        omega
    · intro i hi _ _
      have := List.mem_range'_1.mp hi
      refine subAt_f ?_
      have := h1 i (by omega) (by omega)
      rwa [sg_len] at this
theorem sub_part (x : Str) (i j : Nat) : strSub x i j = mkS (((sg x).drop i).take (j - i)) := by
  have : (strSub x i j).cps.toList = ((sg x).drop i).take (j - i) := strSub_toList x i j
  calc strSub x i j = mkS (sg (strSub x i j)) := (mk_sg _).symm
    _ = _ := by rw [show sg (strSub x i j) = _ from this]
theorem parts_go (x : Str) (s : List Nat) : ∀ (ps : List (List Nat)) (o : Nat), ps ≠ [] → (sg x).drop o = inter s ps → o ≤ x.length →
    ((o :: (bnd s.length o ps).map (· + s.length)).zip (bnd s.length o ps ++ [x.length])).map (fun (i, j) => strSub x i j) = ps.map mkS
  | [], _, h, _, _ => absurd rfl h
  | [a], o, _, e, ho => by
    show [strSub x o x.length] = [mkS a]
    rw [sub_part]
    congr 2
    rw [e]
    have : (inter s [a]) = a := rfl
    rw [this]
    refine List.take_of_length_le ?_
    have hl : ((sg x).drop o).length = x.length - o := by rw [List.length_drop, sg_len]
    rw [e, this] at hl
    omega
  | a :: b :: r, o, _, e, ho => by
    have e2 : (sg x).drop (o + a.length + s.length) = inter s (b :: r) := by
      rw [Nat.add_assoc, ← List.drop_drop, e]
      show (a ++ s ++ inter s (b :: r)).drop (a.length + s.length) = _
      rw [List.drop_append_of_le_length (by simp)]
      rw [show a.length + s.length = (a ++ s).length by simp, List.drop_length]
      rfl
    have hlen : o + a.length + s.length ≤ x.length := by
      have hl : ((sg x).drop o).length = x.length - o := by rw [List.length_drop, sg_len]
      rw [e] at hl
      have : (inter s (a :: b :: r)).length = a.length + s.length + (inter s (b :: r)).length := by
        show (a ++ s ++ inter s (b :: r)).length = _
        rw [List.length_append, List.length_append]
      omega
    have ih := parts_go x s (b :: r) (o + a.length + s.length) (by simp) e2 hlen
    show strSub x o (o + a.length) :: _ = mkS a :: (b :: r).map mkS
    congr 1
    rw [sub_part]
    congr 1
    rw [e, show o + a.length - o = a.length by omega]
    show (a ++ s ++ inter s (b :: r)).take a.length = a
    rw [List.append_assoc, List.take_left]
theorem kind1 {x : Str} (h : Ascii x) : Builtin.Str.strKind x = 1 := by
  unfold Builtin.Str.strKind
  rw [if_pos]
  unfold Ascii at h
  rw [Array.all_eq_true] at h ⊢
  intro i hi
  have := h i hi
  simp at this ⊢
  omega
theorem split_inter {x y : Str} {ps : List (List Nat)} (ax : Ascii x) (ay : Ascii y) (hy : 0 < y.length) (e : sg x = inter (sg y) ps) (c : Cl (sg x) (sg y) 0 ps) : Txt.split x y = ps.map mkS := by
  have hp : ps ≠ [] := by
    intro z
    subst z
    exact c.elim
  have hl : ps.length ≤ x.length + 2 := by
    have : ∀ (ps : List (List Nat)), ps ≠ [] → ps.length ≤ (inter (sg y) ps).length + 1 := by
      intro ps
      induction ps with
      | nil => intro z; exact absurd rfl z
      | cons a r ih =>
        intro _
        cases r with
        | nil => simp
        | cons b r =>
          have := ih (by simp)
          show (a :: b :: r).length ≤ (a ++ sg y ++ inter (sg y) (b :: r)).length + 1
          have hyl := sg_len y
          simp only [List.length_append, List.length_cons] at this ⊢
          omega
    have h := this ps hp
    rw [← e, sg_len] at h
    omega
  have ho := occ_cl x y hy ps 0 #[] (Nat.zero_le _) c (by simpa using hl)
  have hocc : occurrences x y 0 x.length (x.length + 1) = bnd y.length 0 ps := by
    rw [occ_eq]
    simpa using ho
  have hgo := parts_go x (sg y) ps 0 hp (by simpa using e) (Nat.zero_le _)
  rw [sg_len] at hgo
  unfold Txt.split
  rw [kind1 ax, kind1 ay, hocc]
  by_cases hs : x.length < y.length
  · rw [if_pos (by simp [hs])]
    match ps, hp with
    | [a], _ =>
      have : sg x = a := e
      rw [← this]
      simp [mk_sg]
    | a :: b :: r, _ =>
      obtain ⟨_, _, h3, _⟩ := c
      rw [sg_len, sg_len] at h3
      omega
  · rw [if_neg (by simp [hs])]
    match ps, hp with
    | [a], _ =>
      have : sg x = a := e
      rw [if_pos (by simp [bnd]), ← this]
      simp [mk_sg]
    | a :: b :: r, _ =>
      rw [if_neg (by simp [bnd])]
      exact hgo
def Apart (s a : List Nat) : Prop := ∀ rest i, i < a.length → ((a ++ rest).drop i).take s.length ≠ s
theorem cl_of {s : List Nat} (hs : 0 < s.length) : ∀ (ps : List (List Nat)) (pre : List Nat), ps ≠ [] → (∀ a ∈ ps, Apart s a) → Cl (pre ++ inter s ps) s pre.length ps
  | [], _, h, _ => absurd rfl h
  | [a], pre, _, ha => by
    intro i hi hl
    show ((pre ++ a).drop i).take s.length ≠ s
    have hl : i + s.length ≤ (pre ++ a).length := hl
    rw [List.length_append] at hl
    have := ha a (by simp) [] (i - pre.length) (by omega)
    rw [List.append_nil] at this
    rw [List.drop_append, List.drop_of_length_le (by omega), List.nil_append]
    exact this
  | a :: b :: r, pre, _, ha => by
    have e : pre ++ inter s (a :: b :: r) = (pre ++ a ++ s) ++ inter s (b :: r) := by
      show pre ++ (a ++ s ++ inter s (b :: r)) = _
      simp
    refine ⟨fun i h1 h2 => ?_, ?_, ?_, ?_⟩
    · have := ha a (by simp) (s ++ inter s (b :: r)) (i - pre.length) (by omega)
      show ((pre ++ (a ++ s ++ inter s (b :: r))).drop i).take s.length ≠ s
      rw [List.drop_append, List.drop_of_length_le (by omega), List.nil_append, List.append_assoc]
      exact this
    · rw [e, show pre.length + a.length = (pre ++ a).length by simp, List.append_assoc, List.drop_left, List.take_left]
    · rw [e]
      simp only [List.length_append]
      omega
    · rw [e, show pre.length + a.length + s.length = (pre ++ a ++ s).length by rw [List.length_append, List.length_append]]
      exact cl_of hs (b :: r) (pre ++ a ++ s) (by simp) fun c hc => ha c (List.mem_cons_of_mem _ hc)
theorem apart_head {c : Nat} {s a : List Nat} (h : c ∉ a) : Apart (c :: s) a := fun rest i hi e => by
  have h1 : (((a ++ rest).drop i).take (c :: s).length)[0]? = some c := by rw [e]; rfl
  rw [List.getElem?_take_of_lt (by simp), List.getElem?_drop, List.getElem?_append_left (by simpa using hi)] at h1
  exact h (List.mem_of_getElem? h1)
def NoSl (a : List Nat) : Prop := ∀ i, a[i]? = some 32 → ∃ d, a[i + 1]? = some d ∧ d ≠ 47
theorem ascii_of {x : Str} (h : ∀ c ∈ sg x, c < 128) : Ascii x := by
  unfold Ascii
  rw [Array.all_eq_true]
  intro i hi
  have := h (x.cps[i]) (by simp)
  simpa using this
theorem Ascii.mem {x : Str} (h : Ascii x) : ∀ c ∈ sg x, c < 128 := by
  unfold Ascii at h
  rw [Array.all_eq_true] at h
  intro c hc
  obtain ⟨i, hi, rfl⟩ := List.mem_iff_getElem.mp hc
  have := h i (by simpa using hi)
  simpa using this
theorem split_join {x y : Str} {ps : List (List Nat)} (ax : Ascii x) (ay : Ascii y) (hy : 0 < y.length) (hp : ps ≠ []) (e : sg x = inter (sg y) ps) (ha : ∀ a ∈ ps, Apart (sg y) a) : Txt.split x y = ps.map mkS := by
  refine split_inter ax ay hy e ?_
  rw [e]
  exact cl_of (by rw [sg_len]; exact hy) ps [] hp ha
def tN (n : Nat) : List Nat := (Nat.toDigits 10 n).map Char.toNat
def tI (a : Int) : List Nat := if a < 0 then 45 :: tN a.natAbs else tN a.natAbs
theorem sg_nat (n : Nat) : sg (Str.ofString (toString ((n : Nat) : Int))) = tN n := PySem.W.KIN.signs_num n
theorem sg_toString (a : Int) : sg (Str.ofString (toString a)) = tI a := by
  unfold tI
  by_cases h : a < 0
  · rw [if_pos h]
    obtain ⟨n, rfl⟩ : ∃ n : Nat, a = Int.negSucc n := ⟨a.natAbs - 1, by omega⟩
    have e : toString (Int.negSucc n) = "-" ++ toString (n + 1) := rfl
    rw [e]
    show (Str.ofString ("-" ++ toString (n + 1))).cps.toList = _
    rw [PyProof.Rows.signs_ofString, String.toList_append, List.map_append]
    show 45 :: (Nat.repr (n + 1)).toList.map Char.toNat = 45 :: tN (n + 1)
    rw [Nat.toList_repr]
    rfl
  · rw [if_neg h]
    obtain ⟨n, rfl⟩ := Int.eq_ofNat_of_zero_le (show 0 ≤ a by omega)
    exact sg_nat n
open PySem.NumText in
theorem tN_digits (n : Nat) : AllDigits (tN n) := fun c hc => by
  obtain ⟨ch, hch, e⟩ := List.mem_map.mp hc
  rw [← e]
  exact PyProof.Rows.digit_range (Nat.isDigit_of_mem_toDigits (by decide) (by decide) hch)
open PySem.NumText in
theorem tN_small {n : Nat} (h : n < 10) : tN n = [48 + n] := by
  unfold tN
  rw [Nat.toDigits_of_lt_base h]
  have : ∀ d : Nat, d < 10 → (Nat.digitChar d).toNat = 48 + d := by decide
  rw [List.map_cons, this n h]
  rfl
theorem tN_rec {n : Nat} (h : 10 ≤ n) : tN n = tN (n / 10) ++ tN (n % 10) := by
  have hm : n % 10 < 10 := Nat.mod_lt n (by decide)
  have t : Nat.toDigits 10 (n / 10) ++ Nat.toDigits 10 (n % 10) = Nat.toDigits 10 (10 * (n / 10) + n % 10) := Nat.toDigits_append_toDigits (by decide) (by omega) hm
  rw [Nat.div_add_mod] at t
  unfold tN
  rw [← t, List.map_append]
theorem tN_len : ∀ (k : Nat) {n : Nat}, n < 10 ^ (k + 1) → (tN n).length ≤ k + 1
  | 0, n, h => by rw [tN_small (by simpa using h)]; simp
  | k + 1, n, h => by
    by_cases h10 : n < 10
    · rw [tN_small h10]; simp
    · rw [tN_rec (by omega), List.length_append, tN_small (Nat.mod_lt n (by decide))]
      have : n / 10 < 10 ^ (k + 1) := by
        rw [Nat.div_lt_iff_lt_mul (by decide), ← Nat.pow_succ]
        exact h
      have := tN_len k this
      simp
      omega
end L2
namespace L2
open PySem PySem.Spec PyProof.Rows PySem.W
section
variable {P : Program} {w : World} {A : Around} {F : Value → Shared → Prop} {u : Shared} {D : Env} {nm qn : Str} {C N : Addr} {bs ms : List Value} {hb : Bool} {sn : List Str} {sb : List Value} {ab : Bool} {co : Option Bool} {dd : Option Addr} {k0 k1 k2 k3 k5 : Option Value} {ni : String}
theorem unchain_none {e a : Addr} {o : Obj} {vs : Array Value} {R : Value → Shared → Prop} (ha : u.heap.get? a = some o) (hd : o.data = .fields vs) (g2 : vs[2]? = some .none) (k : R .none u) :
    wpAny (model P w) A (runValue (.builtin "proto.unchain" ⟨[.ref e, .ref a, .ref a, .bool false], []⟩)) R F u := by
  refine wpAny_runValue (codeAny_builtin (b := Builtin.«proto.unchain») (entryFor_of_tree (by kernel_rfl)) ?_)
  unfold Builtin.«proto.unchain»
  refine wpAny_bind (wpAny_field ha hd g2 ?_)
  rw [if_pos (by decide)]
  exact wpAny_pure k
abbrev chained (C t a : Addr) : Obj := { cls := .ref C, data := .fields #[.ref t, .none, .ref a, .none, .bool true, .none] }
theorem thrown_chained {e t a : Addr} {h3 : Heap} {o : Obj} {vs : Array Value} {R : Flow → Shared → Prop} (hm : A.handled = some (.ref a)) (ne : a ≠ e) (he : h3.get? e = some { cls := .ref C, data := .fields #[.ref t, .none, .none, .none, .bool true, .none] }) (ha : h3.get? a = some o) (hd : o.data = .fields vs) (g2 : vs[2]? = some .none)
    (k : ∀ h', h'.get? e = some (chained C t a) → Heap.SameBut e h3 h' → F (.ref e) { u with heap := h' }) : wpAny (model P w) A (raiseNew (.ref e) : Sem Flow) R F { u with heap := h3 } := by
  have dif : (Value.ref a != Value.ref e) = true := bne_iff_ne.mpr fun z => by injection z with z; exact ne z
  have he4 := Heap.get?_update_self (h := h3) (Obj.mapFields fun x => x.setIfInBounds 2 (Value.ref a)) he rfl
  have put : ∀ {R' : Unit → Shared → Prop}, R' () { u with heap := h3.update e (Obj.mapFields fun x => x.setIfInBounds 2 (Value.ref a)) } → wpAny (model P w) A (updateField e 2 (Value.ref a)) R' F { u with heap := h3 } := fun {R'} q =>
    wpAny_setField (a := e) (i := 2) (x := Value.ref a) (Q := R') (E := F) (M := model P w) (A := A) (s := { u with heap := h3 }) he rfl (by show 2 < 6; decide) q
  unfold raiseNew
  refine wpAny_bind (wpAny_handled (by rw [hm]; dsimp only; rw [if_pos dif]; exact wpAny_bind (wpAny_holding (unchain_none (u := { u with heap := h3 }) ha hd g2 (wpAny_bind (put (wpAny_throw (k _ he4 (Heap.SameBut.update ..)))))))))
theorem raise_chained {a : Addr} {x c : Sem Value} {R : Flow → Shared → Prop} (hB : ms.contains (.type "BaseException") = true) (hm : A.handled = some (.ref a))
    (hc : ∀ (R' : Value → Shared → Prop) v, R' .none v → wpAny (model P w) A c R' F v)
    (hx : wpAny (model P w) A x (fun v y => ∃ e t o vs, v = .ref e ∧ y.heap.get? C = some (excClassObj nm qn C N bs ms hb sn sb ab co dd k0 k1 k2 k3 k5 ni) ∧
      y.heap.get? e = some { cls := .ref C, data := .fields #[.ref t, .none, .none, .none, .bool false, .none] } ∧ y.heap.get? a = some o ∧ o.data = .fields vs ∧ vs[2]? = some .none ∧ a ≠ e ∧
      ∀ h', h'.get? e = some (chained C t a) → Heap.SameBut e y.heap h' → F (.ref e) { y with heap := h' }) F u) :
    wpAny (model P w) A (raiseStmt D (some x) (some c)) R F u := by
  have isB : (Value.ref C :: ms).contains (.type "BaseException") = true := by simp only [List.contains_cons, hB, Bool.or_true]
  unfold raiseStmt
  refine wpAny_bind (wpAny_mono hx (fun v y hy => ?_) (fun _ _ z => z))
  obtain ⟨e, t, o, vs, rfl, lC, le, la, hd, g2, ne, k⟩ := hy
  cases y with
  | mk hp gn dr tk oo =>
    refine wpAny_bind (wpAny_holding (hc _ _ (wpAny_bind (wpAny_pure ?_))))
    repeat (first | (with_reducible refine wpAny_loadPart_at le ?_) | (with_reducible refine wpAny_loadPart_at lC ?_) | (with_reducible refine wpAny_isSubtype_exc lC ?_; rw [isB]) | wp_step)
    have neC : C ≠ e := fun z => by
      have a1 : hp.get? C = some (excClassObj nm qn C N bs ms hb sn sb ab co dd k0 k1 k2 k3 k5 ni) := lC
      have a2 : hp.get? e = some { cls := .ref C, data := .fields #[.ref t, .none, .none, .none, .bool false, .none] } := le
      rw [z, a2] at a1
      cases congrArg Obj.data (Option.some.inj a1)
    have e1 := Heap.get?_update_self (h := hp) (Obj.mapFields fun x => x.setIfInBounds 3 Value.none) le rfl
    have e2 := Heap.get?_update_self (Obj.mapFields fun x => x.setIfInBounds 4 (Value.bool true)) e1 rfl
    have oth : ∀ b, b ≠ e → ((hp.update e (Obj.mapFields fun x => x.setIfInBounds 3 Value.none)).update e (Obj.mapFields fun x => x.setIfInBounds 4 (Value.bool true))).get? b = hp.get? b := fun b nb => by
      rw [Heap.get?_update_other _ _ nb.symm, Heap.get?_update_other _ _ nb.symm]
    have lC2 := (oth C neC).trans lC
    have la2 := (oth a ne).trans la
    have le2 : ((hp.update e (Obj.mapFields fun x => x.setIfInBounds 3 Value.none)).update e (Obj.mapFields fun x => x.setIfInBounds 4 (Value.bool true))).get? e = some { cls := .ref C, data := .fields #[.ref t, .none, .none, .none, .bool true, .none] } := e2
    have sm : Heap.SameBut e hp ((hp.update e (Obj.mapFields fun x => x.setIfInBounds 3 Value.none)).update e (Obj.mapFields fun x => x.setIfInBounds 4 (Value.bool true))) := (Heap.SameBut.update ..).trans (Heap.SameBut.update ..)
    generalize (hp.update e (Obj.mapFields fun x => x.setIfInBounds 3 Value.none)).update e (Obj.mapFields fun x => x.setIfInBounds 4 (Value.bool true)) = h3 at *
    repeat (first | (with_reducible refine wpAny_loadPart_at le2 ?_) | (with_reducible refine wpAny_loadPart_at lC2 ?_) | wp_step)
    exact thrown_chained (u := ⟨hp, gn, dr, tk, oo⟩) hm ne le2 la2 hd g2 fun h' q1 q2 => k h' q1 (sm.trans q2)
end
end L2
namespace L2
open PySem PySem.Spec PyProof.Rows PySem.W
def isExcN (a : Addr) (cls : Value) : HO := .ext fun h => ∃ (ob : Obj) (vs : Array Value), h.get? a = some ob ∧ ob.cls = cls ∧ ob.data = .fields vs ∧ vs[2]? = some .none
theorem isExcN_ok {P : Program} {w : World} {H : Hp} {h : Heap} {a : Addr} {cls : Value} {ob : Obj} {vs : Array Value} (e : h.get? a = some ob) (c : ob.cls = cls) (d : ob.data = .fields vs) (g : vs[2]? = some .none) : ObjOk P w H h a (isExcN a cls) :=
  ⟨⟨ob, vs, e, c, d, g⟩, ⟨ob, e⟩, fun h1 h2 ⟨o, us, e1, c1, d1, g1⟩ k => ⟨o, us, k o e1, c1, d1, g1⟩⟩
section
variable {P : Program} {w : World} {K : PySem.W.Frag} {mg : Str → Option Value} {base : Heap} {N : List Str} {qual : Str} {scope : Scope} {f : Addr} {cd : Value} {A : Around} {outer : List Env} {s : Shared} {H : Hp} {E : XK} {pins : List (Addr × Obj)} {σ : St} {H1 : Hp} {s1 s2 : Shared} {e : Addr} {cls c0 : Value}
theorem cxe_of {h' : Heap} (I : Inv (cxOf (CXe P w) P w K mg base N qual scope f cd A outer s H E) pins σ H1 s1) (x1 : Trk (hideAll s1.heap (frs (envOfC qual scope s.heap.objs.size f cd :: outer))) outer e cls c0 .none h') (up : s1.heap.UpToSlots h') (hne : s1.heap.get? e = none)
    (ho : s2.os = s1.os) (hg : AllBare s2.gens) (hE : E cls none H1) (h2 : c0 = .none ∨ E cls (some 0) H1) : CXe P w outer H s E (.ref e) { s2 with heap := h' } := by
  have hstk : s1.heap.FunFrames base (envOfC qual scope s.heap.objs.size f cd :: outer) := I.stack
  have hfree : ∀ b ∈ frs (envOfC qual scope s.heap.objs.size f cd :: outer), H1 b = none := I.stkFree
  have hsub : ∀ b ∈ frs (envOfC qual scope s.heap.objs.size f cd :: outer), b ∈ s.heap.objs.size :: frs outer := I.stkSub
  have keepB : ∀ b o, s1.heap.get? b = some o → b ∉ frs (envOfC qual scope s.heap.objs.size f cd :: outer) → h'.get? b = some o := fun b o q nb => x1.st b o (hideAll_get _ q nb)
  have ub : Un (frs outer) [] H H1 s.heap s1.heap := I.base
  have nst : ∀ b o, s.heap.get? b = some o → b ∉ frs outer → b ∉ frs (envOfC qual scope s.heap.objs.size f cd :: outer) := fun b o q nb z => by
    rcases List.mem_cons.mp (hsub b z) with e1 | z
    · exact absurd (Heap.lt_size q) (by rw [e1]; exact Nat.lt_irrefl _)
    · exact nb z
  have slotS : ∀ b o, s1.heap.get? b = some o → b ∈ frs (envOfC qual scope s.heap.objs.size f cd :: outer) → ∃ sl, h'.get? b = some { o with slots := sl } := fun b o q hb => by
    obtain ⟨_, o', ho', hd⟩ := hstk.mem hb
    rw [q] at ho'
    cases ho'
    exact up b o q hd
  refine ⟨e, cls, c0, H1, rfl, ⟨ho.trans I.os, hg, HOk.track I.hok (fun b u o hb q => keepB b o q (fun z => by rw [hfree b z] at hb; cases hb)), ⟨fun b o q n hb hx => ?_, fun b o q n hb hx => ?_, fun b o q n hx => ub.free b o q n hx, fun b o q hx => ?_, ub.tups, ub.frzs, ub.tbls⟩, ⟨_, x1, fun b o q nb => ?_, fun b u hb => ?_⟩, fun o q => ?_, ?_⟩, hE, h2⟩
  · exact keepB b o (ub.keep b o q n hb hx) (nst b o q hb)
  · obtain ⟨sl, e1⟩ := ub.slot b o q n hb hx
    obtain ⟨sl', e2⟩ := slotS b _ e1 (by unfold frs at hb ⊢; rw [List.filterMap_cons]; split <;> first | exact hb | exact List.mem_cons_of_mem _ hb)
    exact ⟨sl', e2⟩
  · obtain ⟨o', e1⟩ := ub.there b o q hx
    by_cases z : b ∈ frs (envOfC qual scope s.heap.objs.size f cd :: outer)
    · obtain ⟨sl, e2⟩ := slotS b o' e1 z
      exact ⟨_, e2⟩
    · exact ⟨o', keepB b o' e1 z⟩
  · obtain ⟨o', e1⟩ := ub.there b o q (by simp)
    exact ⟨o', hideAll_get _ e1 (nst b o q nb)⟩
  · obtain ⟨o', e1⟩ := ObjOk.there (I.hok b u hb)
    exact ⟨o', hideAll_get _ e1 fun z => by rw [hfree b z] at hb; cases hb⟩
  · obtain ⟨o', e1⟩ := ub.there e o q (by simp)
    rw [hne] at e1
    cases e1
  · cases z : H1 e with
    | none => rfl
    | some u =>
      obtain ⟨o', e1⟩ := ObjOk.there (I.hok e u z)
      rw [hne] at e1
      cases e1
theorem xe_suite {C t a : Addr} {vs : List Value} {hm h3 : Heap} (I : Inv (cxOf (CXe P w) P w K mg base N qual scope f cd A outer s H E) pins σ H1 s1) (hx : Heap.MadeExcOf s1.heap hm e (.ref C) vs) (he : h3.get? e = some (chained C t a)) (sb : Heap.SameBut e hm h3)
    (ho : s2.os = s1.os) (hg : AllBare s2.gens) (hE : E (.ref C) none H1) (h2 : E (.ref C) (some 0) H1) :
    notedBy (model P w) ((A.deeper (envOfC qual scope s.heap.objs.size f cd)).mark (some (.ref a))) (envOfC qual scope s.heap.objs.size f cd) (cameBackBy (model P w) (A.deeper (envOfC qual scope s.heap.objs.size f cd)) (envOfC qual scope s.heap.objs.size f cd) (cxOf (CXe P w) P w K mg base N qual scope f cd A outer s H E).xe) (.ref e) { s2 with heap := h3 } := by
  have hin : ∀ env ∈ (envOfC qual scope s.heap.objs.size f cd :: outer), ∀ b, env.frame = some b → b ∈ frs (envOfC qual scope s.heap.objs.size f cd :: outer) := fun env he b hb => List.mem_filterMap.mpr ⟨env, he, hb⟩
  have hstk : s1.heap.FunFrames base (envOfC qual scope s.heap.objs.size f cd :: outer) := I.stack
  have hne : s1.heap.get? e = none := hx.new
  have k13 : ∀ b o, s1.heap.get? b = some o → h3.get? b = some o := fun b o q => by
    have nb : b ≠ e := fun z => by rw [z, hne] at q; cases q
    exact (sb.2 b nb).trans (hx.keeps b o q)
  have up13 : s1.heap.UpToSlots h3 := Heap.UpToSlots.of_keeps k13
  have st : (hideAll s1.heap (frs (envOfC qual scope s.heap.objs.size f cd :: outer))).StaysIn h3 := fun b o q => k13 b o (of_hideAll _ q)
  have nw : (hideAll s1.heap (frs (envOfC qual scope s.heap.objs.size f cd :: outer))).get? e = none := by
    cases q : (hideAll s1.heap (frs (envOfC qual scope s.heap.objs.size f cd :: outer))).get? e with
    | none => rfl
    | some u => have := of_hideAll _ q; rw [hne] at this; cases this
  have ff := ff_slots (funFrames_hide hstk hin) up13
  refine trk_first (s := { s2 with heap := h3 }) (B := hideAll s1.heap (frs (envOfC qual scope s.heap.objs.size f cd :: outer))) (c0 := .ref a) I.ok.frames ff rfl st nw he rfl rfl rfl fun h4 y4 q4 => ?_
  obtain ⟨o, us, T, oT, ws, g1, g2, g3, g4, g5, _⟩ := y4.ob
  refine wpAny_bind (wpAny_field g1 g3 g5 ?_)
  refine wpAny_ite_false (by simp) ?_
  refine trk_mark (s := { s2 with heap := h4 }) (some s.heap.objs.size) y4 fun h5 y5 q5 => ?_
  exact trk_held (s := { s2 with heap := h5 }) rfl y5 fun h6 y6 q6 => cxe_of I y6 (((up13.trans q4).trans q5).trans q6) hne ho hg hE (.inr h2)
end
section
variable {X : Cx} {y : Str} {C : Addr} {yp cpos : Pos} {e₀ : Expr} {rest : List Expr} {ta : TA} {pins : List (Addr × Obj)} {σ : St} {H : Hp} {s : Shared} {R : Hp → Prop}
theorem made_in (O : OwnCls y C bmV newV X.mg X.base) (hg : Gl X y) (ha : PA X (e₀ :: rest) ta) (I : Inv X pins σ H s) (h : ta σ H fun vs H2 => vs.length ≤ 1000 ∧ R H2) {Q : Value → Shared → Prop}
    (k : ∀ s2 H2 h' e us, Inv X pins σ H2 s2 → R H2 → Heap.MadeExcOf s2.heap h' e (.ref C) us → Q (.ref e) { s2 with heap := h' })
    (h1 : isStar e₀ = false := by rfl) (h2 : rest.all (fun x => !isStar x) = true := by rfl) (hd : (y == ("__debug__" : Str)) = false := by decide) :
    wpAny (model X.prog X.w) X.A (eval (.Call (.Name y yp) (e₀ :: rest) [] cpos) X.env) Q X.xe s := by
  have he := star_cons (e := e₀) (es := rest) (env := X.env) h1
  have hpl := star_any (pos := cpos) (env := X.env) h2
  obtain ⟨tl, N1, n1, q1, bs, hdc, sn, sb, ab, co, dd, k0, k1, k2, k3, k5, mN, hC, hN, hni, T⟩ := O.obj
  have hA := ha cpos pins s σ H _ I h
  refine wpAny_Call_ofName (ld_glob I hg O.bound ?_ hd)
  unfold callWith
  rw [he] at hA ⊢
  refine wpAny_bind (wpAny_holding (Calls.evalArgs_plain (wpAny_mono hA (fun us s2 ⟨vs, H2, I2, rv, hl, r2⟩ => ?_) fun _ _ z => z)))
  refine wpAny_bind (wpAny_standAt ?_)
  have hnp : ((backTo cpos ((false, eval e₀ X.env) :: starEach rest X.env)).any fun x => x.1) = false := by
    show (false || (backTo cpos (starEach rest X.env)).any (·.1)) = false
    rw [hpl]
    rfl
  simp only [hnp]
  refine wpAny_bind (wpAny_keeperOf_exc (I2.bk _ _ hC) ?_)
  refine wpAny_bind (wpAny_call_exc_subU (hrest := ?_) PySem.F.excBase_ValueError rfl PySem.F.excBase_ValueError (T.keeps I2.bk) (I2.bk _ _ hC) (hN.keeps I2.bk) hni fun h' e hm => wpAny_bind (wpAny_holding (wpAny_point (wpAny_pure (k s2 H2 h' e _ I2 r2 hm)))))
  rw [List.nil_append, ← rv.length]
  exact Nat.le_of_lt (small1000 hl)
end
theorem matches_same {M : Model} {A : Around} {F : Value → Shared → Prop} {nm q : Str} {D N : Addr} {bs ms : List Value} {hd : Bool} {sn : List Str} {sb : List Value} {ab : Bool} {co : Option Bool} {dd : Option Addr} {k0 k1 k2 k3 k5 : Option Value} {ni : String}
    {h : Heap} {g : Array GenState} {d : Drawn} {t : Nat} {os : OsState} {e : Addr} {oe : Obj} {Q : Bool → Shared → Prop} (lD : h.get? D = some (excClassObj nm q D N bs ms hd sn sb ab co dd k0 k1 k2 k3 k5 ni)) (le : h.get? e = some oe) (hc : oe.cls = .ref D) (hB : ms.contains (.type "BaseException") = true)
    (k : Q true ⟨h, g, d, t, os⟩) : wpAny M A (excMatches (.ref e) (.ref D)) Q F ⟨h, g, d, t, os⟩ := by
  have b1 : (Value.ref D :: ms).contains (.type "BaseException") = true := by simp only [List.contains_cons, hB, Bool.or_true]
  have b2 : (Value.ref D :: ms).contains (.ref D) = true := by simp
  have b3 := tc_notTuple
  unfold excMatches
  repeat (first | (with_reducible refine wpAny_loadPart_at le ?_; rw [hc]) | (with_reducible refine wpAny_loadPart_at lD ?_) | (with_reducible refine wpAny_isSubtype_exc lD ?_; first | rw [b1] | rw [b2]) | wp_step)
  exact k
def tTryN (a0 : Addr) (E E' : XK) (tb : TS) (ta : TA) : TS := fun D σ H => tb D σ H ∧ ∀ (cls : Value) (H' : Hp) (a : Addr) (σ' : St), E' cls none H' → H' a = none → σ'.length = σ.length → ta σ' (upd H' a (isExcN a cls)) fun vs H2 => vs.length ≤ 1000 ∧ E (.ref a0) none H2 ∧ E (.ref a0) (some 0) H2 ∧ H2 a = some (isExcN a cls)
section
variable {P : Program} {w : World} {K : PySem.W.Frag} {mg : Str → Option Value} {base : Heap} {N : List Str} {qual : Str} {scope : Scope} {f : Addr} {cd : Value} {A : Around} {outer : List Env} {s : Shared} {H : Hp} {E E' : XK}
variable {x y : Str} {C D : Addr} {bmD : List Value} {newD : String} {np hpos pos yp cpos rpos : Pos} {body : List Stmt} {tb : TS} {ta : TA} {e₀ : Expr} {rest : List Expr}
theorem ps_tryN (hb : ∀ pins xt, Passes (CXe P w) (((cxOf (CXe P w) P w K mg base N qual scope f cd A outer s H E).pnx pins).wish xt) E' → PSs (((cxOf (CXe P w) P w K mg base N qual scope f cd A outer s H E).pnx pins).wish xt) body tb)
    (ha : ∀ pins a, PA ((cxOf (CXe P w) P w K mg base N qual scope f cd A outer s H E).hnd pins a) (e₀ :: rest) ta)
    (hgx : Gl (cxOf (CXe P w) P w K mg base N qual scope f cd A outer s H E) x) (hgy : Gl (cxOf (CXe P w) P w K mg base N qual scope f cd A outer s H E) y) (OD : OwnCls x D bmD newD mg base) (hDB : bmD.contains (.type "BaseException") = true) (OC : OwnCls y C bmV newV mg base)
    (hC : ∀ cls H', E' cls none H' → cls = .ref D)
    (hN : ∀ cls H', ¬ E' cls (some 0) H') (h1 : isStar e₀ = false := by rfl) (h2 : rest.all (fun x => !isStar x) = true := by rfl) (hdx : (x == ("__debug__" : Str)) = false := by decide) (hdy : (y == ("__debug__" : Str)) = false := by decide) :
    PS (cxOf (CXe P w) P w K mg base N qual scope f cd A outer s H E) (.Try body [.ExceptHandler (some (.Name x np)) none [.Raise (some (.Call (.Name y yp) (e₀ :: rest) [] cpos)) (some (.Constant .none cp1 cp2)) rpos] hpos] [] [] pos) (tTryN C E E' tb ta) := by
  intro pins s0 σ H0 Dn I h
  obtain ⟨hbody, hhand⟩ := h
  rw [arm_exec_Try]
  refine wpAny_bind (wpAny_standAt (wpAny_tryStmt_except ?_))
  have hp : Passes (CXe P w) (((cxOf (CXe P w) P w K mg base N qual scope f cd A outer s H E).pnx pins).wish fun e s' => ∃ pins' σ' H1 s1, Inv ((cxOf (CXe P w) P w K mg base N qual scope f cd A outer s H E).pnx pins) pins' σ' H1 s1 ∧ CXe P w (cxOf (CXe P w) P w K mg base N qual scope f cd A outer s H E).stack H1 s1 E' e s') E' := fun pins' σ' H1 s1 e s' I1 h => ⟨pins', σ', H1, s1, I1.unwish, h⟩
  have hl : (cxOf (CXe P w) P w K mg base N qual scope f cd A outer s H E).env.locals ∈ frs (cxOf (CXe P w) P w K mg base N qual scope f cd A outer s H E).stack := by
    show s.heap.objs.size ∈ frs (envOfC qual scope s.heap.objs.size f cd :: outer)
    unfold frs
    rw [List.filterMap_cons]
    exact List.mem_cons_self
  refine wpAny_mono (hb pins _ hp [] s0 σ H0 Dn (I.pnx.wish _) hbody) (fun f s₁ h₁ => ?_) (fun e s₁ h₁ => ?_)
  · cases f with
    | next => obtain ⟨σ', H', J, q⟩ := h₁; exact wpAny_execs_nil ⟨σ', H', J.unwish.unpnx, q⟩
    | brk => obtain ⟨σ', H', J, q⟩ := h₁; exact ⟨σ', H', J.unwish.unpnx, q⟩
    | cont => obtain ⟨σ', H', J, q⟩ := h₁; exact ⟨σ', H', J.unwish.unpnx, q⟩
    | ret u => obtain ⟨v, σ', H', J, r, q⟩ := h₁; exact ⟨v, σ', H', J.unwish.unpnx, r, q⟩
  · obtain ⟨pins', σ', H1, s1, I1, a, cls, c0, H', rfl, F, hE, hc0⟩ := h₁
    obtain rfl : c0 = .none := hc0.resolve_right (hN cls H')
    obtain ⟨B, fl, inB, trB⟩ := F.fly
    have J1 : Inv (cxOf (CXe P w) P w K mg base N qual scope f cd A outer s H E) pins σ' H1 s1 := I1.unpnx
    refine trk_next (B := B) (env := envOfC qual scope s.heap.objs.size f cd) (fr := outer) I.ok.frames rfl fl fun h₄ held₄ sm₄ => ?_
    refine trk_mark (s := { s₁ with heap := h₄ }) none held₄ fun h₅ fl₅ sm₅ => ?_
    have J5 : Inv (cxOf (CXe P w) P w K mg base N qual scope f cd A outer s H E) pins σ' H' { s₁ with heap := h₅ } := F.land J1 hl fl inB trB fl₅.st (sm₄.trans sm₅)
    obtain rfl := hC cls H' hE
    obtain ⟨tl, N', nm', q', bs', hdct', sn', sub', ab', col', dd', j0, j1, j2, j3, j5, mN, hDb, _, _, T⟩ := OD.obj
    obtain ⟨ob, hob, hobc⟩ := fl₅.there
    refine wpAny_handleBy_cons (codeAny_handlers_test (ld_glob (X := (cxOf (CXe P w) P w K mg base N qual scope f cd A outer s H E).hnd pins a) (J5.hnd a) hgx OD.bound ?_ hdx)) (by intro q; cases q)
    refine matches_same (J5.bk _ _ hDb) hob hobc (T.hasType hDB) ?_
    refine codeAny_handlers_suite (trk_mark (s := { s₁ with heap := h₅ }) none fl₅ fun h₆ fl₆ sm₆ => ?_)
    have J6 : Inv (cxOf (CXe P w) P w K mg base N qual scope f cd A outer s H E) pins σ' H' { s₁ with heap := h₆ } := F.land J1 hl fl inB trB fl₆.st ((sm₄.trans sm₅).trans sm₆)
    obtain ⟨ob6, vs6, _, _, _, hob6, hobc6, hd6, hg6, _⟩ := fl₆.ob
    have new1 : ∀ b o, s1.heap.get? b = some o → b ≠ a := fun b o e z => F.new o (by rw [← z]; exact e)
    have J7 := J6.track (a := a) (o := isExcN a (.ref D)) F.free (fun u z => by
        obtain ⟨o', e1⟩ := J1.base.there a u z (by simp [cxOf])
        exact F.new o' e1) (by
        obtain ⟨m, ⟨o, _, _, ho, _⟩, _⟩ := J1.loc
        exact (new1 _ o ho).symm) (fun y c e => by
        obtain ⟨v, o, ho, _⟩ := J1.cell y c e
        exact new1 _ o ho) (fun p hp => new1 _ _ (J1.pin p hp).1) (isExcN_ok hob6 hobc6 hd6 hg6)
    have hh := hhand _ _ a σ' hE F.free (J1.len.trans I.len.symm)
    refine wpAny_execs_cons ?_
    rw [arm_exec_Raise]
    refine wpAny_bind (wpAny_standAt ?_)
    obtain ⟨tl2, N2, nm2, q2, bs2, hdct2, sn2, sub2, ab2, col2, dd2, l0, l1, l2, l3, l5, mN2, hCb2, _, _, T2⟩ := OC.obj
    refine raise_chained (C := C) (nm := nm2) (qn := q2) (N := N2) (bs := bs2) (ms := tl2) (hb := hdct2) (sn := sn2) (sb := sub2) (ab := ab2) (co := col2) (dd := dd2) (k0 := l0) (k1 := l1) (k2 := l2) (k3 := l3) (k5 := l5) (ni := newV) (a := a) (T2.hasType rfl) rfl (fun R' v k => ?_) ?_
    · exact wpAny_bind (wpAny_pure (wpAny_bind (wpAny_standAt (wpAny_pure k))))
    · refine wpAny_bind (wpAny_mono (made_in (X := (cxOf (CXe P w) P w K mg base N qual scope f cd A outer s H E).hnd pins a) (R := fun H2 => E (.ref C) none H2 ∧ E (.ref C) (some 0) H2 ∧ H2 a = some (isExcN a (.ref D))) (Q := fun v y => wpAny (model P w) ((cxOf (CXe P w) P w K mg base N qual scope f cd A outer s H E).A.mark (some (Value.ref a))) (do standAt rpos; pure v) _ _ y) OC hgy (ha pins a) (J7.hnd a) hh (fun s2 H2 h' e us I2 r2 hm => ?_) h1 h2 hdy) (fun _ _ z => z) fun _ _ z => z.elim)
      obtain ⟨t, ht, _, _⟩ := hm.there
      obtain ⟨⟨ob7, vs7, q7, _, d7, g7⟩, _⟩ := I2.hok a _ r2.2.2
      have J8 := Inv.unhnd I.ok I2
      exact wpAny_bind (wpAny_standAt (wpAny_pure ⟨e, t, ob7, vs7, rfl, hm.keeps _ _ (J8.bk _ _ hCb2), ht, hm.keeps _ _ q7, d7, g7, (fun z => by rw [z, hm.new] at q7; cases q7), fun h3 he3 sb => xe_suite J8 hm he3 sb rfl I2.bare r2.1 r2.2.1⟩))
end
end L2
namespace L2
open PySem PySem.Spec PyProof.Rows
def rCountB : V → List V → Hp → VK → Prop := fun x vs H Q => ∃ (l : Addr) (bs : List Bool) (k : Bool), x = .ref l ∧ vs = [.bl k] ∧ H l = some (.lst (bs.map V.bl)) ∧ Q (.int ((bs.countP (· == k) : Nat) : Int)) H
theorem bools_of : ∀ {bs : List Bool} {its : List Value}, Vals (bs.map V.bl) its → its = bs.map Value.bool
  | [], _, .nil => rfl
  | b :: bs, _, .cons r rs => by
    cases r
    rw [bools_of rs]
    rfl
theorem mt_countB {X : Cx} : MtM X "list.count" rCountB := by
  intro pins s σ H x vs v us Q I rx rv h
  obtain ⟨l, bs, k, rfl, rfl, hH, q⟩ := h
  cases rx
  obtain ⟨u, rfl, ru⟩ := rv.one
  cases ru
  obtain ⟨z, its, n, r, hl, e⟩ := I.lstM hH
  obtain rfl := bools_of r
  refine call_meets F.slot_list_count ⟨_, e, rfl⟩ F.entry_list_count (F.args_list_count_2 _ _) (SeqAt.list_countAt l (bs.map Value.bool).toArray n _ _ (.bool k) (isBoolOf k)) ⟨e, fun y hy => ?_, ?_⟩
  · obtain ⟨b, _, rfl⟩ := List.mem_map.mp (by simpa using hy : y ∈ bs.map Value.bool)
    exact SeqAt.EqAt.bool_bool b k
  · have ec : List.countP (isBoolOf k) (bs.map Value.bool) = bs.countP (· == k) := by
      rw [List.countP_map]
      rfl
    refine ⟨.int _, H, I.tok _, ⟨_, rfl⟩, ?_⟩
    rw [ec]
    exact q
end L2
set_option maxHeartbeats 4000000
open PySem L2 PyProof.Rows
local macro_rules | `(tactic| walk_at "wp") => `(tactic| simp only [tSeq, tIfS, tTest, tOp, tUn, tVar, tC, tCB, tCons, tNil, tRet, tRetN, tNext, tDrop, tAsg, tAug, ipI, gName, gTup, gCons, gNil, gSub, tTup, tLst, tSl, tNoPart, tPart, tChain, tCall, tBM, tBM0, tPar, tB, tAnd, tOr, tNot, tAndV, tOrV, tNotV, tIf, tYes, tMake, tMeth, tFld, sFld, tRevL, iEnm, iStr, rStarts, rPart, rSplit, rJoin, rSlS, rIxS, rIndexS, tAugS, rGetL, rI0, rI, rU, rIxL, rIxT, rSetL, rSlL, rAppend, rBits, tTry, hEnds, tRaise, hnd_K, pnx_K, rCat, rEq, rNe, rEqL, rEqT, rIn, scal_ii, scal_bb, scal_ss, iList, iTup, iRng1, iRng2, cV, cx_K, in_K, wish_K, E0, L2.start, List.map, List.length, List.replicate, List.cons_append, List.nil_append, List.append_nil, List.getElem?_cons_zero, List.getElem?_cons_succ, List.set_cons_zero, List.set_cons_succ, Option.some.injEq, exists_eq_left', exists_eq_left, exists_and_left, V.int.injEq, V.bl.injEq, V.ref.injEq, V.ty.injEq, List.cons.injEq, reduceCtorEq, false_and, and_false, exists_false, or_false, false_or, and_true, true_and, Nat.reduceSub, Nat.reduceAdd, Nat.reduceLT, if_true, if_false, Bool.false_eq_true])
namespace Pf
open PySem L2 PyProof.Rows
def top (i : Nat) : Stmt := PySem.Challenge.pw_limbtables_k70_numbers_written_and_read.main.body.getD i (.Pass ⟨0, 0, 0, 0⟩)
abbrev s_is_whole : Stmt := top 18
abbrev s_common_divisor : Stmt := top 19
abbrev s_show_whole : Stmt := top 26
abbrev s_show_number : Stmt := top 27
abbrev s_is_written : Stmt := top 28
abbrev s_read_whole : Stmt := top 29
abbrev s_read_top : Stmt := top 30
abbrev s_read_number : Stmt := top 31
abbrev s_is_prime : Stmt := top 34
abbrev s_tells_ground : Stmt := top 35
abbrev s_fraction : Stmt := top 36
abbrev s_inverse : Stmt := top 37
abbrev s_rest_of : Stmt := top 38
abbrev s_Ground_init : Stmt := inClass (top 39) 0
abbrev s_Ground_number : Stmt := inClass (top 39) 1
abbrev s_law_cell : Stmt := top 41
abbrev s_law_bag : Stmt := top 42
abbrev s_law_draw : Stmt := top 43
abbrev s_law_great : Stmt := top 44
abbrev s_law_signed : Stmt := top 45
abbrev s_law_gcd : Stmt := top 46
abbrev s_law_lowest : Stmt := top 47
abbrev s_law_whole : Stmt := top 48
abbrev s_law_prime : Stmt := top 49
abbrev s_law_same : Stmt := top 50
abbrev s_law_shown : Stmt := top 51
abbrev s_law_read_whole : Stmt := top 52
abbrev s_law_read_number : Stmt := top 53
abbrev s_law_alone : Stmt := top 54
abbrev s_law_sign_spoilt : Stmt := top 55
abbrev s_law_number : Stmt := top 56
abbrev s_law_asked : Stmt := top 57
abbrev s_law_odd : Stmt := top 58
abbrev s_law_other_text : Stmt := top 59
abbrev s_law_right : Stmt := top 60
abbrev s_law : Stmt := top 61
theorem sc_is_whole : FnScope ["thing"] ["thing"] (defScope s_is_whole) := ⟨rfl, rfl, rfl, by decide +kernel, rfl, by decide +kernel, by decide +kernel⟩
theorem sc_common_divisor : FnScope ["one", "other"] ["one", "other"] (defScope s_common_divisor) := ⟨rfl, rfl, rfl, by decide +kernel, rfl, by decide +kernel, by decide +kernel⟩
theorem sc_show_whole : FnScope ["number", "ends", "end"] ["number"] (defScope s_show_whole) := ⟨rfl, rfl, rfl, by decide +kernel, rfl, by decide +kernel, by decide +kernel⟩
theorem sc_show_number : FnScope ["ground", "number", "top", "bottom"] ["ground", "number"] (defScope s_show_number) := ⟨rfl, rfl, rfl, by decide +kernel, rfl, by decide +kernel, by decide +kernel⟩
theorem sc_is_written : FnScope ["most", "text"] ["most", "text"] (defScope s_is_written) := ⟨rfl, rfl, rfl, by decide +kernel, rfl, by decide +kernel, by decide +kernel⟩
theorem sc_read_whole : FnScope ["text"] ["text"] (defScope s_read_whole) := ⟨rfl, rfl, rfl, by decide +kernel, rfl, by decide +kernel, by decide +kernel⟩
theorem sc_read_top : FnScope ["text", "number"] ["text"] (defScope s_read_top) := ⟨rfl, rfl, rfl, by decide +kernel, rfl, by decide +kernel, by decide +kernel⟩
theorem sc_read_number : FnScope ["ground", "text", "top", "slash", "bottom", "above", "below"] ["ground", "text"] (defScope s_read_number) := ⟨rfl, rfl, rfl, by decide +kernel, rfl, by decide +kernel, by decide +kernel⟩
theorem sc_is_prime : FnScope ["number"] ["number"] (defScope s_is_prime) := ⟨rfl, rfl, rfl, by decide +kernel, rfl, by decide +kernel, by decide +kernel⟩
theorem sc_tells_ground : FnScope ["thing"] ["thing"] (defScope s_tells_ground) := ⟨rfl, rfl, rfl, by decide +kernel, rfl, by decide +kernel, by decide +kernel⟩
theorem sc_fraction : FnScope ["top", "bottom", "divisor"] ["top", "bottom"] (defScope s_fraction) := ⟨rfl, rfl, rfl, by decide +kernel, rfl, by decide +kernel, by decide +kernel⟩
theorem sc_inverse : FnScope ["rest", "prime", "low", "high", "low_times", "high_times", "many"] ["rest", "prime"] (defScope s_inverse) := ⟨rfl, rfl, rfl, by decide +kernel, rfl, by decide +kernel, by decide +kernel⟩
theorem sc_rest_of : FnScope ["top", "bottom", "prime", "below"] ["top", "bottom", "prime"] (defScope s_rest_of) := ⟨rfl, rfl, rfl, by decide +kernel, rfl, by decide +kernel, by decide +kernel⟩
theorem sc_Ground_init : FnScope ["self", "prime"] ["self", "prime"] (defScope s_Ground_init) := ⟨rfl, rfl, rfl, by decide +kernel, rfl, by decide +kernel, by decide +kernel⟩
theorem sc_Ground_number : FnScope ["self", "top", "bottom"] ["self", "top", "bottom"] (defScope s_Ground_number) := ⟨rfl, rfl, rfl, by decide +kernel, rfl, by decide +kernel, by decide +kernel⟩
theorem sc_law_cell : FnScope ["_law_script", "_law_k"] ["_law_script", "_law_k"] (defScope s_law_cell) := ⟨rfl, rfl, rfl, by decide +kernel, rfl, by decide +kernel, by decide +kernel⟩
theorem sc_law_bag : FnScope ["_law_cell_here"] ["_law_cell_here"] (defScope s_law_bag) := ⟨rfl, rfl, rfl, by decide +kernel, rfl, by decide +kernel, by decide +kernel⟩
theorem sc_law_draw : FnScope ["_law_bag_here", "_law_many", "_law_found"] ["_law_bag_here", "_law_many"] (defScope s_law_draw) := ⟨rfl, rfl, rfl, by decide +kernel, rfl, by decide +kernel, by decide +kernel⟩
theorem sc_law_great : FnScope ["_law_bag_here", "_law_number_here", "_law_k"] ["_law_bag_here"] (defScope s_law_great) := ⟨rfl, rfl, rfl, by decide +kernel, rfl, by decide +kernel, by decide +kernel⟩
theorem sc_law_signed : FnScope ["_law_bag_here"] ["_law_bag_here"] (defScope s_law_signed) := ⟨rfl, rfl, rfl, by decide +kernel, rfl, by decide +kernel, by decide +kernel⟩
theorem sc_law_gcd : FnScope ["_law_one", "_law_two", "_law_rest"] ["_law_one", "_law_two"] (defScope s_law_gcd) := ⟨rfl, rfl, rfl, by decide +kernel, rfl, by decide +kernel, by decide +kernel⟩
theorem sc_law_lowest : FnScope ["_law_top", "_law_bottom", "_law_both"] ["_law_top", "_law_bottom"] (defScope s_law_lowest) := ⟨rfl, rfl, rfl, by decide +kernel, rfl, by decide +kernel, by decide +kernel⟩
theorem sc_law_whole : FnScope ["_law_found"] ["_law_found"] (defScope s_law_whole) := ⟨rfl, rfl, rfl, by decide +kernel, rfl, by decide +kernel, by decide +kernel⟩
theorem sc_law_prime : FnScope ["_law_bag_here", "_law_way"] ["_law_bag_here"] (defScope s_law_prime) := ⟨rfl, rfl, rfl, by decide +kernel, rfl, by decide +kernel, by decide +kernel⟩
theorem sc_law_same : FnScope ["_law_p", "_law_found", "_law_due"] ["_law_p", "_law_found", "_law_due"] (defScope s_law_same) := ⟨rfl, rfl, rfl, by decide +kernel, rfl, by decide +kernel, by decide +kernel⟩
theorem sc_law_shown : FnScope ["_law_p", "_law_number_here"] ["_law_p", "_law_number_here"] (defScope s_law_shown) := ⟨rfl, rfl, rfl, by decide +kernel, rfl, by decide +kernel, by decide +kernel⟩
theorem sc_law_read_whole : FnScope ["_law_text", "_law_number_here", "_law_sign"] ["_law_text"] (defScope s_law_read_whole) := ⟨rfl, rfl, rfl, by decide +kernel, rfl, by decide +kernel, by decide +kernel⟩
theorem sc_law_read_number : FnScope ["_law_p", "_law_text", "_law_parts", "_law_below", "_law_minus", "_law_above"] ["_law_p", "_law_text"] (defScope s_law_read_number) := ⟨rfl, rfl, rfl, by decide +kernel, rfl, by decide +kernel, by decide +kernel⟩
theorem sc_law_alone : FnScope ["_law_e", "_law_kind", "_law_hits", "_law_others"] ["_law_e", "_law_kind"] (defScope s_law_alone) := ⟨rfl, rfl, rfl, by decide +kernel, rfl, by decide +kernel, by decide +kernel⟩
theorem sc_law_sign_spoilt : FnScope ["_law_text", "_law_bag_here", "_law_signs", "_law_at", "_law_way", "_law_sign"] ["_law_text", "_law_bag_here"] (defScope s_law_sign_spoilt) := ⟨rfl, rfl, rfl, by decide +kernel, rfl, by decide +kernel, by decide +kernel⟩
theorem sc_law_number : FnScope ["_law_bag_here", "_law_p"] ["_law_bag_here", "_law_p"] (defScope s_law_number) := ⟨rfl, rfl, rfl, by decide +kernel, rfl, by decide +kernel, by decide +kernel⟩
theorem sc_law_asked : FnScope ["_law_ground", "_law_text", "_law_e"] ["_law_ground", "_law_text"] (defScope s_law_asked) := ⟨rfl, rfl, rfl, by decide +kernel, rfl, by decide +kernel, by decide +kernel⟩
theorem sc_law_odd : FnScope ["_law_bag_here", "_law_some"] ["_law_bag_here"] (defScope s_law_odd) := ⟨rfl, rfl, rfl, by decide +kernel, rfl, by decide +kernel, by decide +kernel⟩
theorem sc_law_other_text : FnScope ["_law_bag_here", "_law_p", "_law_number_here", "_law_often", "_law_way"] ["_law_bag_here", "_law_p", "_law_number_here"] (defScope s_law_other_text) := ⟨rfl, rfl, rfl, by decide +kernel, rfl, by decide +kernel, by decide +kernel⟩
theorem sc_law_right : FnScope ["_law_ground", "_law_p", "_law_text", "_law_due", "_law_found"] ["_law_ground", "_law_p", "_law_text"] (defScope s_law_right) := ⟨rfl, rfl, rfl, by decide +kernel, rfl, by decide +kernel, by decide +kernel⟩
theorem sc_law : FnScope ["_law_script", "_law_cell_here", "_law_bag_here", "_law_p", "_law_ground", "_law_number_here", "_law_text", "_law_texts", "_law_one"] ["_law_script"] (defScope s_law) := ⟨rfl, rfl, rfl, by decide +kernel, rfl, by decide +kernel, by decide +kernel⟩
structure Txt (K : PySem.W.Frag) (mg : Str → Option Value) (C : Addr) : Prop where
  cl_Ground : Cls K C
  nP : NoAttr K C "prime"
  n_abs : mg "abs" = none
  n_all : mg "all" = none
  n_isinstance : mg "isinstance" = none
  n_int : mg "int" = none
  n_bool : mg "bool" = none
  n_tuple : mg "tuple" = none
  n_range : mg "range" = none
  n_len : mg "len" = none
  n_ValueError : mg "ValueError" = none
  n_str : mg "str" = none
  n_any : mg "any" = none
  n_list : mg "list" = none
  n_max : mg "max" = none
  g_LARGEST_PRIME : ∃ t, mg "LARGEST_PRIME" = some (.int 97 t)
  g_LONG : ∃ t, mg "LONG" = some (.int 4000 t)
  g_FIGURES : ∃ t, mg "FIGURES" = some (.str "0123456789" t)
  g_MOST_FIGURES : ∃ t, mg "MOST_FIGURES" = some (.int 30 t)
def BagV (a b : Int) : HO := .lst [.int a, .int b]
def Bag (H : Hp) (l : Addr) : Prop := ∃ a b : Int, H l = some (BagV a b) ∧ 0 ≤ b ∧ b < 2147483647
def spCell (K : PySem.W.Frag) : Sp := fun vs H Q _ => ∃ (a : Addr) (ns : List Int) (k : Int), vs = [.ref a, .int k] ∧ SqL K H a (ns.map V.int) ∧ ns.length ≤ 63 ∧ 0 ≤ k ∧ ∀ c, Q (.int c) H
def spBag : Sp := fun vs H Q _ => ∃ c : Int, vs = [.int c] ∧ ∀ (l : Addr) (a b : Int), H l = none → 0 ≤ b → b < 2147483647 → Q (.ref l) (upd H l (BagV a b))
def spDraw : Sp := fun vs H Q _ => ∃ (l : Addr) (a b n : Int), vs = [.ref l, .int n] ∧ H l = some (BagV a b) ∧ 0 ≤ b ∧ b < 2147483647 ∧ 0 < n ∧ n < 1000000000 ∧
  ∀ (r a' b' : Int), 0 ≤ r → r < n → 0 ≤ b' → b' < 2147483647 → Q (.int r) (upd H l (BagV a' b'))
section
variable {P : Program} {w : World} {K : PySem.W.Frag} {mg : Str → Option Value} {base : Heap} {C : Addr}
theorem ok_cell {f : Addr} {fd : FuncData} (F : Fun K "_law_cell" "_law_cell" s_law_cell f fd) (T : Txt K mg C) : FnOk P w K mg base CX0 1 f fd ["_law_script", "_law_k"] (spCell K) := by
  have nd := sc_law_cell.nd
  refine F.ok sc_law_cell (fun vs H Q E h => ?_) (fun cdv A outer s H vs Q E hr h => ?_)
  · obtain ⟨a, ns, k, rfl, _⟩ := h
    rfl
  · obtain ⟨a, ns, k, rfl, hS, hl, h0, q⟩ := h
    refine ⟨_, (@pss_cons _ _ _ _ _ (@ps_if _ _ _ _ _ _ _ _ (pt_cmpR op_lt (pv 1) (pe_cB call_len_seq rfl T.n_len PySem.boot_len (@pa_c _ _ _ _ _ (pv 0) pa_nil (by rfl))) (nomark _)) (@pss_one _ _ _ (@ps_ret _ _ _ _ (@pe_ix _ _ _ _ _ _ _ ix_list (pv 0) (pv 1) (fun _ _ => rfl)))) pss_nil) (@pss_one _ _ _ (@ps_ret _ _ _ _ pe_int))), ?_⟩
    walk_at "wp"
    refine ⟨_, .inl hS, ite2 (fun hc => ?_) (fun _ => q 0)⟩
    have hc := of_decide_eq_true hc
    rw [List.length_map] at hc
    refine ⟨_, hS, V.int (ns[k.toNat]'(by omega)), atI_at h0 ?_, q _⟩
    rw [List.getElem?_map, List.getElem?_eq_getElem (by omega)]
    rfl
theorem cpow (k : Int) (h0 : 0 ≤ k) (h1 : k ≤ 1000) : CPow 10 k := ⟨h0, by omega, by decide⟩
theorem mod_lo (c n : Int) (h : 0 < n) : 0 ≤ c % n := Int.emod_nonneg _ (by omega)
theorem mod_hi (c n : Int) (h : 0 < n) : c % n < n := Int.emod_lt_of_pos _ h
theorem ok_bag {f : Addr} {fd : FuncData} (F : Fun K "_law_bag" "_law_bag" s_law_bag f fd) (T : Txt K mg C) : FnOk P w K mg base CX0 1 f fd ["_law_cell_here"] spBag := by
  have nd := sc_law_bag.nd
  refine F.ok sc_law_bag (fun vs H Q E h => ?_) (fun cdv A outer s H vs Q E hr h => ?_)
  · obtain ⟨c, rfl, _⟩ := h
    rfl
  · obtain ⟨c, rfl, q⟩ := h
    refine ⟨_, (@pss_cons _ _ _ _ _ (@ps_if _ _ _ _ _ _ _ _ (pt_cmpR op_ge (pv 0) (@pe_op _ _ _ _ _ _ _ _ op_pow pe_int pe_int) (nomark _)) (@pss_one _ _ _ (@ps_ret _ _ _ _ (@pe_lst _ _ _ _ (@pa_c _ _ _ _ _ (pv 0) (@pa_c _ _ _ _ _ (@pe_op _ _ _ _ _ _ _ _ op_mod (pv 0) pe_int) pa_nil (by rfl)) (by rfl))))) pss_nil) (@pss_one _ _ _ (@ps_ret _ _ _ _ (@pe_lst _ _ _ _ (@pa_c _ _ _ _ _ pe_int (@pa_c _ _ _ _ _ (@pe_op _ _ _ _ _ _ _ _ op_mod (@pe_op _ _ _ _ _ _ _ _ op_add (@pe_op _ _ _ _ _ _ _ _ op_mul (@pe_op _ _ _ _ _ _ _ _ op_mod (pv 0) pe_int) pe_int) pe_int) pe_int) pa_nil (by rfl)) (by rfl)))))), ?_⟩
    walk_at "wp"
    refine ⟨cpow _ (by decide) (by decide), ite2 (fun _ => ?_) (fun _ => ?_)⟩
    · exact ⟨by decide, by decide, fun p hp => q p _ _ hp (mod_lo _ _ (by decide)) (mod_hi _ _ (by decide))⟩
    · exact ⟨by decide, .inr ⟨by decide, by decide⟩, by decide, by decide, fun p hp => q p _ _ hp (mod_lo _ _ (by decide)) (mod_hi _ _ (by decide))⟩
theorem ok_draw {f : Addr} {fd : FuncData} (F : Fun K "_law_draw" "_law_draw" s_law_draw f fd) (T : Txt K mg C) : FnOk P w K mg base CX0 1 f fd ["_law_bag_here", "_law_many"] spDraw := by
  have nd := sc_law_draw.nd
  refine F.ok sc_law_draw (fun vs H Q E h => ?_) (fun cdv A outer s H vs Q E hr h => ?_)
  · obtain ⟨l, a, b, n, rfl, _⟩ := h
    rfl
  · obtain ⟨l, a, b, n, rfl, hl, b0, b1, n0, n1, q⟩ := h
    refine ⟨_, (@pss_cons _ _ _ _ _ (@ps_if _ _ _ _ _ _ _ _ (pt_cmpR op_gt (@pe_ix _ _ _ _ _ _ _ ix_list (pv 0) pe_int (fun _ _ => rfl)) pe_int (nomark _)) (@pss_cons _ _ _ _ _ (ps_set (i := 2) nd rfl (Or.inl rfl) (@pe_op _ _ _ _ _ _ _ _ op_mod (@pe_ix _ _ _ _ _ _ _ ix_list (pv 0) pe_int (fun _ _ => rfl)) (pv 1))) (@pss_cons _ _ _ _ _ (ps_asg (@pe_op _ _ _ _ _ _ _ _ op_fdiv (@pe_ix _ _ _ _ _ _ _ ix_list (pv 0) pe_int (fun _ _ => rfl)) (pv 1)) (pg_sub (pv 0) pe_int set_list)) (@pss_one _ _ _ (@ps_ret _ _ _ _ (pv 2))))) pss_nil) (@pss_cons _ _ _ _ _ (ps_asg (@pe_op _ _ _ _ _ _ _ _ op_mod (@pe_op _ _ _ _ _ _ _ _ op_add (@pe_op _ _ _ _ _ _ _ _ op_mul (@pe_ix _ _ _ _ _ _ _ ix_list (pv 0) pe_int (fun _ _ => rfl)) pe_int) pe_int) pe_int) (pg_sub (pv 0) pe_int set_list)) (@pss_one _ _ _ (@ps_ret _ _ _ _ (@pe_op _ _ _ _ _ _ _ _ op_mod (@pe_op _ _ _ _ _ _ _ _ op_fdiv (@pe_op _ _ _ _ _ _ _ _ op_mod (@pe_op _ _ _ _ _ _ _ _ op_mul (@pe_ix _ _ _ _ _ _ _ ix_list (pv 0) pe_int (fun _ _ => rfl)) (@pe_op _ _ _ _ _ _ _ _ op_add (@pe_op _ _ _ _ _ _ _ _ op_fdiv (@pe_ix _ _ _ _ _ _ _ ix_list (pv 0) pe_int (fun _ _ => rfl)) pe_int) pe_int)) pe_int) pe_int) (pv 1)))))), ?_⟩
    walk_at "wp"
    refine ⟨_, SqL.of hl, _, rfl, _, rfl, ite2 (fun hc => ?_) (fun hc => ?_)⟩
    · refine ⟨_, SqL.of hl, _, rfl, _, rfl, n0, _, SqL.of hl, _, rfl, _, rfl, ⟨n0, by omega⟩, _, hl, _, rfl, ?_⟩
      exact q _ _ _ (mod_lo _ _ n0) (mod_hi _ _ n0) b0 b1
    · refine ⟨_, SqL.of hl, _, rfl, _, rfl, .inr ⟨by decide, by decide⟩, by decide, _, hl, _, rfl, _, SqL.of upd_same, _, rfl, _, SqL.of upd_same, _, rfl, _, rfl, ⟨by decide, by decide⟩, _, rfl, ?_⟩
      have h1 := mod_lo (b * 48271 + 4099) 2147483647 (by decide)
      have h2 := mod_hi (b * 48271 + 4099) 2147483647 (by decide)
      refine ⟨.inl ⟨by omega, by omega⟩, by decide, ⟨by decide, by decide⟩, n0, ?_⟩
      exact q _ _ _ (mod_lo _ _ n0) (mod_hi _ _ n0) h1 h2
theorem Bag.ne {H : Hp} {l p : Addr} (h : Bag H l) (hp : H p = none) : p ≠ l := by
  obtain ⟨a, b, e, _⟩ := h
  exact (ne_of_none e hp).symm
theorem Bag.new {H : Hp} {l p : Addr} {o : HO} (h : Bag H l) (hp : p ≠ l) : Bag (upd H p o) l := by
  obtain ⟨a, b, e, h1, h2⟩ := h
  exact ⟨a, b, by rw [upd_ne hp.symm]; exact e, h1, h2⟩
theorem Bag.set {H : Hp} {l : Addr} {a b : Int} (h1 : 0 ≤ b) (h2 : b < 2147483647) : Bag (upd H l (BagV a b)) l := ⟨a, b, upd_same, h1, h2⟩
theorem Bag.same {H H' : Hp} {l : Addr} (b : Bag H l) (s : Same H H') : Bag H' l := by
  obtain ⟨x, y, e, h1, h2⟩ := b
  exact ⟨x, y, s _ _ e, h1, h2⟩
theorem Bag.draw {H : Hp} {l : Addr} {n : Int} {Q : VK} {E : XK} (b : Bag H l) (h0 : 0 < n) (h1 : n < 1000000000) (q : ∀ (r : Int) (H' : Hp), 0 ≤ r → r < n → Ext l H H' → Bag H' l → Q (.int r) H') : spDraw [.ref l, .int n] H Q E := by
  obtain ⟨x, y, e, y0, y1⟩ := b
  exact ⟨l, x, y, n, rfl, e, y0, y1, h0, h1, fun r a' b' r0 r1 c0 c1 => q r _ r0 r1 Ext.set (Bag.set c0 c1)⟩
end
end Pf
set_option maxHeartbeats 1000000
namespace Pf
open PySem L2 PyProof.Rows
structure Cs where
  LimbError : Addr
  NoGround : Addr
  NoNumber : Addr
  NoTable : Addr
  NoDrawing : Addr
  NoKind : Addr
  NoStanding : Addr
  NoChange : Addr
  NoMirror : Addr
  NoRoot : Addr
  NoText : Addr
  NoRow : Addr
  NoName : Addr
structure Xt (K : PySem.W.Frag) (mg : Str → Option Value) (base : Heap) (cc : Cs) : Prop where
  g_LimbError : mg "LimbError" = some (.ref cc.LimbError)
  g_NoGround : mg "NoGround" = some (.ref cc.NoGround)
  g_NoNumber : mg "NoNumber" = some (.ref cc.NoNumber)
  g_NoTable : mg "NoTable" = some (.ref cc.NoTable)
  g_NoDrawing : mg "NoDrawing" = some (.ref cc.NoDrawing)
  g_NoKind : mg "NoKind" = some (.ref cc.NoKind)
  g_NoStanding : mg "NoStanding" = some (.ref cc.NoStanding)
  g_NoChange : mg "NoChange" = some (.ref cc.NoChange)
  g_NoMirror : mg "NoMirror" = some (.ref cc.NoMirror)
  g_NoRoot : mg "NoRoot" = some (.ref cc.NoRoot)
  g_NoText : mg "NoText" = some (.ref cc.NoText)
  g_NoRow : mg "NoRow" = some (.ref cc.NoRow)
  g_NoName : mg "NoName" = some (.ref cc.NoName)
  o_LimbError : OwnCls "LimbError" cc.LimbError bmV newV mg base
  o_NoNumber : OwnCls "NoNumber" cc.NoNumber bmV newV mg base
  o_NoText : OwnCls "NoText" cc.NoText bmV newV mg base
  u_NoText : ∃ C' nm q N bs bm hdct sn sub ab col dd k0 k1 k2 k3 k5 new, Value.ref cc.NoText = .ref C' ∧ base.get? C' = some (excClassObj nm q C' N bs bm hdct sn sub ab col dd k0 k1 k2 k3 k5 new) ∧ bm.contains (.ref cc.LimbError) = true
  z : ExcCls K cc.NoText
  i : (PySem.W.clsIn K cc.NoText).isSome = true
  t1 : PySem.W.kitAny K (.ref cc.NoText) [.ref cc.NoChange, .ref cc.NoGround, .ref cc.NoKind, .ref cc.NoMirror, .ref cc.NoName, .ref cc.NoRoot, .ref cc.NoRow] = some false
  q_NoDrawing : PySem.W.kitOne K (.ref cc.NoText) (.ref cc.NoDrawing) = some false
  q_NoNumber : PySem.W.kitOne K (.ref cc.NoText) (.ref cc.NoNumber) = some false
  q_NoTable : PySem.W.kitOne K (.ref cc.NoText) (.ref cc.NoTable) = some false
  q_NoStanding : PySem.W.kitOne K (.ref cc.NoText) (.ref cc.NoStanding) = some false
  v : PySem.W.kitOne K (.ref cc.NoText) (.type "ValueError") = some true
section
variable {P : Program} {w : World} {K : PySem.W.Frag} {mg : Str → Option Value} {base : Heap} {C : Addr} {cc : Cs}
theorem iteP {c A B : Prop} [Decidable c] (hc : c) (h : A) : if c then A else B := by rw [if_pos hc]; exact h
theorem iteN {c A B : Prop} [Decidable c] (hc : ¬ c) (h : B) : if c then A else B := by rw [if_neg hc]; exact h
theorem all_true (n : Nat) : ((List.range n).map fun _ => true).all id = true := by
  rw [List.all_eq_true]
  intro b hb
  obtain ⟨_, _, rfl⟩ := List.mem_map.mp hb
  rfl
def spWhole : Sp := fun vs H Q _ => ∃ i : Int, vs = [.int i] ∧ Q (.bl true) H
theorem ok_whole {f : Addr} {fd : FuncData} (F : Fun K "is_whole" "is_whole" s_is_whole f fd) (T : Txt K mg C) : FnOk P w K mg base CX0 1 f fd ["thing"] spWhole := by
  have nd := sc_is_whole.nd
  refine F.ok sc_is_whole (fun vs H Q E h => ?_) (fun cdv A outer s H vs Q E hr h => ?_)
  · obtain ⟨i, rfl, _⟩ := h
    rfl
  · obtain ⟨i, rfl, q⟩ := h
    refine ⟨_, (@pss_one _ _ _ (@ps_ret _ _ _ _ (pe_and (pe_cB call_isinst rfl T.n_isinstance boot_isinstance (@pa_c _ _ _ _ _ (pv 0) (@pa_c _ _ _ _ _ (pe_ty rfl T.n_int boot_int) pa_nil (by rfl)) (by rfl))) (pe_one (pe_not (pe_cB call_isinst rfl T.n_isinstance boot_isinstance (@pa_c _ _ _ _ _ (pv 0) (@pa_c _ _ _ _ _ (pe_ty rfl T.n_bool boot_bool) pa_nil (by rfl)) (by rfl)))))))), ?_⟩
    walk_at "wp"
    exact ⟨_, _, ⟨rfl, rfl⟩, _, rfl, _, .int i, _, k_int_int K, iteT ⟨_, _, ⟨rfl, rfl⟩, _, rfl, _, .int i, _, k_int_bool K, q⟩⟩
theorem room8 {k : Nat} {A : Around} (hr : Room k A) : A.units + 8 < cLine := by have := hr.units; omega
theorem comp_bl_r {lo : Int} {n : Nat} {D : Addr} {fr : List (Str × Nat)} {σ : L2.St} {te : TE} {H1 : Hp} {Q : VK} (fb : Nat → Bool) (hD : H1 D = none) (hn : n ≤ 1000)
    (h : ∀ (i : Nat) H (Q : VK), i < n → Same H1 H → (∀ H', Same H H' → Q (.bl (fb i)) H') → te (some (.int (lo + (i : Nat))) :: capOf fr σ) H Q)
    (hQ : ∀ H', Same H1 H' → H' D = some (.lst (((List.range n).map fb).map V.bl)) → Q (.ref D) H') : tBlock (gName 0) tYes te (Itr lo n) D (capS 1 fr σ) H1 Q := by
  refine comp_itr (fun i vs H => Same H1 H ∧ H D = some (.lst vs) ∧ vs = ((List.range i).map fb).map V.bl) ⟨Same.new hD, upd_same, rfl⟩ ?_ (fun vs H ⟨s, e, hv⟩ => hQ H s (by rw [e, hv]))
  rintro i x vs σ' H hi rfl sh ⟨s, e, rfl⟩
  obtain ⟨z, rfl⟩ := sh.one
  simp only [tTurn, gName, tYes, List.set_cons_zero, if_true]
  refine h i H _ hi s fun H' s' => ?_
  exact leaf (ws := ((List.range (i + 1)).map fb).map V.bl) hi Sh.mk1 (s' _ _ e) (small1000 (by rw [List.length_map, List.length_map, List.length_range]; omega)) ⟨(s.trans s').upd hD, by rw [upd_same, List.range_succ, List.map_append, List.map_append]; rfl, rfl⟩
def Top (a : Int) : Prop := a.natAbs < 2 ^ 4000
theorem Top.of {a : Int} (h : a.natAbs ≤ 100000000000000000000000000000000000000000000000000000000000000000000000000000000) : Top a := Nat.lt_of_le_of_lt h (by decide +kernel)
theorem fmod_abs (x : Int) {y : Int} (h : y ≠ 0) : (x.fmod y).natAbs < y.natAbs := by
  rcases Int.lt_or_gt_of_ne h with h | h
  · have e : x.fmod y = -((-x).fmod (-y)) := by rw [Int.neg_fmod_neg, Int.neg_neg]
    have h1 := Int.fmod_nonneg_of_pos (-x) (show 0 < -y by omega)
    have h2 := Int.fmod_lt_of_pos (-x) (show 0 < -y by omega)
    omega
  · have h1 := Int.fmod_nonneg_of_pos x (show 0 < y by omega)
    have h2 := Int.fmod_lt_of_pos x (show 0 < y by omega)
    omega
theorem gcd_stepZ (a b : Int) : Int.gcd b (a.fmod b) = Int.gcd a b := by
  rw [Int.fmod_def, Int.sub_eq_add_neg, ← Int.mul_neg, Int.gcd_add_mul_left_right, Int.gcd_comm]
def spCd : Sp := fun vs H Q _ => ∃ a b : Int, vs = [.int a, .int b] ∧ Top a ∧ Q (.int (Int.gcd a b : Int)) H
theorem ok_cd {f : Addr} {fd : FuncData} (F : Fun K "common_divisor" "common_divisor" s_common_divisor f fd) (T : Txt K mg C) : FnOk P w K mg base CX0 1 f fd ["one", "other"] spCd := by
  have nd := sc_common_divisor.nd
  refine F.ok sc_common_divisor (fun vs H Q E h => ?_) (fun cdv A outer s H vs Q E hr h => ?_)
  · obtain ⟨a, b, rfl, _⟩ := h
    rfl
  · obtain ⟨a, b, rfl, ht, q⟩ := h
    refine ⟨_, (@pss_cons _ _ _ _ _ (@ps_if _ _ _ _ _ _ _ _ (pt_cmpR op_gt (pe_bm0 PySem.F.plainAttrs_int PySem.F.slot_int_bit_length PySem.F.type_int_bit_length mt_bits (pv 0)) (pe_globI rfl T.g_LONG) (nomark _)) (@pss_one _ _ _ ps_never) pss_nil) (@pss_cons _ _ _ _ _ (ps_while PassesOwn.never (pt_cmpR op_ne (pv 1) pe_int (nomark _)) (@pss_one _ _ _ (ps_par (i := 0) (j := 1) rfl nd rfl rfl (by decide) rfl rfl (@pa_c _ _ _ _ _ (pv 1) (@pa_c _ _ _ _ _ (@pe_op _ _ _ _ _ _ _ _ op_modN (pv 0) (pv 1)) pa_nil (by rfl)) (by rfl)) rfl))) (@pss_one _ _ _ (@ps_ret _ _ _ _ (pe_cB call_abs rfl T.n_abs boot_abs (@pa_c _ _ _ _ _ (pv 0) pa_nil (by rfl))))))), ?_⟩
    have hbits := bits_le ht
    walk_at "wp"
    refine ⟨rfl, iteN (by rw [decide_eq_false (by omega)]; decide) ?_⟩
    refine ⟨fun n σ H2 => ∃ x y : Int, σ = [some (.int x), some (.int y)] ∧ H2 = H ∧ n = y.natAbs ∧ Int.gcd x y = Int.gcd a b, ⟨_, a, b, rfl, rfl, rfl, rfl⟩, ?_⟩
    rintro n σ H2 ⟨x, y, rfl, rfl, rfl, hg⟩
    walk_at "wp"
    refine ite2 (fun hc => ?_) (fun hc => ?_)
    · have hy0 : ¬ y = 0 := by simpa using hc
      exact ⟨_, fun _ _ h => h, hy0, _, _, ⟨rfl, rfl⟩, (x.fmod y).natAbs, fmod_abs x hy0, y, x.fmod y, rfl, rfl, rfl, by rw [gcd_stepZ]; exact hg⟩
    · have hy0 : y = 0 := by simpa using hc
      subst hy0
      have e : (if x < 0 then -x else x) = (Int.gcd a b : Int) := by
        rw [← hg, Int.gcd_zero]
        split <;> omega
      rw [e]
      exact q
def PrimeP (p : Int) : Prop := 1 < p ∧ p ≤ 97 ∧ ∀ d : Int, 2 ≤ d → d < p → p % d ≠ 0
def spPrime : Sp := fun vs H Q _ => ∃ p : Int, vs = [.int p] ∧ PrimeP p ∧ ∀ H', Same H H' → Q (.bl true) H'
theorem ok_prime {f : Addr} {fd : FuncData} (F : Fun K "is_prime" "is_prime" s_is_prime f fd) (T : Txt K mg C) : FnOk P w K mg base CX0 1 f fd ["number"] spPrime := by
  have nd := sc_is_prime.nd
  refine F.ok sc_is_prime (fun vs H Q E h => ?_) (fun cdv A outer s H vs Q E hr h => ?_)
  · obtain ⟨p, rfl, _⟩ := h
    rfl
  · obtain ⟨p, rfl, ⟨p1, p2, p3⟩, q⟩ := h
    refine ⟨_, (@pss_one _ _ _ (@ps_ret _ _ _ _ (pe_and (pe_cmpR op_gt (pv 0) pe_int (nomark _)) (pe_one (pe_cB (call_all rfl) rfl T.n_all boot_all (@pa_c _ _ _ _ _ (pe_comp (own := ["divisor"]) (fr := [("number", 0)]) rfl (bl_of (by kernel_rfl)) (pi_r2 rfl T.n_range (@pa_c _ _ _ _ _ pe_int (@pa_c _ _ _ _ _ (pv 0) pa_nil (by rfl)) (by rfl))) (fun _ _ _ _ => ⟨(@pg_name _ _ 0 _ (show (["divisor", "number"] : List Str).Nodup by decide +kernel) rfl (Or.inl rfl) (Or.inr rfl)), pts_nil, (pe_cmpR op_ne (@pe_op _ _ _ _ _ _ _ _ op_mod (pv 1) (pv 0)) pe_int (nomark _))⟩)) pa_nil (by rfl))))))), ?_⟩
    walk_at "wp"
    refine iteP (decide_eq_true p1) ⟨_, rfl, 2, p, rfl, ⟨by decide, by decide, by omega, by omega⟩, fun D hD => comp_bl_r (fun _ => true) hD (by omega) (fun i H' Q' hi s' q' => ?_) fun H' s' e' => ⟨D, rfl, _, SqL.of e', ?_⟩⟩
    · have h0 : (0 : Int) < 2 + (i : Int) := by omega
      have hne := p3 (2 + (i : Int)) (by omega) (by omega)
      refine ⟨_, rfl, _, rfl, _, _, rfl, rfl, h0, rfl, ?_⟩
      have : (!decide (V.int (p % (2 + (i : Int))) = V.int 0)) = true := by simp only [V.int.injEq, decide_eq_false hne]; rfl
      rw [this]
      exact q' H' (Same.refl _)
    · rw [all_true]
      exact q H' s'
def GroundP (p : Int) : Prop := p = 0 ∨ PrimeP p
def spTells : Sp := fun vs H Q _ => ∃ p : Int, vs = [.int p] ∧ GroundP p ∧ ∀ H', Same H H' → Q (.bl true) H'
theorem ok_tells {f : Addr} {fd : FuncData} (F : Fun K "tells_ground" "tells_ground" s_tells_ground f fd) (T : Txt K mg C) (C_is_whole : Cal P w K mg base "is_whole" 1 spWhole) (C_is_prime : Cal P w K mg base "is_prime" 1 spPrime) : FnOk P w K mg base CX0 2 f fd ["thing"] spTells := by
  have nd := sc_tells_ground.nd
  refine F.ok sc_tells_ground (fun vs H Q E h => ?_) (fun cdv A outer s H vs Q E hr h => ?_)
  · obtain ⟨p, rfl, _⟩ := h
    rfl
  · obtain ⟨p, rfl, hp, q⟩ := h
    have p0 : 0 ≤ p := by rcases hp with rfl | ⟨h, _⟩ <;> omega
    have p97 : p ≤ 97 := by rcases hp with rfl | ⟨_, h, _⟩ <;> omega
    refine ⟨_, (@pss_cons _ _ _ _ _ (@ps_if _ _ _ _ _ _ _ _ (PW.pt (pw_or (pt_not (pt_val (pe_c C_is_whole (hr.mono (by decide)) rfl (@pa_c _ _ _ _ _ (pv 0) pa_nil (by rfl))))) (pw_or1 (pt_not (pt_chain op_le op_le pe_int (pv 0) (pe_globI rfl T.g_LARGEST_PRIME)))))) (@pss_one _ _ _ (@ps_ret _ _ _ _ pe_bl)) pss_nil) (@pss_one _ _ _ (@ps_ret _ _ _ _ (pe_or (pe_cmpR op_eq (pv 0) pe_int (nomark _)) (pe_one (pe_c C_is_prime (hr.mono (by decide)) rfl (@pa_c _ _ _ _ _ (pv 0) pa_nil (by rfl)))))))), ?_⟩
    walk_at "wp"
    refine ⟨p, rfl, true, rfl, iteF (iteP (decide_eq_true p0) (iteN (by rw [decide_eq_true p97]; decide) (ite2 (fun _ => q H (Same.refl _)) (fun hc => ?_))))⟩
    rcases hp with rfl | hp
    · exact absurd (decide_eq_true rfl) hc
    · exact ⟨p, rfl, hp, q⟩
def spFrac : Sp := fun vs H Q _ => ∃ a b : Int, vs = [.int a, .int b] ∧ Top a ∧ 0 < b ∧ b.natAbs ≤ 100000000000000000000000000000000 ∧ ∀ t, H t = none → Q (.ref t) (upd H t (.tup [.int (nrm a b).1, .int (nrm a b).2]))
theorem cdiv_gcd {x a b : Int} (hb : 0 < b) (h : b.natAbs ≤ 100000000000000000000000000000000) : CDivG x (Int.gcd a b : Int) := by
  have h1 := gcd_pos' (a := a) hb
  have h2 := Int.le_of_dvd hb (Int.gcd_dvd_right a b)
  exact ⟨h1, by omega⟩
def nrmZ (a b : Int) : Int × Int := if b < 0 then nrm (-a) (-b) else nrm a b
theorem nrmZ_eq {a b : Int} (h : b ≠ 0) : ((a.fdiv (if b < 0 then -(Int.gcd a b : Int) else (Int.gcd a b : Int)), b.fdiv (if b < 0 then -(Int.gcd a b : Int) else (Int.gcd a b : Int))) : Int × Int) = nrmZ a b := by
  unfold nrmZ nrm
  by_cases hb : b < 0
  · simp only [if_pos hb]
    have e1 : ∀ z g : Int, z.fdiv (-g) = (-z).fdiv g := fun z g => by rw [← Int.neg_fdiv_neg (-z) g, Int.neg_neg]
    have e2 : Int.gcd (-a) (-b) = Int.gcd a b := by rw [Int.gcd_neg, Int.neg_gcd]
    rw [e1, e1, e2, Int.fdiv_eq_ediv_of_nonneg _ (by omega), Int.fdiv_eq_ediv_of_nonneg _ (by omega)]
  · simp only [if_neg hb]
    rw [Int.fdiv_eq_ediv_of_nonneg _ (by omega), Int.fdiv_eq_ediv_of_nonneg _ (by omega)]
theorem cdivZ_gcd {x a b : Int} (hb : b ≠ 0) (h : b.natAbs ≤ 100000000000000000000000000000000) : CDivZ x (Int.gcd a b : Int) ∧ CDivZ x (-(Int.gcd a b : Int)) := by
  have h1 : 0 < Int.gcd a b := Int.gcd_pos_of_ne_zero_right _ hb
  have h2 : Int.gcd a b ≤ b.natAbs := Nat.le_of_dvd (by omega) (Int.gcd_dvd_natAbs_right a b)
  exact ⟨⟨by omega, by omega⟩, ⟨by omega, by omega⟩⟩
def spFracE (NN : Addr) : Sp := fun vs H Q E => ∃ a b : Int, vs = [.int a, .int b] ∧ Top a ∧ b.natAbs ≤ 100000000000000000000000000000000 ∧ (b = 0 → E (.ref NN) none H) ∧ (b ≠ 0 → ∀ t, H t = none → Q (.ref t) (upd H t (.tup [.int (nrmZ a b).1, .int (nrmZ a b).2])))
theorem ok_frac {f : Addr} {fd : FuncData} (F : Fun K "fraction" "fraction" s_fraction f fd) (T : Txt K mg C) (XT : Xt K mg base cc) (C_common_divisor : Cal P w K mg base "common_divisor" 1 spCd) : FnOk P w K mg base (CXe P w) 2 f fd ["top", "bottom"] (spFracE cc.NoNumber) := by
  have nd := sc_fraction.nd
  refine F.okE sc_fraction (fun vs H Q E h => ?_) (fun cdv A outer s H vs Q E hr h => ?_)
  · obtain ⟨a, b, rfl, _⟩ := h
    rfl
  · obtain ⟨a, b, rfl, ht, hB, hE, q⟩ := h
    refine ⟨_, (@pss_cons _ _ _ _ _ (@ps_if _ _ _ _ _ _ _ _ (pt_cmpR op_eq (pv 1) pe_int (nomark _)) (@pss_one _ _ _ (ps_rse XT.o_NoNumber rfl (@pa_c _ _ _ _ _ pe_str pa_nil (by rfl)))) pss_nil) (@pss_cons _ _ _ _ _ (ps_set (i := 2) nd rfl (Or.inl rfl) (pe_c C_common_divisor (hr.mono (by decide)) rfl (@pa_c _ _ _ _ _ (pv 0) (@pa_c _ _ _ _ _ (pv 1) pa_nil (by rfl)) (by rfl)))) (@pss_cons _ _ _ _ _ (@ps_if _ _ _ _ _ _ _ _ (pt_cmpR op_lt (pv 1) pe_int (nomark _)) (@pss_one _ _ _ (ps_set (i := 2) nd rfl (Or.inl rfl) (pe_un un_neg (pv 2)))) pss_nil) (@pss_one _ _ _ (@ps_ret _ _ _ _ (@pe_tup _ _ _ _ _ (@pa_c _ _ _ _ _ (@pe_op _ _ _ _ _ _ _ _ op_fdivZ (pv 0) (pv 2)) (@pa_c _ _ _ _ _ (@pe_op _ _ _ _ _ _ _ _ op_fdivZ (pv 1) (pv 2)) pa_nil (by rfl)) (by rfl)))))))), ?_⟩
    walk_at "wp"
    refine ite2 (fun hc => ⟨by decide, hE (of_decide_eq_true hc)⟩) (fun hc => ?_)
    have hb : b ≠ 0 := fun z => hc (decide_eq_true z)
    have e := nrmZ_eq (a := a) hb
    have q := q hb
    rw [← e] at q
    refine ⟨a, b, rfl, ht, ite2 (fun h => ?_) (fun h => ?_)⟩
    · rw [if_pos (of_decide_eq_true h)] at q
      exact ⟨_, rfl, (cdivZ_gcd hb hB).2, (cdivZ_gcd hb hB).2, by decide, q⟩
    · rw [if_neg (fun z => h (decide_eq_true z))] at q
      exact ⟨_, rfl, (cdivZ_gcd hb hB).1, _, rfl, (cdivZ_gcd hb hB).1, by decide, q⟩
def flds (p : Int) : List (Str × V) := putF "prime" (.int p) []
theorem flds_prime (p : Int) : (flds p).lookup ("prime" : Str) = some (.int p) := by
  unfold flds
  rw [lookup_putF, if_pos rfl]
theorem flds_no (p : Int) {x : Str} (h1 : ¬ x = "prime") : (flds p).lookup x = none := by
  unfold flds
  rw [lookup_putF, if_neg h1]
  rfl
def spInit (C : Addr) : Sp := fun vs H Q _ => ∃ (g dx : Addr) (p : Int), vs = [.ref g, .int p] ∧ H g = some (.ins C dx []) ∧ GroundP p ∧ ∀ (H' : Hp), Ext g H H' → H' g = some (.ins C dx (flds p)) → Q .non H'
theorem ok_init {f : Addr} {fd : FuncData} (F : Fun K "__init__" "Ground.__init__" s_Ground_init f fd) (T : Txt K mg C) (C_tells_ground : Cal P w K mg base "tells_ground" 2 spTells) : FnOk P w K mg base CX0 3 f fd ["self", "prime"] (spInit C) := by
  have nd := sc_Ground_init.nd
  refine F.ok sc_Ground_init (fun vs H Q E h => ?_) (fun cdv A outer s H vs Q E hr h => ?_)
  · obtain ⟨g, dx, p, rfl, _⟩ := h
    rfl
  · obtain ⟨g, dx, p, rfl, hg, hp, q⟩ := h
    refine ⟨_, (@pss_cons _ _ _ _ _ (@ps_if _ _ _ _ _ _ _ _ (pt_not (pt_val (pe_c C_tells_ground (hr.mono (by decide)) rfl (@pa_c _ _ _ _ _ (pv 1) pa_nil (by rfl))))) (@pss_one _ _ _ ps_never) pss_nil) (@pss_one _ _ _ (ps_fld (pv 0) (pv 1) rfl))), ?_⟩
    walk_at "wp"
    refine ⟨p, rfl, hp, fun H1 s1 => ⟨true, rfl, iteF ⟨C, dx, [], s1 _ _ hg, T.cl_Ground, T.nP, by show 0 < 1000; decide, ?_⟩⟩⟩
    exact q _ (fun b o nb e => by rw [upd_ne nb]; exact s1 _ _ e) upd_same
end
end Pf
set_option maxHeartbeats 1000000
namespace Pf
open PySem L2 PyProof.Rows
section
variable {P : Program} {w : World} {K : PySem.W.Frag} {mg : Str → Option Value} {base : Heap} {C : Addr}
def spGcd : Sp := fun vs H Q _ => ∃ a b : Int, vs = [.int a, .int b] ∧ Q (.int (Int.gcd a b : Int)) H
theorem ok_gcd {f : Addr} {fd : FuncData} (F : Fun K "_law_gcd" "_law_gcd" s_law_gcd f fd) (T : Txt K mg C) : FnOk P w K mg base CX0 1 f fd ["_law_one", "_law_two"] spGcd := by
  have nd := sc_law_gcd.nd
  refine F.ok sc_law_gcd (fun vs H Q E h => ?_) (fun cdv A outer s H vs Q E hr h => ?_)
  · obtain ⟨a, b, rfl, _⟩ := h
    rfl
  · obtain ⟨a, b, rfl, q⟩ := h
    refine ⟨_, (@pss_cons _ _ _ _ _ (ps_set (i := 0) nd rfl (Or.inl rfl) (pe_cB call_abs rfl T.n_abs boot_abs (@pa_c _ _ _ _ _ (pv 0) pa_nil (by rfl)))) (@pss_cons _ _ _ _ _ (ps_set (i := 1) nd rfl (Or.inl rfl) (pe_cB call_abs rfl T.n_abs boot_abs (@pa_c _ _ _ _ _ (pv 1) pa_nil (by rfl)))) (@pss_cons _ _ _ _ _ (ps_while PassesOwn.never (pt_cmpR op_gt (pv 1) pe_int (nomark _)) (@pss_cons _ _ _ _ _ (ps_set (i := 2) nd rfl (Or.inl rfl) (@pe_op _ _ _ _ _ _ _ _ op_mod (pv 0) (pv 1))) (@pss_cons _ _ _ _ _ (ps_set (i := 0) nd rfl (Or.inl rfl) (pv 1)) (@pss_one _ _ _ (ps_set (i := 1) nd rfl (Or.inl rfl) (pv 2)))))) (@pss_one _ _ _ (@ps_ret _ _ _ _ (pv 0)))))), ?_⟩
    walk_at "wp"
    have ea : (if a < 0 then -a else a) = (a.natAbs : Int) := by split <;> omega
    have eb : (if b < 0 then -b else b) = (b.natAbs : Int) := by split <;> omega
    rw [ea, eb]
    refine ⟨fun n σ H2 => ∃ (x y : Int) (v : Option V), σ = [some (.int x), some (.int y), v] ∧ H2 = H ∧ 0 ≤ x ∧ 0 ≤ y ∧ n = y.toNat ∧ Int.gcd x y = Int.gcd a b, ⟨_, _, _, none, rfl, rfl, by omega, by omega, rfl, by unfold Int.gcd; rfl⟩, ?_⟩
    rintro n σ H2 ⟨x, y, v, rfl, rfl, hx, hy, rfl, hg⟩
    walk_at "wp"
    refine ite2 (fun hc => ?_) (fun hc => ?_)
    · have y1 : 0 < y := of_decide_eq_true hc
      have l1 := Int.emod_nonneg x (show y ≠ 0 by omega)
      have l2 := Int.emod_lt_of_pos x y1
      refine ⟨_, fun _ _ h => h, ?_⟩
      walk_at "wp"
      exact ⟨y1, _, by omega, y, x % y, _, ⟨rfl, rfl, rfl⟩, by omega, l1, rfl, by rw [gcd_step]; exact hg⟩
    · have hy0 : ¬ 0 < y := fun z => hc (decide_eq_true z)
      have hy0 : y = 0 := by omega
      subst hy0
      have e : x = (Int.gcd a b : Int) := by
        rw [← hg, Int.gcd_zero]
        omega
      rw [← e] at q
      exact q
theorem ok_lowest {f : Addr} {fd : FuncData} (F : Fun K "_law_lowest" "_law_lowest" s_law_lowest f fd) (T : Txt K mg C) (C_law_gcd : Cal P w K mg base "_law_gcd" 1 spGcd) : FnOk P w K mg base CX0 2 f fd ["_law_top", "_law_bottom"] spFrac := by
  have nd := sc_law_lowest.nd
  refine F.ok sc_law_lowest (fun vs H Q E h => ?_) (fun cdv A outer s H vs Q E hr h => ?_)
  · obtain ⟨a, b, rfl, _⟩ := h
    rfl
  · obtain ⟨a, b, rfl, _, hb, hB, q⟩ := h
    refine ⟨_, (@pss_cons _ _ _ _ _ (@ps_if _ _ _ _ _ _ _ _ (pt_cmpR op_lt (pv 1) pe_int (nomark _)) (@pss_one _ _ _ ps_never) pss_nil) (@pss_cons _ _ _ _ _ (ps_set (i := 2) nd rfl (Or.inl rfl) (pe_c C_law_gcd (hr.mono (by decide)) rfl (@pa_c _ _ _ _ _ (pv 0) (@pa_c _ _ _ _ _ (pv 1) pa_nil (by rfl)) (by rfl)))) (@pss_one _ _ _ (@ps_ret _ _ _ _ (@pe_tup _ _ _ _ _ (@pa_c _ _ _ _ _ (@pe_op _ _ _ _ _ _ _ _ op_fdivG (pv 0) (pv 2)) (@pa_c _ _ _ _ _ (@pe_op _ _ _ _ _ _ _ _ op_fdivG (pv 1) (pv 2)) pa_nil (by rfl)) (by rfl))))))), ?_⟩
    walk_at "wp"
    exact iteN (by rw [decide_eq_false (by omega)]; decide) ⟨a, b, rfl, _, rfl, cdiv_gcd hb hB, _, rfl, cdiv_gcd hb hB, by decide, fun t ht => q t ht⟩
theorem ok_lwhole {f : Addr} {fd : FuncData} (F : Fun K "_law_whole" "_law_whole" s_law_whole f fd) (T : Txt K mg C) : FnOk P w K mg base CX0 1 f fd ["_law_found"] spWhole := by
  have nd := sc_law_whole.nd
  refine F.ok sc_law_whole (fun vs H Q E h => ?_) (fun cdv A outer s H vs Q E hr h => ?_)
  · obtain ⟨i, rfl, _⟩ := h
    rfl
  · obtain ⟨i, rfl, q⟩ := h
    refine ⟨_, (@pss_one _ _ _ (@ps_ret _ _ _ _ (pe_and (pe_cB call_isinst rfl T.n_isinstance boot_isinstance (@pa_c _ _ _ _ _ (pv 0) (@pa_c _ _ _ _ _ (pe_ty rfl T.n_int boot_int) pa_nil (by rfl)) (by rfl))) (pe_one (pe_not (pe_cB call_isinst rfl T.n_isinstance boot_isinstance (@pa_c _ _ _ _ _ (pv 0) (@pa_c _ _ _ _ _ (pe_ty rfl T.n_bool boot_bool) pa_nil (by rfl)) (by rfl)))))))), ?_⟩
    walk_at "wp"
    exact ⟨_, _, ⟨rfl, rfl⟩, _, rfl, _, .int i, _, k_int_int K, iteT ⟨_, _, ⟨rfl, rfl⟩, _, rfl, _, .int i, _, k_int_bool K, q⟩⟩
def goodB (p : Int) : Bool := p == 0 || (decide (1 < p) && decide (p ≤ 97) && (List.range 98).all fun d => decide ((d : Int) < 2) || decide (p ≤ (d : Int)) || decide (p % (d : Int) ≠ 0))
theorem goodB_ok {p : Int} (h : goodB p = true) : GroundP p := by
  unfold goodB at h
  simp only [Bool.or_eq_true, Bool.and_eq_true, beq_iff_eq, decide_eq_true_eq, List.all_eq_true, List.mem_range] at h
  rcases h with h | ⟨⟨h1, h2⟩, h3⟩
  · exact .inl h
  · refine .inr ⟨h1, h2, fun d d2 dp => ?_⟩
    have := h3 d.toNat (by omega)
    rw [show ((d.toNat : Nat) : Int) = d by omega] at this
    rcases this with (h | h) | h
    · omega
    · omega
    · exact h
theorem pick_good {L : List Int} (h : L.all goodB = true) {i : Int} (i0 : 0 ≤ i) (i1 : i < L.length) : ∃ p, atI (L.map V.int) i = some (.int p) ∧ GroundP p := by
  have hi : i.toNat < L.length := by omega
  exact ⟨_, atI_at i0 (atZ_get hi), goodB_ok (List.all_eq_true.mp h _ (atZ_mem hi))⟩
def spPr : Sp := fun vs H Q _ => ∃ l : Addr, vs = [.ref l] ∧ Bag H l ∧ ∀ (p : Int) (H' : Hp), Ext l H H' → Bag H' l → GroundP p → Q (.int p) H'
theorem ok_lprime {f : Addr} {fd : FuncData} (F : Fun K "_law_prime" "_law_prime" s_law_prime f fd) (T : Txt K mg C) (C_law_draw : Cal P w K mg base "_law_draw" 1 spDraw) : FnOk P w K mg base CX0 2 f fd ["_law_bag_here"] spPr := by
  have nd := sc_law_prime.nd
  refine F.ok sc_law_prime (fun vs H Q E h => ?_) (fun cdv A outer s H vs Q E hr h => ?_)
  · obtain ⟨l, rfl, _⟩ := h
    rfl
  · obtain ⟨l, rfl, hb, q⟩ := h
    refine ⟨_, (@pss_cons _ _ _ _ _ (ps_set (i := 1) nd rfl (Or.inl rfl) (pe_c C_law_draw (hr.mono (by decide)) rfl (@pa_c _ _ _ _ _ (pv 0) (@pa_c _ _ _ _ _ pe_int pa_nil (by rfl)) (by rfl)))) (@pss_cons _ _ _ _ _ (@ps_if _ _ _ _ _ _ _ _ (pt_cmpR op_lt (pv 1) pe_int (nomark _)) (@pss_one _ _ _ (@ps_ret _ _ _ _ (@pe_ix _ _ _ _ _ _ _ ix_list (@pe_lst _ _ _ _ (@pa_c _ _ _ _ _ pe_int (@pa_c _ _ _ _ _ pe_int (@pa_c _ _ _ _ _ pe_int (@pa_c _ _ _ _ _ pe_int (@pa_c _ _ _ _ _ pe_int pa_nil (by rfl)) (by rfl)) (by rfl)) (by rfl)) (by rfl))) (pv 1) (fun _ _ => rfl)))) pss_nil) (@pss_one _ _ _ (@ps_ret _ _ _ _ (@pe_ix _ _ _ _ _ _ _ ix_list (@pe_lst _ _ _ _ (@pa_c _ _ _ _ _ pe_int (@pa_c _ _ _ _ _ pe_int (@pa_c _ _ _ _ _ pe_int (@pa_c _ _ _ _ _ pe_int (@pa_c _ _ _ _ _ pe_int (@pa_c _ _ _ _ _ pe_int (@pa_c _ _ _ _ _ pe_int (@pa_c _ _ _ _ _ pe_int (@pa_c _ _ _ _ _ pe_int (@pa_c _ _ _ _ _ pe_int (@pa_c _ _ _ _ _ pe_int (@pa_c _ _ _ _ _ pe_int (@pa_c _ _ _ _ _ pe_int (@pa_c _ _ _ _ _ pe_int (@pa_c _ _ _ _ _ pe_int (@pa_c _ _ _ _ _ pe_int (@pa_c _ _ _ _ _ pe_int (@pa_c _ _ _ _ _ pe_int (@pa_c _ _ _ _ _ pe_int (@pa_c _ _ _ _ _ pe_int (@pa_c _ _ _ _ _ pe_int (@pa_c _ _ _ _ _ pe_int pa_nil (by rfl)) (by rfl)) (by rfl)) (by rfl)) (by rfl)) (by rfl)) (by rfl)) (by rfl)) (by rfl)) (by rfl)) (by rfl)) (by rfl)) (by rfl)) (by rfl)) (by rfl)) (by rfl)) (by rfl)) (by rfl)) (by rfl)) (by rfl)) (by rfl)) (by rfl))) (pe_c C_law_draw (hr.mono (by decide)) rfl (@pa_c _ _ _ _ _ (pv 0) (@pa_c _ _ _ _ _ pe_int pa_nil (by rfl)) (by rfl))) (fun _ _ => rfl)))))), ?_⟩
    walk_at "wp"
    refine hb.draw (by decide) (by decide) fun z H2 z0 z1 e2 b2 => ⟨z, rfl, ite2 (fun hz => ?_) (fun hz => ?_)⟩
    · have hz := of_decide_eq_true hz
      refine ⟨by decide, fun p1 hp1 => ?_⟩
      obtain ⟨p, hp, gp⟩ := pick_good (L := [0, 2, 3, 5, 97]) (by decide +kernel) z0 (show z < (5 : Nat) by omega)
      have n1 : p1 ≠ l := b2.ne hp1
      exact ⟨_, z, rfl, SqL.of upd_same, _, hp, q p _ (e2.trans (Ext.new hp1)) (b2.new n1) gp⟩
    · refine ⟨by decide, fun p1 hp1 => ?_⟩
      have n1 : p1 ≠ l := b2.ne hp1
      refine (b2.new n1).draw (by decide) (by decide) fun y H3 y0 y1 e3 b3 => ?_
      obtain ⟨p, hp, gp⟩ := pick_good (L := [0, 7, 11, 13, 17, 19, 23, 29, 31, 37, 41, 43, 47, 53, 59, 61, 67, 71, 73, 79, 83, 89]) (by decide +kernel) y0 (show y < (22 : Nat) by omega)
      exact ⟨_, y, rfl, SqL.of (e3 _ _ n1 upd_same), _, hp, q p _ ((e2.trans (Ext.new hp1)).trans e3) b3 gp⟩
def NumV (H : Hp) (p : Int) (v : V) (x : Int × Int) : Prop := if p = 0 then ∃ t, v = .ref t ∧ H t = some (.tup [.int x.1, .int x.2]) else v = .int x.1
theorem NumV.same {H H' : Hp} {p : Int} {v : V} {x : Int × Int} (h : NumV H p v x) (s : Same H H') : NumV H' p v x := by
  unfold NumV at *
  split
  · rename_i hp
    rw [if_pos hp] at h
    obtain ⟨t, e, ht⟩ := h
    exact ⟨t, e, s _ _ ht⟩
  · rename_i hp
    rw [if_neg hp] at h
    exact h
theorem NumV.tup {H : Hp} {p : Int} {t : Addr} {x : Int × Int} (hp : p = 0) (h : H t = some (.tup [.int x.1, .int x.2])) : NumV H p (.ref t) x := by
  unfold NumV
  rw [if_pos hp]
  exact ⟨t, rfl, h⟩
theorem NumV.of {H : Hp} {p : Int} {x : Int × Int} (hp : ¬ p = 0) : NumV H p (.int x.1) x := by
  unfold NumV
  rw [if_neg hp]
theorem NumV.ref {H : Hp} {p : Int} {v : V} {x : Int × Int} (h : NumV H p v x) (hp : p = 0) : ∃ t, v = .ref t ∧ H t = some (.tup [.int x.1, .int x.2]) := by
  unfold NumV at h
  rw [if_pos hp] at h
  exact h
theorem NumV.int {H : Hp} {p : Int} {v : V} {x : Int × Int} (h : NumV H p v x) (hp : ¬ p = 0) : v = .int x.1 := by
  unfold NumV at h
  rw [if_neg hp] at h
  exact h
theorem GroundP.lo {p : Int} (h : GroundP p) : 0 ≤ p := by rcases h with rfl | ⟨h, _⟩ <;> omega
theorem GroundP.hi {p : Int} (h : GroundP p) : p ≤ 97 := by rcases h with rfl | ⟨_, h, _⟩ <;> omega
end
end Pf
set_option maxHeartbeats 1000000
namespace Pf
open PySem L2 PyProof.Rows
section
variable {P : Program} {w : World} {K : PySem.W.Frag} {mg : Str → Option Value} {base : Heap} {C : Addr} {cc : Cs}
theorem prime_gcd {b p : Int} (hp : PrimeP p) (h0 : 0 < b) (h1 : b < p) : Int.gcd b p = 1 := by
  have hd1 : ((Int.gcd b p : Nat) : Int) ∣ b := Int.gcd_dvd_left b p
  have hd2 : ((Int.gcd b p : Nat) : Int) ∣ p := Int.gcd_dvd_right b p
  have hle := Int.le_of_dvd h0 hd1
  have hpos : 0 < Int.gcd b p := Int.gcd_pos_of_ne_zero_left _ (by omega)
  by_cases h : Int.gcd b p = 1
  · exact h
  · exact absurd (Int.emod_eq_zero_of_dvd hd2) (hp.2.2 _ (by omega) (by omega))
theorem inv_end {p z b c : Int} (h : p ∣ z * b - c) : (z % p * b) % p = c % p := by
  obtain ⟨k, hk⟩ := h
  have e : z % p * b = c + p * (k - z / p * b) := by rw [Int.emod_def]; grind
  rw [e, Int.add_mul_emod_self_left]
theorem le_times {a b : Int} (ha : 1 ≤ a) (hb : 0 ≤ b) : b ≤ a * b := by
  have := Int.mul_le_mul_of_nonneg_right ha hb
  omega
theorem big97 {x : Int} (h : x.natAbs ≤ 97) : Big x := by unfold Big; omega
def spInv : Sp := fun vs H Q _ => ∃ b p : Int, vs = [.int b, .int p] ∧ PrimeP p ∧ 0 < b ∧ b < p ∧ ∀ r H', Same H H' → 0 ≤ r → r < p → (r * b) % p = 1 → Q (.int r) H'
theorem ok_inv {f : Addr} {fd : FuncData} (F : Fun K "inverse" "inverse" s_inverse f fd) (T : Txt K mg C) : FnOk P w K mg base CX0 1 f fd ["rest", "prime"] spInv := by
  have nd := sc_inverse.nd
  refine F.ok sc_inverse (fun vs H Q E h => ?_) (fun cdv A outer s H vs Q E hr h => ?_)
  · obtain ⟨b, p, rfl, _⟩ := h
    rfl
  · obtain ⟨b, p, rfl, hp, b0, b1, q⟩ := h
    have p1 := hp.1
    have p97 := hp.2.1
    refine ⟨_, (@pss_cons _ _ _ _ _ (ps_par (i := 2) (j := 3) rfl nd rfl rfl (by decide) rfl rfl (@pa_c _ _ _ _ _ (pv 0) (@pa_c _ _ _ _ _ (pv 1) pa_nil (by rfl)) (by rfl)) rfl) (@pss_cons _ _ _ _ _ (ps_asg (@pe_tup _ _ _ _ _ (@pa_c _ _ _ _ _ pe_int (@pa_c _ _ _ _ _ pe_int pa_nil (by rfl)) (by rfl))) (@pg_tup _ _ _ _ _ 2 rfl (@pgs_cons _ _ _ _ _ (@pg_name _ _ 4 _ nd rfl (Or.inl rfl) (Or.inl rfl)) (@pgs_cons _ _ _ _ _ (@pg_name _ _ 5 _ nd rfl (Or.inl rfl) (Or.inl rfl)) (@pgs_nil _) (by rfl)) (by rfl)) (by rfl) (by rfl))) (@pss_cons _ _ _ _ _ (ps_while PassesOwn.never (pt_cmpR op_gt (pv 2) pe_int (nomark _)) (@pss_cons _ _ _ _ _ (ps_set (i := 6) nd rfl (Or.inl rfl) (@pe_op _ _ _ _ _ _ _ _ op_fdiv (pv 3) (pv 2))) (@pss_cons _ _ _ _ _ (ps_par (i := 2) (j := 3) rfl nd rfl rfl (by decide) rfl rfl (@pa_c _ _ _ _ _ (@pe_op _ _ _ _ _ _ _ _ op_sub (pv 3) (@pe_op _ _ _ _ _ _ _ _ op_mulG (pv 6) (pv 2))) (@pa_c _ _ _ _ _ (pv 2) pa_nil (by rfl)) (by rfl)) rfl) (@pss_one _ _ _ (ps_par (i := 4) (j := 5) rfl nd rfl rfl (by decide) rfl rfl (@pa_c _ _ _ _ _ (@pe_op _ _ _ _ _ _ _ _ op_sub (pv 5) (@pe_op _ _ _ _ _ _ _ _ op_mulG (pv 6) (pv 4))) (@pa_c _ _ _ _ _ (pv 4) pa_nil (by rfl)) (by rfl)) rfl))))) (@pss_one _ _ _ (@ps_ret _ _ _ _ (@pe_op _ _ _ _ _ _ _ _ op_mod (pv 4) (pv 1))))))), ?_⟩
    walk_at "wp"
    refine ⟨_, _, ⟨rfl, rfl⟩, by decide, fun t ht => ⟨_, SqT.of upd_same, rfl, _, _, rfl, _, _, rfl, rfl, ?_⟩⟩
    refine ⟨fun n σ H2 => ∃ (lo hi lt ht' : Int) (o : Option V), σ = [some (V.int b), some (V.int p), some (V.int lo), some (V.int hi), some (V.int lt), some (V.int ht'), o] ∧ H2 = upd H t (.tup [V.int 1, V.int 0]) ∧ n = lo.toNat ∧ 1 ≤ lo ∧ lo < hi ∧ hi ≤ p ∧ Int.gcd lo hi = 1 ∧ p ∣ lt * b - lo ∧ p ∣ ht' * b - hi ∧
        ∃ u v : Int, 0 ≤ u ∧ 0 ≤ v ∧ lo * v + hi * u = p ∧ ((lt = u ∧ ht' = -v) ∨ (lt = -u ∧ ht' = v)),
      ⟨_, b, p, 1, 0, none, rfl, rfl, rfl, by omega, b1, Int.le_refl _, prime_gcd hp b0 b1, ⟨0, by omega⟩, ⟨-1, by omega⟩, 1, 0, by decide, by decide, by omega, .inl ⟨rfl, rfl⟩⟩, ?_⟩
    rintro n σ H2 ⟨lo, hi, lt, ht', o, rfl, rfl, rfl, l1, l2, l3, hg, d1, d2, u, v, u0, v0, huv, hs⟩
    walk_at "wp"
    refine ite2 (fun hc => ?_) (fun hc => ?_)
    · have hc := of_decide_eq_true hc
      have hm : hi - hi / lo * lo = hi % lo := by rw [Int.emod_def, Int.mul_comm lo]
      have m0 : 0 ≤ hi / lo := Int.ediv_nonneg (by omega) (by omega)
      have m1 : hi / lo ≤ hi := Int.ediv_le_self _ (by omega)
      have r0 := Int.emod_nonneg hi (show lo ≠ 0 by omega)
      have r1 := Int.emod_lt_of_pos hi (show 0 < lo by omega)
      have hg' : Int.gcd (hi % lo) lo = 1 := by rw [Int.gcd_comm, gcd_step, Int.gcd_comm]; exact hg
      have r2 : 1 ≤ hi % lo := by
        by_cases z : hi % lo = 0
        · rw [z, Int.zero_gcd] at hg'
          omega
        · omega
      have u1 := le_times (a := hi) (by omega) u0
      have v1 := le_times (a := lo) (by omega) v0
      have um : u ≤ 97 := by omega
      have vm : v ≤ 97 := by omega
      have e3 : (hi - hi / lo * lo) * u + lo * (v + hi / lo * u) = p := by rw [← huv]; grind
      have mu : 0 ≤ hi / lo * u := Int.mul_nonneg m0 u0
      refine ⟨_, fun _ _ h => h, ⟨by omega, by omega⟩, (big97 (by omega)).mul (big97 (by omega)), _, _, ⟨rfl, rfl⟩, (big97 (by omega)).mul (big97 (by rcases hs with ⟨h, _⟩ | ⟨h, _⟩ <;> omega)), _, _, ⟨rfl, rfl⟩, (hi % lo).toNat, by omega,
        hi - hi / lo * lo, lo, ht' - hi / lo * lt, lt, _, rfl, rfl, by rw [hm], by rw [hm]; exact r2, by rw [hm]; exact r1, by omega, by rw [hm]; exact hg', ?_, d1, v + hi / lo * u, by omega, u, u0, e3, ?_⟩
      · have e : (ht' - hi / lo * lt) * b - (hi - hi / lo * lo) = (ht' * b - hi) - hi / lo * (lt * b - lo) := by grind
        rw [e]
        exact Int.dvd_sub d2 (Int.dvd_mul_of_dvd_right d1)
      · rcases hs with ⟨h1, h2⟩ | ⟨h1, h2⟩
        · subst h1 h2
          exact .inr ⟨by grind, rfl⟩
        · subst h1 h2
          exact .inl ⟨by grind, rfl⟩
    · have hc : ¬ 1 < lo := fun z => hc (decide_eq_true z)
      have hl : lo = 1 := by omega
      subst hl
      refine ⟨by omega, q _ _ (Same.new ht) (Int.emod_nonneg _ (by omega)) (Int.emod_lt_of_pos _ (by omega)) ?_⟩
      rw [inv_end d1, Int.emod_eq_of_lt (by decide) p1]
def spRestE (NN : Addr) : Sp := fun vs H Q E => ∃ a b p : Int, vs = [.int a, .int b, .int p] ∧ PrimeP p ∧ Big a ∧ (b % p = 0 → E (.ref NN) none H) ∧ (b % p ≠ 0 → ∀ r H', Same H H' → 0 ≤ r → r < p → (r * b - a) % p = 0 → Q (.int r) H')
theorem ok_rest {f : Addr} {fd : FuncData} (F : Fun K "rest_of" "rest_of" s_rest_of f fd) (T : Txt K mg C) (XT : Xt K mg base cc) (C_inverse : Cal P w K mg base "inverse" 1 spInv) : FnOk P w K mg base (CXe P w) 2 f fd ["top", "bottom", "prime"] (spRestE cc.NoNumber) := by
  have nd := sc_rest_of.nd
  refine F.okE sc_rest_of (fun vs H Q E h => ?_) (fun cdv A outer s H vs Q E hr h => ?_)
  · obtain ⟨a, b, p, rfl, _⟩ := h
    rfl
  · obtain ⟨a, b, p, rfl, hp, ha, hE, q⟩ := h
    have p1 := hp.1
    have p97 := hp.2.1
    have b0 := Int.emod_nonneg b (show p ≠ 0 by omega)
    have b1 := Int.emod_lt_of_pos b (show 0 < p by omega)
    refine ⟨_, (@pss_cons _ _ _ _ _ (ps_set (i := 3) nd rfl (Or.inl rfl) (@pe_op _ _ _ _ _ _ _ _ op_mod (pv 1) (pv 2))) (@pss_cons _ _ _ _ _ (@ps_if _ _ _ _ _ _ _ _ (pt_cmpR op_eq (pv 3) pe_int (nomark _)) (@pss_one _ _ _ (ps_rse XT.o_NoNumber rfl (@pa_c _ _ _ _ _ pe_str pa_nil (by rfl)))) pss_nil) (@pss_one _ _ _ (@ps_ret _ _ _ _ (@pe_op _ _ _ _ _ _ _ _ op_mod (@pe_op _ _ _ _ _ _ _ _ op_mulG (pv 0) (pe_c C_inverse (hr.mono (by decide)) rfl (@pa_c _ _ _ _ _ (pv 3) (@pa_c _ _ _ _ _ (pv 2) pa_nil (by rfl)) (by rfl)))) (pv 2)))))), ?_⟩
    walk_at "wp"
    refine ⟨by omega, ite2 (fun hc => ⟨by decide, hE (of_decide_eq_true hc)⟩) (fun hc => ?_)⟩
    have hb : b % p ≠ 0 := fun z => hc (decide_eq_true z)
    refine ⟨_, p, rfl, hp, by omega, b1, fun r H' s' r0 r1 hr1 => ⟨r, rfl, ha.mul (big97 (by omega)), by omega, q hb _ H' s' (Int.emod_nonneg _ (by omega)) (Int.emod_lt_of_pos _ (by omega)) ?_⟩⟩
    have k1 : p ∣ r * (b % p) - 1 := Int.dvd_of_emod_eq_zero (by rw [Int.sub_emod, hr1, Int.emod_eq_of_lt (by decide) p1]; rfl)
    obtain ⟨k, hk⟩ := k1
    have e : (a * r % p) * b - a = p * (a * k + a * r * (b / p) - a * r / p * b) := by
      rw [Int.emod_def] at hk ⊢
      grind
    rw [e, Int.mul_emod_right]
def GAt (C : Addr) (H : Hp) (g : Addr) (p : Int) : Prop := ∃ dx, H g = some (.ins C dx (flds p))
theorem GAt.same {H H' : Hp} {g : Addr} {p : Int} (h : GAt C H g p) (s : Same H H') : GAt C H' g p := let ⟨dx, e⟩ := h; ⟨dx, s _ _ e⟩
end
end Pf
set_option maxHeartbeats 1000000
namespace Pf
open PySem L2 PyProof.Rows
section
variable {P : Program} {w : World} {K : PySem.W.Frag} {mg : Str → Option Value} {base : Heap} {C : Addr} {cc : Cs}
theorem num_eq {H : Hp} {p : Int} {v u : V} {x : Int × Int} {Q : VK} (h : NumV H p v x) (h' : NumV H p u x) (q : Q (.bl true) H) : rEqN K v u H Q := by
  by_cases hp : p = 0
  · obtain ⟨t, rfl, ht⟩ := h.ref hp
    obtain ⟨t', rfl, ht'⟩ := h'.ref hp
    exact .inr (pair_eq false ht ht' q)
  · obtain rfl := h.int hp
    obtain rfl := h'.int hp
    exact .inl ⟨rfl, by rw [decide_eq_true rfl]; exact q⟩
def spSame : Sp := fun vs H Q _ => ∃ (p : Int) (v u : V) (x : Int × Int), vs = [.int p, v, u] ∧ GroundP p ∧ NumV H p v x ∧ NumV H p u x ∧ Q (.bl true) H
theorem ok_same {f : Addr} {fd : FuncData} (F : Fun K "_law_same" "_law_same" s_law_same f fd) (T : Txt K mg C) (C_law_whole : Cal P w K mg base "_law_whole" 1 spWhole) : FnOk P w K mg base CX0 2 f fd ["_law_p", "_law_found", "_law_due"] spSame := by
  have nd := sc_law_same.nd
  refine F.ok sc_law_same (fun vs H Q E h => ?_) (fun cdv A outer s H vs Q E hr h => ?_)
  · obtain ⟨p, v, u, x, rfl, _⟩ := h
    rfl
  · obtain ⟨p, v, u, x, rfl, hp, h1, h2, q⟩ := h
    have hu8 := room8 hr
    have p0 := hp.lo
    refine ⟨_, (@pss_cons _ _ _ _ _ (@ps_if _ _ _ _ _ _ _ _ (pt_cmpR op_gt (pv 0) pe_int (nomark _)) (@pss_one _ _ _ (@ps_ret _ _ _ _ (pe_and (pe_c C_law_whole (hr.mono (by decide)) rfl (@pa_c _ _ _ _ _ (pv 1) pa_nil (by rfl))) (pe_one (pe_cmpR (op_eqN hu8) (pv 1) (pv 2) (nomark _)))))) pss_nil) (@pss_cons _ _ _ _ _ (@ps_if _ _ _ _ _ _ _ _ (PW.pt (pw_or (pt_not (pt_val (pe_cB call_isinst rfl T.n_isinstance boot_isinstance (@pa_c _ _ _ _ _ (pv 1) (@pa_c _ _ _ _ _ (pe_ty rfl T.n_tuple boot_tuple) pa_nil (by rfl)) (by rfl))))) (pw_or1 (pt_cmpR op_ne (pe_cB call_len_seq rfl T.n_len PySem.boot_len (@pa_c _ _ _ _ _ (pv 1) pa_nil (by rfl))) pe_int (nomark _))))) (@pss_one _ _ _ (@ps_ret _ _ _ _ pe_bl)) pss_nil) (@pss_one _ _ _ (@ps_ret _ _ _ _ (pe_and (pe_c C_law_whole (hr.mono (by decide)) rfl (@pa_c _ _ _ _ _ (@pe_ix _ _ _ _ _ _ _ ix_tup (pv 1) pe_int (fun _ _ => rfl)) pa_nil (by rfl))) (pe_and (pe_c C_law_whole (hr.mono (by decide)) rfl (@pa_c _ _ _ _ _ (@pe_ix _ _ _ _ _ _ _ ix_tup (pv 1) pe_int (fun _ _ => rfl)) pa_nil (by rfl))) (pe_one (pe_cmpR (op_eqN hu8) (pv 1) (pv 2) (nomark _))))))))), ?_⟩
    walk_at "wp"
    refine ite2 (fun hc => ?_) (fun hc => ?_)
    · have hc := of_decide_eq_true hc
      obtain rfl := h1.int (by omega)
      exact ⟨x.1, rfl, true, rfl, iteT (num_eq h1 h2 q)⟩
    · have hc : ¬ 0 < p := fun z => hc (decide_eq_true z)
      have hp0 : p = 0 := by omega
      obtain ⟨t, rfl, ht⟩ := h1.ref hp0
      walk_at "wp"
      exact ⟨_, _, ⟨rfl, rfl⟩, _, rfl, _, .tup ht, _, k_tup_tup K, iteF ⟨_, .inr (SqT.of ht), iteF ⟨_, SqT.of ht, _, rfl, _, rfl, true, rfl, iteT ⟨_, SqT.of ht, _, rfl, _, rfl, true, rfl, iteT (num_eq h1 h2 q)⟩⟩⟩⟩
theorem Top.neg {a : Int} (h : Top a) : Top (-a) := by unfold Top; rw [Int.natAbs_neg]; exact h
def spFracZ : Sp := fun vs H Q _ => ∃ a b : Int, vs = [.int a, .int b] ∧ Top a ∧ b ≠ 0 ∧ b.natAbs ≤ 100000000000000000000000000000000 ∧ ∀ t, H t = none → Q (.ref t) (upd H t (.tup [.int (nrmZ a b).1, .int (nrmZ a b).2]))
theorem kit_self {t : Value} : PySem.W.kitOne K t t = some true := by unfold PySem.W.kitOne; rw [if_pos (by simp)]
def Med30 (a : Int) : Prop := a.natAbs ≤ 1000000000000000000000000000000
theorem Med30.big {a : Int} (h : Med30 a) : Big a := by unfold Med30 at h; unfold Big; omega
theorem Med30.top {a : Int} (h : Med30 a) : Top a := Top.of (by unfold Med30 at h; omega)
def spMed : Sp := fun vs H Q _ => ∃ (l : Addr), vs = [.ref l] ∧ Bag H l ∧ ∀ (n : Int) (H' : Hp), Ext l H H' → Bag H' l → Med30 n → Q (.int n) H'
theorem ok_great {f : Addr} {fd : FuncData} (F : Fun K "_law_great" "_law_great" s_law_great f fd) (T : Txt K mg C) (C_law_draw : Cal P w K mg base "_law_draw" 1 spDraw) : FnOk P w K mg base CX0 2 f fd ["_law_bag_here"] spMed := by
  have nd := sc_law_great.nd
  refine F.ok sc_law_great (fun vs H Q E h => ?_) (fun cdv A outer s H vs Q E hr h => ?_)
  · obtain ⟨l, rfl, _⟩ := h
    rfl
  · obtain ⟨l, rfl, hb, q⟩ := h
    refine ⟨_, (@pss_cons _ _ _ _ _ (ps_set (i := 1) nd rfl (Or.inl rfl) (pe_c C_law_draw (hr.mono (by decide)) rfl (@pa_c _ _ _ _ _ (pv 0) (@pa_c _ _ _ _ _ pe_int pa_nil (by rfl)) (by rfl)))) (@pss_cons _ _ _ _ _ (ps_for PassesOwn.never rfl (pi_r1 rfl T.n_range (@pa_c _ _ _ _ _ pe_int pa_nil (by rfl))) (@pg_name _ _ 2 _ nd rfl (Or.inl rfl) (Or.inl rfl)) (@pss_one _ _ _ (ps_set (i := 1) nd rfl (Or.inl rfl) (@pe_op _ _ _ _ _ _ _ _ op_add (@pe_op _ _ _ _ _ _ _ _ op_mulG (pv 1) (@pe_op _ _ _ _ _ _ _ _ op_pow pe_int pe_int)) (pe_c C_law_draw (hr.mono (by decide)) rfl (@pa_c _ _ _ _ _ (pv 0) (@pa_c _ _ _ _ _ (@pe_op _ _ _ _ _ _ _ _ op_pow pe_int pe_int) pa_nil (by rfl)) (by rfl))))))) (@pss_one _ _ _ (@ps_ret _ _ _ _ (pv 1))))), ?_⟩
    walk_at "wp"
    refine hb.draw (by decide) (by decide) fun z H2 z0 z1 e2 b2 => ?_
    refine ⟨4, rfl, by decide, by decide, for_range (fun i σ H3 => ∃ (n : Int) (v : Option V), σ = [some (.ref l), some (.int n), v] ∧ Ext l H H3 ∧ Bag H3 l ∧ 0 ≤ n ∧ n < 100 * 10000000 ^ i) ⟨z, none, rfl, e2, b2, z0, by simpa using z1⟩ ?_ ?_⟩
    · rintro i σ H3 hi ⟨n, v, rfl, e3, b3, n0, n1⟩
      have hi : i < 4 := hi
      have hP : (10000000 : Int) ^ i ≤ 10000000 ^ 3 := by
        have : i = 0 ∨ i = 1 ∨ i = 2 ∨ i = 3 := by omega
        rcases this with rfl | rfl | rfl | rfl <;> decide +kernel
      have e3' : (10000000 : Int) ^ 3 = 1000000000000000000000 := by decide +kernel
      have e7 : (10 : Int) ^ (7 : Int).toNat = 10000000 := by decide +kernel
      have bn : Big n := by unfold Big; omega
      walk_at "wp"
      rw [e7]
      refine ⟨⟨by decide, by decide, by decide⟩, bn.mul (by unfold Big; omega), ⟨by decide, by decide, by decide⟩, b3.draw (by decide) (by decide) fun r H4 r0 r1 e4 b4 => ⟨r, rfl, ?_⟩⟩
      refine ⟨_, _, ⟨rfl, rfl⟩, e3.trans e4, b4, by omega, ?_⟩
      rw [Int.pow_succ]
      omega
    · rintro σ H3 ⟨n, v, rfl, e3, b3, n0, n1⟩
      have e4 : (10000000 : Int) ^ (4 : Int).toNat = 10000000000000000000000000000 := by decide +kernel
      refine ⟨_, rfl, q n H3 e3 b3 ?_⟩
      have n1 : n < 100 * 10000000 ^ (4 : Int).toNat := n1
      rw [e4] at n1
      unfold Med30
      omega
theorem ok_signed {f : Addr} {fd : FuncData} (F : Fun K "_law_signed" "_law_signed" s_law_signed f fd) (T : Txt K mg C) (C_law_draw : Cal P w K mg base "_law_draw" 1 spDraw) (C_law_great : Cal P w K mg base "_law_great" 2 spMed) : FnOk P w K mg base CX0 3 f fd ["_law_bag_here"] spMed := by
  have nd := sc_law_signed.nd
  refine F.ok sc_law_signed (fun vs H Q E h => ?_) (fun cdv A outer s H vs Q E hr h => ?_)
  · obtain ⟨l, rfl, _⟩ := h
    rfl
  · obtain ⟨l, rfl, hb, q⟩ := h
    refine ⟨_, (@pss_cons _ _ _ _ _ (@ps_if _ _ _ _ _ _ _ _ (pt_cmpR op_eq (pe_c C_law_draw (hr.mono (by decide)) rfl (@pa_c _ _ _ _ _ (pv 0) (@pa_c _ _ _ _ _ pe_int pa_nil (by rfl)) (by rfl))) pe_int (nomark _)) (@pss_one _ _ _ (@ps_ret _ _ _ _ (pe_c C_law_great (hr.mono (by decide)) rfl (@pa_c _ _ _ _ _ (pv 0) pa_nil (by rfl))))) pss_nil) (@pss_one _ _ _ (@ps_ret _ _ _ _ (pe_un un_neg (pe_c C_law_great (hr.mono (by decide)) rfl (@pa_c _ _ _ _ _ (pv 0) pa_nil (by rfl))))))), ?_⟩
    walk_at "wp"
    refine hb.draw (by decide) (by decide) fun z H2 z0 z1 e2 b2 => ?_
    exact ⟨rfl, ite2 (fun _ => ⟨l, rfl, b2, fun n H3 e3 b3 m => q n H3 (e2.trans e3) b3 m⟩) (fun _ => ⟨l, rfl, b2, fun n H3 e3 b3 m => ⟨n, rfl, q (-n) H3 (e2.trans e3) b3 (by unfold Med30 at *; omega)⟩⟩)⟩
def Bad (p b : Int) : Prop := b = 0 ∨ (p ≠ 0 ∧ b % p = 0)
def spNumbE (C NN : Addr) : Sp := fun vs H Q E => ∃ (g : Addr) (p a b : Int), vs = [.ref g, .int a, .int b] ∧ GAt C H g p ∧ GroundP p ∧ Med30 a ∧ Med30 b ∧ (Bad p b → E (.ref NN) none H) ∧
  (¬ Bad p b → p = 0 → ∀ t, H t = none → Q (.ref t) (upd H t (.tup [.int (nrmZ a b).1, .int (nrmZ a b).2]))) ∧ (¬ Bad p b → p ≠ 0 → ∀ r H', Same H H' → 0 ≤ r → r < p → (r * b - a) % p = 0 → Q (.int r) H')
theorem ok_numb {f D : Addr} {fd : FuncData} (F : FunD K "number" "Ground.number" s_Ground_number f fd D) (T : Txt K mg C) (XT : Xt K mg base cc) (C_fraction : CalE P w K mg base "fraction" 2 (spFracE cc.NoNumber)) (C_rest_of : CalE P w K mg base "rest_of" 2 (spRestE cc.NoNumber)) : FnOk P w K mg base (CXe P w) 3 f fd ["self", "top", "bottom"] (spNumbE C cc.NoNumber) := by
  have nd := sc_Ground_number.nd
  refine F.okE sc_Ground_number (fun vs H Q E h => ?_) (fun cdv A outer s H vs Q E hr h => ?_)
  · obtain ⟨g, p, a, b, rfl, _⟩ := h
    rfl
  · obtain ⟨g, p, a, b, rfl, ⟨dx, hg⟩, hp, ma, mb, hE, q0, q1⟩ := h
    refine ⟨_, (@pss_cons _ _ _ _ _ (@ps_if _ _ _ _ _ _ _ _ (pt_cmpR op_eq (pe_fld (pv 0) rfl) pe_int (nomark _)) (@pss_one _ _ _ (@ps_ret _ _ _ _ (pe_cE C_fraction (pass_on (E' := E) (fun _ _ _ h => h)) (hr.mono (by decide)) rfl (@pa_c _ _ _ _ _ (pv 1) (@pa_c _ _ _ _ _ (pv 2) pa_nil (by rfl)) (by rfl))))) pss_nil) (@pss_one _ _ _ (@ps_ret _ _ _ _ (pe_cE C_rest_of (pass_on (E' := E) (fun _ _ _ h => h)) (hr.mono (by decide)) rfl (@pa_c _ _ _ _ _ (pv 1) (@pa_c _ _ _ _ _ (pv 2) (@pa_c _ _ _ _ _ (pe_fld (pv 0) rfl) pa_nil (by rfl)) (by rfl)) (by rfl)))))), ?_⟩
    walk_at "wp"
    refine ⟨C, dx, _, hg, T.cl_Ground, T.nP, _, flds_prime p, rfl, ite2 (fun hc => ?_) (fun hc => ?_)⟩
    · have hp0 : p = 0 := by simpa using hc
      have hb : ∀ z : b ≠ 0, ¬ Bad p b := fun z y => by
        rcases y with y | ⟨y, _⟩
        · exact z y
        · exact y hp0
      exact ⟨a, b, rfl, ma.top, by unfold Med30 at mb; omega, fun z => hE (.inl z), fun z => q0 (hb z) hp0⟩
    · have hp0 : ¬ p = 0 := by simpa using hc
      have pp : PrimeP p := hp.resolve_left hp0
      have hb : ∀ z : b % p ≠ 0, ¬ Bad p b := fun z y => by
        rcases y with y | ⟨_, y⟩
        · rw [y, Int.zero_emod] at z; exact z rfl
        · exact z y
      exact ⟨C, dx, _, hg, T.cl_Ground, T.nP, _, flds_prime p, a, b, p, rfl, pp, ma.big, fun h => hE (.inr ⟨hp0, h⟩), fun h => q1 (hb h) hp0⟩
end
end Pf
set_option maxHeartbeats 1000000
namespace Pf
open PySem L2 PyProof.Rows
section
variable {P : Program} {w : World} {K : PySem.W.Frag} {mg : Str → Option Value} {base : Heap} {C : Addr} {cc : Cs}
abbrev BB : Nat := 1000000000000000000000000000000
abbrev Nv := Int × Int
theorem str_int (a : Int) : Str.ofString (toString a) = mkS (tI a) := by rw [← sg_toString]; rfl
theorem mk_app (a b : List Nat) : mkS a ++ mkS b = mkS (a ++ b) := by
  show (⟨a.toArray ++ b.toArray⟩ : Str) = ⟨(a ++ b).toArray⟩
  simp
theorem mk_len (a : List Nat) : (mkS a).length = a.length := by rw [← sg_len]; rfl
theorem tI_len {a : Int} (h : a.natAbs < 10 ^ 31) : (tI a).length ≤ 32 := by
  have := tN_len 30 (n := a.natAbs) h
  unfold tI
  split
  · rw [List.length_cons]; omega
  · omega
def tNum (p : Int) (x : Nv) : List Nat := if p = 0 then (if x.2 = 1 then tI x.1 else tI x.1 ++ 47 :: tI x.2) else tI x.1
theorem tNum_len {p : Int} {x : Nv} (h : Bd BB x) : (tNum p x).length ≤ 65 := by
  have h1 := tI_len (a := x.1) (Nat.lt_of_le_of_lt h.1 (by decide +kernel))
  have h2 := tI_len (a := x.2) (Nat.lt_of_le_of_lt h.2 (by decide +kernel))
  unfold tNum
  split
  · split
    · omega
    · rw [List.length_append, List.length_cons]; omega
  · omega
theorem low2 {a : Int} (h : a.natAbs < 10 ^ 60) : a.natAbs.log2 < 1920 := by
  by_cases h0 : a.natAbs = 0
  · rw [h0]; decide
  · exact (Nat.log2_lt h0).mpr (Nat.lt_trans h (by decide +kernel))
theorem slc {n : Nat} (h : n ≤ 1000) : n ≤ sizeLine := Nat.le_of_lt (small1000 h)
theorem tI_len60 {a : Int} (h : a.natAbs < 10 ^ 60) : (tI a).length ≤ 61 := by
  have := tN_len 59 (n := a.natAbs) h
  unfold tI
  split
  · rw [List.length_cons]; omega
  · omega
def spShP : Sp := fun vs H Q _ => ∃ n : Int, vs = [.int n] ∧ 0 ≤ n ∧ n.natAbs < 10 ^ 60 ∧ ∀ H', Same H H' → Q (.str (mkS (tI n))) H'
theorem ok_showP {f : Addr} {fd : FuncData} (F : Fun K "show_whole" "show_whole" s_show_whole f fd) (T : Txt K mg C) : FnOk P w K mg base CX0 1 f fd ["number"] spShP := by
  have nd := sc_show_whole.nd
  refine F.ok sc_show_whole (fun vs H Q E h => ?_) (fun cdv A outer s H vs Q E hr h => ?_)
  · obtain ⟨n, rfl, _⟩ := h
    rfl
  · obtain ⟨n, rfl, n0, n1, q⟩ := h
    refine ⟨_, (@pss_cons _ _ _ _ _ (@ps_if _ _ _ _ _ _ _ _ (pt_cmpR op_lt (pv 0) pe_int (nomark _)) (@pss_one _ _ _ ps_never) pss_nil) (@pss_cons _ _ _ _ _ (ps_set (i := 1) nd rfl (Or.inl rfl) (@pe_lst _ _ _ _ pa_nil)) (@pss_cons _ _ _ _ _ (ps_while PassesOwn.never (pt_cmpR op_ge (pv 0) (@pe_op _ _ _ _ _ _ _ _ op_pow pe_int pe_int) (nomark _)) (@pss_cons _ _ _ _ _ ps_never (@pss_one _ _ _ ps_never))) (@pss_one _ _ _ (@ps_ret _ _ _ _ (@pe_op _ _ _ _ _ _ _ _ op_add_str (pe_cT call_str_int rfl T.n_str boot_str (@pa_c _ _ _ _ _ (pv 0) pa_nil (by rfl))) (pe_bm PySem.F.plainAttrs_str PySem.F.slot_str_join PySem.F.type_str_join mt_join pe_str (@pa_c _ _ _ _ _ (pe_revL K rfl (pv 1) (pe_un un_neg pe_int) (fun _ _ _ q => ⟨1, rfl, q⟩)) pa_nil (by rfl))))))))), ?_⟩
    walk_at "wp"
    have big : ¬ (10 : Int) ^ Int.toNat 64 ≤ n := by
      have : (10 : Int) ^ Int.toNat 64 = ((10 ^ 64 : Nat) : Int) := by decide +kernel
      rw [this]
      have h2 : (10 : Nat) ^ 60 ≤ 10 ^ 64 := by decide +kernel
      omega
    refine iteN (by rw [decide_eq_false (by omega)]; decide) ⟨by decide, fun p hp => ?_⟩
    refine ⟨fun _ σ H2 => σ = [some (.int n), some (.ref p), none] ∧ H2 = upd H p (.lst []), ⟨0, rfl, rfl⟩, ?_⟩
    rintro _ σ H2 ⟨rfl, rfl⟩
    walk_at "wp"
    refine ⟨cpow _ (by decide) (by decide), iteN (by rw [decide_eq_false big]; decide) ?_⟩
    have hl := tI_len60 n1
    refine ⟨low2 n1, rfl, [], SqL.of upd_same, fun p2 hp2 => ⟨_, rfl, [], SqL.of upd_same, by decide, _, rfl, _, rfl, ?_, ?_⟩⟩
    · rw [str_int, mk_len]
      show (tI n).length + 0 ≤ sizeLine
      exact slc (by omega)
    · have e : Str.ofString (toString n) ++ Txt.join (Str.ofString "") [] = mkS (tI n) := by
        rw [str_int]
        exact (mk_app (tI n) []).trans (by rw [List.append_nil])
      rw [e]
      exact q _ ((Same.new hp).trans (Same.new hp2))
def spSh : Sp := fun vs H Q _ => ∃ n : Int, vs = [.int n] ∧ n.natAbs < 10 ^ 60 ∧ ∀ H', Same H H' → Q (.str (mkS (tI n))) H'
theorem ok_show {f : Addr} {fd : FuncData} (F : Fun K "show_whole" "show_whole" s_show_whole f fd) (T : Txt K mg C) (C_show_whole : Cal P w K mg base "show_whole" 1 spShP) : FnOk P w K mg base CX0 2 f fd ["number"] spSh := by
  have nd := sc_show_whole.nd
  refine F.ok sc_show_whole (fun vs H Q E h => ?_) (fun cdv A outer s H vs Q E hr h => ?_)
  · obtain ⟨n, rfl, _⟩ := h
    rfl
  · obtain ⟨n, rfl, n1, q⟩ := h
    refine ⟨_, (@pss_cons _ _ _ _ _ (@ps_if _ _ _ _ _ _ _ _ (pt_cmpR op_lt (pv 0) pe_int (nomark _)) (@pss_one _ _ _ (@ps_ret _ _ _ _ (@pe_op _ _ _ _ _ _ _ _ op_add_str pe_str (pe_c C_show_whole (hr.mono (by decide)) rfl (@pa_c _ _ _ _ _ (pe_un un_neg (pv 0)) pa_nil (by rfl)))))) pss_nil) (@pss_cons _ _ _ _ _ (ps_set (i := 1) nd rfl (Or.inl rfl) (@pe_lst _ _ _ _ pa_nil)) (@pss_cons _ _ _ _ _ (ps_while PassesOwn.never (pt_cmpR op_ge (pv 0) (@pe_op _ _ _ _ _ _ _ _ op_pow pe_int pe_int) (nomark _)) (@pss_cons _ _ _ _ _ ps_never (@pss_one _ _ _ ps_never))) (@pss_one _ _ _ (@ps_ret _ _ _ _ (@pe_op _ _ _ _ _ _ _ _ op_add_str (pe_cT call_str_int rfl T.n_str boot_str (@pa_c _ _ _ _ _ (pv 0) pa_nil (by rfl))) (pe_bm PySem.F.plainAttrs_str PySem.F.slot_str_join PySem.F.type_str_join mt_join pe_str (@pa_c _ _ _ _ _ (pe_revL K rfl (pv 1) (pe_un un_neg pe_int) (fun _ _ _ q => ⟨1, rfl, q⟩)) pa_nil (by rfl))))))))), ?_⟩
    walk_at "wp"
    by_cases n0 : n < 0
    · refine iteP (decide_eq_true n0) ⟨-n, rfl, by omega, by omega, fun H1 s1 => ?_⟩
      refine ⟨_, rfl, _, rfl, ?_, ?_⟩
      · have hl := tI_len60 (a := -n) (by omega)
        rw [mk_len]
        show 1 + (tI (-n)).length ≤ sizeLine
        exact slc (by omega)
      · have e : Str.ofString "-" ++ mkS (tI (-n)) = mkS (tI n) := by
          have e1 : Str.ofString "-" = mkS [45] := by decide +kernel
          rw [e1, mk_app]
          congr 1
          unfold tI
          rw [if_neg (by omega), if_pos n0, Int.natAbs_neg]
          rfl
        rw [e]
        exact q H1 s1
    have big : ¬ (10 : Int) ^ Int.toNat 64 ≤ n := by
      have : (10 : Int) ^ Int.toNat 64 = ((10 ^ 64 : Nat) : Int) := by decide +kernel
      rw [this]
      have h2 : (10 : Nat) ^ 60 ≤ 10 ^ 64 := by decide +kernel
      omega
    refine iteN (by rw [decide_eq_false (by omega)]; decide) ⟨by decide, fun p hp => ?_⟩
    refine ⟨fun _ σ H2 => σ = [some (.int n), some (.ref p), none] ∧ H2 = upd H p (.lst []), ⟨0, rfl, rfl⟩, ?_⟩
    rintro _ σ H2 ⟨rfl, rfl⟩
    walk_at "wp"
    refine ⟨cpow _ (by decide) (by decide), iteN (by rw [decide_eq_false big]; decide) ?_⟩
    have hl := tI_len60 n1
    refine ⟨low2 n1, rfl, [], SqL.of upd_same, fun p2 hp2 => ⟨_, rfl, [], SqL.of upd_same, by decide, _, rfl, _, rfl, ?_, ?_⟩⟩
    · rw [str_int, mk_len]
      show (tI n).length + 0 ≤ sizeLine
      exact slc (by omega)
    · have e : Str.ofString (toString n) ++ Txt.join (Str.ofString "") [] = mkS (tI n) := by
        rw [str_int]
        exact (mk_app (tI n) []).trans (by rw [List.append_nil])
      rw [e]
      exact q _ ((Same.new hp).trans (Same.new hp2))
def spShN (C : Addr) : Sp := fun vs H Q _ => ∃ (g : Addr) (p : Int) (v : V) (x : Nv), vs = [.ref g, v] ∧ GAt C H g p ∧ NumV H p v x ∧ Bd BB x ∧ ∀ H', Same H H' → Q (.str (mkS (tNum p x))) H'
theorem ok_shn {f : Addr} {fd : FuncData} (F : Fun K "show_number" "show_number" s_show_number f fd) (T : Txt K mg C) (C_show_whole : Cal P w K mg base "show_whole" 2 spSh) : FnOk P w K mg base CX0 3 f fd ["ground", "number"] (spShN C) := by
  have nd := sc_show_number.nd
  refine F.ok sc_show_number (fun vs H Q E h => ?_) (fun cdv A outer s H vs Q E hr h => ?_)
  · obtain ⟨g, p, v, x, rfl, _⟩ := h
    rfl
  · obtain ⟨g, p, v, x, rfl, ⟨dg, hg⟩, nv, bd, q⟩ := h
    refine ⟨_, (@pss_cons _ _ _ _ _ (@ps_if _ _ _ _ _ _ _ _ (pt_cmpR op_ne (pe_fld (pv 0) rfl) pe_int (nomark _)) (@pss_one _ _ _ (@ps_ret _ _ _ _ (pe_c C_show_whole (hr.mono (by decide)) rfl (@pa_c _ _ _ _ _ (pv 1) pa_nil (by rfl))))) pss_nil) (@pss_cons _ _ _ _ _ (ps_asg (pv 1) (@pg_tup _ _ _ _ _ 2 rfl (@pgs_cons _ _ _ _ _ (@pg_name _ _ 2 _ nd rfl (Or.inl rfl) (Or.inl rfl)) (@pgs_cons _ _ _ _ _ (@pg_name _ _ 3 _ nd rfl (Or.inl rfl) (Or.inl rfl)) (@pgs_nil _) (by rfl)) (by rfl)) (by rfl) (by rfl))) (@pss_one _ _ _ (@ps_ret _ _ _ _ (pe_ifExp (pt_cmpR op_eq (pv 3) pe_int (nomark _)) (pe_c C_show_whole (hr.mono (by decide)) rfl (@pa_c _ _ _ _ _ (pv 2) pa_nil (by rfl))) (@pe_op _ _ _ _ _ _ _ _ op_add_str (@pe_op _ _ _ _ _ _ _ _ op_add_str (pe_c C_show_whole (hr.mono (by decide)) rfl (@pa_c _ _ _ _ _ (pv 2) pa_nil (by rfl))) pe_str) (pe_c C_show_whole (hr.mono (by decide)) rfl (@pa_c _ _ _ _ _ (pv 3) pa_nil (by rfl))))))))), ?_⟩
    have b1 : x.1.natAbs < 10 ^ 60 := Nat.lt_of_le_of_lt bd.1 (by decide +kernel)
    have b2 : x.2.natAbs < 10 ^ 60 := Nat.lt_of_le_of_lt bd.2 (by decide +kernel)
    have l1 := tI_len60 b1
    have l2 := tI_len60 b2
    unfold tNum at q
    walk_at "wp"
    refine ⟨_, dg, _, hg, T.cl_Ground, T.nP, _, flds_prime p, rfl, ite2 (fun hc => ?_) (fun hc => ?_)⟩
    · have hp : ¬ p = 0 := by simpa using hc
      obtain rfl := nv.int hp
      rw [if_neg hp] at q
      exact ⟨_, rfl, b1, q⟩
    · have hp : p = 0 := by simpa using hc
      obtain ⟨t, rfl, ht⟩ := nv.ref hp
      rw [if_pos hp] at q
      refine ⟨t, rfl, _, SqT.of ht, rfl, _, _, rfl, _, _, rfl, rfl, rfl, ite2 (fun h1 => ?_) (fun h1 => ?_)⟩
      · have h1 : x.2 = 1 := by simpa using h1
        rw [if_pos h1] at q
        exact ⟨_, rfl, b1, q⟩
      · have h1 : ¬ x.2 = 1 := by simpa using h1
        rw [if_neg h1] at q
        refine ⟨_, rfl, b1, fun H1 s1 => ⟨_, rfl, _, rfl, ?_, _, rfl, b2, fun H2 s2 => ⟨_, rfl, _, rfl, ?_, ?_⟩⟩⟩
        · rw [mk_len]
          show (tI x.1).length + 1 ≤ sizeLine
          exact slc (by omega)
        · have e1 : Str.ofString "/" = mkS [47] := by decide +kernel
          rw [e1, mk_app, mk_len, mk_len, List.length_append]
          show (tI x.1).length + 1 + (tI x.2).length ≤ sizeLine
          exact slc (by omega)
        · have e1 : Str.ofString "/" = mkS [47] := by decide +kernel
          rw [e1, mk_app, mk_app]
          have := q H2 (s1.trans s2)
          rwa [show tI x.1 ++ 47 :: tI x.2 = tI x.1 ++ [47] ++ tI x.2 by simp] at this
def spLsh : Sp := fun vs H Q _ => ∃ (p : Int) (v : V) (x : Nv), vs = [.int p, v] ∧ GroundP p ∧ NumV H p v x ∧ Bd BB x ∧ Q (.str (mkS (tNum p x))) H
theorem ok_lsh {f : Addr} {fd : FuncData} (F : Fun K "_law_shown" "_law_shown" s_law_shown f fd) (T : Txt K mg C) : FnOk P w K mg base CX0 1 f fd ["_law_p", "_law_number_here"] spLsh := by
  have nd := sc_law_shown.nd
  refine F.ok sc_law_shown (fun vs H Q E h => ?_) (fun cdv A outer s H vs Q E hr h => ?_)
  · obtain ⟨p, v, x, rfl, _⟩ := h
    rfl
  · obtain ⟨p, v, x, rfl, hp, nv, bd, q⟩ := h
    have p0 := hp.lo
    refine ⟨_, (@pss_cons _ _ _ _ _ (@ps_if _ _ _ _ _ _ _ _ (pt_cmpR op_gt (pv 0) pe_int (nomark _)) (@pss_one _ _ _ (@ps_ret _ _ _ _ (pe_cT call_str_int rfl T.n_str boot_str (@pa_c _ _ _ _ _ (pv 1) pa_nil (by rfl))))) pss_nil) (@pss_cons _ _ _ _ _ (@ps_if _ _ _ _ _ _ _ _ (pt_cmpR op_eq (@pe_ix _ _ _ _ _ _ _ ix_tup (pv 1) pe_int (fun _ _ => rfl)) pe_int (nomark _)) (@pss_one _ _ _ (@ps_ret _ _ _ _ (pe_cT call_str_int rfl T.n_str boot_str (@pa_c _ _ _ _ _ (@pe_ix _ _ _ _ _ _ _ ix_tup (pv 1) pe_int (fun _ _ => rfl)) pa_nil (by rfl))))) pss_nil) (@pss_one _ _ _ (@ps_ret _ _ _ _ (@pe_op _ _ _ _ _ _ _ _ op_add_str (@pe_op _ _ _ _ _ _ _ _ op_add_str (pe_cT call_str_int rfl T.n_str boot_str (@pa_c _ _ _ _ _ (@pe_ix _ _ _ _ _ _ _ ix_tup (pv 1) pe_int (fun _ _ => rfl)) pa_nil (by rfl))) pe_str) (pe_cT call_str_int rfl T.n_str boot_str (@pa_c _ _ _ _ _ (@pe_ix _ _ _ _ _ _ _ ix_tup (pv 1) pe_int (fun _ _ => rfl)) pa_nil (by rfl)))))))), ?_⟩
    have b1 : x.1.natAbs < 10 ^ 60 := Nat.lt_of_le_of_lt bd.1 (by decide +kernel)
    have b2 : x.2.natAbs < 10 ^ 60 := Nat.lt_of_le_of_lt bd.2 (by decide +kernel)
    have l1 := tI_len60 b1
    have l2 := tI_len60 b2
    unfold tNum at q
    walk_at "wp"
    refine ite2 (fun hc => ?_) (fun hc => ?_)
    · have hc := of_decide_eq_true hc
      have hp : ¬ p = 0 := by omega
      obtain rfl := nv.int hp
      rw [if_neg hp, ← str_int] at q
      exact ⟨_, rfl, low2 b1, q⟩
    · have hc : ¬ 0 < p := fun z => hc (decide_eq_true z)
      have hp : p = 0 := by omega
      obtain ⟨t, rfl, ht⟩ := nv.ref hp
      rw [if_pos hp] at q
      walk_at "wp"
      refine ⟨_, SqT.of ht, _, rfl, rfl, ite2 (fun h1 => ?_) (fun h1 => ?_)⟩
      · have h1 : x.2 = 1 := by simpa using h1
        rw [if_pos h1, ← str_int] at q
        exact ⟨_, SqT.of ht, _, rfl, _, rfl, low2 b1, q⟩
      · have h1 : ¬ x.2 = 1 := by simpa using h1
        rw [if_neg h1] at q
        refine ⟨_, SqT.of ht, _, rfl, _, rfl, low2 b1, ?_⟩
        have e1 : Str.ofString "/" = mkS [47] := by decide +kernel
        refine ⟨_, rfl, _, rfl, ?_, _, SqT.of ht, _, rfl, _, rfl, low2 b2, _, rfl, _, rfl, ?_, ?_⟩
        · rw [str_int, mk_len]
          show (tI x.1).length + 1 ≤ sizeLine
          exact slc (by omega)
        · rw [str_int, str_int, e1, mk_app, mk_len, mk_len, List.length_append]
          show (tI x.1).length + 1 + (tI x.2).length ≤ sizeLine
          exact slc (by omega)
        · rw [str_int, str_int, e1, mk_app, mk_app]
          rwa [show tI x.1 ++ 47 :: tI x.2 = tI x.1 ++ [47] ++ tI x.2 by simp] at q
theorem ascii_tI (a : Int) : ∀ c ∈ tI a, c = 45 ∨ (48 ≤ c ∧ c ≤ 57) := by
  intro c hc
  unfold tI at hc
  split at hc
  · rcases List.mem_cons.mp hc with h | h
    · exact .inl h
    · exact .inr (tN_digits _ c h)
  · exact .inr (tN_digits _ c hc)
theorem figs : sg (Str.ofString "0123456789") = [48, 49, 50, 51, 52, 53, 54, 55, 56, 57] := by decide +kernel
theorem comp_bl_s {z : Str} {D : Addr} {fr : List (Str × Nat)} {σ : L2.St} {te : TE} {H1 : Hp} {Q : VK} (fb : Nat → Bool) (hD : H1 D = none) (hn : z.length ≤ 1000)
    (h : ∀ (i c : Nat) H (Q : VK), (sg z)[i]? = some c → Same H1 H → (∀ H', Same H H' → Q (.bl (fb i)) H') → te (some (.str (mkS [c])) :: capOf fr σ) H Q)
    (hQ : ∀ H', Same H1 H' → H' D = some (.lst (((List.range z.length).map fb).map V.bl)) → Q (.ref D) H') : tBlock (gName 0) tYes te (Its z) D (capS 1 fr σ) H1 Q := by
  refine comp_its (fun i vs H => Same H1 H ∧ H D = some (.lst vs) ∧ vs = ((List.range i).map fb).map V.bl) ⟨Same.new hD, upd_same, rfl⟩ ?_ (fun vs H ⟨s, e, hv⟩ => hQ H s (by rw [e, hv]))
  rintro i c vs σ' H hi hx sh ⟨s, e, rfl⟩
  obtain ⟨z', rfl⟩ := sh.one
  simp only [tTurn, gName, tYes, List.set_cons_zero, if_true]
  refine h i c H _ hx s fun H' s' => ?_
  exact leaf (ws := ((List.range (i + 1)).map fb).map V.bl) hi Sh.mk1 (s' _ _ e) (small1000 (by rw [List.length_map, List.length_map, List.length_range]; omega)) ⟨(s.trans s').upd hD, by rw [upd_same, List.range_succ, List.map_append, List.map_append]; rfl, rfl⟩
theorem minus1 : Str.ofString "-" = mkS [45] := by decide +kernel
theorem starts_minus (l : List Nat) : Txt.startswith (mkS l) (Str.ofString "-") = (l[0]? == some 45) := by
  unfold Txt.startswith
  rw [minus1, StrLaws.subAt_eq]
  show (decide (0 + 1 ≤ (mkS l).length) && ((l.drop 0).take 1 == [45])) = _
  rw [mk_len]
  cases l with
  | nil => rfl
  | cons a r =>
    show (decide (0 + 1 ≤ r.length + 1) && ([a] == [45])) = (some a == some 45)
    have : decide (0 + 1 ≤ r.length + 1) = true := decide_eq_true (by omega)
    rw [this, Bool.true_and]
    by_cases h : a = 45
    · subst h; rfl
    · have h1 : ([a] == [45]) = false := by rw [beq_eq_false_iff_ne]; intro z; injection z with z _; exact h z
      have h2 : (some a == some 45) = false := by rw [beq_eq_false_iff_ne]; intro z; exact h (Option.some.inj z)
      rw [h1, h2]
theorem slash : Str.ofString "/" = mkS [47] := by decide +kernel
theorem part_no {l : List Nat} (h : 47 ∉ l) : partT (mkS l) (Str.ofString "/") = (mkS l, Str.empty, Str.empty) := by
  have h1 := StrLaws.found_one (mkS l) 47
  rw [decide_eq_false (show ¬ 47 ∈ (mkS l).cps.toList from h)] at h1
  unfold partT
  rw [slash]
  cases e : Builtin.Str.occurrences (mkS l) (mkS [47]) 0 (mkS l).length 1 with
  | nil => rfl
  | cons i r =>
    have h2 : (!(Builtin.Str.occurrences (mkS l) ⟨#[47]⟩ 0 (mkS l).length 1).isEmpty) = false := h1
    rw [show (⟨#[47]⟩ : Str) = mkS [47] from rfl, e] at h2
    cases h2
theorem part_yes {a b : List Nat} (h : 47 ∉ a) : partT (mkS (a ++ 47 :: b)) (Str.ofString "/") = (mkS a, mkS [47], mkS b) := by
  have hat : ∀ i, StrLaws.At (mkS (a ++ 47 :: b)) (mkS [47]) (mkS (a ++ 47 :: b)).length i ↔ (a ++ 47 :: b)[i]? = some 47 := fun i => StrLaws.subAt_one (mkS (a ++ 47 :: b)) 47 i
  have hin : (a ++ 47 :: b)[a.length]? = some 47 := by rw [List.getElem?_append_right (Nat.le_refl _), Nat.sub_self]; rfl
  unfold partT
  rw [slash]
  rcases StrLaws.occ_head (mkS (a ++ 47 :: b)) (mkS [47]) 1 (Nat.le_refl _) with ⟨_, hn⟩ | ⟨i, r, e, h1, h2⟩
  · exact absurd ((hat a.length).mpr hin) (hn a.length)
  · have hi : i = a.length := by
      have hi1 := (hat i).mp h1
      rcases Nat.lt_trichotomy i a.length with hlt | heq | hgt
      · rw [List.getElem?_append_left hlt] at hi1
        exact absurd (List.mem_of_getElem? hi1) h
      · exact heq
      · exact absurd ((hat a.length).mpr hin) (h2 a.length hgt)
    rw [e]
    subst hi
    show (Builtin.Str.strSub (mkS (a ++ 47 :: b)) 0 a.length, mkS [47], Builtin.Str.strSub (mkS (a ++ 47 :: b)) (a.length + 1) (mkS (a ++ 47 :: b)).length) = _
    rw [sub_part, sub_part, mk_len]
    congr 2
    · show ((a ++ 47 :: b).drop 0).take (a.length - 0) = a
      rw [List.drop_zero, Nat.sub_zero, List.take_left]
    · congr 1
      show ((a ++ 47 :: b).drop (a.length + 1)).take _ = b
      rw [show a ++ 47 :: b = (a ++ [47]) ++ b by simp, show a.length + 1 = (a ++ [47]).length by simp, List.drop_left]
      exact List.take_of_length_le (by simp; omega)
theorem no47 (a : Int) : 47 ∉ tI a := fun z => by have := ascii_tI a 47 z; omega
end
end Pf
set_option maxHeartbeats 1000000
namespace Pf
open PySem L2 PyProof.Rows
section
variable {P : Program} {w : World} {K : PySem.W.Frag} {mg : Str → Option Value} {base : Heap} {C : Addr} {cc : Cs}
def dig (c : Nat) : Bool := decide (48 ≤ c) && decide (c ≤ 57)
def isW (l : List Nat) : Bool := decide (1 ≤ l.length) && decide (l.length ≤ 30) && l.all dig && (decide (l = [48]) || decide (l[0]? ≠ some 48))
abbrev Asc (l : List Nat) : Prop := ∀ c ∈ l, c < 128
theorem asc_of {l : List Nat} (h : Asc l) : Ascii (mkS l) := ascii_of h
theorem in_figsB (c : Nat) : (!(!(Builtin.Str.occurrences (Str.ofString "0123456789") (mkS [c]) 0 (Str.ofString "0123456789").length 1).isEmpty)) = !dig c := by
  have := StrLaws.found_one (Str.ofString "0123456789") c
  have e : (!(Builtin.Str.occurrences (Str.ofString "0123456789") (mkS [c]) 0 (Str.ofString "0123456789").length 1).isEmpty) = decide (c ∈ [48, 49, 50, 51, 52, 53, 54, 55, 56, 57]) := by
    refine this.trans ?_
    rw [show (Str.ofString "0123456789").cps.toList = _ from figs]
  rw [e]
  congr 1
  unfold dig
  by_cases h : 48 ≤ c ∧ c ≤ 57
  · have h3 : c = 48 ∨ c = 49 ∨ c = 50 ∨ c = 51 ∨ c = 52 ∨ c = 53 ∨ c = 54 ∨ c = 55 ∨ c = 56 ∨ c = 57 := by omega
    rcases h3 with rfl | rfl | rfl | rfl | rfl | rfl | rfl | rfl | rfl | rfl <;> decide
  · have h4 : c ∉ [48, 49, 50, 51, 52, 53, 54, 55, 56, 57] := by simp; omega
    rw [decide_eq_false h4]
    by_cases h5 : 48 ≤ c
    · rw [decide_eq_true h5, decide_eq_false (show ¬ c ≤ 57 by omega)]; rfl
    · rw [decide_eq_false h5]; rfl
theorem str_inj {a b : List Nat} (h : mkS a = mkS b) : a = b := by rw [← sg_mk a, h, sg_mk]
def spWt (NT : Addr) : Sp := fun vs H Q _ => ∃ l : List Nat, vs = [.int 30, .str (mkS l)] ∧ Asc l ∧ l.length ≤ 300 ∧ ∀ H', Same H H' → Q (.bl (isW l)) H'
theorem ok_wt {f : Addr} {fd : FuncData} (F : Fun K "is_written" "is_written" s_is_written f fd) (T : Txt K mg C) : FnOk P w K mg base CX0 1 f fd ["most", "text"] (spWt NT) := by
  have nd := sc_is_written.nd
  refine F.ok sc_is_written (fun vs H Q E h => ?_) (fun cdv A outer s H vs Q E hr h => ?_)
  · obtain ⟨l, rfl, _⟩ := h
    rfl
  · obtain ⟨l, rfl, asc, h300, q⟩ := h
    refine ⟨_, (@pss_cons _ _ _ _ _ (@ps_if _ _ _ _ _ _ _ _ (PW.pt (pw_or (pt_not (pt_chain op_le op_le pe_int (pe_cB call_len_str rfl T.n_len PySem.boot_len (@pa_c _ _ _ _ _ (pv 1) pa_nil (by rfl))) (pv 0))) (pw_or1 (pt_val (pe_cB (call_any rfl) rfl T.n_any boot_any (@pa_c _ _ _ _ _ (pe_comp (own := ["sign"]) (fr := []) rfl (bl_of (by kernel_rfl)) (pi_str (pv 1)) (fun _ _ _ _ => ⟨(@pg_name _ _ 0 _ (show (["sign"] : List Str).Nodup by decide +kernel) rfl (Or.inl rfl) (Or.inr rfl)), pts_nil, (pe_cmpR op_notin_str (pv 0) (pe_globS rfl T.g_FIGURES) (by with_unfolding_all rfl))⟩)) pa_nil (by rfl))))))) (@pss_one _ _ _ (@ps_ret _ _ _ _ pe_bl)) pss_nil) (@pss_one _ _ _ (@ps_ret _ _ _ _ (pe_or (pe_cmpR op_eq (pv 1) pe_str (nomark _)) (pe_one (pe_cmpR op_ne (@pe_ix _ _ _ _ _ _ _ ix_str (pv 1) pe_int (fun _ _ => rfl)) pe_str (nomark _))))))), ?_⟩
    walk_at "wp"
    have hl := mk_len l
    have no : isW l = false → ∀ H', Same H H' → Q (.bl false) H' := fun e H' s' => by rw [← e]; exact q H' s'
    have zero : Str.ofString "0" = mkS [48] := by decide +kernel
    refine ⟨_, rfl, by rw [hl]; exact slc (by omega), ite2 (fun h1 => ?_) (fun h1 => iteP rfl (no ?_ H (Same.refl _)))⟩
    rotate_left
    · have : ¬ 1 ≤ l.length := fun z => h1 (decide_eq_true (by rw [hl]; omega))
      unfold isW
      rw [decide_eq_false this]
      rfl
    have h1' : 1 ≤ l.length := by have := of_decide_eq_true h1; rw [hl] at this; omega
    refine ite2 (fun h2 => no ?_ H (Same.refl _)) (fun h2 => ?_)
    · have : ¬ l.length ≤ 30 := fun z => by rw [hl, decide_eq_true (by omega)] at h2; cases h2
      unfold isW
      rw [decide_eq_false this, Bool.and_false]
      rfl
    have h2' : l.length ≤ 30 := by
      have := h2
      rw [hl] at this
      by_cases z : ((l.length : Nat) : Int) ≤ 30
      · omega
      · rw [decide_eq_false z] at this; exact absurd rfl this
    refine ⟨_, rfl, _, rfl, asc_of asc, fun D hD => comp_bl_s (fun i => !dig (l.getD i 0)) hD (by rw [hl]; omega) (fun i c H' Q' hc s' q' => ?_) fun H1 s1 e1 => ?_⟩
    · refine ⟨_, rfl, _, rfl, _, rfl, ?_⟩
      rw [in_figsB]
      have hc' : l[i]? = some c := hc
      have := q' H' (Same.refl _)
      rwa [List.getD_eq_getElem?_getD, hc'] at this
    · have hall : (((List.range (mkS l).length).map fun i => !dig (l.getD i 0)).any id) = !(l.all dig) := by
        rw [hl, Bool.eq_iff_iff, List.any_eq_true]
        constructor
        · rintro ⟨b, hb, hb2⟩
          obtain ⟨i, hi, rfl⟩ := List.mem_map.mp hb
          have hi := List.mem_range.mp hi
          rw [List.getD_eq_getElem?_getD, List.getElem?_eq_getElem hi] at hb2
          rw [Bool.not_eq_true', List.all_eq_false]
          exact ⟨_, List.getElem_mem hi, by simpa using hb2⟩
        · intro h
          rw [Bool.not_eq_true', List.all_eq_false] at h
          obtain ⟨c, hc, hd⟩ := h
          obtain ⟨i, hi, rfl⟩ := List.mem_iff_getElem.mp hc
          exact ⟨_, List.mem_map.mpr ⟨i, List.mem_range.mpr hi, rfl⟩, by rw [List.getD_eq_getElem?_getD, List.getElem?_eq_getElem hi]; simpa using hd⟩
      refine ⟨D, rfl, _, SqL.of e1, ?_⟩
      rw [hall]
      refine ite2 (fun h3 => no ?_ H1 s1) (fun h3 => ?_)
      · have : l.all dig = false := by simpa using h3
        unfold isW
        rw [this, Bool.and_false]
        rfl
      have h3' : l.all dig = true := by simpa using h3
      have base : isW l = (decide (l = [48]) || decide (l[0]? ≠ some 48)) := by
        unfold isW
        rw [decide_eq_true h1', decide_eq_true h2', h3']
        rfl
      rw [base] at q
      refine ite2 (fun h4 => ?_) (fun h4 => ?_)
      · have h4 := of_decide_eq_true h4
        rw [zero] at h4
        have := q H1 s1
        rwa [decide_eq_true (str_inj (V.str.inj h4))] at this
      · have n4 : l ≠ [48] := fun z => h4 (decide_eq_true (by rw [z, zero]))
        have e0 : l[0]? = some (l[0]'(by omega)) := List.getElem?_eq_getElem (by omega)
        refine ⟨_, rfl, by rw [hl]; exact slc (by omega), l[0]'(by omega), atI_at (by decide) e0, ?_⟩
        have := q H1 s1
        rw [decide_eq_false n4, Bool.false_or, e0] at this
        have e5 : (!decide (V.str ⟨#[l[0]'(by omega)]⟩ = V.str (Str.ofString "0"))) = decide (some (l[0]'(by omega)) ≠ some 48) := by
          rw [zero]
          by_cases z : l[0]'(by omega) = 48
          · rw [z]; rfl
          · rw [decide_eq_false (fun y => z (by have := str_inj (a := [l[0]'(by omega)]) (b := [48]) (V.str.inj y); injection this)), decide_eq_true (show some (l[0]'(by omega)) ≠ some 48 from fun y => z (Option.some.inj y))]
            rfl
        rw [e5]
        exact this
abbrev vW (l : List Nat) : Nat := PySem.NumText.digitsVal l
theorem isW_parts {l : List Nat} (h : isW l = true) : 1 ≤ l.length ∧ l.length ≤ 30 ∧ ∀ c ∈ l, 48 ≤ c ∧ c ≤ 57 := by
  unfold isW at h
  rw [Bool.and_eq_true, Bool.and_eq_true, Bool.and_eq_true] at h
  obtain ⟨⟨⟨h1, h2⟩, h3⟩, _⟩ := h
  refine ⟨of_decide_eq_true h1, of_decide_eq_true h2, fun c hc => ?_⟩
  have := List.all_eq_true.mp h3 c hc
  unfold dig at this
  rw [Bool.and_eq_true] at this
  exact ⟨of_decide_eq_true this.1, of_decide_eq_true this.2⟩
def spRw (NT : Addr) : Sp := fun vs H Q E => ∃ l : List Nat, vs = [.str (mkS l)] ∧ Asc l ∧ l.length ≤ 300 ∧ (isW l = false → ∀ H', Same H H' → E (.ref NT) none H') ∧ (isW l = true → ∀ H', Same H H' → Q (.int (vW l : Nat)) H')
theorem ok_rw {f : Addr} {fd : FuncData} (F : Fun K "read_whole" "read_whole" s_read_whole f fd) (T : Txt K mg C) (XT : Xt K mg base cc) (C_is_written : Cal P w K mg base "is_written" 1 (spWt NT)) : FnOk P w K mg base (CXe P w) 2 f fd ["text"] (spRw cc.NoText) := by
  have nd := sc_read_whole.nd
  refine F.okE sc_read_whole (fun vs H Q E h => ?_) (fun cdv A outer s H vs Q E hr h => ?_)
  · obtain ⟨l, rfl, _⟩ := h
    rfl
  · obtain ⟨l, rfl, asc, h300, hE, q⟩ := h
    refine ⟨_, (@pss_cons _ _ _ _ _ (@ps_if _ _ _ _ _ _ _ _ (pt_not (pt_val (pe_c C_is_written (hr.mono (by decide)) rfl (@pa_c _ _ _ _ _ (pe_globI rfl T.g_MOST_FIGURES) (@pa_c _ _ _ _ _ (pv 0) pa_nil (by rfl)) (by rfl))))) (@pss_one _ _ _ (ps_rse XT.o_NoText rfl (@pa_c _ _ _ _ _ pe_str pa_nil (by rfl)))) pss_nil) (@pss_one _ _ _ (@ps_ret _ _ _ _ (pe_cT call_int_txt rfl T.n_int boot_int (@pa_c _ _ _ _ _ (pv 0) pa_nil (by rfl)))))), ?_⟩
    walk_at "wp"
    refine ⟨l, rfl, asc, h300, fun H1 s1 => ⟨_, rfl, ?_⟩⟩
    cases e : isW l with
    | false => exact iteP rfl ⟨by decide, hE e H1 s1⟩
    | true =>
      obtain ⟨p1, p2, p3⟩ := isW_parts e
      have hl := mk_len l
      refine iteN (by decide) ⟨_, rfl, (vW l : Nat), ?_, by rw [hl]; omega, q e H1 s1⟩
      exact PySem.intText_digits (x := mkS l) p3 (fun z => by rw [show l = [] from z] at p1; simp at p1) (by rw [hl]; omega)
def rdT (l : List Nat) : Option Int := if l[0]? = some 45 then (if isW (l.drop 1) = true ∧ vW (l.drop 1) ≠ 0 then some (-(vW (l.drop 1) : Nat)) else none) else (if isW l = true then some ((vW l : Nat) : Int) else none)
def spRtop (NT : Addr) : Sp := fun vs H Q E => ∃ l : List Nat, vs = [.str (mkS l)] ∧ Asc l ∧ l.length ≤ 300 ∧ (rdT l = none → ∀ H', Same H H' → E (.ref NT) none H') ∧ (∀ a, rdT l = some a → ∀ H', Same H H' → Q (.int a) H')
theorem cut_one (l : List Nat) : cutT (mkS l) (some 1) none = mkS (l.drop 1) := by
  unfold cutT
  rw [mk_len]
  have e2 : HT.sIx l.length l.length none = l.length := rfl
  rw [e2]
  cases l with
  | nil => rfl
  | cons a r =>
    have e1 : HT.sIx (a :: r).length 0 (some 1) = 1 := by
      simp only [HT.sIx]
      rw [if_neg (by decide)]
      rw [List.length_cons]
      omega
    rw [e1]
    show mkS (r.take (r.length + 1 - 1)) = mkS r
    rw [Nat.add_sub_cancel, List.take_length]
theorem ok_rtop {f : Addr} {fd : FuncData} (F : Fun K "read_top" "read_top" s_read_top f fd) (T : Txt K mg C) (XT : Xt K mg base cc) (C_read_whole : CalE P w K mg base "read_whole" 2 (spRw cc.NoText)) : FnOk P w K mg base (CXe P w) 3 f fd ["text"] (spRtop cc.NoText) := by
  have nd := sc_read_top.nd
  refine F.okE sc_read_top (fun vs H Q E h => ?_) (fun cdv A outer s H vs Q E hr h => ?_)
  · obtain ⟨l, rfl, _⟩ := h
    rfl
  · obtain ⟨l, rfl, asc, h300, hE, q⟩ := h
    refine ⟨_, (@pss_cons _ _ _ _ _ (@ps_if _ _ _ _ _ _ _ _ (pt_not (pt_val (pe_bm PySem.F.plainAttrs_str PySem.F.slot_str_startswith PySem.F.type_str_startswith mt_starts (pv 0) (@pa_c _ _ _ _ _ pe_str pa_nil (by rfl))))) (@pss_one _ _ _ (@ps_ret _ _ _ _ (pe_cE C_read_whole (pass_on (E' := E) (fun _ _ _ h => h)) (hr.mono (by decide)) rfl (@pa_c _ _ _ _ _ (pv 0) pa_nil (by rfl))))) pss_nil) (@pss_cons _ _ _ _ _ (ps_set (i := 1) nd rfl (Or.inl rfl) (pe_cE C_read_whole (pass_on (E' := E) (fun _ _ _ h => h)) (hr.mono (by decide)) rfl (@pa_c _ _ _ _ _ (@pe_slice _ _ _ _ _ _ _ _ _ _ sl_str (pv 0) (@po_some _ _ _ pe_int) po_none) pa_nil (by rfl)))) (@pss_cons _ _ _ _ _ (@ps_if _ _ _ _ _ _ _ _ (pt_cmpR op_eq (pv 1) pe_int (nomark _)) (@pss_one _ _ _ (ps_rse XT.o_NoText rfl (@pa_c _ _ _ _ _ pe_str pa_nil (by rfl)))) pss_nil) (@pss_one _ _ _ (@ps_ret _ _ _ _ (pe_un un_neg (pv 1))))))), ?_⟩
    walk_at "wp"
    refine ⟨rfl, _, rfl, _, rfl, ?_⟩
    rw [starts_minus]
    unfold rdT at hE q
    by_cases h : l[0]? = some 45
    · rw [if_pos h] at hE q
      refine iteN (by rw [h]; decide) ⟨_, rfl, by rw [mk_len]; exact slc (by omega), ?_⟩
      rw [cut_one]
      refine ⟨l.drop 1, rfl, fun c hc => asc c (List.mem_of_mem_drop hc), by rw [List.length_drop]; omega, fun e H1 s1 => hE (if_neg (fun z => by rw [e] at z; cases z.1)) H1 s1, fun e H1 s1 => ⟨rfl, ite2 (fun hz => ⟨by decide, hE (if_neg (fun z => ?_)) H1 s1⟩) (fun hz => ⟨_, rfl, q _ (if_pos ⟨e, fun z => ?_⟩) H1 s1⟩)⟩⟩
      · have := V.int.inj (of_decide_eq_true hz)
        exact z.2 (by omega)
      · exact hz (decide_eq_true (by rw [z]; rfl))
    · rw [if_neg h] at hE q
      refine iteP (by rw [beq_eq_false_iff_ne.mpr h]; rfl) ⟨l, rfl, asc, h300, fun e H1 s1 => hE (if_neg (by rw [e]; decide)) H1 s1, fun e H1 s1 => q _ (if_pos e) H1 s1⟩
def joinP (a : List Nat) : Option (List Nat) → List Nat
  | none => a
  | some b => a ++ 47 :: b
def rdP (a : List Nat) : Option (List Nat) → Option (Int × Int)
  | none => (rdT a).map fun t => (t, 1)
  | some b => if isW b = true then (rdT a).map fun t => (t, ((vW b : Nat) : Int)) else none
def IsV (H : Hp) (p : Int) (x : Int × Int) (v : V) : Prop := (p = 0 → NumV H p v (nrmZ x.1 x.2)) ∧ (p ≠ 0 → ∃ r, v = .int r ∧ 0 ≤ r ∧ r < p ∧ (r * x.2 - x.1) % p = 0)
def BadP (p : Int) (a : List Nat) (b : Option (List Nat)) : Prop := ∀ x, rdP a b = some x → Bad p x.2
theorem fold_lt : ∀ (l : List Nat) (k : Nat), (∀ c ∈ l, c ≤ 57) → l.foldl (fun a c => a * 10 + (c - 48)) k < (k + 1) * 10 ^ l.length
  | [], k, _ => by simp
  | c :: l, k, h => by
    have h1 := h c (by simp)
    have h2 := fold_lt l (k * 10 + (c - 48)) fun d hd => h d (by simp [hd])
    rw [List.foldl_cons, List.length_cons, Nat.pow_succ]
    refine Nat.lt_of_lt_of_le h2 ?_
    have h3 : k * 10 + (c - 48) + 1 ≤ (k + 1) * 10 := by omega
    calc (k * 10 + (c - 48) + 1) * 10 ^ l.length ≤ (k + 1) * 10 * 10 ^ l.length := Nat.mul_le_mul_right _ h3
      _ = (k + 1) * (10 ^ l.length * 10) := by rw [Nat.mul_assoc, Nat.mul_comm 10]
theorem vW_lt {l : List Nat} (h : isW l = true) : vW l < 1000000000000000000000000000000 := by
  obtain ⟨_, p2, p3⟩ := isW_parts h
  have h1 := fold_lt l 0 fun c hc => (p3 c hc).2
  have h2 : 10 ^ l.length ≤ 10 ^ 30 := Nat.pow_le_pow_right (by decide) p2
  have h3 : (10 : Nat) ^ 30 = 1000000000000000000000000000000 := by decide +kernel
  have h4 : vW l < (0 + 1) * 10 ^ l.length := h1
  omega
theorem rdT_med {l : List Nat} {a : Int} (h : rdT l = some a) : Med30 a := by
  unfold Med30
  unfold rdT at h
  split at h
  · split at h
    · rename_i h2
      have := vW_lt h2.1
      cases h
      omega
    · cases h
  · split at h
    · rename_i h2
      have := vW_lt h2
      cases h
      omega
    · cases h
end
end Pf
set_option maxHeartbeats 1000000
namespace Pf
open PySem L2 PyProof.Rows
section
variable {P : Program} {w : World} {K : PySem.W.Frag} {mg : Str → Option Value} {base : Heap} {C : Addr} {cc : Cs}
def spRnE (C NT : Addr) : Sp := fun vs H Q E => ∃ (g : Addr) (p : Int) (a : List Nat) (b : Option (List Nat)), vs = [.ref g, .str (mkS (joinP a b))] ∧ 47 ∉ a ∧ Asc (joinP a b) ∧ (joinP a b).length ≤ 300 ∧ GAt C H g p ∧ GroundP p ∧ (BadP p a b → ∀ H', Same H H' → E (.ref NT) none H' ∧ E (.ref NT) (some 0) H') ∧
  ∀ x, rdP a b = some x → ¬ Bad p x.2 → ∀ v H', Same H H' → IsV H' p x v → Q v H'
theorem ok_rnE {f : Addr} {fd : FuncData} (F : Fun K "read_number" "read_number" s_read_number f fd) (T : Txt K mg C) (XT : Xt K mg base cc) (C_read_top : CalE P w K mg base "read_top" 3 (spRtop cc.NoText)) (C_read_whole : CalE P w K mg base "read_whole" 2 (spRw cc.NoText)) (C_Ground_number_F : CalDE P w K mg base C "number" 3 (spNumbE C cc.NoNumber) []) : FnOk P w K mg base (CXe P w) 4 f fd ["ground", "text"] (spRnE C cc.NoText) := by
  have nd := sc_read_number.nd
  refine F.okE sc_read_number (fun vs H Q E h => ?_) (fun cdv A outer s H vs Q E hr h => ?_)
  · obtain ⟨g, p, a, b, rfl, _⟩ := h
    rfl
  · obtain ⟨g, p, a, b, rfl, n47, asc, h300, hg, hp, hE, q⟩ := h
    refine ⟨_, (@pss_cons _ _ _ _ _ (ps_asg (pe_bm PySem.F.plainAttrs_str PySem.F.slot_str_partition PySem.F.type_str_partition mt_part (pv 1) (@pa_c _ _ _ _ _ pe_str pa_nil (by rfl))) (@pg_tup _ _ _ _ _ 3 rfl (@pgs_cons _ _ _ _ _ (@pg_name _ _ 2 _ nd rfl (Or.inl rfl) (Or.inl rfl)) (@pgs_cons _ _ _ _ _ (@pg_name _ _ 3 _ nd rfl (Or.inl rfl) (Or.inl rfl)) (@pgs_cons _ _ _ _ _ (@pg_name _ _ 4 _ nd rfl (Or.inl rfl) (Or.inl rfl)) (@pgs_nil _) (by rfl)) (by rfl)) (by rfl)) (by rfl) (by rfl))) (@pss_cons _ _ _ _ _ (ps_set (i := 5) nd rfl (Or.inl rfl) (pe_cE C_read_top (pass_on (E' := E) (fun _ _ _ h => h)) (hr.mono (by decide)) rfl (@pa_c _ _ _ _ _ (pv 2) pa_nil (by rfl)))) (@pss_cons _ _ _ _ _ (ps_set (i := 6) nd rfl (Or.inl rfl) (pe_ifExp (pt_truth (pv 3) (fun _ => rfl)) (pe_cE C_read_whole (pass_on (E' := E) (fun _ _ _ h => h)) (hr.mono (by decide)) rfl (@pa_c _ _ _ _ _ (pv 4) pa_nil (by rfl))) pe_int)) (@pss_one _ _ _ (ps_tryN (E' := (fun c o H' => c = .ref cc.NoNumber ∧ o = none ∧ Same H H' ∧ BadP p a b)) (fun pins xt hps => (@pss_one _ _ _ (@ps_ret _ _ _ _ (pe_mthDE T.cl_Ground C_Ground_number_F hps (hr.mono (by decide)) (pv 0) (@pa_c _ _ _ _ _ (pv 5) (@pa_c _ _ _ _ _ (pv 6) pa_nil (by rfl)) (by rfl)))))) (fun pins a => (@pa_c _ _ _ _ _ pe_str pa_nil (by rfl))) rfl rfl XT.o_NoNumber (by decide) XT.o_NoText (fun c H' h => h.1) (fun c H' h => by cases h.2.1)))))), ?_⟩
    have body : ∀ (v2 v3 v4 : Option V) (t bt : Int) (H2 : Hp), Same H H2 → Med30 t → Med30 bt → rdP a b = some (t, bt) → tTryN cc.NoText E (fun c o H' => c = Value.ref cc.NoNumber ∧ o = none ∧ Same H H' ∧ BadP p a b) (tRet (tMeth C (Str.ofString "number") (spNumbE C cc.NoNumber) [] (fun c o H' => c = Value.ref cc.NoNumber ∧ o = none ∧ Same H H' ∧ BadP p a b) (tVar 0) (tCons (tVar 5) (tCons (tVar 6) tNil)))) (tCons (tC (V.str (Str.ofString "a bottom is nothing that gives no number"))) tNil)
        { nx := fun x H' => Q V.non H', rt := Q } [some (V.ref g), some (V.str (mkS (joinP a b))), v2, v3, v4, some (.int t), some (.int bt)] H2 := by
      intro v2 v3 v4 t bt H2 s2 mt mb e
      have no : ∀ {m : Str}, ¬ m = "prime" → (flds p).lookup m = none := fun h => flds_no p h
      obtain ⟨dx, hg0⟩ := hg
      refine ⟨?_, fun cls H' a' σ' hE' ha hl => ?_⟩
      · walk_at "wp"
        exact ⟨dx, _, s2 _ _ hg0, no (by decide +kernel), g, p, t, bt, rfl, ⟨dx, s2 _ _ hg0⟩, hp, mt, mb, fun hb => ⟨rfl, rfl, s2, fun x ex => by rw [e] at ex; cases ex; exact hb⟩, fun nb p0 tt htt => q _ e nb _ _ (s2.trans (Same.new htt)) ⟨fun _ => NumV.tup p0 upd_same, fun z => absurd p0 z⟩, fun nb pn r H' s' r0 r1 r2 => q _ e nb _ H' (s2.trans s') ⟨fun z => absurd z pn, fun _ => ⟨r, rfl, r0, r1, r2⟩⟩⟩
      · obtain ⟨rfl, _, sH, bp⟩ := hE'
        have s3 := sH.trans (Same.new (o := isExcN a' (.ref cc.NoNumber)) ha)
        simp only [tCons, tC, tNil]
        exact ⟨by decide, (hE bp _ s3).1, (hE bp _ s3).2, upd_same⟩
    walk_at "wp"
    have hlen := mk_len (joinP a b)
    have asca : Asc a := fun c hc => asc c (by cases b <;> simp [joinP, hc])
    have lena : a.length ≤ 300 := by cases b <;> simp [joinP] at h300 <;> omega
    refine ⟨rfl, _, rfl, _, rfl, by decide, by rw [hlen]; exact slc (by omega), fun t ht => ?_⟩
    have hd0 : ∀ {H'}, Same H H' → rdT a = none → E (.ref cc.NoText) none H' := fun {H'} s' e => (hE (fun x ex => by cases b <;> simp [rdP, e] at ex) H' s').1
    cases b with
    | none =>
      rw [show joinP a none = a from rfl, part_no n47]
      have sN := Same.new (o := .tup [V.str (mkS a), V.str Str.empty, V.str Str.empty]) ht
      refine ⟨_, SqT.of upd_same, rfl, _, _, rfl, _, _, rfl, _, _, rfl, rfl, a, rfl, asca, lena, fun e H1 s1 => hd0 (sN.trans s1) e, fun tp e H1 s1 => ⟨false, ⟨(show 0 ≤ sizeLine from Nat.zero_le _), rfl⟩, iteN (by decide) ?_⟩⟩
      exact body _ _ _ tp 1 H1 (sN.trans s1) (rdT_med e) (by unfold Med30; decide) (by show (rdT a).map _ = _; rw [e]; rfl)
    | some b =>
      have ascb : Asc b := fun c hc => asc c (by simp [joinP, hc])
      have lenb : b.length ≤ 300 := by simp [joinP] at h300; omega
      rw [show joinP a (some b) = a ++ 47 :: b from rfl, part_yes n47]
      have sN := Same.new (o := .tup [V.str (mkS a), V.str (mkS [47]), V.str (mkS b)]) ht
      refine ⟨_, SqT.of upd_same, rfl, _, _, rfl, _, _, rfl, _, _, rfl, rfl, a, rfl, asca, lena, fun e H1 s1 => hd0 (sN.trans s1) e, fun tp e H1 s1 => ⟨true, ⟨(show 1 ≤ sizeLine by decide), rfl⟩, iteP rfl ⟨b, rfl, ascb, lenb, fun eb H2 s2 => ?_, fun eb H2 s2 => ?_⟩⟩⟩
      · exact (hE (fun x ex => by rw [show rdP a (some b) = none from if_neg (by rw [eb]; decide)] at ex; cases ex) H2 ((sN.trans s1).trans s2)).1
      · have := vW_lt eb
        exact body _ _ _ tp _ H2 ((sN.trans s1).trans s2) (rdT_med e) (by unfold Med30; omega) (by show (if isW b = true then (rdT a).map _ else none) = _; rw [if_pos eb, e]; rfl)
end
end Pf
set_option maxHeartbeats 1000000
namespace Pf
open PySem L2 PyProof.Rows
section
variable {P : Program} {w : World} {K : PySem.W.Frag} {mg : Str → Option Value} {base : Heap} {C : Addr} {cc : Cs}
theorem cut1 {A X : TS} {D : Ends} {σ : L2.St} {H : Hp} (h : ∀ X', X' = X → tSeq A X' D σ H) : tSeq A X D σ H := h X rfl
theorem mul30 {n k : Int} (h : n.natAbs < 10 ^ 40 ∧ k.natAbs < 10 ^ 40) : IntMulOk n k := mulL (Nat.lt_of_lt_of_le h.1 (by decide +kernel)) (Nat.lt_of_lt_of_le h.2 (by decide +kernel))
def spLrw : Sp := fun vs H Q _ => ∃ l : List Nat, vs = [.str (mkS l)] ∧ Asc l ∧ l.length ≤ 300 ∧ ∀ H', Same H H' → Q (if isW l = true then .int (vW l : Nat) else .non) H'
theorem ok_lrw {f : Addr} {fd : FuncData} (F : Fun K "_law_read_whole" "_law_read_whole" s_law_read_whole f fd) (T : Txt K mg C) : FnOk P w K mg base CX0 1 f fd ["_law_text"] spLrw := by
  have nd := sc_law_read_whole.nd
  refine F.ok sc_law_read_whole (fun vs H Q E h => ?_) (fun cdv A outer s H vs Q E hr h => ?_)
  · obtain ⟨l, rfl, _⟩ := h
    rfl
  · obtain ⟨l, rfl, asc, h300, q⟩ := h
    refine ⟨_, (@pss_cons _ _ _ _ _ (@ps_if _ _ _ _ _ _ _ _ (PW.pt (pw_or (pt_cmpR op_lt (pe_cB call_len_str rfl T.n_len PySem.boot_len (@pa_c _ _ _ _ _ (pv 0) pa_nil (by rfl))) pe_int (nomark _)) (pw_or (pt_cmpR op_gt (pe_cB call_len_str rfl T.n_len PySem.boot_len (@pa_c _ _ _ _ _ (pv 0) pa_nil (by rfl))) pe_int (nomark _)) (pw_or1 (PW.pt (pw_and (pt_cmpR op_eq (@pe_ix _ _ _ _ _ _ _ ix_str (pv 0) pe_int (fun _ _ => rfl)) pe_str (nomark _)) (pw_and1 (pt_cmpR op_gt (pe_cB call_len_str rfl T.n_len PySem.boot_len (@pa_c _ _ _ _ _ (pv 0) pa_nil (by rfl))) pe_int (nomark _))))))))) (@pss_one _ _ _ (@ps_ret _ _ _ _ pe_non)) pss_nil) (@pss_cons _ _ _ _ _ (ps_set (i := 1) nd rfl (Or.inl rfl) pe_int) (@pss_cons _ _ _ _ _ (ps_for PassesOwn.never rfl (pi_str (pv 0)) (@pg_name _ _ 2 _ nd rfl (Or.inl rfl) (Or.inl rfl)) (@pss_cons _ _ _ _ _ (@ps_if _ _ _ _ _ _ _ _ (pt_cmpR op_notin_str (pv 2) pe_str (by with_unfolding_all rfl)) (@pss_one _ _ _ (@ps_ret _ _ _ _ pe_non)) pss_nil) (@pss_one _ _ _ (ps_set (i := 1) nd rfl (Or.inl rfl) (@pe_op _ _ _ _ _ _ _ _ op_add (@pe_op _ _ _ _ _ _ _ _ op_mulG (pv 1) pe_int) (pe_bm PySem.F.plainAttrs_str PySem.F.slot_str_index PySem.F.type_str_index mt_indexS pe_str (@pa_c _ _ _ _ _ (pv 2) pa_nil (by rfl)))))))) (@pss_one _ _ _ (@ps_ret _ _ _ _ (pv 1)))))), ?_⟩
    refine cut1 fun X hX => ?_
    walk_at "wp"
    have hl := mk_len l
    have zero : Str.ofString "0" = mkS [48] := by decide +kernel
    have no : isW l = false → ∀ H', Same H H' → Q .non H' := fun e H' s' => by have := q H' s'; rwa [e] at this
    have go : 1 ≤ l.length → l.length ≤ 30 → (l = [48] ∨ l[0]? ≠ some 48) → X { nx := fun x H' => Q V.non H', rt := Q } [some (V.str (mkS l)), none, none] H := by
      intro h1 h30 hz
      subst hX
      walk_at "wp"
      refine ⟨_, rfl, _, rfl, asc_of asc, for_str (z := mkS l) (fun i σ H2 => ∃ v2 : Option V, H2 = H ∧ σ = [some (V.str (mkS l)), some (.int (vW (l.take i) : Nat)), v2] ∧ ∀ c ∈ l.take i, dig c = true) ⟨none, rfl, rfl, by simp⟩ ?_ ?_⟩
      · rintro i c σ H2 hc ⟨v2, rfl, rfl, hd⟩
        have hc' : l[i]? = some c := hc
        have hi : i < l.length := (List.getElem?_eq_some_iff.mp hc').1
        have et : l.take (i + 1) = l.take i ++ [c] := by rw [List.take_add_one, hc']; rfl
        walk_at "wp"
        refine ⟨_, rfl, _, rfl, ?_⟩
        rw [in_figsB]
        cases hcd : dig c with
        | false =>
          refine iteP rfl (no ?_ H2 (Same.refl _))
          have : l.all dig = false := List.all_eq_false.mpr ⟨c, List.mem_of_getElem? hc', by rw [hcd]; decide⟩
          unfold isW
          rw [this, Bool.and_false]
          rfl
        | true =>
          have hcr : 48 ≤ c ∧ c ≤ 57 := by
            unfold dig at hcd
            rw [Bool.and_eq_true] at hcd
            exact ⟨of_decide_eq_true hcd.1, of_decide_eq_true hcd.2⟩
          have hv : vW (l.take i) < 10 ^ 30 := by
            have a1 := fold_lt (l.take i) 0 fun d hd' => by
              have := hd d hd'
              unfold dig at this
              rw [Bool.and_eq_true] at this
              exact of_decide_eq_true this.2
            have a2 : (l.take i).length ≤ 30 := by rw [List.length_take]; omega
            have a3 : 10 ^ (l.take i).length ≤ 10 ^ 30 := Nat.pow_le_pow_right (by decide) a2
            have a4 : vW (l.take i) < (0 + 1) * 10 ^ (l.take i).length := a1
            omega
          refine iteN (by decide) ?_
          have hi1 : Builtin.Str.occurrences (Str.ofString "0123456789") (mkS [c]) 0 (Str.ofString "0123456789").length 1 = [c - 48] := by
            have h3 : c = 48 ∨ c = 49 ∨ c = 50 ∨ c = 51 ∨ c = 52 ∨ c = 53 ∨ c = 54 ∨ c = 55 ∨ c = 56 ∨ c = 57 := by omega
            rcases h3 with rfl | rfl | rfl | rfl | rfl | rfl | rfl | rfl | rfl | rfl <;> decide +kernel
          have ev : vW (l.take (i + 1)) = vW (l.take i) * 10 + (c - 48) := by
            rw [et]
            show (l.take i ++ [c]).foldl _ 0 = (l.take i).foldl _ 0 * 10 + (c - 48)
            rw [List.foldl_append]
            rfl
          refine ⟨mul30 ⟨by omega, by decide +kernel⟩, rfl, _, rfl, _, rfl, _, _, hi1, _, ⟨by rw [ev]; push_cast; rfl, rfl⟩, fun d hd' => ?_⟩
          rw [et] at hd'
          rcases List.mem_append.mp hd' with z | z
          · exact hd d z
          · rw [List.mem_singleton.mp z]; exact hcd
      · rintro σ H2 ⟨v2, rfl, rfl, hd⟩
        rw [hl, List.take_length] at hd
        rw [hl, List.take_length]
        have e : isW l = true := by
          unfold isW
          rw [decide_eq_true h1, decide_eq_true h30, List.all_eq_true.mpr hd]
          rcases hz with hz | hz
          · rw [decide_eq_true hz]; rfl
          · rw [decide_eq_true hz, Bool.or_true]; rfl
        have := q H2 (Same.refl _)
        rw [e] at this
        exact ⟨_, rfl, this⟩
    have hz : (mkS l).length ≤ sizeLine := by rw [hl]; exact slc (by omega)
    refine ⟨_, rfl, hz, ite2 (fun h1 => no ?_ H (Same.refl _)) (fun h1 => ⟨_, rfl, hz, ite2 (fun h2 => no ?_ H (Same.refl _)) (fun h2 => ?_)⟩)⟩
    · have := of_decide_eq_true h1
      rw [hl] at this
      unfold isW
      rw [decide_eq_false (show ¬ 1 ≤ l.length by omega)]
      rfl
    · have := of_decide_eq_true h2
      rw [hl] at this
      unfold isW
      rw [decide_eq_false (show ¬ l.length ≤ 30 by omega), Bool.and_false]
      rfl
    have h1' : 1 ≤ l.length := Classical.byContradiction fun z => h1 (decide_eq_true (by rw [hl]; omega))
    have h2' : l.length ≤ 30 := Classical.byContradiction fun z => h2 (decide_eq_true (by rw [hl]; omega))
    have e0 : l[0]? = some (l[0]'(by omega)) := List.getElem?_eq_getElem (by omega)
    refine ⟨_, rfl, hz, l[0]'(by omega), atI_at (by decide) e0, ite2 (fun h3 => ⟨_, rfl, hz, ite2 (fun h4 => no ?_ H (Same.refl _)) (fun h4 => go h1' h2' (.inl ?_))⟩) (fun h3 => go h1' h2' (.inr fun z => ?_))⟩
    · have h3 := of_decide_eq_true h3
      have h4 := of_decide_eq_true h4
      rw [hl] at h4
      rw [zero] at h3
      have h5 : l[0]'(by omega) = 48 := by have := str_inj (a := [l[0]'(by omega)]) (b := [48]) (V.str.inj h3); injection this
      have n6 : l ≠ [48] := fun z => by rw [z] at h4; simp at h4
      unfold isW
      rw [decide_eq_false n6, e0, h5]
      simp
    · have h3 := of_decide_eq_true h3
      rw [zero] at h3
      have h5 : l[0]'(by omega) = 48 := by have := str_inj (a := [l[0]'(by omega)]) (b := [48]) (V.str.inj h3); injection this
      have h6 : ¬ 1 < l.length := fun z => h4 (decide_eq_true (by rw [hl]; omega))
      obtain ⟨c, rfl⟩ := List.length_eq_one_iff.mp (show l.length = 1 by omega)
      rw [show c = 48 from h5]
    · rw [e0] at z
      exact h3 (decide_eq_true (by rw [zero, Option.some.inj z]; rfl))
end
end Pf
set_option maxHeartbeats 1000000
namespace Pf
open PySem L2 PyProof.Rows
section
variable {P : Program} {w : World} {K : PySem.W.Frag} {mg : Str → Option Value} {base : Heap} {C : Addr} {cc : Cs}
theorem pcs : ∀ l : List Nat, ∃ a ps, l = inter [47] (a :: ps) ∧ ∀ b ∈ a :: ps, 47 ∉ b
  | [] => ⟨[], [], rfl, by simp⟩
  | c :: l => by
    obtain ⟨a, ps, e, h⟩ := pcs l
    by_cases hc : c = 47
    · subst hc
      refine ⟨[], a :: ps, ?_, fun b hb => ?_⟩
      · show 47 :: l = [] ++ [47] ++ inter [47] (a :: ps)
        rw [e]
        rfl
      · rcases List.mem_cons.mp hb with rfl | hb
        · simp
        · exact h b hb
    · refine ⟨c :: a, ps, ?_, fun b hb => ?_⟩
      · rw [inter_flat] at e ⊢
        rw [e]
        rfl
      · rcases List.mem_cons.mp hb with rfl | hb
        · intro z
          rcases List.mem_cons.mp z with z | z
          · exact hc z.symm
          · exact h a (by simp) z
        · exact h b (by simp [hb])
theorem split_pcs {ps : List (List Nat)} (hp : ps ≠ []) (asc : Asc (inter [47] ps)) (h : ∀ b ∈ ps, 47 ∉ b) : Txt.split (mkS (inter [47] ps)) (Str.ofString "/") = ps.map mkS := by
  refine split_join (asc_of asc) (ascii_of ?_) (by decide) hp ?_ fun a ha => ?_
  · rw [slash]; intro c hc; have : c = 47 := by simpa [sg_mk] using hc
    omega
  · rw [slash, sg_mk, sg_mk]
  · rw [slash, sg_mk]
    exact apart_head (h a ha)
theorem inter_len : ∀ (ps : List (List Nat)), (∀ b ∈ ps, b.length ≤ (inter [47] ps).length) ∧ ps.length ≤ (inter [47] ps).length + 1
  | [] => ⟨by simp, by simp⟩
  | [a] => ⟨by simp [inter], by simp⟩
  | a :: b :: r => by
    obtain ⟨h1, h2⟩ := inter_len (b :: r)
    have e : (inter [47] (a :: b :: r)).length = a.length + 1 + (inter [47] (b :: r)).length := by
      show (a ++ [47] ++ inter [47] (b :: r)).length = _
      rw [List.length_append, List.length_append]
      rfl
    refine ⟨fun c hc => ?_, ?_⟩
    · rcases List.mem_cons.mp hc with rfl | hc
      · omega
      · have := h1 c hc
        omega
    · rw [List.length_cons]
      omega
theorem inter_mem : ∀ (ps : List (List Nat)) (b : List Nat), b ∈ ps → ∀ c ∈ b, c ∈ inter [47] ps
  | [], b, hb, _, _ => by simp at hb
  | [a], b, hb, c, hc => by rw [List.mem_singleton.mp hb] at hc; exact hc
  | a :: a' :: r, b, hb, c, hc => by
    show c ∈ a ++ [47] ++ inter [47] (a' :: r)
    rcases List.mem_cons.mp hb with rfl | hb
    · simp [hc]
    · exact List.mem_append_right _ (inter_mem (a' :: r) b hb c hc)
theorem cut3 {A B B2 X : TS} {D : Ends} {σ : L2.St} {H : Hp} (h : ∀ X', X' = X → tSeq A (tSeq B (tSeq B2 X')) D σ H) : tSeq A (tSeq B (tSeq B2 X)) D σ H := h X rfl
theorem comp_flt {lo : Int} {n : Nat} {D : Addr} {fr : List (Str × Nat)} {σ : L2.St} {tt : TT} {H1 : Hp} {Q : VK} (fb : Nat → Bool) (hD : H1 D = none) (hn : n ≤ 1000)
    (h : ∀ (i : Nat) H (Q : Bool → Hp → Prop), i < n → Same H1 H → Q (fb i) H → tt (some (.int (lo + (i : Nat))) :: capOf fr σ) H Q)
    (hQ : ∀ H', Same H1 H' → H' D = some (.lst (((List.range n).filter fb).map fun i => V.int (lo + (i : Nat)))) → Q (.ref D) H') : tBlock (gName 0) tt (tVar 0) (Itr lo n) D (capS 1 fr σ) H1 Q := by
  refine comp_itr (n := n) (fun i vs H => Same H1 H ∧ H D = some (.lst vs) ∧ vs = (((List.range i).filter fb).map fun i => V.int (lo + (i : Nat)))) ⟨Same.new hD, upd_same, rfl⟩ ?_ (fun vs H ⟨s, e, hv⟩ => hQ H s (by rw [e, hv]))
  rintro i x vs σ' H hi rfl sh ⟨s, e, rfl⟩
  obtain ⟨z, rfl⟩ := sh.one
  simp only [tTurn, gName, List.set_cons_zero]
  refine h i H _ hi s ?_
  have e2 : (List.range (i + 1)).filter fb = (List.range i).filter fb ++ (if fb i = true then [i] else []) := by
    rw [List.range_succ, List.filter_append]
    congr 1
    cases hb : fb i <;> simp [hb]
  cases hb : fb i with
  | false =>
    rw [hb] at e2
    exact leaf0 (ws := ((List.range (i + 1)).filter fb).map fun i => V.int (lo + (i : Nat))) hi Sh.mk1 ⟨s, by rw [e, e2]; simp, rfl⟩
  | true =>
    rw [hb, if_pos rfl] at e2
    refine ⟨_, rfl, leaf (ws := ((List.range (i + 1)).filter fb).map fun i => V.int (lo + (i : Nat))) hi Sh.mk1 e (small1000 ?_) ⟨s.upd hD, by rw [upd_same, e2, List.map_append]; rfl, rfl⟩⟩
    have := List.length_filter_le fb (List.range i)
    rw [List.length_map]
    rw [List.length_range] at this
    omega
theorem inv_tab : ((List.range 98).all fun p => decide (p < 2) || (List.range p).any (fun d => decide (2 ≤ d) && p % d == 0) || (List.range p).all fun r => r == 0 || (List.range p).any fun k => k * r % p == 1) = true := by decide +kernel
theorem inv_ex {p b : Int} (hp : PrimeP p) (hb : b % p ≠ 0) : ∃ k : Nat, 1 ≤ k ∧ (k : Int) < p ∧ (k : Int) * b % p = 1 := by
  obtain ⟨p1, p97, hd⟩ := hp
  have h := List.all_eq_true.mp inv_tab p.toNat (List.mem_range.mpr (by omega))
  have ep : ((p.toNat : Nat) : Int) = p := Int.toNat_of_nonneg (by omega)
  rw [Bool.or_eq_true, Bool.or_eq_true] at h
  rcases h with (h | h) | h
  · have := of_decide_eq_true h
    omega
  · obtain ⟨d, d1, d2⟩ := List.any_eq_true.mp h
    have d1 := List.mem_range.mp d1
    rw [Bool.and_eq_true] at d2
    have d3 := of_decide_eq_true d2.1
    have d4 : p.toNat % d = 0 := by simpa using d2.2
    refine absurd ?_ (hd d (by omega) (by omega))
    rw [← ep, ← Int.natCast_emod, d4]
    rfl
  · have b0 : 0 ≤ b % p := Int.emod_nonneg _ (by omega)
    have b1 : b % p < p := Int.emod_lt_of_pos _ (by omega)
    have h := List.all_eq_true.mp h (b % p).toNat (List.mem_range.mpr (by omega))
    rw [Bool.or_eq_true] at h
    rcases h with h | h
    · have : (b % p).toNat = 0 := by simpa using h
      omega
    · obtain ⟨k, k1, k2⟩ := List.any_eq_true.mp h
      have k1 := List.mem_range.mp k1
      have k2 : k * (b % p).toNat % p.toNat = 1 := by simpa using k2
      have k3 : (k : Int) * (b % p) % p = 1 := by
        have e : (((b % p).toNat : Nat) : Int) = b % p := Int.toNat_of_nonneg b0
        have : ((k * (b % p).toNat % p.toNat : Nat) : Int) = 1 := by rw [k2]; rfl
        rw [Int.natCast_emod, Int.natCast_mul, e, ep] at this
        exact this
      refine ⟨k, ?_, by omega, by rw [emulR] at k3; exact k3⟩
      rcases Nat.eq_zero_or_pos k with rfl | h
      · simp at k2
      · exact h
theorem cut_to1 (l : List Nat) : cutT (mkS l) none (some 1) = mkS (l.take 1) := by
  unfold cutT
  rw [mk_len]
  cases l with
  | nil => rfl
  | cons a r =>
    have e1 : HT.sIx (a :: r).length (a :: r).length (some 1) = 1 := by
      simp only [HT.sIx]
      rw [if_neg (by decide)]
      rw [List.length_cons]
      omega
    rw [e1]
    rfl
theorem cut_0 (l : List Nat) : cutT (mkS l) (some 0) none = mkS l := by
  unfold cutT
  rw [mk_len]
  have e2 : HT.sIx l.length l.length none = l.length := rfl
  have e1 : HT.sIx l.length 0 (some 0) = 0 := by
    simp only [HT.sIx]
    rw [if_neg (by decide)]
    omega
  rw [e2, e1, List.drop_zero]
  show mkS (l.take (l.length - 0)) = mkS l
  rw [Nat.sub_zero, List.take_length]
theorem is_minus (a : List Nat) : decide (V.str (cutT (mkS a) none (some 1)) = V.str (Str.ofString "-")) = decide (a[0]? = some 45) := by
  rw [cut_to1, minus1]
  cases a with
  | nil => decide +kernel
  | cons c r =>
    by_cases h : c = 45
    · subst h
      exact (decide_eq_true rfl).trans (decide_eq_true rfl).symm
    · exact (decide_eq_false (fun z => h (by have := str_inj (a := [c]) (b := [45]) (V.str.inj z); injection this))).trans (decide_eq_false (fun z => h (Option.some.inj z))).symm
def rdN : List (List Nat) → Option (Int × Int)
  | [a] => rdP a none
  | [a, b] => rdP a (some b)
  | _ => none
def spLrn : Sp := fun vs H Q _ => ∃ (p : Int) (ps : List (List Nat)), vs = [.int p, .str (mkS (inter [47] ps))] ∧ GroundP p ∧ ps ≠ [] ∧ Asc (inter [47] ps) ∧ (inter [47] ps).length ≤ 300 ∧ (∀ b ∈ ps, 47 ∉ b) ∧
  ((∀ x, rdN ps = some x → Bad p x.2) → ∀ H', Same H H' → Q .non H') ∧ ∀ x, rdN ps = some x → ¬ Bad p x.2 → ∀ v H', Same H H' → IsV H' p x v → Q v H'
theorem ok_lrn {f : Addr} {fd : FuncData} (F : Fun K "_law_read_number" "_law_read_number" s_law_read_number f fd) (T : Txt K mg C) (C_law_read_whole : Cal P w K mg base "_law_read_whole" 1 spLrw) (C_law_lowest : Cal P w K mg base "_law_lowest" 2 spFrac) : FnOk P w K mg base CX0 3 f fd ["_law_p", "_law_text"] spLrn := by
  have nd := sc_law_read_number.nd
  refine F.ok sc_law_read_number (fun vs H Q E h => ?_) (fun cdv A outer s H vs Q E hr h => ?_)
  · obtain ⟨p, ps, rfl, _⟩ := h
    rfl
  · obtain ⟨p, ps, rfl, hp, hne, asc, h300, h47, qn, qv⟩ := h
    refine ⟨_, (@pss_cons _ _ _ _ _ (ps_set (i := 2) nd rfl (Or.inl rfl) (pe_bm PySem.F.plainAttrs_str PySem.F.slot_str_split PySem.F.type_str_split mt_split (pv 1) (@pa_c _ _ _ _ _ pe_str pa_nil (by rfl)))) (@pss_cons _ _ _ _ _ (ps_set (i := 3) nd rfl (Or.inr rfl) pe_int) (@pss_cons _ _ _ _ _ (@ps_if _ _ _ _ _ _ _ _ (pt_cmpR op_eq (pe_cB call_len_seq rfl T.n_len PySem.boot_len (@pa_c _ _ _ _ _ (pv 2) pa_nil (by rfl))) pe_int (nomark _)) (@pss_one _ _ _ (ps_set (i := 3) nd rfl (Or.inr rfl) (pe_c C_law_read_whole (hr.mono (by decide)) rfl (@pa_c _ _ _ _ _ (@pe_ix _ _ _ _ _ _ _ ix_list (pv 2) pe_int (fun _ _ => rfl)) pa_nil (by rfl))))) pss_nil) (@pss_cons _ _ _ _ _ (ps_set (i := 4) nd rfl (Or.inl rfl) (pe_cmpR op_eq (@pe_slice _ _ _ _ _ _ _ _ _ _ sl_str (@pe_ix _ _ _ _ _ _ _ ix_list (pv 2) pe_int (fun _ _ => rfl)) po_none (@po_some _ _ _ pe_int)) pe_str (nomark _))) (@pss_cons _ _ _ _ _ (ps_set (i := 5) nd rfl (Or.inl rfl) (pe_c C_law_read_whole (hr.mono (by decide)) rfl (@pa_c _ _ _ _ _ (@pe_slice _ _ _ _ _ _ _ _ _ _ sl_str (@pe_ix _ _ _ _ _ _ _ ix_list (pv 2) pe_int (fun _ _ => rfl)) (@po_some _ _ _ (pe_cT call_int1 rfl T.n_int boot_int (@pa_c _ _ _ _ _ (pv 4) pa_nil (by rfl)))) po_none) pa_nil (by rfl)))) (@pss_cons _ _ _ _ _ (@ps_if _ _ _ _ _ _ _ _ (PW.pt (pw_or (pt_cmpR op_gt (pe_cB call_len_seq rfl T.n_len PySem.boot_len (@pa_c _ _ _ _ _ (pv 2) pa_nil (by rfl))) pe_int (nomark _)) (pw_or (pt_cmpR op_isN (pv 5) pe_non (nomark _)) (pw_or (pt_cmpR op_isN (pv 3) pe_non (nomark _)) (pw_or (pt_cmpR op_eq (pv 3) pe_int (nomark _)) (pw_or1 (PW.pt (pw_and (pt_truth (pv 4) (fun _ => rfl)) (pw_and1 (pt_cmpR op_eq (pv 5) pe_int (nomark _))))))))))) (@pss_one _ _ _ (@ps_ret _ _ _ _ pe_non)) pss_nil) (@pss_cons _ _ _ _ _ (ps_set (i := 5) nd rfl (Or.inl rfl) (@pe_op _ _ _ _ _ _ _ _ op_mul (pv 5) (@pe_op _ _ _ _ _ _ _ _ op_sub pe_int (@pe_op _ _ _ _ _ _ _ _ op_mul pe_int (pe_cT call_int1 rfl T.n_int boot_int (@pa_c _ _ _ _ _ (pv 4) pa_nil (by rfl))))))) (@pss_cons _ _ _ _ _ (@ps_if _ _ _ _ _ _ _ _ (pt_cmpR op_eq (pv 0) pe_int (nomark _)) (@pss_one _ _ _ (@ps_ret _ _ _ _ (pe_c C_law_lowest (hr.mono (by decide)) rfl (@pa_c _ _ _ _ _ (pv 5) (@pa_c _ _ _ _ _ (pv 3) pa_nil (by rfl)) (by rfl))))) pss_nil) (@pss_cons _ _ _ _ _ (@ps_if _ _ _ _ _ _ _ _ (pt_cmpR op_eq (@pe_op _ _ _ _ _ _ _ _ op_mod (pv 3) (pv 0)) pe_int (nomark _)) (@pss_one _ _ _ (@ps_ret _ _ _ _ pe_non)) pss_nil) (@pss_one _ _ _ (@ps_ret _ _ _ _ (@pe_op _ _ _ _ _ _ _ _ op_mod (@pe_op _ _ _ _ _ _ _ _ op_mul (pv 5) (@pe_ix _ _ _ _ _ _ _ ix_list (pe_comp (own := ["_law_k"]) (fr := [("_law_below", 3), ("_law_p", 0)]) rfl (bl_of (by kernel_rfl)) (pi_r2 rfl T.n_range (@pa_c _ _ _ _ _ pe_int (@pa_c _ _ _ _ _ (pv 0) pa_nil (by rfl)) (by rfl))) (fun _ _ _ _ => ⟨(@pg_name _ _ 0 _ (show (["_law_k", "_law_below", "_law_p"] : List Str).Nodup by decide +kernel) rfl (Or.inl rfl) (Or.inr rfl)), (pts_one (pt_cmpR op_eq (@pe_op _ _ _ _ _ _ _ _ op_mod (@pe_op _ _ _ _ _ _ _ _ op_mul (pv 0) (pv 1)) (pv 2)) pe_int (nomark _))), (pv 0)⟩)) pe_int (fun _ _ => rfl))) (pv 0))))))))))))), ?_⟩
    refine cut3 fun X hX => ?_
    have spl := split_pcs hne asc h47
    have hl0 := mk_len (inter [47] ps)
    obtain ⟨hlb, hln⟩ := inter_len ps
    obtain ⟨a, rest, rfl⟩ : ∃ a rest, ps = a :: rest := by
      cases ps with
      | nil => exact absurd rfl hne
      | cons a r => exact ⟨a, r, rfl⟩
    have alen := hlb a (by simp)
    have aasc : Asc a := fun c hc => asc c (inter_mem _ a (by simp) c hc)
    have aft : ∀ (D : Addr) (bo : Option Nat) (H2 : Hp), Same H H2 → H2 D = some (.lst ((a :: rest).map fun b => V.str (mkS b))) → (rdN (a :: rest) = if 2 < (a :: rest).length then none else bo.bind fun b => (rdT a).map fun t => (t, (b : Int))) → (∀ b, bo = some b → b < 1000000000000000000000000000000) →
        X { nx := fun x H' => Q V.non H', rt := Q } [some (V.int p), some (V.str (mkS (inter [47] (a :: rest)))), some (.ref D), some (match bo with | none => V.non | some b => V.int (b : Nat)), none, none] H2 := by
      intro D bo H2 s2 hD hrd hbo
      subst hX
      refine cut3 fun Y hY => ?_
      have fin : ∀ (b : Nat) (m : Bool) (n : Nat) (H3 : Hp), Same H2 H3 → b < 1000000000000000000000000000000 → n < 1000000000000000000000000000000 → b ≠ 0 → rdN (a :: rest) = some ((n : Int) * (1 - 2 * if m = true then 1 else 0), (b : Int)) →
          Y { nx := fun x H' => Q V.non H', rt := Q } [some (V.int p), some (V.str (mkS (inter [47] (a :: rest)))), some (.ref D), some (V.int (b : Nat)), some (.bl m), some (V.int (n : Nat))] H3 := by
        intro b m n H3 s3 hb hn b0 hrd2
        subst hY
        have s23 := s2.trans s3
        have p0 := hp.lo
        have p97 := hp.hi
        generalize ht : (n : Int) * (1 - 2 * if m = true then 1 else 0) = t at hrd2
        have tb : t.natAbs < 1000000000000000000000000000000 := by
          subst ht
          cases m <;> simp <;> omega
        walk_at "wp"
        rw [ht]
        refine ⟨.inl (by decide), .inr (by cases m <;> decide), ite2 (fun hc => ?_) (fun hc => ?_)⟩
        · have hc := of_decide_eq_true hc
          have nb : ¬ Bad p (b : Int) := fun z => by
            rcases z with z | ⟨z, _⟩
            · omega
            · exact z hc
          refine ⟨t, b, rfl, Top.of (by omega), by omega, by omega, fun u hu => qv _ hrd2 nb _ _ (s23.trans (Same.new hu)) ⟨fun _ => NumV.tup hc ?_, fun z => absurd hc z⟩⟩
          rw [upd_same]
          unfold nrmZ
          rw [if_neg (by omega)]
        · have hc : ¬ p = 0 := fun z => hc (decide_eq_true z)
          have pp : PrimeP p := hp.resolve_left hc
          refine ⟨by omega, ite2 (fun hm => qn (fun x hx => ?_) H3 s23) (fun hm => ?_)⟩
          · rw [hrd2] at hx
            cases hx
            exact .inr ⟨hc, of_decide_eq_true hm⟩
          · have hm : ¬ (b : Int) % p = 0 := fun z => hm (decide_eq_true z)
            have nb : ¬ Bad p (b : Int) := fun z => by
              rcases z with z | ⟨_, z⟩
              · omega
              · exact hm z
            obtain ⟨k, k1, kp, kb⟩ := inv_ex pp hm
            unfold tComp
            walk_at "wp"
            refine ⟨_, _, ⟨rfl, rfl⟩, by omega, fun D2 hD2 => comp_flt (fun i => decide ((1 + (i : Nat) : Int) * b % p = 1)) hD2 (by omega) (fun i H4 Q4 hi s4 q4 => ?_) fun H4 s4 e4 => ?_⟩
            · walk_at "wp"
              exact ⟨_, rfl, _, rfl, .inl (by omega), _, rfl, _, rfl, by omega, q4⟩
            · have hmem : k - 1 ∈ (List.range (p - 1).toNat).filter (fun i => decide ((1 + (i : Nat) : Int) * b % p = 1)) := by
                rw [List.mem_filter, List.mem_range]
                refine ⟨by omega, decide_eq_true ?_⟩
                rw [show (1 + ((k - 1 : Nat) : Int)) = k by omega]
                exact kb
              generalize hL : (List.range (p - 1).toNat).filter (fun i => decide ((1 + (i : Nat) : Int) * b % p = 1)) = L at *
              cases L with
              | nil => simp at hmem
              | cons i L =>
                have hi : i ∈ (List.range (p - 1).toNat).filter (fun i => decide ((1 + (i : Nat) : Int) * b % p = 1)) := by rw [hL]; simp
                rw [List.mem_filter, List.mem_range] at hi
                have hib := of_decide_eq_true hi.2
                refine ⟨D2, rfl, _, SqL.of e4, _, atI_at (by decide) rfl, _, rfl, .inr (by omega), by omega, ?_⟩
                refine qv _ hrd2 nb _ H4 (s23.trans s4) ⟨fun z => absurd z hc, fun _ => ⟨_, rfl, Int.emod_nonneg _ hc, Int.emod_lt_of_pos _ (by omega), ?_⟩⟩
                rw [Int.sub_emod, emulL]
                have : t * (1 + (i : Nat)) * b % p = t % p := by
                  rw [Int.mul_assoc, ← emulR, hib, Int.mul_one]
                show ((t * (1 + (i : Nat)) * b) % p - t % p) % p = 0
                rw [this, Int.sub_self, Int.zero_emod]
      walk_at "wp"
      have cutm : ∀ m : Bool, m = decide (a[0]? = some 45) → cutT (mkS a) (some (if m = true then 1 else 0)) none = mkS (if m = true then a.drop 1 else a) := by
        intro m _
        cases m
        · exact cut_0 a
        · exact cut_one a
      have e0 : atI ((a :: rest).map fun b => V.str (mkS b)) 0 = some (V.str (mkS a)) := atI_at (by decide) rfl
      have hla := mk_len a
      have hsz : (mkS a).length ≤ sizeLine := by rw [hla]; exact slc (by omega)
      refine ⟨_, SqL.of hD, _, e0, _, rfl, hsz, _, SqL.of hD, _, e0, _, rfl, hsz, ?_⟩
      rw [is_minus]
      generalize hm : decide (a[0]? = some 45) = m at *
      rw [cutm m rfl]
      clear cutm
      have hcut : ∀ c ∈ (if m = true then a.drop 1 else a), c ∈ a := fun c hc => by
        cases m
        · exact hc
        · exact List.mem_of_mem_drop hc
      have hcl : (if m = true then a.drop 1 else a).length ≤ a.length := by
        cases m
        · exact Nat.le_refl _
        · show (a.drop 1).length ≤ _
          rw [List.length_drop]
          omega
      have hT : rdT a = if isW (if m = true then a.drop 1 else a) = true ∧ (m = true → vW (a.drop 1) ≠ 0) then some ((vW (if m = true then a.drop 1 else a) : Int) * (1 - 2 * if m = true then 1 else 0)) else none := by
        unfold rdT
        cases m
        · have hm : ¬ a[0]? = some 45 := of_decide_eq_false hm
          rw [if_neg hm]
          simp
        · have hm : a[0]? = some 45 := of_decide_eq_true hm
          rw [if_pos hm]
          simp
      generalize hz : (if m = true then a.drop 1 else a) = z at *
      refine ⟨z, rfl, fun c hc => aasc c (hcut c hc), by omega, fun H3 s3 => ⟨_, .inl (SqL.of (s3 _ _ hD)), ?_⟩⟩
      have s23 := s2.trans s3
      have bad : rdN (a :: rest) = none → Q .non H3 := fun e => qn (fun x hx => by rw [e] at hx; cases hx) H3 s23
      have nn : ∀ i : Int, ¬ decide (V.int i = V.non) = true := fun i z => by cases of_decide_eq_true z
      refine ite2 (fun h1 => bad ?_) (fun h1 => ?_)
      · have h1 := of_decide_eq_true h1
        rw [List.length_map] at h1
        rw [hrd, if_pos (by omega)]
      have h1 : ¬ 2 < (a :: rest).length := fun y => h1 (decide_eq_true (by rw [List.length_map]; omega))
      rw [if_neg h1] at hrd
      cases hw : isW z with
      | false =>
        rw [hw] at hT
        refine iteP (decide_eq_true rfl) (bad ?_)
        rw [hrd, hT, if_neg (by simp)]
        cases bo <;> rfl
      | true =>
        have hvz := vW_lt hw
        rw [if_pos rfl]
        refine iteN (nn _) ?_
        cases bo with
        | none => exact iteP (by decide) (bad (by rw [hrd]; rfl))
        | some b =>
          have hb := hbo b rfl
          have goY : (m = true → vW (a.drop 1) ≠ 0) → b ≠ 0 → rdN (a :: rest) = some ((vW z : Int) * (1 - 2 * if m = true then 1 else 0), (b : Int)) := fun h _ => by
            rw [hrd, hT, if_pos ⟨hw, h⟩]
            rfl
          refine iteN (nn _) ⟨rfl, ite2 (fun h0 => ?_) (fun h0 => ⟨m, rfl, ite2 (fun hm' => ⟨rfl, ite2 (fun hv => bad ?_) (fun hv => ?_)⟩) (fun hm' => ?_)⟩)⟩
          · have h0 := V.int.inj (of_decide_eq_true h0)
            refine qn (fun x hx => .inl ?_) H3 s23
            rw [hrd] at hx
            cases hr : rdT a with
            | none => rw [hr] at hx; cases hx
            | some t => rw [hr] at hx; cases hx; exact h0
          · have hv := V.int.inj (of_decide_eq_true hv)
            subst hm'
            have hz : a.drop 1 = z := hz
            rw [hrd, hT, if_neg (fun y => y.2 rfl (by rw [hz]; omega))]
            rfl
          · subst hm'
            have hz : a.drop 1 = z := hz
            have b0 : b ≠ 0 := fun y => h0 (decide_eq_true (by rw [y]; rfl))
            have g := goY (fun _ y => hv (decide_eq_true (by rw [← hz, y]; rfl))) b0
            exact fin b true (vW z) H3 s3 hb hvz b0 g
          · have hm' : m = false := by simpa using hm'
            subst hm'
            have b0 : b ≠ 0 := fun y => h0 (decide_eq_true (by rw [y]; rfl))
            exact fin b false (vW z) H3 s3 hb hvz b0 (goY (fun y => by cases y) b0)
    walk_at "wp"
    refine ⟨rfl, _, rfl, _, rfl, by decide, by rw [hl0]; exact slc (by omega), by rw [spl, List.length_map]; exact slc (by omega), fun D hD => ?_⟩
    rw [spl, List.map_map]
    have e1 : upd H D (.lst ((a :: rest).map (V.str ∘ mkS))) D = some (.lst ((a :: rest).map fun b => V.str (mkS b))) := upd_same
    have s1 := Same.new (o := .lst ((a :: rest).map (V.str ∘ mkS))) hD
    generalize upd H D (.lst ((a :: rest).map (V.str ∘ mkS))) = H1 at *
    refine ⟨_, .inl (SqL.of e1), ite2 (fun h2 => ?_) (fun h2 => ?_)⟩
    · have h2 := of_decide_eq_true h2
      rw [List.length_map] at h2
      obtain ⟨b, rfl⟩ : ∃ b, rest = [b] := List.length_eq_one_iff.mp (by rw [List.length_cons] at h2; omega)
      have blen := hlb b (by simp)
      have basc : Asc b := fun c hc => asc c (inter_mem _ b (by simp) c hc)
      refine ⟨_, SqL.of e1, _, atI_at (by decide) rfl, b, rfl, basc, by omega, fun H2 s2 => ?_⟩
      have := aft D (if isW b = true then some (vW b) else none) H2 (s1.trans s2) (s2 _ _ e1) (by
        rw [if_neg (by simp)]
        show rdP a (some b) = _
        unfold rdP
        dsimp only
        by_cases hw : isW b = true
        · rw [if_pos hw, if_pos hw]
          rfl
        · rw [if_neg hw, if_neg hw]
          rfl) (fun n hn => by
        split at hn
        · rename_i hw
          cases hn
          exact vW_lt hw
        · cases hn)
      cases hw : isW b with
      | false => rw [hw] at this; exact this
      | true => rw [hw] at this; exact this
    · have h2 : ¬ rest.length = 1 := fun y => h2 (decide_eq_true (by rw [List.length_map, List.length_cons, y]; rfl))
      refine aft D (some 1) H1 s1 e1 ?_ (fun n hn => by cases hn; decide)
      cases rest with
      | nil => rw [if_neg (by simp)]; rfl
      | cons b r =>
        cases r with
        | nil => exact absurd rfl h2
        | cons c r => rw [if_pos (by simp)]; rfl
end
end Pf
set_option maxHeartbeats 1000000
namespace Pf
open PySem L2 PyProof.Rows
section
variable {P : Program} {w : World} {K : PySem.W.Frag} {mg : Str → Option Value} {base : Heap} {C : Addr} {cc : Cs}
theorem tyL {H : Hp} {p : Addr} {xs : List V} (h : H p = some (.lst xs)) : tyV K "list" (.ref p) H := .inl ⟨rfl, _, SqL.of h⟩
def spAlone (NS : Addr) : Sp := fun vs H Q _ => ∃ a : Addr, vs = [.ref a, .int 0] ∧ H a = some (isExc a (.ref NS)) ∧ ∀ H', Same H H' → Q (.bl true) H'
theorem ok_alone {f : Addr} {fd : FuncData} (F : Fun K "_law_alone" "_law_alone" s_law_alone f fd) (T : Txt K mg C) (XT : Xt K mg base cc) : FnOkH P w K mg base CX0 1 f fd ["_law_e", "_law_kind"] (spAlone cc.NoText) := by
  have nd := sc_law_alone.nd
  refine F.okH sc_law_alone (fun vs H Q E h => ?_) (fun cdv A outer s H vs Q E hr h => ?_)
  · obtain ⟨a, rfl, _⟩ := h
    rfl
  · obtain ⟨a, rfl, ha, q⟩ := h
    refine ⟨_, (@pss_cons _ _ _ _ _ (ps_set (i := 2) nd rfl (Or.inl rfl) (@pe_lst _ _ _ _ (@pa_c _ _ _ _ _ (pe_cB (call_isxK K rfl) rfl T.n_isinstance boot_isinstance (@pa_c _ _ _ _ _ (pv 0) (@pa_c _ _ _ _ _ (pe_glob (v := .ref cc.NoText) rfl XT.g_NoText rfl) pa_nil (by rfl)) (by rfl))) (@pa_c _ _ _ _ _ (pe_cB (call_isxK K rfl) rfl T.n_isinstance boot_isinstance (@pa_c _ _ _ _ _ (pv 0) (@pa_c _ _ _ _ _ (pe_glob (v := .ref cc.NoDrawing) rfl XT.g_NoDrawing rfl) pa_nil (by rfl)) (by rfl))) (@pa_c _ _ _ _ _ (pe_cB (call_isxK K rfl) rfl T.n_isinstance boot_isinstance (@pa_c _ _ _ _ _ (pv 0) (@pa_c _ _ _ _ _ (pe_glob (v := .ref cc.NoNumber) rfl XT.g_NoNumber rfl) pa_nil (by rfl)) (by rfl))) (@pa_c _ _ _ _ _ (pe_cB (call_isxK K rfl) rfl T.n_isinstance boot_isinstance (@pa_c _ _ _ _ _ (pv 0) (@pa_c _ _ _ _ _ (pe_glob (v := .ref cc.NoTable) rfl XT.g_NoTable rfl) pa_nil (by rfl)) (by rfl))) pa_nil (by rfl)) (by rfl)) (by rfl)) (by rfl)))) (@pss_cons _ _ _ _ _ (ps_expr (pe_bm PySem.F.plainAttrs_list PySem.F.slot_list_append PySem.F.type_list_append mt_append (pv 2) (@pa_c _ _ _ _ _ (pe_cB (call_isxK K rfl) rfl T.n_isinstance boot_isinstance (@pa_c _ _ _ _ _ (pv 0) (@pa_c _ _ _ _ _ (pe_glob (v := .ref cc.NoStanding) rfl XT.g_NoStanding rfl) pa_nil (by rfl)) (by rfl))) pa_nil (by rfl)))) (@pss_cons _ _ _ _ _ (ps_set (i := 3) nd rfl (Or.inl rfl) (pe_cB (call_isxTK K rfl) rfl T.n_isinstance boot_isinstance (@pa_c _ _ _ _ _ (pv 0) (@pa_c _ _ _ _ _ (@pe_tup _ _ _ _ _ (@pa_c _ _ _ _ _ (pe_glob (v := .ref cc.NoChange) rfl XT.g_NoChange rfl) (@pa_c _ _ _ _ _ (pe_glob (v := .ref cc.NoGround) rfl XT.g_NoGround rfl) (@pa_c _ _ _ _ _ (pe_glob (v := .ref cc.NoKind) rfl XT.g_NoKind rfl) (@pa_c _ _ _ _ _ (pe_glob (v := .ref cc.NoMirror) rfl XT.g_NoMirror rfl) (@pa_c _ _ _ _ _ (pe_glob (v := .ref cc.NoName) rfl XT.g_NoName rfl) (@pa_c _ _ _ _ _ (pe_glob (v := .ref cc.NoRoot) rfl XT.g_NoRoot rfl) (@pa_c _ _ _ _ _ (pe_glob (v := .ref cc.NoRow) rfl XT.g_NoRow rfl) pa_nil (by rfl)) (by rfl)) (by rfl)) (by rfl)) (by rfl)) (by rfl)) (by rfl))) pa_nil (by rfl)) (by rfl)))) (@pss_one _ _ _ (@ps_ret _ _ _ _ (pe_and (pe_cmpR op_eq (pe_bm PySem.F.plainAttrs_list PySem.F.slot_list_count PySem.F.type_list_count mt_countB (pv 2) (@pa_c _ _ _ _ _ pe_bl pa_nil (by rfl))) pe_int (nomark _)) (pe_and (@pe_ix _ _ _ _ _ _ _ ix_list (pv 2) (pv 1) (fun _ _ => rfl)) (pe_and (pe_cB (call_isxK K rfl) rfl T.n_isinstance boot_isinstance (@pa_c _ _ _ _ _ (pv 0) (@pa_c _ _ _ _ _ (pe_ty rfl T.n_ValueError boot_ValueError) pa_nil (by rfl)) (by rfl))) (pe_one (pe_not (pv 3))))))))))), ?_⟩
    walk_at "wp"
    refine ⟨a, cc.NoText, _, ⟨rfl, rfl⟩, .ref cc.NoText, rfl, ha, XT.z, XT.i, true, kit_self, a, cc.NoText, _, ⟨rfl, rfl⟩, .ref cc.NoDrawing, rfl, ha, XT.z, XT.i, false, XT.q_NoDrawing, a, cc.NoText, _, ⟨rfl, rfl⟩, .ref cc.NoNumber, rfl, ha, XT.z, XT.i, false, XT.q_NoNumber, a, cc.NoText, _, ⟨rfl, rfl⟩, .ref cc.NoTable, rfl, ha, XT.z, XT.i, false, XT.q_NoTable, by decide, fun p1 hp1 => ?_⟩
    have s1 := Same.new (o := .lst [V.bl true, V.bl false, V.bl false, V.bl false]) hp1
    have h1 := s1 _ _ ha
    have e1 : upd H p1 (.lst [V.bl true, V.bl false, V.bl false, V.bl false]) p1 = some (.lst [V.bl true, V.bl false, V.bl false, V.bl false]) := upd_same
    generalize upd H p1 (.lst [V.bl true, V.bl false, V.bl false, V.bl false]) = H1 at *
    have n1 : a ≠ p1 := ne_of_none ha hp1
    refine ⟨tyL e1, a, cc.NoText, _, ⟨rfl, rfl⟩, .ref cc.NoStanding, rfl, h1, XT.z, XT.i, false, XT.q_NoStanding, _, e1, by decide, by decide, fun p2 hp2 => ?_⟩
    have h2 : upd H1 p1 (.lst ([V.bl true, V.bl false, V.bl false, V.bl false] ++ [V.bl false])) a = some (isExc a (.ref cc.NoText)) := by rw [upd_ne n1]; exact h1
    have s2 := s1.upd (o := .lst ([V.bl true, V.bl false, V.bl false, V.bl false] ++ [V.bl false])) hp1
    have e2 : upd H1 p1 (.lst ([V.bl true, V.bl false, V.bl false, V.bl false] ++ [V.bl false])) p1 = some (.lst ([V.bl true, V.bl false, V.bl false, V.bl false] ++ [V.bl false])) := upd_same
    generalize upd H1 p1 (.lst ([V.bl true, V.bl false, V.bl false, V.bl false] ++ [V.bl false])) = H2 at *
    have s3 := Same.new (o := .tup [V.ref cc.NoChange, V.ref cc.NoGround, V.ref cc.NoKind, V.ref cc.NoMirror, V.ref cc.NoName, V.ref cc.NoRoot, V.ref cc.NoRow]) hp2
    have h3 := s3 _ _ h2
    have e3 := s3 _ _ e2
    refine ⟨a, cc.NoText, p2, ⟨rfl, rfl⟩, _, upd_same, [.ref cc.NoChange, .ref cc.NoGround, .ref cc.NoKind, .ref cc.NoMirror, .ref cc.NoName, .ref cc.NoRoot, .ref cc.NoRow], rfl, h3, XT.z, XT.i, false, XT.t1, tyL e3, p1, [true, false, false, false, false], true, rfl, rfl, e3, rfl, iteP (by decide) ⟨_, SqL.of e3, _, rfl, true, rfl, iteT ⟨a, cc.NoText, _, ⟨rfl, rfl⟩, .type "ValueError", rfl, h3, XT.z, XT.i, true, XT.v, iteT (q _ (s2.trans s3))⟩⟩⟩
def spAsk (C : Addr) : Sp := fun vs H Q _ => ∃ (g : Addr) (p : Int) (a : List Nat) (b : Option (List Nat)), vs = [.ref g, .str (mkS (joinP a b))] ∧ 47 ∉ a ∧ Asc (joinP a b) ∧ (joinP a b).length ≤ 300 ∧ GAt C H g p ∧ GroundP p ∧ (BadP p a b → ∀ H', Same H H' → Q (.str "text") H') ∧
  ∀ x, rdP a b = some x → ¬ Bad p x.2 → ∀ v H', Same H H' → IsV H' p x v → Q v H'
theorem ok_ask {f : Addr} {fd : FuncData} (F : Fun K "_law_asked" "_law_asked" s_law_asked f fd) (T : Txt K mg C) (XT : Xt K mg base cc) (C_read_number : CalE P w K mg base "read_number" 4 (spRnE C cc.NoText)) (C_law_alone : CalH P w K mg base "_law_alone" 1 (spAlone cc.NoText)) : FnOk P w K mg base CX0 5 f fd ["_law_ground", "_law_text"] (spAsk C) := by
  have nd := sc_law_asked.nd
  refine F.ok sc_law_asked (fun vs H Q E h => ?_) (fun cdv A outer s H vs Q E hr h => ?_)
  · obtain ⟨g, p, a, b, rfl, _⟩ := h
    rfl
  · obtain ⟨g, p, a, b, rfl, n47, asc, h300, hg, hp, qn, qv⟩ := h
    refine ⟨_, (@pss_one _ _ _ (ps_try (E' := (fun c _ H' => c = .ref cc.NoText ∧ Same H H' ∧ BadP p a b)) (i := 2) rfl rfl rfl (fun pins xt hps => (@pss_one _ _ _ (@ps_ret _ _ _ _ (pe_cE C_read_number hps (hr.mono (by decide)) rfl (@pa_c _ _ _ _ _ (pv 0) (@pa_c _ _ _ _ _ (pv 1) pa_nil (by rfl)) (by rfl)))))) (fun pins a => (@pss_one _ _ _ (@ps_ret _ _ _ _ (@pe_ix _ _ _ _ _ _ _ (ix_listK K rfl) (@pe_lst _ _ _ _ (@pa_c _ _ _ _ _ pe_str (@pa_c _ _ _ _ _ pe_str pa_nil (by rfl)) (by rfl))) (pe_cT call_int1 rfl T.n_int boot_int (@pa_c _ _ _ _ _ (pe_cH C_law_alone ((hr.mono (by decide)).mark _) rfl (@pa_c _ _ _ _ _ (pv 2) (@pa_c _ _ _ _ _ pe_int pa_nil (by rfl)) (by rfl))) pa_nil (by rfl))) (fun _ _ => rfl))))) rfl XT.o_LimbError (by decide) (fun c H' h => h.1 ▸ XT.u_NoText) nd rfl rfl)), ?_⟩
    refine ⟨?_, fun cls H' a' σ' hE ha hl => ?_⟩
    · walk_at "wp"
      exact ⟨g, p, a, b, rfl, n47, asc, h300, hg, hp, fun bp H' s' => ⟨⟨rfl, s', bp⟩, ⟨rfl, s', bp⟩⟩, qv⟩
    · obtain ⟨v0, v1, v2, rfl⟩ : ∃ v0 v1 v2 : Option V, σ' = [v0, v1, v2] := by
        match σ', hl with
        | [v0, v1, v2], _ => exact ⟨v0, v1, v2, rfl⟩
      obtain ⟨rfl, sH, bp⟩ := hE
      have h1 : upd H' a' (isExc a' (.ref cc.NoText)) a' = some (isExc a' (.ref cc.NoText)) := upd_same
      have s1 := sH.trans (Same.new (o := isExc a' (.ref cc.NoText)) ha)
      walk_at "wp"
      refine ⟨by decide, fun p1 hp1 => ?_⟩
      have s2 := Same.new (o := .lst [V.str "other", V.str "text"]) hp1
      exact ⟨a', rfl, s2 _ _ h1, fun H2 s3 => .inr ⟨true, rfl, _, SqL.of (s3 _ _ upd_same), _, rfl, qn bp H2 ((s1.trans s2).trans s3)⟩⟩
end
end Pf
set_option maxHeartbeats 1000000
namespace Pf
open PySem L2 PyProof.Rows
section
variable {P : Program} {w : World} {K : PySem.W.Frag} {mg : Str → Option Value} {base : Heap} {C : Addr} {cc : Cs}
theorem cut_to {l : List Nat} {i : Int} (h0 : 0 ≤ i) : cutT (mkS l) none (some i) = mkS (l.take i.toNat) := by
  unfold cutT
  rw [mk_len]
  have e1 : HT.sIx l.length l.length (some i) = min i.toNat l.length := by
    simp only [HT.sIx]
    rw [if_neg (by omega)]
  have e0 : HT.sIx l.length 0 none = 0 := rfl
  rw [e1, e0, List.drop_zero, Nat.sub_zero]
  show mkS (l.take (min i.toNat l.length)) = _
  rw [← List.take_eq_take_min]
theorem cut_from {l : List Nat} {i : Int} (h0 : 0 ≤ i) : cutT (mkS l) (some i) none = mkS (l.drop i.toNat) := by
  unfold cutT
  rw [mk_len]
  have e1 : HT.sIx l.length 0 (some i) = min i.toNat l.length := by
    simp only [HT.sIx]
    rw [if_neg (by omega)]
  have e0 : HT.sIx l.length l.length none = l.length := rfl
  rw [e1, e0]
  show mkS ((l.drop (min i.toNat l.length)).take (l.length - min i.toNat l.length)) = _
  congr 1
  by_cases h : i.toNat ≤ l.length
  · rw [Nat.min_eq_left h]
    exact List.take_of_length_le (by rw [List.length_drop]; exact Nat.le_refl _)
  · rw [Nat.min_eq_right (by omega), Nat.sub_self, List.take_zero, List.drop_of_length_le (by omega)]
theorem cut_one1 {l : List Nat} {i : Int} (h0 : 0 ≤ i) : ∃ m, cutT (mkS l) (some i) (some (i + 1)) = mkS m ∧ m.length ≤ 1 ∧ ∀ c ∈ m, c ∈ l := by
  refine ⟨_, rfl, ?_, fun c hc => List.mem_of_mem_drop (List.mem_of_mem_take hc)⟩
  rw [mk_len, List.length_take]
  have e1 : HT.sIx l.length 0 (some i) = min i.toNat l.length := by
    simp only [HT.sIx]
    rw [if_neg (by omega)]
  have e2 : HT.sIx l.length l.length (some (i + 1)) = min (i + 1).toNat l.length := by
    simp only [HT.sIx]
    rw [if_neg (by omega)]
  rw [e1, e2]
  omega
def spSpo : Sp := fun vs H Q _ => ∃ (l : List Nat) (b : Addr), vs = [.str (mkS l), .ref b] ∧ Asc l ∧ l.length ≤ 200 ∧ Bag H b ∧ ∀ (l' : List Nat) (H' : Hp), Ext b H H' → Bag H' b → Asc l' → l'.length ≤ l.length + 1 → Q (.str (mkS l')) H'
theorem ok_spo {f : Addr} {fd : FuncData} (F : Fun K "_law_sign_spoilt" "_law_sign_spoilt" s_law_sign_spoilt f fd) (T : Txt K mg C) (C_law_draw : Cal P w K mg base "_law_draw" 1 spDraw) : FnOk P w K mg base CX0 2 f fd ["_law_text", "_law_bag_here"] spSpo := by
  have nd := sc_law_sign_spoilt.nd
  refine F.ok sc_law_sign_spoilt (fun vs H Q E h => ?_) (fun cdv A outer s H vs Q E hr h => ?_)
  · obtain ⟨l, b, rfl, _⟩ := h
    rfl
  · obtain ⟨l, b, rfl, asc, hl, hb, q⟩ := h
    refine ⟨_, (@pss_cons _ _ _ _ _ (ps_set (i := 2) nd rfl (Or.inl rfl) pe_str) (@pss_cons _ _ _ _ _ (ps_set (i := 3) nd rfl (Or.inl rfl) (pe_c C_law_draw (hr.mono (by decide)) rfl (@pa_c _ _ _ _ _ (pv 1) (@pa_c _ _ _ _ _ (@pe_op _ _ _ _ _ _ _ _ op_add (pe_cB call_len_str rfl T.n_len PySem.boot_len (@pa_c _ _ _ _ _ (pv 0) pa_nil (by rfl))) pe_int) pa_nil (by rfl)) (by rfl)))) (@pss_cons _ _ _ _ _ (ps_set (i := 4) nd rfl (Or.inl rfl) (pe_c C_law_draw (hr.mono (by decide)) rfl (@pa_c _ _ _ _ _ (pv 1) (@pa_c _ _ _ _ _ pe_int pa_nil (by rfl)) (by rfl)))) (@pss_cons _ _ _ _ _ (ps_set (i := 5) nd rfl (Or.inl rfl) (@pe_ix _ _ _ _ _ _ _ ix_str (pv 2) (pe_c C_law_draw (hr.mono (by decide)) rfl (@pa_c _ _ _ _ _ (pv 1) (@pa_c _ _ _ _ _ pe_int pa_nil (by rfl)) (by rfl))) (fun _ _ => rfl))) (@pss_cons _ _ _ _ _ (@ps_if _ _ _ _ _ _ _ _ (pt_cmpR op_eq (pv 4) pe_int (nomark _)) (@pss_one _ _ _ (@ps_ret _ _ _ _ (@pe_op _ _ _ _ _ _ _ _ op_add_str (@pe_op _ _ _ _ _ _ _ _ op_add_str (@pe_slice _ _ _ _ _ _ _ _ _ _ sl_str (pv 0) po_none (@po_some _ _ _ (pv 3))) (pv 5)) (@pe_slice _ _ _ _ _ _ _ _ _ _ sl_str (pv 0) (@po_some _ _ _ (pv 3)) po_none)))) pss_nil) (@pss_cons _ _ _ _ _ (@ps_if _ _ _ _ _ _ _ _ (pt_cmpR op_eq (pv 4) pe_int (nomark _)) (@pss_one _ _ _ (@ps_ret _ _ _ _ (@pe_op _ _ _ _ _ _ _ _ op_add_str (@pe_slice _ _ _ _ _ _ _ _ _ _ sl_str (pv 0) po_none (@po_some _ _ _ (pv 3))) (@pe_slice _ _ _ _ _ _ _ _ _ _ sl_str (pv 0) (@po_some _ _ _ (@pe_op _ _ _ _ _ _ _ _ op_add (pv 3) pe_int)) po_none)))) pss_nil) (@pss_cons _ _ _ _ _ (@ps_if _ _ _ _ _ _ _ _ (pt_cmpR op_eq (pv 4) pe_int (nomark _)) (@pss_one _ _ _ (@ps_ret _ _ _ _ (@pe_op _ _ _ _ _ _ _ _ op_add_str (@pe_op _ _ _ _ _ _ _ _ op_add_str (@pe_slice _ _ _ _ _ _ _ _ _ _ sl_str (pv 0) po_none (@po_some _ _ _ (pv 3))) (pv 5)) (@pe_slice _ _ _ _ _ _ _ _ _ _ sl_str (pv 0) (@po_some _ _ _ (@pe_op _ _ _ _ _ _ _ _ op_add (pv 3) pe_int)) po_none)))) pss_nil) (@pss_one _ _ _ (@ps_ret _ _ _ _ (@pe_op _ _ _ _ _ _ _ _ op_add_str (@pe_op _ _ _ _ _ _ _ _ op_add_str (@pe_slice _ _ _ _ _ _ _ _ _ _ sl_str (pv 0) po_none (@po_some _ _ _ (pv 3))) (@pe_slice _ _ _ _ _ _ _ _ _ _ sl_str (pv 0) (@po_some _ _ _ (pv 3)) (@po_some _ _ _ (@pe_op _ _ _ _ _ _ _ _ op_add (pv 3) pe_int)))) (@pe_slice _ _ _ _ _ _ _ _ _ _ sl_str (pv 0) (@po_some _ _ _ (pv 3)) po_none))))))))))), ?_⟩
    walk_at "wp"
    have hl0 := mk_len l
    have hsz : ∀ m : List Nat, m.length ≤ 300 → (mkS m).length ≤ sizeLine := fun m h => by rw [mk_len]; exact slc (by omega)
    have hsz2 : ∀ m n : List Nat, m.length ≤ 300 → n.length ≤ 300 → (mkS m).length + (mkS n).length ≤ sizeLine := fun m n h h' => by rw [mk_len, mk_len]; exact slc (by omega)
    refine ⟨_, rfl, hsz l (by omega), hb.draw (by omega) (by rw [hl0]; omega) fun i H1 i0 i1 e1 b1 => b1.draw (by decide) (by decide) fun z H2 z0 z1 e2 b2 => b2.draw (by decide) (by decide) fun y H3 y0 y1 e3 b3 => ?_⟩
    rw [hl0] at i1
    have e := (e1.trans e2).trans e3
    obtain ⟨c, hc, c128⟩ : ∃ c, atI (Str.ofString " 0123456789-/+.;:,><ab_()~").cps.toList y = some c ∧ c < 128 := by
      have hall : ((Str.ofString " 0123456789-/+.;:,><ab_()~").cps.toList.all fun c => decide (c < 128)) = true := by decide +kernel
      have hlen : (Str.ofString " 0123456789-/+.;:,><ab_()~").cps.toList.length = 26 := by decide +kernel
      have hi : y.toNat < (Str.ofString " 0123456789-/+.;:,><ab_()~").cps.toList.length := by rw [hlen]; omega
      exact ⟨_, atI_at y0 (List.getElem?_eq_getElem hi), of_decide_eq_true (List.all_eq_true.mp hall _ (List.getElem_mem hi))⟩
    have mc : (⟨#[c]⟩ : Str) = mkS [c] := rfl
    have t1 : (l.take i.toNat).length ≤ 300 := by rw [List.length_take]; omega
    have t2 : (l.drop i.toNat).length ≤ 300 := by rw [List.length_drop]; omega
    have t3 : (l.drop (i + 1).toNat).length ≤ 300 := by rw [List.length_drop]; omega
    have l1 : (l.take i.toNat).length = i.toNat := by rw [List.length_take]; omega
    have l2 : (l.drop i.toNat).length = l.length - i.toNat := by rw [List.length_drop]
    have l3 : (l.drop (i + 1).toNat).length ≤ l.length - i.toNat := by rw [List.length_drop]; omega
    have a1 : ∀ c ∈ l.take i.toNat, c < 128 := fun c hc => asc c (List.mem_of_mem_take hc)
    have a2 : ∀ c ∈ l.drop i.toNat, c < 128 := fun c hc => asc c (List.mem_of_mem_drop hc)
    have a3 : ∀ c ∈ l.drop (i + 1).toNat, c < 128 := fun c hc => asc c (List.mem_of_mem_drop hc)
    have ap : ∀ {m n : List Nat}, (∀ c ∈ m, c < 128) → (∀ c ∈ n, c < 128) → ∀ c ∈ m ++ n, c < 128 := fun h h' c hc => by
      rcases List.mem_append.mp hc with z | z
      · exact h c z
      · exact h' c z
    have ac : ∀ d ∈ [c], d < 128 := fun d hd => by rw [List.mem_singleton.mp hd]; exact c128
    obtain ⟨m, em, lm, hm⟩ := cut_one1 (l := l) i0
    have am : ∀ c ∈ m, c < 128 := fun c hc => asc c (hm c hc)
    refine ⟨_, rfl, y, rfl, by decide, c, hc, rfl, ?_⟩
    rw [mc]
    refine ite2 (fun _ => ⟨i, rfl, _, rfl, hsz l (by omega), _, rfl, _, rfl, ?_, i, rfl, _, rfl, hsz l (by omega), _, rfl, _, rfl, ?_, ?_⟩) (fun _ => ⟨rfl, ite2 (fun _ => ⟨i, rfl, _, rfl, hsz l (by omega), i, rfl, _, rfl, hsz l (by omega), _, rfl, _, rfl, ?_, ?_⟩) (fun _ => ⟨rfl, ite2 (fun _ => ⟨i, rfl, _, rfl, hsz l (by omega), _, rfl, _, rfl, ?_, i, rfl, _, rfl, hsz l (by omega), _, rfl, _, rfl, ?_, ?_⟩) (fun _ => ?_)⟩)⟩)
    · rw [cut_to i0]
      exact hsz2 _ _ t1 (by simp)
    · rw [cut_to i0, cut_from i0, mk_app]
      exact hsz2 _ _ (by rw [List.length_append, l1]; simp; omega) t2
    · rw [cut_to i0, cut_from i0, mk_app, mk_app]
      exact q _ H3 e b3 (ap (ap a1 ac) a2) (by rw [List.length_append, List.length_append, l1, l2]; simp; omega)
    · rw [cut_to i0, cut_from (by omega)]
      exact hsz2 _ _ t1 t3
    · rw [cut_to i0, cut_from (by omega), mk_app]
      exact q _ H3 e b3 (ap a1 a3) (by rw [List.length_append, l1]; omega)
    · rw [cut_to i0]
      exact hsz2 _ _ t1 (by simp)
    · rw [cut_to i0, cut_from (by omega), mk_app]
      exact hsz2 _ _ (by rw [List.length_append, l1]; simp; omega) t3
    · rw [cut_to i0, cut_from (by omega), mk_app, mk_app]
      exact q _ H3 e b3 (ap (ap a1 ac) a3) (by rw [List.length_append, List.length_append, l1]; simp; omega)
    · refine ⟨i, rfl, _, rfl, hsz l (by omega), i, rfl, i, rfl, _, rfl, hsz l (by omega), _, rfl, _, rfl, ?_, i, rfl, _, rfl, hsz l (by omega), _, rfl, _, rfl, ?_, ?_⟩
      · rw [cut_to i0, em]
        exact hsz2 _ _ t1 (by omega)
      · rw [cut_to i0, cut_from i0, em, mk_app]
        exact hsz2 _ _ (by rw [List.length_append, l1]; omega) t2
      · rw [cut_to i0, cut_from i0, em, mk_app, mk_app]
        exact q _ H3 e b3 (ap (ap a1 am) a2) (by rw [List.length_append, List.length_append, l1, l2]; omega)
def gtB : V → Bool
  | .str z => (sg z).all (fun c => decide (c < 128)) && decide ((sg z).length ≤ 200)
  | _ => false
theorem gtB_ok {v : V} (h : gtB v = true) : ∃ l, v = .str (mkS l) ∧ Asc l ∧ l.length ≤ 200 := by
  cases v with
  | str z =>
    unfold gtB at h
    rw [Bool.and_eq_true] at h
    exact ⟨sg z, rfl, fun c hc => of_decide_eq_true (List.all_eq_true.mp h.1 c hc), of_decide_eq_true h.2⟩
  | _ => cases h
def spOdd : Sp := fun vs H Q _ => ∃ (b : Addr), vs = [.ref b] ∧ Bag H b ∧ ∀ (l' : List Nat) (H' : Hp), Ext b H H' → Bag H' b → Asc l' → l'.length ≤ 200 → Q (.str (mkS l')) H'
theorem ok_odd {f : Addr} {fd : FuncData} (F : Fun K "_law_odd" "_law_odd" s_law_odd f fd) (T : Txt K mg C) (C_law_draw : Cal P w K mg base "_law_draw" 1 spDraw) : FnOk P w K mg base CX0 2 f fd ["_law_bag_here"] spOdd := by
  have nd := sc_law_odd.nd
  refine F.ok sc_law_odd (fun vs H Q E h => ?_) (fun cdv A outer s H vs Q E hr h => ?_)
  · obtain ⟨b, rfl, _⟩ := h
    rfl
  · obtain ⟨b, rfl, hb, q⟩ := h
    refine ⟨_, (@pss_cons _ _ _ _ _ (@ps_set _ _ 1 _ _ _ _ nd rfl (Or.inl rfl) (@pe_lst _ _ _ _ (@pa_c _ _ _ _ _ pe_str (@pa_c _ _ _ _ _ pe_str (@pa_c _ _ _ _ _ pe_str (@pa_c _ _ _ _ _ pe_str (@pa_c _ _ _ _ _ pe_str (@pa_c _ _ _ _ _ pe_str (@pa_c _ _ _ _ _ pe_str (@pa_c _ _ _ _ _ pe_str (@pa_c _ _ _ _ _ pe_str (@pa_c _ _ _ _ _ pe_str (@pa_c _ _ _ _ _ pe_str (@pa_c _ _ _ _ _ pe_str (@pa_c _ _ _ _ _ pe_str (@pa_c _ _ _ _ _ pe_str (@pa_c _ _ _ _ _ pe_str (@pa_c _ _ _ _ _ pe_str (@pa_c _ _ _ _ _ pe_str pa_nil (by rfl)) (by rfl)) (by rfl)) (by rfl)) (by rfl)) (by rfl)) (by rfl)) (by rfl)) (by rfl)) (by rfl)) (by rfl)) (by rfl)) (by rfl)) (by rfl)) (by rfl)) (by rfl)) (by rfl))) (by kernel_rfl) (Or.inr rfl)) (@pss_cons _ _ _ _ _ (@ps_set _ _ 1 _ _ _ _ nd rfl (Or.inl rfl) (@pe_op _ _ _ _ _ _ _ _ op_cat (pv 1) (@pe_lst _ _ _ _ (@pa_c _ _ _ _ _ pe_str (@pa_c _ _ _ _ _ pe_str (@pa_c _ _ _ _ _ pe_str (@pa_c _ _ _ _ _ pe_str (@pa_c _ _ _ _ _ pe_str (@pa_c _ _ _ _ _ pe_str (@pa_c _ _ _ _ _ pe_str (@pa_c _ _ _ _ _ pe_str (@pa_c _ _ _ _ _ pe_str (@pa_c _ _ _ _ _ pe_str (@pa_c _ _ _ _ _ pe_str (@pa_c _ _ _ _ _ pe_str (@pa_c _ _ _ _ _ pe_str (@pa_c _ _ _ _ _ pe_str pa_nil (by rfl)) (by rfl)) (by rfl)) (by rfl)) (by rfl)) (by rfl)) (by rfl)) (by rfl)) (by rfl)) (by rfl)) (by rfl)) (by rfl)) (by rfl)) (by rfl)))) (by kernel_rfl) (Or.inr rfl)) (@pss_cons _ _ _ _ _ (@ps_set _ _ 1 _ _ _ _ nd rfl (Or.inl rfl) (@pe_op _ _ _ _ _ _ _ _ op_cat (pv 1) (@pe_lst _ _ _ _ (@pa_c _ _ _ _ _ (@pe_op _ _ _ _ _ _ _ _ op_mulS pe_str pe_int) (@pa_c _ _ _ _ _ (@pe_op _ _ _ _ _ _ _ _ op_mulS pe_str pe_int) (@pa_c _ _ _ _ _ (@pe_op _ _ _ _ _ _ _ _ op_add_str pe_str (@pe_op _ _ _ _ _ _ _ _ op_mulS pe_str pe_int)) (@pa_c _ _ _ _ _ (@pe_op _ _ _ _ _ _ _ _ op_add_str pe_str (@pe_op _ _ _ _ _ _ _ _ op_mulS pe_str pe_int)) (@pa_c _ _ _ _ _ (@pe_op _ _ _ _ _ _ _ _ op_add_str pe_str (@pe_op _ _ _ _ _ _ _ _ op_mulS pe_str pe_int)) (@pa_c _ _ _ _ _ pe_str (@pa_c _ _ _ _ _ pe_str (@pa_c _ _ _ _ _ pe_str pa_nil (by rfl)) (by rfl)) (by rfl)) (by rfl)) (by rfl)) (by rfl)) (by rfl)) (by rfl)))) (by kernel_rfl) (Or.inr rfl)) (@pss_one _ _ _ (@ps_ret _ _ _ _ (@pe_ix _ _ _ _ _ _ _ ix_list (pv 1) (pe_c C_law_draw (hr.mono (by decide)) rfl (@pa_c _ _ _ _ _ (pv 0) (@pa_c _ _ _ _ _ pe_int pa_nil (by rfl)) (by rfl))) (fun _ _ => rfl))))))), ?_⟩
    walk_at "wp"
    refine ⟨by decide, fun p1 h1 => ⟨by decide, fun p2 h2 => ?_⟩⟩
    generalize hA : [V.str (Str.ofString ""), V.str (Str.ofString "-"), V.str (Str.ofString "-0"), V.str (Str.ofString "0"), V.str (Str.ofString "00"), V.str (Str.ofString "01"), V.str (Str.ofString "-1"), V.str (Str.ofString "--1"), V.str (Str.ofString "+1"), V.str (Str.ofString "1/"), V.str (Str.ofString "/1"), V.str (Str.ofString "1/0"), V.str (Str.ofString "0/1"), V.str (Str.ofString "1/1"), V.str (Str.ofString "2/4"), V.str (Str.ofString "-0/2"), V.str (Str.ofString "1/-2")] = LA at *
    generalize hB : [V.str (Str.ofString " 1"), V.str (Str.ofString "1 "), V.str (Str.ofString "1 2"), V.str (Str.ofString "1.0"), V.str (Str.ofString "1/2/3"), V.str (Str.ofString "a"), V.str (Str.ofString "1a"), V.str (Str.ofString "0/0"), V.str (Str.ofString "-4/6"), V.str (Str.ofString "97"), V.str (Str.ofString "96"), V.str (Str.ofString "97/97"), V.str (Str.ofString "1/97"), V.str (Str.ofString "5/5")] = LB at *
    have gA : LA.all gtB = true ∧ LA.length = 17 := by rw [← hA]; exact ⟨by decide +kernel, rfl⟩
    have gB : LB.all gtB = true ∧ LB.length = 14 := by rw [← hB]; exact ⟨by decide +kernel, rfl⟩
    have lA := gA.2
    have lB := gB.2
    have s1 := Same.new (o := .lst LA) h1
    have s2 := Same.new (o := .lst LB) h2
    have ea : upd (upd H p1 (.lst LA)) p2 (.lst LB) p1 = some (.lst LA) := s2 _ _ upd_same
    have eb : upd (upd H p1 (.lst LA)) p2 (.lst LB) p2 = some (.lst LB) := upd_same
    have s12 := s1.trans s2
    generalize upd (upd H p1 (.lst LA)) p2 (.lst LB) = H2 at *
    refine ⟨_, ea, _, eb, slc (by omega), fun p3 h3 => ?_⟩
    have eA : upd H2 p3 (.lst (LA ++ LB)) p3 = some (.lst (LA ++ LB)) := upd_same
    have s3 := Same.new (o := .lst (LA ++ LB)) h3
    have s13 := s12.trans s3
    generalize upd H2 p3 (.lst (LA ++ LB)) = H3 at *
    refine ⟨_, rfl, by decide, by decide, by decide, by decide, by decide +kernel, by decide +kernel, _, rfl, by decide, by decide, by decide, by decide, by decide +kernel, by decide +kernel, _, rfl, by decide, by decide, by decide, by decide, by decide +kernel, by decide +kernel, _, rfl, _, rfl, by decide +kernel, _, rfl, by decide, by decide, by decide, by decide, by decide +kernel, by decide +kernel, _, rfl, _, rfl, by decide +kernel, _, rfl, by decide, by decide, by decide, by decide, by decide +kernel, by decide +kernel, _, rfl, _, rfl, by decide +kernel, by decide, fun p4 h4 => ?_⟩
    generalize hC : [V.str (repT (Str.ofString "1") 30), V.str (repT (Str.ofString "1") 31), V.str (Str.ofString "-" ++ repT (Str.ofString "9") 30), V.str (Str.ofString "1/" ++ repT (Str.ofString "3") 30), V.str (Str.ofString "1/" ++ repT (Str.ofString "3") 31), V.str (Str.ofString "1_0"), V.str (Str.ofString "1/+3"), V.str (Str.ofString "1/1_0")] = LC at *
    have gC : LC.all gtB = true ∧ LC.length = 8 := by rw [← hC]; exact ⟨by decide +kernel, rfl⟩
    have lC := gC.2
    have s4 := Same.new (o := .lst LC) h4
    refine ⟨_, s4 _ _ eA, _, upd_same, slc (by rw [List.length_append]; omega), fun p5 h5 => ?_⟩
    have s5 := Same.new (o := .lst (LA ++ LB ++ LC)) h5
    have s15 := (s13.trans s4).trans s5
    have n5 : p5 ≠ b := (hb.same (s13.trans s4)).ne h5
    refine (hb.same s15).draw (by decide) (by decide) fun y H5 y0 y1 e5 b5 => ?_
    have hi : y.toNat < (LA ++ LB ++ LC).length := by rw [List.length_append, List.length_append]; omega
    have ga : (LA ++ LB ++ LC).all gtB = true := by rw [List.all_append, List.all_append, gA.1, gB.1, gC.1]; rfl
    obtain ⟨l', el, al, ll⟩ := gtB_ok (List.all_eq_true.mp ga _ (List.getElem_mem hi))
    refine ⟨_, y, rfl, SqL.of (e5 _ _ n5 upd_same), _, atI_at y0 (List.getElem?_eq_getElem hi), ?_⟩
    rw [el]
    exact q l' H5 (s15.ext.trans e5) b5 al ll
def spNumL : Sp := fun vs H Q _ => ∃ (l : Addr) (p : Int), vs = [.ref l, .int p] ∧ Bag H l ∧ GroundP p ∧ ∀ (v : V) (x : Int × Int) (H' : Hp), Ext l H H' → Bag H' l → NumV H' p v x → Isn p x → Bd BB x → Q v H'
theorem ok_lnum {f : Addr} {fd : FuncData} (F : Fun K "_law_number" "_law_number" s_law_number f fd) (T : Txt K mg C) (C_law_draw : Cal P w K mg base "_law_draw" 1 spDraw) (C_law_lowest : Cal P w K mg base "_law_lowest" 2 spFrac) (C_law_signed : Cal P w K mg base "_law_signed" 3 spMed) (C_law_great : Cal P w K mg base "_law_great" 2 spMed) : FnOk P w K mg base CX0 4 f fd ["_law_bag_here", "_law_p"] spNumL := by
  have nd := sc_law_number.nd
  refine F.ok sc_law_number (fun vs H Q E h => ?_) (fun cdv A outer s H vs Q E hr h => ?_)
  · obtain ⟨l, p, rfl, _⟩ := h
    rfl
  · obtain ⟨l, p, rfl, hb, hp, q⟩ := h
    have p0 := hp.lo
    have p97 := hp.hi
    refine ⟨_, (@pss_cons _ _ _ _ _ (@ps_if _ _ _ _ _ _ _ _ (pt_cmpR op_gt (pv 1) pe_int (nomark _)) (@pss_one _ _ _ (@ps_ret _ _ _ _ (pe_c C_law_draw (hr.mono (by decide)) rfl (@pa_c _ _ _ _ _ (pv 0) (@pa_c _ _ _ _ _ (pv 1) pa_nil (by rfl)) (by rfl))))) pss_nil) (@pss_cons _ _ _ _ _ (@ps_if _ _ _ _ _ _ _ _ (pt_cmpR op_eq (pe_c C_law_draw (hr.mono (by decide)) rfl (@pa_c _ _ _ _ _ (pv 0) (@pa_c _ _ _ _ _ pe_int pa_nil (by rfl)) (by rfl))) pe_int (nomark _)) (@pss_one _ _ _ (@ps_ret _ _ _ _ (pe_c C_law_lowest (hr.mono (by decide)) rfl (@pa_c _ _ _ _ _ (pe_c C_law_signed (hr.mono (by decide)) rfl (@pa_c _ _ _ _ _ (pv 0) pa_nil (by rfl))) (@pa_c _ _ _ _ _ (pe_cB (call_max2 rfl) rfl T.n_max boot_max (@pa_c _ _ _ _ _ pe_int (@pa_c _ _ _ _ _ (pe_c C_law_great (hr.mono (by decide)) rfl (@pa_c _ _ _ _ _ (pv 0) pa_nil (by rfl))) pa_nil (by rfl)) (by rfl))) pa_nil (by rfl)) (by rfl))))) pss_nil) (@pss_one _ _ _ (@ps_ret _ _ _ _ (pe_c C_law_lowest (hr.mono (by decide)) rfl (@pa_c _ _ _ _ _ (@pe_op _ _ _ _ _ _ _ _ op_sub (pe_c C_law_draw (hr.mono (by decide)) rfl (@pa_c _ _ _ _ _ (pv 0) (@pa_c _ _ _ _ _ pe_int pa_nil (by rfl)) (by rfl))) pe_int) (@pa_c _ _ _ _ _ (@pe_op _ _ _ _ _ _ _ _ op_add pe_int (pe_c C_law_draw (hr.mono (by decide)) rfl (@pa_c _ _ _ _ _ (pv 0) (@pa_c _ _ _ _ _ pe_int pa_nil (by rfl)) (by rfl)))) pa_nil (by rfl)) (by rfl))))))), ?_⟩
    walk_at "wp"
    refine ite2 (fun hc => ?_) (fun hc => ?_)
    · have hc := of_decide_eq_true hc
      refine hb.draw hc (by omega) fun z H2 z0 z1 e2 b2 => ?_
      exact q (.int z) (z, 1) H2 e2 b2 (NumV.of (x := (z, 1)) (by omega)) (.inr ⟨hc, z0, z1, rfl⟩) ⟨by show z.natAbs ≤ 1000000000000000000000000000000; omega, by show Int.natAbs 1 ≤ 1000000000000000000000000000000; decide⟩
    · have hc : ¬ 0 < p := fun z => hc (decide_eq_true z)
      have hp0 : p = 0 := by omega
      subst hp0
      have fin : ∀ (H3 : Hp) (a b : Int), Ext l H H3 → Bag H3 l → 0 < b → a.natAbs ≤ 1000000000000000000000000000000 → b.natAbs ≤ 1000000000000000000000000000000 → spFrac [.int a, .int b] H3 Q E0 := fun H3 a b e3 b3 hb0 h1 h2 => by
        refine ⟨a, b, rfl, Top.of (by omega), hb0, by omega, fun t ht => ?_⟩
        have nt := b3.ne ht
        exact q _ (nrm a b) _ (e3.trans (Ext.new ht)) (b3.new nt) (NumV.tup rfl upd_same) (isn_nrm rfl hb0) (nrm_bd hb0 h1 h2)
      refine hb.draw (by decide) (by decide) fun z H2 z0 z1 e2 b2 => ⟨rfl, ite2 (fun hz => ?_) (fun hz => ?_)⟩
      · refine ⟨l, rfl, b2, fun a H3 e3 b3 ma => ⟨l, rfl, b3, fun b H4 e4 b4 mb => ⟨1, b, ⟨rfl, rfl⟩, ?_⟩⟩⟩
        unfold Med30 at ma mb
        have hm : 0 < (if b > 1 then b else 1) ∧ (if b > 1 then b else 1).natAbs ≤ 1000000000000000000000000000000 := by split <;> omega
        exact fin H4 a _ ((e2.trans e3).trans e4) b4 hm.1 ma hm.2
      · exact b2.draw (by decide) (by decide) fun a H3 a0 a1 e3 b3 => ⟨a, rfl, b3.draw (by decide) (by decide) fun b H4 b0 b1 e4 b4 => ⟨b, rfl, fin H4 _ _ ((e2.trans e3).trans e4) b4 (by omega) (by omega) (by omega)⟩⟩
def spOth : Sp := fun vs H Q _ => ∃ (l : Addr) (p : Int) (v : V) (x : Int × Int), vs = [.ref l, .int p, v] ∧ Bag H l ∧ GroundP p ∧ NumV H p v x ∧ Isn p x ∧ Bd BB x ∧ ∀ (l' : List Nat) (H' : Hp), Ext l H H' → Bag H' l → Asc l' → l'.length ≤ 200 → Q (.str (mkS l')) H'
theorem ok_oth {f : Addr} {fd : FuncData} (F : Fun K "_law_other_text" "_law_other_text" s_law_other_text f fd) (T : Txt K mg C) (C_law_draw : Cal P w K mg base "_law_draw" 1 spDraw) : FnOk P w K mg base CX0 2 f fd ["_law_bag_here", "_law_p", "_law_number_here"] spOth := by
  have nd := sc_law_other_text.nd
  refine F.ok sc_law_other_text (fun vs H Q E h => ?_) (fun cdv A outer s H vs Q E hr h => ?_)
  · obtain ⟨l, p, v, x, rfl, _⟩ := h
    rfl
  · obtain ⟨l, p, v, x, rfl, hb, hp, nv, is, bd, q⟩ := h
    have p0 := hp.lo
    have p97 := hp.hi
    refine ⟨_, (@pss_cons _ _ _ _ _ (ps_set (i := 3) nd rfl (Or.inl rfl) (@pe_op _ _ _ _ _ _ _ _ op_add pe_int (pe_c C_law_draw (hr.mono (by decide)) rfl (@pa_c _ _ _ _ _ (pv 0) (@pa_c _ _ _ _ _ pe_int pa_nil (by rfl)) (by rfl))))) (@pss_cons _ _ _ _ _ (@ps_if _ _ _ _ _ _ _ _ (pt_cmpR op_eq (pv 1) pe_int (nomark _)) (@pss_one _ _ _ (@ps_ret _ _ _ _ (@pe_op _ _ _ _ _ _ _ _ op_add_str (@pe_op _ _ _ _ _ _ _ _ op_add_str (pe_cT call_str_int rfl T.n_str boot_str (@pa_c _ _ _ _ _ (@pe_op _ _ _ _ _ _ _ _ op_mulG (@pe_ix _ _ _ _ _ _ _ ix_tup (pv 2) pe_int (fun _ _ => rfl)) (pv 3)) pa_nil (by rfl))) pe_str) (pe_cT call_str_int rfl T.n_str boot_str (@pa_c _ _ _ _ _ (@pe_op _ _ _ _ _ _ _ _ op_mulG (@pe_ix _ _ _ _ _ _ _ ix_tup (pv 2) pe_int (fun _ _ => rfl)) (pv 3)) pa_nil (by rfl)))))) pss_nil) (@pss_cons _ _ _ _ _ (ps_set (i := 4) nd rfl (Or.inl rfl) (pe_c C_law_draw (hr.mono (by decide)) rfl (@pa_c _ _ _ _ _ (pv 0) (@pa_c _ _ _ _ _ pe_int pa_nil (by rfl)) (by rfl)))) (@pss_cons _ _ _ _ _ (@ps_if _ _ _ _ _ _ _ _ (pt_cmpR op_eq (pv 4) pe_int (nomark _)) (@pss_one _ _ _ (@ps_ret _ _ _ _ (pe_cT call_str_int rfl T.n_str boot_str (@pa_c _ _ _ _ _ (@pe_op _ _ _ _ _ _ _ _ op_add (pv 2) (@pe_op _ _ _ _ _ _ _ _ op_mul (pv 1) (pv 3))) pa_nil (by rfl))))) pss_nil) (@pss_cons _ _ _ _ _ (@ps_if _ _ _ _ _ _ _ _ (pt_cmpR op_eq (pv 4) pe_int (nomark _)) (@pss_one _ _ _ (@ps_ret _ _ _ _ (pe_cT call_str_int rfl T.n_str boot_str (@pa_c _ _ _ _ _ (@pe_op _ _ _ _ _ _ _ _ op_sub (pv 2) (@pe_op _ _ _ _ _ _ _ _ op_mul (pv 1) (pv 3))) pa_nil (by rfl))))) pss_nil) (@pss_one _ _ _ (@ps_ret _ _ _ _ (@pe_op _ _ _ _ _ _ _ _ op_add_str (@pe_op _ _ _ _ _ _ _ _ op_add_str (pe_cT call_str_int rfl T.n_str boot_str (@pa_c _ _ _ _ _ (@pe_op _ _ _ _ _ _ _ _ op_mul (pv 2) (pv 3)) pa_nil (by rfl))) pe_str) (pe_cT call_str_int rfl T.n_str boot_str (@pa_c _ _ _ _ _ (pv 3) pa_nil (by rfl))))))))))), ?_⟩
    walk_at "wp"
    refine hb.draw (by decide) (by decide) fun n H2 n0 n1 e2 b2 => ⟨n, rfl, ?_⟩
    have f5 : ∀ y : Int, y.natAbs ≤ 1000000000000000000000000000000 → (y * (1 + n)).natAbs ≤ 5000000000000000000000000000000 := fun y hy => by
      rw [Int.natAbs_mul]
      have := Nat.mul_le_mul hy (show (1 + n).natAbs ≤ 5 by omega)
      omega
    have big : ∀ y : Int, y.natAbs ≤ 5000000000000000000000000000000 → y.natAbs < 10 ^ 60 := fun y hy => Nat.lt_of_le_of_lt hy (by decide +kernel)
    have as : ∀ y : Int, Asc (tI y) := fun y c hc => by have := ascii_tI y c hc; omega
    have ap : ∀ {m n : List Nat}, Asc m → Asc n → Asc (m ++ n) := fun h h' c hc => by
      rcases List.mem_append.mp hc with z | z
      · exact h c z
      · exact h' c z
    have a47 : Asc [47] := fun c hc => by rw [List.mem_singleton.mp hc]; decide
    have fin2 : ∀ (y z : Int) (H3 : Hp), Ext l H H3 → Bag H3 l → y.natAbs ≤ 5000000000000000000000000000000 → z.natAbs ≤ 5000000000000000000000000000000 → Q (.str (mkS (tI y ++ [47] ++ tI z))) H3 := fun y z H3 e3 b3 hy hz =>
      q _ H3 e3 b3 (ap (ap (as y) a47) (as z)) (by have := tI_len60 (big y hy); have := tI_len60 (big z hz); rw [List.length_append, List.length_append]; simp; omega)
    have fin1 : ∀ (y : Int) (H3 : Hp), Ext l H H3 → Bag H3 l → y.natAbs ≤ 5000000000000000000000000000000 → Q (.str (mkS (tI y))) H3 := fun y H3 e3 b3 hy => q _ H3 e3 b3 (as y) (by have := tI_len60 (big y hy); omega)
    have sz1 : ∀ y : Int, y.natAbs ≤ 5000000000000000000000000000000 → (mkS (tI y)).length + (mkS [47]).length ≤ sizeLine := fun y hy => by have := tI_len60 (big y hy); rw [mk_len, mk_len]; exact slc (by simp; omega)
    have sz2 : ∀ y z : Int, y.natAbs ≤ 5000000000000000000000000000000 → z.natAbs ≤ 5000000000000000000000000000000 → (mkS (tI y ++ [47])).length + (mkS (tI z)).length ≤ sizeLine := fun y z hy hz => by have := tI_len60 (big y hy); have := tI_len60 (big z hz); rw [mk_len, mk_len, List.length_append]; exact slc (by simp; omega)
    have b1 : x.1.natAbs ≤ 1000000000000000000000000000000 := bd.1
    have b2' : x.2.natAbs ≤ 1000000000000000000000000000000 := bd.2
    refine ite2 (fun hc => ?_) (fun hc => ?_)
    · have hc := of_decide_eq_true hc
      obtain ⟨t, rfl, ht⟩ := nv.ref hc
      have nt : t ≠ l := fun z => by
        obtain ⟨_, _, h1, _⟩ := hb
        rw [z, h1] at ht
        cases ht
      have ht2 := e2 _ _ nt ht
      refine ⟨t, rfl, _, SqT.of ht2, _, rfl, _, rfl, Big.mul (by unfold Big; omega) (by unfold Big; omega), low2 (big _ (f5 _ b1)), ?_⟩
      rw [str_int, slash]
      refine ⟨_, rfl, _, rfl, sz1 _ (f5 _ b1), t, rfl, _, SqT.of ht2, _, rfl, _, rfl, Big.mul (by unfold Big; omega) (by unfold Big; omega), low2 (big _ (f5 _ b2')), ?_⟩
      rw [str_int, mk_app]
      refine ⟨_, rfl, _, rfl, sz2 _ _ (f5 _ b1) (f5 _ b2'), ?_⟩
      rw [mk_app]
      exact fin2 _ _ H2 e2 b2 (f5 _ b1) (f5 _ b2')
    · have hc : ¬ p = 0 := fun z => hc (decide_eq_true z)
      obtain rfl := nv.int hc
      have pn := f5 p (by omega)
      have hx : 0 ≤ x.1 ∧ x.1 < p := by
        rcases is with ⟨z, _⟩ | ⟨_, z1, z2, _⟩
        · exact absurd z hc
        · exact ⟨z1, z2⟩
      have pm : (p * (1 + n)).natAbs ≤ 97 * 5 := by
        rw [Int.natAbs_mul]
        exact Nat.mul_le_mul (show p.natAbs ≤ 97 by omega) (show (1 + n).natAbs ≤ 5 by omega)
      refine b2.draw (by decide) (by decide) fun m H3 m0 m1 e3 b3 => ⟨rfl, ite2 (fun _ => ⟨.inl (by omega), _, rfl, ?_, ?_⟩) (fun _ => ⟨rfl, ite2 (fun _ => ⟨.inl (by omega), _, rfl, ?_, ?_⟩) (fun _ => ⟨_, rfl, .inl (by omega), ?_⟩)⟩)⟩
      · exact low2 (big _ (by omega))
      · rw [str_int]
        exact fin1 _ H3 (e2.trans e3) b3 (by omega)
      · exact low2 (big _ (by omega))
      · rw [str_int]
        exact fin1 _ H3 (e2.trans e3) b3 (by omega)
      · refine ⟨low2 (big _ (f5 _ b1)), ?_⟩
        rw [str_int, slash]
        refine ⟨_, rfl, _, rfl, sz1 _ (f5 _ b1), low2 (big _ (by omega)), ?_⟩
        rw [str_int, mk_app]
        refine ⟨_, rfl, _, rfl, sz2 _ _ (f5 _ b1) (by omega), ?_⟩
        rw [mk_app]
        exact fin2 _ _ H3 (e2.trans e3) b3 (f5 _ b1) (by omega)
theorem v_uniq {p a b r s : Int} (hp : PrimeP p) (hb : b % p ≠ 0) (r0 : 0 ≤ r) (r1 : r < p) (s0 : 0 ≤ s) (s1 : s < p) (hr : (r * b - a) % p = 0) (hs : (s * b - a) % p = 0) : r = s := by
  obtain ⟨k, _, _, hk⟩ := inv_ex hp hb
  have d1 : p ∣ r * b - a := Int.dvd_of_emod_eq_zero hr
  have d2 : p ∣ s * b - a := Int.dvd_of_emod_eq_zero hs
  have d3 : p ∣ (k : Int) * b - 1 := by
    refine Int.dvd_of_emod_eq_zero ?_
    rw [Int.sub_emod, hk]
    have := hp.1
    rw [Int.emod_eq_of_lt (by decide : (0 : Int) ≤ 1) (by omega), Int.sub_self, Int.zero_emod]
  obtain ⟨x, hx⟩ := d1
  obtain ⟨y, hy⟩ := d2
  obtain ⟨z, hz⟩ := d3
  have e : r - s = p * ((x - y) * k - (r - s) * z) := by grind
  have e2 : (r - s) % p = 0 := by rw [e]; exact Int.mul_emod_right _ _
  have := Int.emod_nonneg (r - s) (show p ≠ 0 by omega)
  by_cases h : r ≤ s
  · have h2 : (s - r) % p = 0 := by
      have : s - r = p * -((x - y) * k - (r - s) * z) := by rw [Int.mul_neg, ← e]; omega
      rw [this]
      exact Int.mul_emod_right _ _
    rw [Int.emod_eq_of_lt (by omega) (by omega)] at h2
    omega
  · rw [Int.emod_eq_of_lt (by omega) (by omega)] at e2
    omega
theorem IsV.both {H : Hp} {p : Int} {x : Int × Int} {v u : V} (hp : GroundP p) (nb : ¬ Bad p x.2) (h : IsV H p x v) (h' : IsV H p x u) : ∃ y, NumV H p v y ∧ NumV H p u y := by
  by_cases p0 : p = 0
  · exact ⟨_, h.1 p0, h'.1 p0⟩
  · obtain ⟨r, rfl, r0, r1, hr⟩ := h.2 p0
    obtain ⟨s, rfl, s0, s1, hs⟩ := h'.2 p0
    obtain rfl := v_uniq (hp.resolve_left p0) (fun z => nb (.inr ⟨p0, z⟩)) r0 r1 s0 s1 hr hs
    exact ⟨(r, 1), NumV.of (x := (r, 1)) p0, NumV.of (x := (r, 1)) p0⟩
theorem IsV.same {H H' : Hp} {p : Int} {x : Int × Int} {v : V} (h : IsV H p x v) (s : Same H H') : IsV H' p x v := ⟨fun z => (h.1 z).same s, h.2⟩
theorem IsV.not_non {H : Hp} {p : Int} {x : Int × Int} {v : V} (h : IsV H p x v) : ¬ decide (v = V.non) = true := fun z => by
  have z := of_decide_eq_true z
  subst z
  by_cases p0 : p = 0
  · obtain ⟨_, e, _⟩ := (h.1 p0).ref p0
    cases e
  · obtain ⟨r, e, _⟩ := h.2 p0
    cases e
def tailP : List (List Nat) → Option (List Nat)
  | [] => none
  | b :: r => some (inter [47] (b :: r))
theorem join_tail (a : List Nat) (rest : List (List Nat)) : joinP a (tailP rest) = inter [47] (a :: rest) := by
  cases rest with
  | nil => rfl
  | cons b r =>
    show a ++ 47 :: inter [47] (b :: r) = a ++ [47] ++ inter [47] (b :: r)
    simp
theorem rd_tail (a : List Nat) (rest : List (List Nat)) : rdP a (tailP rest) = rdN (a :: rest) := by
  cases rest with
  | nil => rfl
  | cons b r =>
    cases r with
    | nil => rfl
    | cons c r =>
      have : isW (inter [47] (b :: c :: r)) = false := by
        cases h : isW (inter [47] (b :: c :: r)) with
        | false => rfl
        | true =>
          have := (isW_parts h).2.2 47 (by show 47 ∈ b ++ [47] ++ inter [47] (c :: r); simp)
          omega
      show (if isW (inter [47] (b :: c :: r)) = true then _ else none) = none
      rw [this]
      rfl
def spRig (C : Addr) : Sp := fun vs H Q _ => ∃ (g : Addr) (p : Int) (l : List Nat), vs = [.ref g, .int p, .str (mkS l)] ∧ GAt C H g p ∧ GroundP p ∧ Asc l ∧ l.length ≤ 300 ∧ ∀ H', Same H H' → Q (.bl true) H'
theorem ok_rig {f : Addr} {fd : FuncData} (F : Fun K "_law_right" "_law_right" s_law_right f fd) (T : Txt K mg C) (C_law_read_number : Cal P w K mg base "_law_read_number" 3 spLrn) (C_law_asked : Cal P w K mg base "_law_asked" 5 (spAsk C)) (C_law_same : Cal P w K mg base "_law_same" 2 spSame) : FnOk P w K mg base CX0 6 f fd ["_law_ground", "_law_p", "_law_text"] (spRig C) := by
  have nd := sc_law_right.nd
  refine F.ok sc_law_right (fun vs H Q E h => ?_) (fun cdv A outer s H vs Q E hr h => ?_)
  · obtain ⟨g, p, l, rfl, _⟩ := h
    rfl
  · obtain ⟨g, p, l, rfl, hg, hp, asc, hl, q⟩ := h
    refine ⟨_, (@pss_cons _ _ _ _ _ (ps_set (i := 3) nd rfl (Or.inl rfl) (pe_c C_law_read_number (hr.mono (by decide)) rfl (@pa_c _ _ _ _ _ (pv 1) (@pa_c _ _ _ _ _ (pv 2) pa_nil (by rfl)) (by rfl)))) (@pss_cons _ _ _ _ _ (ps_set (i := 4) nd rfl (Or.inl rfl) (pe_c C_law_asked (hr.mono (by decide)) rfl (@pa_c _ _ _ _ _ (pv 0) (@pa_c _ _ _ _ _ (pv 2) pa_nil (by rfl)) (by rfl)))) (@pss_cons _ _ _ _ _ (@ps_if _ _ _ _ _ _ _ _ (pt_cmpR op_isN (pv 3) pe_non (nomark _)) (@pss_one _ _ _ (@ps_ret _ _ _ _ (pe_cmpR op_eq (pv 4) pe_str (nomark _)))) pss_nil) (@pss_one _ _ _ (@ps_ret _ _ _ _ (pe_c C_law_same (hr.mono (by decide)) rfl (@pa_c _ _ _ _ _ (pv 1) (@pa_c _ _ _ _ _ (pv 4) (@pa_c _ _ _ _ _ (pv 3) pa_nil (by rfl)) (by rfl)) (by rfl)))))))), ?_⟩
    walk_at "wp"
    obtain ⟨a, rest, rfl, h47⟩ := pcs l
    have jt := join_tail a rest
    have rt := rd_tail a rest
    refine ⟨p, a :: rest, rfl, hp, by simp, asc, hl, h47, fun bad H1 s1 => ?_, fun x hx nb v H1 s1 iv => ?_⟩
    · refine ⟨g, p, a, tailP rest, by rw [jt], h47 a (by simp), by rw [jt]; exact asc, by rw [jt]; exact hl, hg.same s1, hp, fun _ H2 s2 => iteP (by decide) ⟨rfl, by rw [decide_eq_true rfl]; exact q H2 (s1.trans s2)⟩, fun x hx nb => absurd (bad x (by rw [← rt]; exact hx)) nb⟩
    · refine ⟨g, p, a, tailP rest, by rw [jt], h47 a (by simp), by rw [jt]; exact asc, by rw [jt]; exact hl, hg.same s1, hp, fun bad => absurd (bad x (by rw [rt]; exact hx)) nb, fun x' hx' nb' v' H2 s2 iv' => iteN iv.not_non ?_⟩
      rw [rt, hx] at hx'
      cases hx'
      obtain ⟨y, n1, n2⟩ := iv'.both hp nb (iv.same s2)
      exact ⟨p, v', v, y, rfl, hp, n1, n2, q H2 (s1.trans s2)⟩
end
end Pf
set_option maxHeartbeats 1000000
namespace Pf
open PySem L2 PyProof.Rows
section
variable {P : Program} {w : World} {K : PySem.W.Frag} {mg : Str → Option Value} {base : Heap} {C : Addr} {cc : Cs}
theorem cutV_map (ns : List Int) (lo hi : Option Int) : ∃ ms : List Int, cutV (ns.map V.int) lo hi = ms.map V.int ∧ ms.length ≤ ns.length := by
  refine ⟨(ns.drop (HT.sIx (ns.map V.int).length 0 lo)).take (HT.sIx (ns.map V.int).length (ns.map V.int).length hi - HT.sIx (ns.map V.int).length 0 lo), ?_, ?_⟩
  · unfold cutV
    rw [List.map_take, List.map_drop]
  · rw [List.length_take, List.length_drop]
    omega
theorem Same.thru {l : Addr} {H H1 H2 : Hp} (s : Same H H1) (h : H l = none) (e : Ext l H1 H2) : Same H H2 := fun b o eb => e b o (ne_of_none eb h) (s b o eb)
theorem NumV.ext {l : Addr} {H H' : Hp} {p : Int} {v : V} {x : Int × Int} (h : NumV H p v x) (b : Bag H l) (e : Ext l H H') : NumV H' p v x := by
  by_cases hp : p = 0
  · obtain ⟨t, rfl, ht⟩ := h.ref hp
    obtain ⟨a, c, hb, _⟩ := b
    exact NumV.tup hp (e _ _ (ne_of ht hb (by intro z; cases z)) ht)
  · obtain rfl := h.int hp
    exact NumV.of hp
theorem GAt.ext {l : Addr} {H H' : Hp} {g : Addr} {p : Int} (h : GAt C H g p) (b : Bag H l) (e : Ext l H H') : GAt C H' g p := by
  obtain ⟨dx, hg⟩ := h
  obtain ⟨a, c, hb, _⟩ := b
  exact ⟨dx, e _ _ (ne_of hg hb (by intro z; cases z)) hg⟩
def spLaw (K : PySem.W.Frag) : Sp := fun vs H Q _ => ∃ (a : Addr) (ns : List Int), vs = [.ref a] ∧ SqL K H a (ns.map V.int) ∧ ns.length ≤ 63 ∧ ∀ H', Q (.bl true) H'
theorem good_one {p : Int} (hp : GroundP p) : ¬ Bad p 1 := fun z => by
  rcases z with z | ⟨z, y⟩
  · exact absurd z (by decide)
  · have pp : PrimeP p := hp.resolve_left z
    rw [Int.emod_eq_of_lt (by decide) pp.1] at y
    exact absurd y (by decide)
theorem cut7 {A1 A2 A3 A4 A5 A6 A7 X : TS} {D : Ends} {σ : L2.St} {H : Hp} (h : ∀ X', X' = X → tSeq A1 (tSeq A2 (tSeq A3 (tSeq A4 (tSeq A5 (tSeq A6 (tSeq A7 X')))))) D σ H) : tSeq A1 (tSeq A2 (tSeq A3 (tSeq A4 (tSeq A5 (tSeq A6 (tSeq A7 X)))))) D σ H := h X rfl
theorem small_read : ((List.range 97).all fun n => isW (tN n) && vW (tN n) == n && !((tN n)[0]? == some 45)) = true := by decide +kernel
theorem rd_small {n : Int} (h0 : 0 ≤ n) (h1 : n < 97) : rdT (tI n) = some n := by
  have h := List.all_eq_true.mp small_read n.toNat (List.mem_range.mpr (by omega))
  rw [Bool.and_eq_true, Bool.and_eq_true] at h
  obtain ⟨⟨h2, h3⟩, h4⟩ := h
  have e : tI n = tN n.toNat := by
    unfold tI
    rw [if_neg (by omega)]
    congr 1
    omega
  have h3 : vW (tN n.toNat) = n.toNat := by simpa using h3
  have h4 : ¬ (tN n.toNat)[0]? = some 45 := by simpa using h4
  rw [e]
  unfold rdT
  rw [if_neg h4, if_pos h2, h3]
  congr 1
  omega
theorem tNum_len' {p : Int} {x : Nv} (h : Bd BB x) : (tNum p x).length ≤ 65 := tNum_len h
theorem asc_num (p : Int) (x : Nv) : Asc (tNum p x) := fun c hc => by
  have h : ∀ y : Int, c ∈ tI y → c < 128 := fun y hy => by have := ascii_tI y c hy; omega
  unfold tNum at hc
  split at hc
  · split at hc
    · exact h _ hc
    · rcases List.mem_append.mp hc with z | z
      · exact h _ z
      · rcases List.mem_cons.mp z with z | z
        · omega
        · exact h _ z
  · exact h _ hc
theorem ok_law {f : Addr} {fd : FuncData} (F : Fun K "law" "law" s_law f fd) (T : Txt K mg C) (C_law_cell : Cal P w K mg base "_law_cell" 1 (spCell K)) (C_law_bag : Cal P w K mg base "_law_bag" 1 spBag) (C_law_prime : Cal P w K mg base "_law_prime" 2 spPr) (C_Ground : CalI P w K mg base "Ground" C 3 (spInit C)) (C_law_number : Cal P w K mg base "_law_number" 4 spNumL)
    (C_show_number : Cal P w K mg base "show_number" 3 (spShN C)) (C_law_shown : Cal P w K mg base "_law_shown" 1 spLsh) (C_law_same : Cal P w K mg base "_law_same" 2 spSame) (C_law_asked : Cal P w K mg base "_law_asked" 5 (spAsk C)) (C_law_other_text : Cal P w K mg base "_law_other_text" 2 spOth) (C_law_odd : Cal P w K mg base "_law_odd" 2 spOdd) (C_law_sign_spoilt : Cal P w K mg base "_law_sign_spoilt" 2 spSpo)
    (C_law_right : Cal P w K mg base "_law_right" 6 (spRig C)) : FnOk P w K mg base CX0 7 f fd ["_law_script"] (spLaw K) := by
  have nd := sc_law.nd
  refine F.ok sc_law (fun vs H Q E h => ?_) (fun cdv A outer s H vs Q E hr h => ?_)
  · obtain ⟨a, ns, rfl, _⟩ := h
    rfl
  · obtain ⟨a, ns, rfl, hS, hl, q⟩ := h
    have hu8 := room8 hr
    refine ⟨_, (@pss_cons _ _ _ _ _ (ps_for PassesOwn.never rfl (pi_list (@pe_op _ _ _ _ _ _ _ _ op_cat (@pe_lst _ _ _ _ (@pa_c _ _ _ _ _ (pe_c C_law_cell (hr.mono (by decide)) rfl (@pa_c _ _ _ _ _ (pv 0) (@pa_c _ _ _ _ _ pe_int pa_nil (by rfl)) (by rfl))) (@pa_c _ _ _ _ _ pe_int pa_nil (by rfl)) (by rfl))) (@pe_slice _ _ _ _ _ _ _ _ _ _ sl_list (pv 0) (@po_some _ _ _ pe_int) (@po_some _ _ _ pe_int)))) (@pg_name _ _ 1 _ nd rfl (Or.inl rfl) (Or.inl rfl)) (@pss_cons _ _ _ _ _ (ps_set (i := 2) nd rfl (Or.inl rfl) (pe_c C_law_bag (hr.mono (by decide)) rfl (@pa_c _ _ _ _ _ (pv 1) pa_nil (by rfl)))) (@pss_cons _ _ _ _ _ (ps_set (i := 3) nd rfl (Or.inl rfl) (pe_c C_law_prime (hr.mono (by decide)) rfl (@pa_c _ _ _ _ _ (pv 2) pa_nil (by rfl)))) (@pss_cons _ _ _ _ _ (ps_set (i := 4) nd rfl (Or.inl rfl) (pe_n C_Ground (hr.mono (by decide)) rfl (@pa_c _ _ _ _ _ (pv 3) pa_nil (by rfl)))) (@pss_cons _ _ _ _ _ (ps_set (i := 5) nd rfl (Or.inl rfl) (pe_c C_law_number (hr.mono (by decide)) rfl (@pa_c _ _ _ _ _ (pv 2) (@pa_c _ _ _ _ _ (pv 3) pa_nil (by rfl)) (by rfl)))) (@pss_cons _ _ _ _ _ (ps_set (i := 6) nd rfl (Or.inl rfl) (pe_c C_show_number (hr.mono (by decide)) rfl (@pa_c _ _ _ _ _ (pv 4) (@pa_c _ _ _ _ _ (pv 5) pa_nil (by rfl)) (by rfl)))) (@pss_cons _ _ _ _ _ (@ps_if _ _ _ _ _ _ _ _ (PW.pt (pw_or (pt_not (pt_val (pe_cB call_isinst rfl T.n_isinstance boot_isinstance (@pa_c _ _ _ _ _ (pv 6) (@pa_c _ _ _ _ _ (pe_ty rfl T.n_str boot_str) pa_nil (by rfl)) (by rfl))))) (pw_or1 (pt_cmpR op_ne (pv 6) (pe_c C_law_shown (hr.mono (by decide)) rfl (@pa_c _ _ _ _ _ (pv 3) (@pa_c _ _ _ _ _ (pv 5) pa_nil (by rfl)) (by rfl))) (nomark _))))) (@pss_one _ _ _ (@ps_ret _ _ _ _ pe_bl)) pss_nil) (@pss_cons _ _ _ _ _ (@ps_if _ _ _ _ _ _ _ _ (PW.pt (pw_and (pt_cmpR op_gt (pv 3) pe_int (nomark _)) (pw_and1 (pt_not (pt_val (pe_c C_law_same (hr.mono (by decide)) rfl (@pa_c _ _ _ _ _ (pv 3) (@pa_c _ _ _ _ _ (pe_c C_law_asked (hr.mono (by decide)) rfl (@pa_c _ _ _ _ _ (pv 4) (@pa_c _ _ _ _ _ (pv 6) pa_nil (by rfl)) (by rfl))) (@pa_c _ _ _ _ _ (pv 5) pa_nil (by rfl)) (by rfl)) (by rfl)))))))) (@pss_one _ _ _ (@ps_ret _ _ _ _ pe_bl)) pss_nil) (@pss_cons _ _ _ _ _ (ps_set (i := 7) nd rfl (Or.inl rfl) (@pe_lst _ _ _ _ (@pa_c _ _ _ _ _ (pv 6) (@pa_c _ _ _ _ _ (pe_c C_law_other_text (hr.mono (by decide)) rfl (@pa_c _ _ _ _ _ (pv 2) (@pa_c _ _ _ _ _ (pv 3) (@pa_c _ _ _ _ _ (pv 5) pa_nil (by rfl)) (by rfl)) (by rfl))) (@pa_c _ _ _ _ _ (pe_c C_law_odd (hr.mono (by decide)) rfl (@pa_c _ _ _ _ _ (pv 2) pa_nil (by rfl))) (@pa_c _ _ _ _ _ (pe_c C_law_sign_spoilt (hr.mono (by decide)) rfl (@pa_c _ _ _ _ _ (pv 6) (@pa_c _ _ _ _ _ (pv 2) pa_nil (by rfl)) (by rfl))) pa_nil (by rfl)) (by rfl)) (by rfl)) (by rfl)))) (@pss_one _ _ _ (ps_for PassesOwn.never rfl (pi_list (pv 7)) (@pg_name _ _ 8 _ nd rfl (Or.inl rfl) (Or.inl rfl)) (@pss_one _ _ _ (@ps_if _ _ _ _ _ _ _ _ (pt_not (pt_val (pe_c C_law_right (hr.mono (by decide)) rfl (@pa_c _ _ _ _ _ (pv 4) (@pa_c _ _ _ _ _ (pv 3) (@pa_c _ _ _ _ _ (pv 8) pa_nil (by rfl)) (by rfl)) (by rfl))))) (@pss_one _ _ _ (@ps_ret _ _ _ _ pe_bl)) pss_nil))))))))))))) (@pss_one _ _ _ (@ps_ret _ _ _ _ pe_bl))), ?_⟩
    obtain ⟨ms, hms, hml⟩ := cutV_map ns (some 1) (some 30)
    refine ⟨_, rfl, a, ns, 0, rfl, hS, hl, by decide, fun c0 => ⟨by show 2 ≤ sizeLine; decide, fun p1 hp1 => ⟨_, rfl, _, rfl, _, rfl, a, _, rfl, (Same.new hp1).seq hS, fun p2 hp2 => ?_⟩⟩⟩
    rw [hms] at *
    have s2 := (Same.new (o := .lst [V.int c0, V.int 4]) hp1).trans (Same.new (o := .lst (ms.map V.int)) hp2)
    refine ⟨p1, p2, _, _, rfl, rfl, by rw [upd_ne (ne_of_none upd_same hp2)]; exact upd_same, upd_same, Nat.le_of_lt (small1000 (by rw [List.length_map]; show 2 + ms.length ≤ 1000; omega)), fun p3 hp3 => ?_⟩
    have hz : [V.int c0, V.int 4] ++ ms.map V.int = (c0 :: 4 :: ms).map V.int := rfl
    rw [hz]
    have e3 : upd (upd (upd H p1 (.lst [V.int c0, V.int 4])) p2 (.lst (ms.map V.int))) p3 (.lst ((c0 :: 4 :: ms).map V.int)) p3 = some (.lst ((c0 :: 4 :: ms).map V.int)) := upd_same
    generalize upd (upd (upd H p1 (.lst [V.int c0, V.int 4])) p2 (.lst (ms.map V.int))) p3 (.lst ((c0 :: 4 :: ms).map V.int)) = H0 at *
    refine ⟨p3, rfl, ⟨_, SqL.of e3⟩, for_list (xs := (c0 :: 4 :: ms).map V.int) (fun i σ H2 => ∃ v1 v2 v3 v4 v5 v6 v7 v8 : Option V, σ = [some (.ref a), v1, v2, v3, v4, v5, v6, v7, v8] ∧ Same H0 H2)
      ⟨none, none, none, none, none, none, none, none, rfl, Same.refl _⟩ (fun i σ H2 _ ⟨_, _, _, _, _, _, _, _, _, sH⟩ => SqL.of (sH _ _ e3)) ?_ ?_⟩
    · rintro i x σ H2 hi ⟨v1, v2, v3, v4, v5, v6, v7, v8, rfl, s2⟩
      obtain ⟨c, rfl⟩ : ∃ c : Int, x = .int c := by
        rw [List.getElem?_map] at hi
        cases e : (c0 :: 4 :: ms)[i]? with
        | none => rw [e] at hi; cases hi
        | some c => rw [e] at hi; cases hi; exact ⟨c, rfl⟩
      refine cut7 fun X hX => ?_
      walk_at "wp"
      refine ⟨c, rfl, fun l xa xb hl0 xb0 xb1 => ?_⟩
      have b3 : Bag (upd H2 l (BagV xa xb)) l := Bag.set xb0 xb1
      have fl := s2.free hl0
      have s3 := s2.trans (Same.new (o := BagV xa xb) hl0)
      refine ⟨l, rfl, b3, fun p H4 e4 b4 hp x dx hx hdx ndx => ?_⟩
      have fx1 : (upd H4 dx (.own x)) x = none := by rw [upd_ne ndx.symm]; exact hx
      have s45 : Same H4 (upd (upd H4 dx (.own x)) x (.ins C dx [])) := (Same.new hdx).trans (Same.new fx1)
      refine ⟨x, dx, p, rfl, upd_same, hp, fun H5 ex5 hx5 => ⟨rfl, ?_⟩⟩
      have s5 : Same H4 H5 := Same.thru s45 hx ex5
      have b5 := b4.same s5
      have g5 : GAt C H5 x p := ⟨dx, hx5⟩
      have sH5 : Same H0 H5 := (Same.thru s3 fl e4).trans s5
      refine ⟨l, p, rfl, b5, hp, fun v nx H6 e6 b6 nv is bd => ?_⟩
      have g6 : GAt C H6 x p := g5.ext b5 e6
      have sH6 : Same H0 H6 := Same.thru sH5 fl e6
      refine ⟨x, p, v, nx, rfl, g6, nv, bd, fun H7 s7 => ?_⟩
      have str : W.kitOne K (.type "str") (.type "str") = some true := kit_self
      have tl : (tNum p nx).length ≤ 65 := tNum_len' bd
      have ta : Asc (tNum p nx) := asc_num p nx
      have aft : ∀ (Dn : Ends) (H9 : Hp), Same H6 H9 → (∀ σ' H', (∃ v1 v2 v3 v4 v5 v6 v7 v8 : Option V, σ' = [some (.ref a), v1, v2, v3, v4, v5, v6, v7, v8] ∧ Same H0 H') → Dn.nx σ' H') → X Dn [some (.ref a), some (.int c), some (.ref l), some (.int p), some (.ref x), some v, some (.str (mkS (tNum p nx))), v7, v8] H9 := by
        intro Dn H9 s9 hn
        subst hX
        walk_at "wp"
        have b9 := b6.same s9
        refine ⟨l, p, v, nx, rfl, b9, hp, nv.same s9, is, bd, fun l1 H10 e10 b10 a1 n1 => ⟨l, rfl, b10, fun l2 H11 e11 b11 a2 n2 => ⟨_, l, rfl, ta, by omega, b11, fun l3 H12 e12 b12 a3 n3 => ⟨by decide, fun p4 hp4 => ?_⟩⟩⟩⟩
        have eAll := (e10.trans e11).trans e12
        have g12 : GAt C H12 x p := (g6.same s9).ext b9 eAll
        have sH12 : Same H0 H12 := Same.thru (sH6.trans s9) fl eAll
        have s13 := Same.new (o := .lst [V.str (mkS (tNum p nx)), V.str (mkS l1), V.str (mkS l2), V.str (mkS l3)]) hp4
        have e13 : upd H12 p4 (.lst [V.str (mkS (tNum p nx)), V.str (mkS l1), V.str (mkS l2), V.str (mkS l3)]) p4 = some (.lst [V.str (mkS (tNum p nx)), V.str (mkS l1), V.str (mkS l2), V.str (mkS l3)]) := upd_same
        have g13 := g12.same s13
        have sH13 := sH12.trans s13
        generalize upd H12 p4 (.lst [V.str (mkS (tNum p nx)), V.str (mkS l1), V.str (mkS l2), V.str (mkS l3)]) = H13 at *
        refine ⟨_, rfl, p4, rfl, ⟨_, SqL.of e13⟩, for_list (xs := [V.str (mkS (tNum p nx)), V.str (mkS l1), V.str (mkS l2), V.str (mkS l3)]) (fun i σ H2 => ∃ v8 : Option V, σ = [some (.ref a), some (.int c), some (.ref l), some (.int p), some (.ref x), some v, some (.str (mkS (tNum p nx))), some (.ref p4), v8] ∧ Same H13 H2)
          ⟨v8, rfl, Same.refl _⟩ (fun i σ H2 _ ⟨_, _, sH⟩ => SqL.of (sH _ _ e13)) ?_ ?_⟩
        · rintro i y σ H14 hi ⟨v8, rfl, s14⟩
          obtain ⟨m, rfl, am, lm⟩ : ∃ m, y = .str (mkS m) ∧ Asc m ∧ m.length ≤ 300 := by
            match i, hi with
            | 0, hi => cases hi; exact ⟨_, rfl, ta, by omega⟩
            | 1, hi => cases hi; exact ⟨_, rfl, a1, by omega⟩
            | 2, hi => cases hi; exact ⟨_, rfl, a2, by omega⟩
            | 3, hi => cases hi; exact ⟨_, rfl, a3, by omega⟩
          walk_at "wp"
          exact ⟨x, p, m, rfl, g13.same s14, hp, am, lm, fun H15 s15 => ⟨true, rfl, iteF (s14.trans s15)⟩⟩
        · rintro σ H14 ⟨v8, rfl, s14⟩
          exact hn _ _ ⟨_, _, _, _, _, _, _, _, rfl, sH13.trans s14⟩
      clear hX
      have p0 := hp.lo
      have p97 := hp.hi
      show ∃ x_2 y, _
      refine ⟨_, _, ⟨rfl, rfl⟩, .type "str", rfl, _, .str _, true, kit_self, iteF ⟨p, v, nx, rfl, hp, nv.same s7, bd, rfl, iteN (by rw [decide_eq_true rfl]; decide) ⟨p, rfl, ite2 (fun hc => ?_) (fun hc => ?_)⟩⟩⟩
      · have hc := of_decide_eq_true hc
        have hp0 : ¬ p = 0 := by omega
        have hx : 0 ≤ nx.1 ∧ nx.1 < p := by
          rcases is with ⟨z, _⟩ | ⟨_, z1, z2, _⟩
          · exact absurd z hp0
          · exact ⟨z1, z2⟩
        have ej : tNum p nx = joinP (tI nx.1) none := by
          unfold tNum
          rw [if_neg hp0]
          rfl
        have erd : rdP (tI nx.1) none = some (nx.1, 1) := by
          show (rdT (tI nx.1)).map _ = _
          rw [rd_small hx.1 (by omega)]
          rfl
        have ng := good_one hp
        refine ⟨x, p, tI nx.1, none, by rw [ej], no47 _, by rw [← ej]; exact ta, by rw [← ej]; omega, g6.same s7, hp, fun bad => absurd (bad _ erd) ng, fun y hy nb u H8 s8 iv => ?_⟩
        rw [erd] at hy
        cases hy
        obtain rfl := nv.int hp0
        obtain ⟨r, rfl, r0, r1, hr⟩ := iv.2 hp0
        have er : r = nx.1 := by
          have h2 : (nx.1 * 1 - nx.1) % p = 0 := by rw [Int.mul_one, Int.sub_self, Int.zero_emod]
          exact v_uniq (hp.resolve_left hp0) (b := 1) (a := nx.1) (by rw [Int.emod_eq_of_lt (by decide) (by have := (hp.resolve_left hp0).1; omega)]; decide) r0 r1 hx.1 hx.2 hr h2
        subst er
        exact ⟨p, _, _, nx, rfl, hp, NumV.of hp0, NumV.of hp0, true, rfl, iteF (aft _ H8 (s7.trans s8) fun σ' H' h => h)⟩
      · exact aft _ H7 s7 fun σ' H' h => h
    · rintro σ H2 ⟨v1, v2, v3, v4, v5, v6, v7, v8, rfl, s2⟩
      exact q H2
end
end Pf
set_option maxHeartbeats 4000000
namespace Pf
open PySem L2 PyProof.Rows
theorem all_mk {l : PySem.W.OpenLaw} {w : World} {K : PySem.W.Frag} {h : Heap} {mg : Str → Option Value} {fa C : Addr} {t1 t2 t3 t4 : Tok} (X : K.In h) (G : h.Ns mainGlobals mg) (hfa : mg "law" = some (.ref fa))
    {f1 : Addr} {od1 an1 : Option Addr} {sl1 : Array (Option Value)} {oc1 kV1 dc1 pm1 cd1 ct1 : Value}
    {f2 : Addr} {od2 an2 : Option Addr} {sl2 : Array (Option Value)} {oc2 kV2 dc2 pm2 cd2 ct2 : Value}
    {f3 : Addr} {od3 an3 : Option Addr} {sl3 : Array (Option Value)} {oc3 kV3 dc3 pm3 cd3 ct3 : Value}
    {f4 : Addr} {od4 an4 : Option Addr} {sl4 : Array (Option Value)} {oc4 kV4 dc4 pm4 cd4 ct4 : Value}
    {f5 : Addr} {od5 an5 : Option Addr} {sl5 : Array (Option Value)} {oc5 kV5 dc5 pm5 cd5 ct5 : Value}
    {f6 : Addr} {od6 an6 : Option Addr} {sl6 : Array (Option Value)} {oc6 kV6 dc6 pm6 cd6 ct6 : Value}
    {f7 : Addr} {od7 an7 : Option Addr} {sl7 : Array (Option Value)} {oc7 kV7 dc7 pm7 cd7 ct7 : Value}
    {f8 : Addr} {od8 an8 : Option Addr} {sl8 : Array (Option Value)} {oc8 kV8 dc8 pm8 cd8 ct8 : Value}
    {f9 : Addr} {od9 an9 : Option Addr} {sl9 : Array (Option Value)} {oc9 kV9 dc9 pm9 cd9 ct9 : Value}
    {f10 : Addr} {od10 an10 : Option Addr} {sl10 : Array (Option Value)} {oc10 kV10 dc10 pm10 cd10 ct10 : Value}
    {f11 : Addr} {od11 an11 : Option Addr} {sl11 : Array (Option Value)} {oc11 kV11 dc11 pm11 cd11 ct11 : Value}
    {f12 : Addr} {od12 an12 : Option Addr} {sl12 : Array (Option Value)} {oc12 kV12 dc12 pm12 cd12 ct12 : Value}
    {f13 : Addr} {od13 an13 : Option Addr} {sl13 : Array (Option Value)} {oc13 kV13 dc13 pm13 cd13 ct13 : Value}
    {f14 : Addr} {od14 an14 : Option Addr} {sl14 : Array (Option Value)} {oc14 kV14 dc14 pm14 cd14 ct14 : Value}
    {f15 : Addr} {od15 an15 : Option Addr} {sl15 : Array (Option Value)} {oc15 kV15 dc15 pm15 cd15 ct15 : Value}
    {f16 : Addr} {od16 an16 : Option Addr} {sl16 : Array (Option Value)} {oc16 kV16 dc16 pm16 cd16 ct16 : Value}
    {f17 : Addr} {od17 an17 : Option Addr} {sl17 : Array (Option Value)} {oc17 kV17 dc17 pm17 cd17 ct17 : Value}
    {f18 : Addr} {od18 an18 : Option Addr} {sl18 : Array (Option Value)} {oc18 kV18 dc18 pm18 cd18 ct18 : Value}
    {f19 : Addr} {od19 an19 : Option Addr} {sl19 : Array (Option Value)} {oc19 kV19 dc19 pm19 cd19 ct19 : Value}
    {f20 : Addr} {od20 an20 : Option Addr} {sl20 : Array (Option Value)} {oc20 kV20 dc20 pm20 cd20 ct20 : Value}
    {f21 : Addr} {od21 an21 : Option Addr} {sl21 : Array (Option Value)} {oc21 kV21 dc21 pm21 cd21 ct21 : Value}
    {f22 : Addr} {od22 an22 : Option Addr} {sl22 : Array (Option Value)} {oc22 kV22 dc22 pm22 cd22 ct22 : Value}
    {f23 : Addr} {od23 an23 : Option Addr} {sl23 : Array (Option Value)} {oc23 kV23 dc23 pm23 cd23 ct23 : Value}
    {f24 : Addr} {od24 an24 : Option Addr} {sl24 : Array (Option Value)} {oc24 kV24 dc24 pm24 cd24 ct24 : Value}
    {f25 : Addr} {od25 an25 : Option Addr} {sl25 : Array (Option Value)} {oc25 kV25 dc25 pm25 cd25 ct25 : Value}
    {f26 : Addr} {od26 an26 : Option Addr} {sl26 : Array (Option Value)} {oc26 kV26 dc26 pm26 cd26 ct26 : Value}
    {f27 : Addr} {od27 an27 : Option Addr} {sl27 : Array (Option Value)} {oc27 kV27 dc27 pm27 cd27 ct27 : Value}
    {f28 : Addr} {od28 an28 : Option Addr} {sl28 : Array (Option Value)} {oc28 kV28 dc28 pm28 cd28 ct28 : Value}
    {f29 : Addr} {od29 an29 : Option Addr} {sl29 : Array (Option Value)} {oc29 kV29 dc29 pm29 cd29 ct29 : Value}
    {f30 : Addr} {od30 an30 : Option Addr} {sl30 : Array (Option Value)} {oc30 kV30 dc30 pm30 cd30 ct30 : Value}
    {f31 : Addr} {od31 an31 : Option Addr} {sl31 : Array (Option Value)} {oc31 kV31 dc31 pm31 cd31 ct31 : Value}
    {f32 : Addr} {od32 an32 : Option Addr} {sl32 : Array (Option Value)} {oc32 kV32 dc32 pm32 cd32 ct32 : Value}
    {f33 : Addr} {od33 an33 : Option Addr} {sl33 : Array (Option Value)} {oc33 kV33 dc33 pm33 cd33 ct33 : Value}
    {f34 : Addr} {od34 an34 : Option Addr} {sl34 : Array (Option Value)} {oc34 kV34 dc34 pm34 cd34 ct34 : Value}
    {f35 : Addr} {od35 an35 : Option Addr} {sl35 : Array (Option Value)} {oc35 kV35 dc35 pm35 cd35 ct35 : Value}
    {f36 : Addr} {od36 an36 : Option Addr} {sl36 : Array (Option Value)} {oc36 kV36 dc36 pm36 cd36 ct36 : Value}
    {D36 : Addr} {doc36 : Value} {dod36 : Option Addr} {dosl36 : Array (Option Value)} {dn36 : Nat} {dt36 : Tok}
    {x_LimbError x_NoGround x_NoNumber x_NoTable x_NoDrawing x_NoKind x_NoStanding x_NoChange x_NoMirror x_NoRoot x_NoText x_NoRow x_NoName : Addr}
    (a1 : PySem.W.nsIn K mainGlobals "is_whole" = some (some (.ref f1)))
    (l1 : K.lookup f1 = some ⟨oc1, od1, .func (PySem.W.fnOf "is_whole" "is_whole" (defArgs s_is_whole) (defBody s_is_whole) (defScope s_is_whole) .none kV1 dc1 pm1 an1 cd1 ct1), sl1⟩)
    (c1 : PySem.W.codeIn K cd1 "is_whole" = true)
    (k1 : PySem.W.keepIn K (.ref f1) = true)
    (a2 : PySem.W.nsIn K mainGlobals "common_divisor" = some (some (.ref f2)))
    (l2 : K.lookup f2 = some ⟨oc2, od2, .func (PySem.W.fnOf "common_divisor" "common_divisor" (defArgs s_common_divisor) (defBody s_common_divisor) (defScope s_common_divisor) .none kV2 dc2 pm2 an2 cd2 ct2), sl2⟩)
    (c2 : PySem.W.codeIn K cd2 "common_divisor" = true)
    (k2 : PySem.W.keepIn K (.ref f2) = true)
    (a3 : PySem.W.nsIn K mainGlobals "show_whole" = some (some (.ref f3)))
    (l3 : K.lookup f3 = some ⟨oc3, od3, .func (PySem.W.fnOf "show_whole" "show_whole" (defArgs s_show_whole) (defBody s_show_whole) (defScope s_show_whole) .none kV3 dc3 pm3 an3 cd3 ct3), sl3⟩)
    (c3 : PySem.W.codeIn K cd3 "show_whole" = true)
    (k3 : PySem.W.keepIn K (.ref f3) = true)
    (a4 : PySem.W.nsIn K mainGlobals "show_number" = some (some (.ref f4)))
    (l4 : K.lookup f4 = some ⟨oc4, od4, .func (PySem.W.fnOf "show_number" "show_number" (defArgs s_show_number) (defBody s_show_number) (defScope s_show_number) .none kV4 dc4 pm4 an4 cd4 ct4), sl4⟩)
    (c4 : PySem.W.codeIn K cd4 "show_number" = true)
    (k4 : PySem.W.keepIn K (.ref f4) = true)
    (a5 : PySem.W.nsIn K mainGlobals "is_written" = some (some (.ref f5)))
    (l5 : K.lookup f5 = some ⟨oc5, od5, .func (PySem.W.fnOf "is_written" "is_written" (defArgs s_is_written) (defBody s_is_written) (defScope s_is_written) .none kV5 dc5 pm5 an5 cd5 ct5), sl5⟩)
    (c5 : PySem.W.codeIn K cd5 "is_written" = true)
    (k5 : PySem.W.keepIn K (.ref f5) = true)
    (a6 : PySem.W.nsIn K mainGlobals "read_whole" = some (some (.ref f6)))
    (l6 : K.lookup f6 = some ⟨oc6, od6, .func (PySem.W.fnOf "read_whole" "read_whole" (defArgs s_read_whole) (defBody s_read_whole) (defScope s_read_whole) .none kV6 dc6 pm6 an6 cd6 ct6), sl6⟩)
    (c6 : PySem.W.codeIn K cd6 "read_whole" = true)
    (k6 : PySem.W.keepIn K (.ref f6) = true)
    (a7 : PySem.W.nsIn K mainGlobals "read_top" = some (some (.ref f7)))
    (l7 : K.lookup f7 = some ⟨oc7, od7, .func (PySem.W.fnOf "read_top" "read_top" (defArgs s_read_top) (defBody s_read_top) (defScope s_read_top) .none kV7 dc7 pm7 an7 cd7 ct7), sl7⟩)
    (c7 : PySem.W.codeIn K cd7 "read_top" = true)
    (k7 : PySem.W.keepIn K (.ref f7) = true)
    (a8 : PySem.W.nsIn K mainGlobals "read_number" = some (some (.ref f8)))
    (l8 : K.lookup f8 = some ⟨oc8, od8, .func (PySem.W.fnOf "read_number" "read_number" (defArgs s_read_number) (defBody s_read_number) (defScope s_read_number) .none kV8 dc8 pm8 an8 cd8 ct8), sl8⟩)
    (c8 : PySem.W.codeIn K cd8 "read_number" = true)
    (k8 : PySem.W.keepIn K (.ref f8) = true)
    (a9 : PySem.W.nsIn K mainGlobals "is_prime" = some (some (.ref f9)))
    (l9 : K.lookup f9 = some ⟨oc9, od9, .func (PySem.W.fnOf "is_prime" "is_prime" (defArgs s_is_prime) (defBody s_is_prime) (defScope s_is_prime) .none kV9 dc9 pm9 an9 cd9 ct9), sl9⟩)
    (c9 : PySem.W.codeIn K cd9 "is_prime" = true)
    (k9 : PySem.W.keepIn K (.ref f9) = true)
    (a10 : PySem.W.nsIn K mainGlobals "tells_ground" = some (some (.ref f10)))
    (l10 : K.lookup f10 = some ⟨oc10, od10, .func (PySem.W.fnOf "tells_ground" "tells_ground" (defArgs s_tells_ground) (defBody s_tells_ground) (defScope s_tells_ground) .none kV10 dc10 pm10 an10 cd10 ct10), sl10⟩)
    (c10 : PySem.W.codeIn K cd10 "tells_ground" = true)
    (k10 : PySem.W.keepIn K (.ref f10) = true)
    (a11 : PySem.W.nsIn K mainGlobals "fraction" = some (some (.ref f11)))
    (l11 : K.lookup f11 = some ⟨oc11, od11, .func (PySem.W.fnOf "fraction" "fraction" (defArgs s_fraction) (defBody s_fraction) (defScope s_fraction) .none kV11 dc11 pm11 an11 cd11 ct11), sl11⟩)
    (c11 : PySem.W.codeIn K cd11 "fraction" = true)
    (k11 : PySem.W.keepIn K (.ref f11) = true)
    (a12 : PySem.W.nsIn K mainGlobals "inverse" = some (some (.ref f12)))
    (l12 : K.lookup f12 = some ⟨oc12, od12, .func (PySem.W.fnOf "inverse" "inverse" (defArgs s_inverse) (defBody s_inverse) (defScope s_inverse) .none kV12 dc12 pm12 an12 cd12 ct12), sl12⟩)
    (c12 : PySem.W.codeIn K cd12 "inverse" = true)
    (k12 : PySem.W.keepIn K (.ref f12) = true)
    (a13 : PySem.W.nsIn K mainGlobals "rest_of" = some (some (.ref f13)))
    (l13 : K.lookup f13 = some ⟨oc13, od13, .func (PySem.W.fnOf "rest_of" "rest_of" (defArgs s_rest_of) (defBody s_rest_of) (defScope s_rest_of) .none kV13 dc13 pm13 an13 cd13 ct13), sl13⟩)
    (c13 : PySem.W.codeIn K cd13 "rest_of" = true)
    (k13 : PySem.W.keepIn K (.ref f13) = true)
    (a14 : PySem.W.nsIn K mainGlobals "_law_cell" = some (some (.ref f14)))
    (l14 : K.lookup f14 = some ⟨oc14, od14, .func (PySem.W.fnOf "_law_cell" "_law_cell" (defArgs s_law_cell) (defBody s_law_cell) (defScope s_law_cell) .none kV14 dc14 pm14 an14 cd14 ct14), sl14⟩)
    (c14 : PySem.W.codeIn K cd14 "_law_cell" = true)
    (k14 : PySem.W.keepIn K (.ref f14) = true)
    (a15 : PySem.W.nsIn K mainGlobals "_law_bag" = some (some (.ref f15)))
    (l15 : K.lookup f15 = some ⟨oc15, od15, .func (PySem.W.fnOf "_law_bag" "_law_bag" (defArgs s_law_bag) (defBody s_law_bag) (defScope s_law_bag) .none kV15 dc15 pm15 an15 cd15 ct15), sl15⟩)
    (c15 : PySem.W.codeIn K cd15 "_law_bag" = true)
    (k15 : PySem.W.keepIn K (.ref f15) = true)
    (a16 : PySem.W.nsIn K mainGlobals "_law_draw" = some (some (.ref f16)))
    (l16 : K.lookup f16 = some ⟨oc16, od16, .func (PySem.W.fnOf "_law_draw" "_law_draw" (defArgs s_law_draw) (defBody s_law_draw) (defScope s_law_draw) .none kV16 dc16 pm16 an16 cd16 ct16), sl16⟩)
    (c16 : PySem.W.codeIn K cd16 "_law_draw" = true)
    (k16 : PySem.W.keepIn K (.ref f16) = true)
    (a17 : PySem.W.nsIn K mainGlobals "_law_great" = some (some (.ref f17)))
    (l17 : K.lookup f17 = some ⟨oc17, od17, .func (PySem.W.fnOf "_law_great" "_law_great" (defArgs s_law_great) (defBody s_law_great) (defScope s_law_great) .none kV17 dc17 pm17 an17 cd17 ct17), sl17⟩)
    (c17 : PySem.W.codeIn K cd17 "_law_great" = true)
    (k17 : PySem.W.keepIn K (.ref f17) = true)
    (a18 : PySem.W.nsIn K mainGlobals "_law_signed" = some (some (.ref f18)))
    (l18 : K.lookup f18 = some ⟨oc18, od18, .func (PySem.W.fnOf "_law_signed" "_law_signed" (defArgs s_law_signed) (defBody s_law_signed) (defScope s_law_signed) .none kV18 dc18 pm18 an18 cd18 ct18), sl18⟩)
    (c18 : PySem.W.codeIn K cd18 "_law_signed" = true)
    (k18 : PySem.W.keepIn K (.ref f18) = true)
    (a19 : PySem.W.nsIn K mainGlobals "_law_gcd" = some (some (.ref f19)))
    (l19 : K.lookup f19 = some ⟨oc19, od19, .func (PySem.W.fnOf "_law_gcd" "_law_gcd" (defArgs s_law_gcd) (defBody s_law_gcd) (defScope s_law_gcd) .none kV19 dc19 pm19 an19 cd19 ct19), sl19⟩)
    (c19 : PySem.W.codeIn K cd19 "_law_gcd" = true)
    (k19 : PySem.W.keepIn K (.ref f19) = true)
    (a20 : PySem.W.nsIn K mainGlobals "_law_lowest" = some (some (.ref f20)))
    (l20 : K.lookup f20 = some ⟨oc20, od20, .func (PySem.W.fnOf "_law_lowest" "_law_lowest" (defArgs s_law_lowest) (defBody s_law_lowest) (defScope s_law_lowest) .none kV20 dc20 pm20 an20 cd20 ct20), sl20⟩)
    (c20 : PySem.W.codeIn K cd20 "_law_lowest" = true)
    (k20 : PySem.W.keepIn K (.ref f20) = true)
    (a21 : PySem.W.nsIn K mainGlobals "_law_whole" = some (some (.ref f21)))
    (l21 : K.lookup f21 = some ⟨oc21, od21, .func (PySem.W.fnOf "_law_whole" "_law_whole" (defArgs s_law_whole) (defBody s_law_whole) (defScope s_law_whole) .none kV21 dc21 pm21 an21 cd21 ct21), sl21⟩)
    (c21 : PySem.W.codeIn K cd21 "_law_whole" = true)
    (k21 : PySem.W.keepIn K (.ref f21) = true)
    (a22 : PySem.W.nsIn K mainGlobals "_law_prime" = some (some (.ref f22)))
    (l22 : K.lookup f22 = some ⟨oc22, od22, .func (PySem.W.fnOf "_law_prime" "_law_prime" (defArgs s_law_prime) (defBody s_law_prime) (defScope s_law_prime) .none kV22 dc22 pm22 an22 cd22 ct22), sl22⟩)
    (c22 : PySem.W.codeIn K cd22 "_law_prime" = true)
    (k22 : PySem.W.keepIn K (.ref f22) = true)
    (a23 : PySem.W.nsIn K mainGlobals "_law_same" = some (some (.ref f23)))
    (l23 : K.lookup f23 = some ⟨oc23, od23, .func (PySem.W.fnOf "_law_same" "_law_same" (defArgs s_law_same) (defBody s_law_same) (defScope s_law_same) .none kV23 dc23 pm23 an23 cd23 ct23), sl23⟩)
    (c23 : PySem.W.codeIn K cd23 "_law_same" = true)
    (k23 : PySem.W.keepIn K (.ref f23) = true)
    (a24 : PySem.W.nsIn K mainGlobals "_law_shown" = some (some (.ref f24)))
    (l24 : K.lookup f24 = some ⟨oc24, od24, .func (PySem.W.fnOf "_law_shown" "_law_shown" (defArgs s_law_shown) (defBody s_law_shown) (defScope s_law_shown) .none kV24 dc24 pm24 an24 cd24 ct24), sl24⟩)
    (c24 : PySem.W.codeIn K cd24 "_law_shown" = true)
    (k24 : PySem.W.keepIn K (.ref f24) = true)
    (a25 : PySem.W.nsIn K mainGlobals "_law_read_whole" = some (some (.ref f25)))
    (l25 : K.lookup f25 = some ⟨oc25, od25, .func (PySem.W.fnOf "_law_read_whole" "_law_read_whole" (defArgs s_law_read_whole) (defBody s_law_read_whole) (defScope s_law_read_whole) .none kV25 dc25 pm25 an25 cd25 ct25), sl25⟩)
    (c25 : PySem.W.codeIn K cd25 "_law_read_whole" = true)
    (k25 : PySem.W.keepIn K (.ref f25) = true)
    (a26 : PySem.W.nsIn K mainGlobals "_law_read_number" = some (some (.ref f26)))
    (l26 : K.lookup f26 = some ⟨oc26, od26, .func (PySem.W.fnOf "_law_read_number" "_law_read_number" (defArgs s_law_read_number) (defBody s_law_read_number) (defScope s_law_read_number) .none kV26 dc26 pm26 an26 cd26 ct26), sl26⟩)
    (c26 : PySem.W.codeIn K cd26 "_law_read_number" = true)
    (k26 : PySem.W.keepIn K (.ref f26) = true)
    (a27 : PySem.W.nsIn K mainGlobals "_law_alone" = some (some (.ref f27)))
    (l27 : K.lookup f27 = some ⟨oc27, od27, .func (PySem.W.fnOf "_law_alone" "_law_alone" (defArgs s_law_alone) (defBody s_law_alone) (defScope s_law_alone) .none kV27 dc27 pm27 an27 cd27 ct27), sl27⟩)
    (c27 : PySem.W.codeIn K cd27 "_law_alone" = true)
    (k27 : PySem.W.keepIn K (.ref f27) = true)
    (a28 : PySem.W.nsIn K mainGlobals "_law_sign_spoilt" = some (some (.ref f28)))
    (l28 : K.lookup f28 = some ⟨oc28, od28, .func (PySem.W.fnOf "_law_sign_spoilt" "_law_sign_spoilt" (defArgs s_law_sign_spoilt) (defBody s_law_sign_spoilt) (defScope s_law_sign_spoilt) .none kV28 dc28 pm28 an28 cd28 ct28), sl28⟩)
    (c28 : PySem.W.codeIn K cd28 "_law_sign_spoilt" = true)
    (k28 : PySem.W.keepIn K (.ref f28) = true)
    (a29 : PySem.W.nsIn K mainGlobals "_law_number" = some (some (.ref f29)))
    (l29 : K.lookup f29 = some ⟨oc29, od29, .func (PySem.W.fnOf "_law_number" "_law_number" (defArgs s_law_number) (defBody s_law_number) (defScope s_law_number) .none kV29 dc29 pm29 an29 cd29 ct29), sl29⟩)
    (c29 : PySem.W.codeIn K cd29 "_law_number" = true)
    (k29 : PySem.W.keepIn K (.ref f29) = true)
    (a30 : PySem.W.nsIn K mainGlobals "_law_asked" = some (some (.ref f30)))
    (l30 : K.lookup f30 = some ⟨oc30, od30, .func (PySem.W.fnOf "_law_asked" "_law_asked" (defArgs s_law_asked) (defBody s_law_asked) (defScope s_law_asked) .none kV30 dc30 pm30 an30 cd30 ct30), sl30⟩)
    (c30 : PySem.W.codeIn K cd30 "_law_asked" = true)
    (k30 : PySem.W.keepIn K (.ref f30) = true)
    (a31 : PySem.W.nsIn K mainGlobals "_law_odd" = some (some (.ref f31)))
    (l31 : K.lookup f31 = some ⟨oc31, od31, .func (PySem.W.fnOf "_law_odd" "_law_odd" (defArgs s_law_odd) (defBody s_law_odd) (defScope s_law_odd) .none kV31 dc31 pm31 an31 cd31 ct31), sl31⟩)
    (c31 : PySem.W.codeIn K cd31 "_law_odd" = true)
    (k31 : PySem.W.keepIn K (.ref f31) = true)
    (a32 : PySem.W.nsIn K mainGlobals "_law_other_text" = some (some (.ref f32)))
    (l32 : K.lookup f32 = some ⟨oc32, od32, .func (PySem.W.fnOf "_law_other_text" "_law_other_text" (defArgs s_law_other_text) (defBody s_law_other_text) (defScope s_law_other_text) .none kV32 dc32 pm32 an32 cd32 ct32), sl32⟩)
    (c32 : PySem.W.codeIn K cd32 "_law_other_text" = true)
    (k32 : PySem.W.keepIn K (.ref f32) = true)
    (a33 : PySem.W.nsIn K mainGlobals "_law_right" = some (some (.ref f33)))
    (l33 : K.lookup f33 = some ⟨oc33, od33, .func (PySem.W.fnOf "_law_right" "_law_right" (defArgs s_law_right) (defBody s_law_right) (defScope s_law_right) .none kV33 dc33 pm33 an33 cd33 ct33), sl33⟩)
    (c33 : PySem.W.codeIn K cd33 "_law_right" = true)
    (k33 : PySem.W.keepIn K (.ref f33) = true)
    (a34 : PySem.W.nsIn K mainGlobals "law" = some (some (.ref f34)))
    (l34 : K.lookup f34 = some ⟨oc34, od34, .func (PySem.W.fnOf "law" "law" (defArgs s_law) (defBody s_law) (defScope s_law) .none kV34 dc34 pm34 an34 cd34 ct34), sl34⟩)
    (c34 : PySem.W.codeIn K cd34 "law" = true)
    (k34 : PySem.W.keepIn K (.ref f34) = true)
    (aC : PySem.W.nsIn K mainGlobals "Ground" = some (some (.ref C)))
    (a35 : PySem.W.findIn K (.ref C) "__init__" = some (some (.ref f35)))
    (i35 : PySem.W.isFn K (.ref f35) = true)
    (l35 : K.lookup f35 = some ⟨oc35, od35, .func (PySem.W.fnOf "__init__" "Ground.__init__" (defArgs s_Ground_init) (defBody s_Ground_init) (defScope s_Ground_init) .none kV35 dc35 pm35 an35 cd35 ct35), sl35⟩)
    (c35 : PySem.W.codeIn K cd35 "Ground.__init__" = true)
    (k35 : PySem.W.keepIn K (.ref f35) = true)
    (a36 : PySem.W.findIn K (.ref C) "number" = some (some (.ref f36)))
    (i36 : PySem.W.isFn K (.ref f36) = true)
    (l36 : K.lookup f36 = some ⟨oc36, od36, .func (PySem.W.fnOf "number" "Ground.number" (defArgs s_Ground_number) (defBody s_Ground_number) (defScope s_Ground_number) (.ref D36) kV36 dc36 pm36 an36 cd36 ct36), sl36⟩)
    (dl36 : K.lookup D36 = some ⟨doc36, dod36, .seq #[.int 1 dt36] dn36, dosl36⟩)
    (c36 : PySem.W.codeIn K cd36 "Ground.number" = true)
    (k36 : PySem.W.keepIn K (.ref f36) = true)
    (pg : PySem.W.plainGet K C Str.empty = true)
    (hd : PySem.W.hasDictIn K C = true)
    (po : PySem.W.plainOver K C = true)
    (sa : PySem.W.findIn K (.ref C) "__setattr__" = some (some (.builtin "object.__setattr__")))
    (mk : PySem.W.makesIn K C = true)
    (kc : PySem.W.keepIn K (.ref C) = true)
    (nP : PySem.W.findIn K (.ref C) "prime" = some none)
    (g1 : PySem.W.nsIn K mainGlobals "LARGEST_PRIME" = some (some (.int 97 t1)))
    (g2 : PySem.W.nsIn K mainGlobals "LONG" = some (some (.int 4000 t2)))
    (g3 : PySem.W.nsIn K mainGlobals "FIGURES" = some (some (.str "0123456789" t3)))
    (g4 : PySem.W.nsIn K mainGlobals "MOST_FIGURES" = some (some (.int 30 t4)))
    (z0 : PySem.W.nsIn K mainGlobals "abs" = some none)
    (z1 : PySem.W.nsIn K mainGlobals "all" = some none)
    (z2 : PySem.W.nsIn K mainGlobals "isinstance" = some none)
    (z3 : PySem.W.nsIn K mainGlobals "int" = some none)
    (z4 : PySem.W.nsIn K mainGlobals "bool" = some none)
    (z5 : PySem.W.nsIn K mainGlobals "tuple" = some none)
    (z6 : PySem.W.nsIn K mainGlobals "range" = some none)
    (z7 : PySem.W.nsIn K mainGlobals "len" = some none)
    (z8 : PySem.W.nsIn K mainGlobals "ValueError" = some none)
    (z9 : PySem.W.nsIn K mainGlobals "str" = some none)
    (z10 : PySem.W.nsIn K mainGlobals "any" = some none)
    (z11 : PySem.W.nsIn K mainGlobals "list" = some none)
    (z12 : PySem.W.nsIn K mainGlobals "max" = some none)
    (a_LimbError : PySem.W.nsIn K mainGlobals "LimbError" = some (some (.ref x_LimbError)))
    (a_NoGround : PySem.W.nsIn K mainGlobals "NoGround" = some (some (.ref x_NoGround)))
    (a_NoNumber : PySem.W.nsIn K mainGlobals "NoNumber" = some (some (.ref x_NoNumber)))
    (a_NoTable : PySem.W.nsIn K mainGlobals "NoTable" = some (some (.ref x_NoTable)))
    (a_NoDrawing : PySem.W.nsIn K mainGlobals "NoDrawing" = some (some (.ref x_NoDrawing)))
    (a_NoKind : PySem.W.nsIn K mainGlobals "NoKind" = some (some (.ref x_NoKind)))
    (a_NoStanding : PySem.W.nsIn K mainGlobals "NoStanding" = some (some (.ref x_NoStanding)))
    (a_NoChange : PySem.W.nsIn K mainGlobals "NoChange" = some (some (.ref x_NoChange)))
    (a_NoMirror : PySem.W.nsIn K mainGlobals "NoMirror" = some (some (.ref x_NoMirror)))
    (a_NoRoot : PySem.W.nsIn K mainGlobals "NoRoot" = some (some (.ref x_NoRoot)))
    (a_NoText : PySem.W.nsIn K mainGlobals "NoText" = some (some (.ref x_NoText)))
    (a_NoRow : PySem.W.nsIn K mainGlobals "NoRow" = some (some (.ref x_NoRow)))
    (a_NoName : PySem.W.nsIn K mainGlobals "NoName" = some (some (.ref x_NoName)))
    (e_LimbError : PySem.W.excIn K x_LimbError [.type "ValueError", .type "Exception", .type "BaseException", .type "object"] "ValueError.__new__" = true)
    (e_NoNumber : PySem.W.excIn K x_NoNumber [.type "ValueError", .type "Exception", .type "BaseException", .type "object"] "ValueError.__new__" = true)
    (e_NoText : PySem.W.excIn K x_NoText [.type "ValueError", .type "Exception", .type "BaseException", .type "object"] "ValueError.__new__" = true)
    (m_R : PySem.W.mroIn K x_NoText (.ref x_LimbError) = some true)
    (n_R : x_NoText ≠ x_LimbError)
    (y_ga : PySem.W.findIn K (.ref x_NoText) "__getattribute__" = some (some (.builtin "BaseException.__getattribute__")))
    (y_gt : PySem.W.findIn K (.ref x_NoText) "__getattr__" = some none)
    (y_cl : PySem.W.findIn K (.ref x_NoText) "__class__" = some (some (.builtin "object.__class__")))
    (y_so : PySem.W.mroIn K x_NoText (.type "object") = some true)
    (y_sb : PySem.W.mroIn K x_NoText (.type "BaseException") = some true)
    (y_t1 : PySem.W.kitAny K (.ref x_NoText) [.ref x_NoChange, .ref x_NoGround, .ref x_NoKind, .ref x_NoMirror, .ref x_NoName, .ref x_NoRoot, .ref x_NoRow] = some false)
    (y_qNoDrawing : PySem.W.kitOne K (.ref x_NoText) (.ref x_NoDrawing) = some false)
    (y_qNoNumber : PySem.W.kitOne K (.ref x_NoText) (.ref x_NoNumber) = some false)
    (y_qNoTable : PySem.W.kitOne K (.ref x_NoText) (.ref x_NoTable) = some false)
    (y_qNoStanding : PySem.W.kitOne K (.ref x_NoText) (.ref x_NoStanding) = some false)
    (y_v : PySem.W.kitOne K (.ref x_NoText) (.type "ValueError") = some true) :
    ∃ fd : FuncData, (∀ (s : Shared) (v : Value), BindsTo s fd ⟨[v], []⟩ [("_law_script", v)]) ∧ ∀ base : Heap, K.In base → base.Ns mainGlobals mg → FnOk l.prog w K mg base CX0 7 fa fd ["_law_script"] (spLaw K) := by
  have e := hfa.symm.trans (PySem.W.mg_of X G a34)
  cases e
  have T : Txt K mg C := ⟨⟨pg, hd, po, sa⟩, nP, PySem.W.mg_none_of X G z0, PySem.W.mg_none_of X G z1, PySem.W.mg_none_of X G z2, PySem.W.mg_none_of X G z3, PySem.W.mg_none_of X G z4, PySem.W.mg_none_of X G z5, PySem.W.mg_none_of X G z6, PySem.W.mg_none_of X G z7, PySem.W.mg_none_of X G z8, PySem.W.mg_none_of X G z9, PySem.W.mg_none_of X G z10, PySem.W.mg_none_of X G z11, PySem.W.mg_none_of X G z12, ⟨t1, PySem.W.mg_of X G g1⟩, ⟨t2, PySem.W.mg_of X G g2⟩, ⟨t3, PySem.W.mg_of X G g3⟩, ⟨t4, PySem.W.mg_of X G g4⟩⟩
  have F1 := fun_mk (st := s_is_whole) l1 c1 k1
  have b1 := F1.binds (ps := ["thing"]) fun _ _ _ _ _ _ us hl => match us, hl with | [_], _ => rfl
  have F2 := fun_mk (st := s_common_divisor) l2 c2 k2
  have b2 := F2.binds (ps := ["one", "other"]) fun _ _ _ _ _ _ us hl => match us, hl with | [_, _], _ => rfl
  have F3 := fun_mk (st := s_show_whole) l3 c3 k3
  have b3 := F3.binds (ps := ["number"]) fun _ _ _ _ _ _ us hl => match us, hl with | [_], _ => rfl
  have F4 := fun_mk (st := s_show_number) l4 c4 k4
  have b4 := F4.binds (ps := ["ground", "number"]) fun _ _ _ _ _ _ us hl => match us, hl with | [_, _], _ => rfl
  have F5 := fun_mk (st := s_is_written) l5 c5 k5
  have b5 := F5.binds (ps := ["most", "text"]) fun _ _ _ _ _ _ us hl => match us, hl with | [_, _], _ => rfl
  have F6 := fun_mk (st := s_read_whole) l6 c6 k6
  have b6 := F6.binds (ps := ["text"]) fun _ _ _ _ _ _ us hl => match us, hl with | [_], _ => rfl
  have F7 := fun_mk (st := s_read_top) l7 c7 k7
  have b7 := F7.binds (ps := ["text"]) fun _ _ _ _ _ _ us hl => match us, hl with | [_], _ => rfl
  have F8 := fun_mk (st := s_read_number) l8 c8 k8
  have b8 := F8.binds (ps := ["ground", "text"]) fun _ _ _ _ _ _ us hl => match us, hl with | [_, _], _ => rfl
  have F9 := fun_mk (st := s_is_prime) l9 c9 k9
  have b9 := F9.binds (ps := ["number"]) fun _ _ _ _ _ _ us hl => match us, hl with | [_], _ => rfl
  have F10 := fun_mk (st := s_tells_ground) l10 c10 k10
  have b10 := F10.binds (ps := ["thing"]) fun _ _ _ _ _ _ us hl => match us, hl with | [_], _ => rfl
  have F11 := fun_mk (st := s_fraction) l11 c11 k11
  have b11 := F11.binds (ps := ["top", "bottom"]) fun _ _ _ _ _ _ us hl => match us, hl with | [_, _], _ => rfl
  have F12 := fun_mk (st := s_inverse) l12 c12 k12
  have b12 := F12.binds (ps := ["rest", "prime"]) fun _ _ _ _ _ _ us hl => match us, hl with | [_, _], _ => rfl
  have F13 := fun_mk (st := s_rest_of) l13 c13 k13
  have b13 := F13.binds (ps := ["top", "bottom", "prime"]) fun _ _ _ _ _ _ us hl => match us, hl with | [_, _, _], _ => rfl
  have F14 := fun_mk (st := s_law_cell) l14 c14 k14
  have b14 := F14.binds (ps := ["_law_script", "_law_k"]) fun _ _ _ _ _ _ us hl => match us, hl with | [_, _], _ => rfl
  have F15 := fun_mk (st := s_law_bag) l15 c15 k15
  have b15 := F15.binds (ps := ["_law_cell_here"]) fun _ _ _ _ _ _ us hl => match us, hl with | [_], _ => rfl
  have F16 := fun_mk (st := s_law_draw) l16 c16 k16
  have b16 := F16.binds (ps := ["_law_bag_here", "_law_many"]) fun _ _ _ _ _ _ us hl => match us, hl with | [_, _], _ => rfl
  have F17 := fun_mk (st := s_law_great) l17 c17 k17
  have b17 := F17.binds (ps := ["_law_bag_here"]) fun _ _ _ _ _ _ us hl => match us, hl with | [_], _ => rfl
  have F18 := fun_mk (st := s_law_signed) l18 c18 k18
  have b18 := F18.binds (ps := ["_law_bag_here"]) fun _ _ _ _ _ _ us hl => match us, hl with | [_], _ => rfl
  have F19 := fun_mk (st := s_law_gcd) l19 c19 k19
  have b19 := F19.binds (ps := ["_law_one", "_law_two"]) fun _ _ _ _ _ _ us hl => match us, hl with | [_, _], _ => rfl
  have F20 := fun_mk (st := s_law_lowest) l20 c20 k20
  have b20 := F20.binds (ps := ["_law_top", "_law_bottom"]) fun _ _ _ _ _ _ us hl => match us, hl with | [_, _], _ => rfl
  have F21 := fun_mk (st := s_law_whole) l21 c21 k21
  have b21 := F21.binds (ps := ["_law_found"]) fun _ _ _ _ _ _ us hl => match us, hl with | [_], _ => rfl
  have F22 := fun_mk (st := s_law_prime) l22 c22 k22
  have b22 := F22.binds (ps := ["_law_bag_here"]) fun _ _ _ _ _ _ us hl => match us, hl with | [_], _ => rfl
  have F23 := fun_mk (st := s_law_same) l23 c23 k23
  have b23 := F23.binds (ps := ["_law_p", "_law_found", "_law_due"]) fun _ _ _ _ _ _ us hl => match us, hl with | [_, _, _], _ => rfl
  have F24 := fun_mk (st := s_law_shown) l24 c24 k24
  have b24 := F24.binds (ps := ["_law_p", "_law_number_here"]) fun _ _ _ _ _ _ us hl => match us, hl with | [_, _], _ => rfl
  have F25 := fun_mk (st := s_law_read_whole) l25 c25 k25
  have b25 := F25.binds (ps := ["_law_text"]) fun _ _ _ _ _ _ us hl => match us, hl with | [_], _ => rfl
  have F26 := fun_mk (st := s_law_read_number) l26 c26 k26
  have b26 := F26.binds (ps := ["_law_p", "_law_text"]) fun _ _ _ _ _ _ us hl => match us, hl with | [_, _], _ => rfl
  have F27 := fun_mk (st := s_law_alone) l27 c27 k27
  have b27 := F27.binds (ps := ["_law_e", "_law_kind"]) fun _ _ _ _ _ _ us hl => match us, hl with | [_, _], _ => rfl
  have F28 := fun_mk (st := s_law_sign_spoilt) l28 c28 k28
  have b28 := F28.binds (ps := ["_law_text", "_law_bag_here"]) fun _ _ _ _ _ _ us hl => match us, hl with | [_, _], _ => rfl
  have F29 := fun_mk (st := s_law_number) l29 c29 k29
  have b29 := F29.binds (ps := ["_law_bag_here", "_law_p"]) fun _ _ _ _ _ _ us hl => match us, hl with | [_, _], _ => rfl
  have F30 := fun_mk (st := s_law_asked) l30 c30 k30
  have b30 := F30.binds (ps := ["_law_ground", "_law_text"]) fun _ _ _ _ _ _ us hl => match us, hl with | [_, _], _ => rfl
  have F31 := fun_mk (st := s_law_odd) l31 c31 k31
  have b31 := F31.binds (ps := ["_law_bag_here"]) fun _ _ _ _ _ _ us hl => match us, hl with | [_], _ => rfl
  have F32 := fun_mk (st := s_law_other_text) l32 c32 k32
  have b32 := F32.binds (ps := ["_law_bag_here", "_law_p", "_law_number_here"]) fun _ _ _ _ _ _ us hl => match us, hl with | [_, _, _], _ => rfl
  have F33 := fun_mk (st := s_law_right) l33 c33 k33
  have b33 := F33.binds (ps := ["_law_ground", "_law_p", "_law_text"]) fun _ _ _ _ _ _ us hl => match us, hl with | [_, _, _], _ => rfl
  have F34 := fun_mk (st := s_law) l34 c34 k34
  have F35 := fun_mk (st := s_Ground_init) l35 c35 k35
  have b35 := F35.binds (ps := ["self", "prime"]) fun _ _ _ _ _ _ us hl => match us, hl with | [_, _], _ => rfl
  have F36 : FunD K "number" "Ground.number" s_Ground_number f36 _ D36 := ⟨⟨oc36, od36, kV36, dc36, pm36, an36, cd36, ct36, sl36, rfl, l36, c36⟩⟩
  have b36 := binds_default (fd := PySem.W.fnOf "number" "Ground.number" (defArgs s_Ground_number) (defBody s_Ground_number) (defScope s_Ground_number) (.ref D36) kV36 dc36 pm36 an36 cd36 ct36) (ps := ["self", "top", "bottom"]) (ds := [.int 1 dt36]) dl36 rfl fun us hl => match us, (show us.length = 2 by simpa using hl) with | [_, _], _ => ⟨_, rfl, rfl⟩
  have bF36 := binds_default (fd := PySem.W.fnOf "number" "Ground.number" (defArgs s_Ground_number) (defBody s_Ground_number) (defScope s_Ground_number) (.ref D36) kV36 dc36 pm36 an36 cd36 ct36) (ps := ["self", "top", "bottom"]) (ds := []) dl36 rfl fun us hl => match us, (show us.length = 3 by simpa using hl) with | [_, _, _], _ => ⟨_, rfl, rfl⟩
  refine ⟨PySem.W.fnOf "law" "law" (defArgs s_law) (defBody s_law) (defScope s_law) .none kV34 dc34 pm34 an34 cd34 ct34, fun s v => .of_eq rfl, fun base KB _ => ?_⟩
  have XT : Xt K mg base ⟨x_LimbError, x_NoGround, x_NoNumber, x_NoTable, x_NoDrawing, x_NoKind, x_NoStanding, x_NoChange, x_NoMirror, x_NoRoot, x_NoText, x_NoRow, x_NoName⟩ := ⟨PySem.W.mg_of X G a_LimbError, PySem.W.mg_of X G a_NoGround, PySem.W.mg_of X G a_NoNumber, PySem.W.mg_of X G a_NoTable, PySem.W.mg_of X G a_NoDrawing, PySem.W.mg_of X G a_NoKind, PySem.W.mg_of X G a_NoStanding, PySem.W.mg_of X G a_NoChange, PySem.W.mg_of X G a_NoMirror, PySem.W.mg_of X G a_NoRoot, PySem.W.mg_of X G a_NoText, PySem.W.mg_of X G a_NoRow, PySem.W.mg_of X G a_NoName, own_cls KB (PySem.W.mg_of X G a_LimbError) e_LimbError, own_cls KB (PySem.W.mg_of X G a_NoNumber) e_NoNumber, own_cls KB (PySem.W.mg_of X G a_NoText) e_NoText, own_under KB e_NoText m_R n_R, ⟨y_ga, y_gt, y_cl, y_so, y_sb⟩, cls_of_mro y_so, y_t1, y_qNoDrawing, y_qNoNumber, y_qNoTable, y_qNoStanding, y_v⟩
  have C1 : Cal l.prog w K mg base "is_whole" 1 spWhole := ⟨_, _, _, ok_whole F1 T , PySem.W.mg_of X G a1, k1, b1⟩
  have C2 : Cal l.prog w K mg base "common_divisor" 1 spCd := ⟨_, _, _, ok_cd F2 T , PySem.W.mg_of X G a2, k2, b2⟩
  have C9 : Cal l.prog w K mg base "is_prime" 1 spPrime := ⟨_, _, _, ok_prime F9 T , PySem.W.mg_of X G a9, k9, b9⟩
  have C10 : Cal l.prog w K mg base "tells_ground" 2 spTells := ⟨_, _, _, ok_tells F10 T C1 C9, PySem.W.mg_of X G a10, k10, b10⟩
  have C11 : CalE l.prog w K mg base "fraction" 2 (spFracE (⟨x_LimbError, x_NoGround, x_NoNumber, x_NoTable, x_NoDrawing, x_NoKind, x_NoStanding, x_NoChange, x_NoMirror, x_NoRoot, x_NoText, x_NoRow, x_NoName⟩ : Pf.Cs).NoNumber) := ⟨_, _, _, ok_frac F11 T XT C2, PySem.W.mg_of X G a11, k11, b11⟩
  have C35 : CalI l.prog w K mg base "Ground" C 3 (spInit C) := ⟨_, _, _, ok_init F35 T C10, ⟨mk, a35, i35, kc⟩, PySem.W.mg_of X G aC, b35⟩
  have C12 : Cal l.prog w K mg base "inverse" 1 spInv := ⟨_, _, _, ok_inv F12 T , PySem.W.mg_of X G a12, k12, b12⟩
  have C13 : CalE l.prog w K mg base "rest_of" 2 (spRestE (⟨x_LimbError, x_NoGround, x_NoNumber, x_NoTable, x_NoDrawing, x_NoKind, x_NoStanding, x_NoChange, x_NoMirror, x_NoRoot, x_NoText, x_NoRow, x_NoName⟩ : Pf.Cs).NoNumber) := ⟨_, _, _, ok_rest F13 T XT C12, PySem.W.mg_of X G a13, k13, b13⟩
  have C36 : CalDE l.prog w K mg base C "number" 3 (spNumbE C (⟨x_LimbError, x_NoGround, x_NoNumber, x_NoTable, x_NoDrawing, x_NoKind, x_NoStanding, x_NoChange, x_NoMirror, x_NoRoot, x_NoText, x_NoRow, x_NoName⟩ : Pf.Cs).NoNumber) [.int 1] := ⟨_, _, _, _, ok_numb F36 T XT C11 C13, ⟨a36, i36, k36⟩, b36, .cons ⟨_, rfl⟩ .nil⟩
  have C36F : CalDE l.prog w K mg base C "number" 3 (spNumbE C (⟨x_LimbError, x_NoGround, x_NoNumber, x_NoTable, x_NoDrawing, x_NoKind, x_NoStanding, x_NoChange, x_NoMirror, x_NoRoot, x_NoText, x_NoRow, x_NoName⟩ : Pf.Cs).NoNumber) [] := ⟨_, _, _, [], ok_numb F36 T XT C11 C13, ⟨a36, i36, k36⟩, bF36, .nil⟩
  have C3P : Cal l.prog w K mg base "show_whole" 1 spShP := ⟨_, _, _, ok_showP F3 T , PySem.W.mg_of X G a3, k3, b3⟩
  have C3 : Cal l.prog w K mg base "show_whole" 2 spSh := ⟨_, _, _, ok_show F3 T C3P, PySem.W.mg_of X G a3, k3, b3⟩
  have C4 : Cal l.prog w K mg base "show_number" 3 (spShN C) := ⟨_, _, _, ok_shn F4 T C3, PySem.W.mg_of X G a4, k4, b4⟩
  have C5 : Cal l.prog w K mg base "is_written" 1 (spWt (⟨x_LimbError, x_NoGround, x_NoNumber, x_NoTable, x_NoDrawing, x_NoKind, x_NoStanding, x_NoChange, x_NoMirror, x_NoRoot, x_NoText, x_NoRow, x_NoName⟩ : Pf.Cs).NoText) := ⟨_, _, _, ok_wt F5 T , PySem.W.mg_of X G a5, k5, b5⟩
  have C6 : CalE l.prog w K mg base "read_whole" 2 (spRw (⟨x_LimbError, x_NoGround, x_NoNumber, x_NoTable, x_NoDrawing, x_NoKind, x_NoStanding, x_NoChange, x_NoMirror, x_NoRoot, x_NoText, x_NoRow, x_NoName⟩ : Pf.Cs).NoText) := ⟨_, _, _, ok_rw F6 T XT C5, PySem.W.mg_of X G a6, k6, b6⟩
  have C7 : CalE l.prog w K mg base "read_top" 3 (spRtop (⟨x_LimbError, x_NoGround, x_NoNumber, x_NoTable, x_NoDrawing, x_NoKind, x_NoStanding, x_NoChange, x_NoMirror, x_NoRoot, x_NoText, x_NoRow, x_NoName⟩ : Pf.Cs).NoText) := ⟨_, _, _, ok_rtop F7 T XT C6, PySem.W.mg_of X G a7, k7, b7⟩
  have C8 : CalE l.prog w K mg base "read_number" 4 (spRnE C (⟨x_LimbError, x_NoGround, x_NoNumber, x_NoTable, x_NoDrawing, x_NoKind, x_NoStanding, x_NoChange, x_NoMirror, x_NoRoot, x_NoText, x_NoRow, x_NoName⟩ : Pf.Cs).NoText) := ⟨_, _, _, ok_rnE F8 T XT C7 C6 C36F, PySem.W.mg_of X G a8, k8, b8⟩
  have C14 : Cal l.prog w K mg base "_law_cell" 1 (spCell K) := ⟨_, _, _, ok_cell F14 T , PySem.W.mg_of X G a14, k14, b14⟩
  have C15 : Cal l.prog w K mg base "_law_bag" 1 spBag := ⟨_, _, _, ok_bag F15 T , PySem.W.mg_of X G a15, k15, b15⟩
  have C16 : Cal l.prog w K mg base "_law_draw" 1 spDraw := ⟨_, _, _, ok_draw F16 T , PySem.W.mg_of X G a16, k16, b16⟩
  have C17 : Cal l.prog w K mg base "_law_great" 2 spMed := ⟨_, _, _, ok_great F17 T C16, PySem.W.mg_of X G a17, k17, b17⟩
  have C18 : Cal l.prog w K mg base "_law_signed" 3 spMed := ⟨_, _, _, ok_signed F18 T C16 C17, PySem.W.mg_of X G a18, k18, b18⟩
  have C19 : Cal l.prog w K mg base "_law_gcd" 1 spGcd := ⟨_, _, _, ok_gcd F19 T , PySem.W.mg_of X G a19, k19, b19⟩
  have C20 : Cal l.prog w K mg base "_law_lowest" 2 spFrac := ⟨_, _, _, ok_lowest F20 T C19, PySem.W.mg_of X G a20, k20, b20⟩
  have C21 : Cal l.prog w K mg base "_law_whole" 1 spWhole := ⟨_, _, _, ok_lwhole F21 T , PySem.W.mg_of X G a21, k21, b21⟩
  have C22 : Cal l.prog w K mg base "_law_prime" 2 spPr := ⟨_, _, _, ok_lprime F22 T C16, PySem.W.mg_of X G a22, k22, b22⟩
  have C23 : Cal l.prog w K mg base "_law_same" 2 spSame := ⟨_, _, _, ok_same F23 T C21, PySem.W.mg_of X G a23, k23, b23⟩
  have C24 : Cal l.prog w K mg base "_law_shown" 1 spLsh := ⟨_, _, _, ok_lsh F24 T , PySem.W.mg_of X G a24, k24, b24⟩
  have C25 : Cal l.prog w K mg base "_law_read_whole" 1 spLrw := ⟨_, _, _, ok_lrw F25 T , PySem.W.mg_of X G a25, k25, b25⟩
  have C26 : Cal l.prog w K mg base "_law_read_number" 3 spLrn := ⟨_, _, _, ok_lrn F26 T C25 C20, PySem.W.mg_of X G a26, k26, b26⟩
  have C27 : CalH l.prog w K mg base "_law_alone" 1 (spAlone (⟨x_LimbError, x_NoGround, x_NoNumber, x_NoTable, x_NoDrawing, x_NoKind, x_NoStanding, x_NoChange, x_NoMirror, x_NoRoot, x_NoText, x_NoRow, x_NoName⟩ : Pf.Cs).NoText) := ⟨_, _, _, ok_alone F27 T XT, PySem.W.mg_of X G a27, k27, b27⟩
  have C28 : Cal l.prog w K mg base "_law_sign_spoilt" 2 spSpo := ⟨_, _, _, ok_spo F28 T C16, PySem.W.mg_of X G a28, k28, b28⟩
  have C29 : Cal l.prog w K mg base "_law_number" 4 spNumL := ⟨_, _, _, ok_lnum F29 T C16 C20 C18 C17, PySem.W.mg_of X G a29, k29, b29⟩
  have C30 : Cal l.prog w K mg base "_law_asked" 5 (spAsk C) := ⟨_, _, _, ok_ask F30 T XT C8 C27, PySem.W.mg_of X G a30, k30, b30⟩
  have C31 : Cal l.prog w K mg base "_law_odd" 2 spOdd := ⟨_, _, _, ok_odd F31 T C16, PySem.W.mg_of X G a31, k31, b31⟩
  have C32 : Cal l.prog w K mg base "_law_other_text" 2 spOth := ⟨_, _, _, ok_oth F32 T C16, PySem.W.mg_of X G a32, k32, b32⟩
  have C33 : Cal l.prog w K mg base "_law_right" 6 (spRig C) := ⟨_, _, _, ok_rig F33 T C26 C30 C23, PySem.W.mg_of X G a33, k33, b33⟩
  exact ok_law F34 T C14 C15 C22 C35 C29 C4 C24 C23 C30 C32 C31 C28 C33
theorem walk {l : PySem.W.OpenLaw} {q : Program} {loose : List Str} {XP : (Str → Option Value) → Heap → Prop} {YP : World → Heap → Prop} {d : DefRec} {K : Params → PySem.W.Frag} (hn : l.most = some 63) (hdf : d.params.defaults = [])
    (hY : ∀ (w : World) (h : Heap), YP w h → (K w.params).In h)
    (F : ∀ (w : World) (mg : Str → Option Value) (fa : Addr) (h : Heap), (K w.params).In h → h.Ns mainGlobals mg → mg d.name = some (.ref fa) →
      ∃ fd : FuncData, (∀ (s : Shared) (u : Value), BindsTo s fd ⟨[u], []⟩ [("_law_script", u)]) ∧ ∀ base : Heap, (K w.params).In base → base.Ns mainGlobals mg → FnOk l.prog w (K w.params) mg base CX0 7 fa fd ["_law_script"] (spLaw (K w.params))) :
    PySem.W.WalkO q loose XP YP l.row.toRowW d [] (fun f vs => PySem.call f vs) :=
  L2.walk_of (n := 63) (k := 7) (x := "_law_script") (CX := fun _ => CX0) (sp := fun w => spLaw (K w.params)) hn (by decide) hdf ⟨rfl, by decide, by decide⟩ hY F (fun _ _ a ns hl _ hS => ⟨a, ns, rfl, hS, hl, fun _ => rfl⟩) (fun _ _ _ _ _ h => h)
end Pf
def PySem.W.Fast.tw3054723023902840439 : Nat := 0
def PySem.W.Fast.tw4943364042916633362 : Nat := 0
def PySem.W.Fast.tw15246837191889753374 : Nat := 0
def PySem.W.Fast.tw9588957765162304657 : Nat := 0
def PySem.W.Fast.tw3362854557180244797 : Nat := 0
def PySem.W.Fast.tw13117562158851770373 : Nat := 0
def PySem.W.Fast.tw13720092306259756951 : Nat := 0
def PySem.W.Fast.tw3295084247297916642 : Nat := 0
def PySem.W.Fast.tw10260337675718845809 : Nat := 0
def PySem.W.Fast.tw15054346331695125803 : Nat := 0
def PySem.W.Fast.tw16878645103385798915 : Nat := 0
def PySem.W.Fast.tw15275758453998014034 : Nat := 0
def PySem.W.Fast.tw852922808970128246 : Nat := 0
def PySem.W.Fast.tw6212389779470058766 : Nat := 0
def PySem.W.Fast.tw16658463432312066932 : Nat := 0
def PySem.W.Fast.tw13172567111655481148 : Nat := 0
def PySem.W.Fast.tw10673525453454517519 : Nat := 0
def PySem.W.Fast.tw4688477311250796263 : Nat := 0
def PySem.W.Fast.tw14461371916667194367 : Nat := 0
def PySem.W.Fast.tw5774643145271770187 : Nat := 0
def PySem.W.Fast.tw17373511804305513831 : Nat := 0
def PySem.W.Fast.tw3336134613498829346 : Nat := 0
def PySem.W.Fast.tw7546214029067772619 : Nat := 0
def PySem.W.Fast.tw6227872393539194325 : Nat := 0
def PySem.W.Fast.tw11483292069500222226 : Nat := 0
def PySem.W.Fast.tw6425590260468489418 : Nat := 0
def PySem.W.Fast.tw12725907882542277347 : Nat := 0
def PySem.W.Fast.tw11748759010940522536 : Nat := 0
def PySem.W.Fast.tw4306890277951228681 : Nat := 0
def PySem.W.Fast.tw16779166319108674944 : Nat := 0
def PySem.W.Fast.tw17096329732252647504 : Nat := 0
def PySem.W.Fast.tw6621503465619267064 : Nat := 0
def PySem.W.Fast.tw1595252353884568636 : Nat := 0
def PySem.W.Fast.tw2955977521874012664 : Nat := 0
def PySem.W.Fast.tw14085303363313031771 : Nat := 0
def PySem.W.Fast.tw11640199479608940121 : Nat := 0
def PySem.W.Fast.tw11265611449031699039 : Nat := 0
def PySem.W.Fast.tw12778591786089126889 : Nat := 0
open PySem PySem.W PyProof.Rows
set_option maxRecDepth 100000 in
set_option maxHeartbeats 0 in
theorem PySem.Challenge.cw_limbtables_k70_numbers_written_and_read_holds : PySem.Challenge.rw_limbtables_k70_numbers_written_and_read.Holds := by
  w_on; o_law; k_head; (case hw => w_witness2)
  k_fill
  refine Pf.walk (l := PySem.Challenge.rw_limbtables_k70_numbers_written_and_read) rfl rfl (fun w h Y => by first | exact PySem.W.kIn_of Y | exact PySem.W.km_in_of Y) ?F
  case F =>
    intro w mg fa h KX G hmg
    refine' Pf.all_mk KX G hmg ?a1 ?l1 ?c1 ?k1 ?a2 ?l2 ?c2 ?k2 ?a3 ?l3 ?c3 ?k3 ?a4 ?l4 ?c4 ?k4 ?a5 ?l5 ?c5 ?k5 ?a6 ?l6 ?c6 ?k6 ?a7 ?l7 ?c7 ?k7 ?a8 ?l8 ?c8 ?k8 ?a9 ?l9 ?c9 ?k9 ?a10 ?l10 ?c10 ?k10 ?a11 ?l11 ?c11 ?k11 ?a12 ?l12 ?c12 ?k12 ?a13 ?l13 ?c13 ?k13 ?a14 ?l14 ?c14 ?k14 ?a15 ?l15 ?c15 ?k15 ?a16 ?l16 ?c16 ?k16 ?a17 ?l17 ?c17 ?k17 ?a18 ?l18 ?c18 ?k18 ?a19 ?l19 ?c19 ?k19 ?a20 ?l20 ?c20 ?k20 ?a21 ?l21 ?c21 ?k21 ?a22 ?l22 ?c22 ?k22 ?a23 ?l23 ?c23 ?k23 ?a24 ?l24 ?c24 ?k24 ?a25 ?l25 ?c25 ?k25 ?a26 ?l26 ?c26 ?k26 ?a27 ?l27 ?c27 ?k27 ?a28 ?l28 ?c28 ?k28 ?a29 ?l29 ?c29 ?k29 ?a30 ?l30 ?c30 ?k30 ?a31 ?l31 ?c31 ?k31 ?a32 ?l32 ?c32 ?k32 ?a33 ?l33 ?c33 ?k33 ?a34 ?l34 ?c34 ?k34 ?aC ?a35 ?i35 ?l35 ?c35 ?k35 ?a36 ?i36 ?l36 ?dl36 ?c36 ?k36 ?pg ?hd ?po ?sa ?mk ?kc ?nP ?g1 ?g2 ?g3 ?g4 ?z0 ?z1 ?z2 ?z3 ?z4 ?z5 ?z6 ?z7 ?z8 ?z9 ?z10 ?z11 ?z12 ?a_LimbError ?a_NoGround ?a_NoNumber ?a_NoTable ?a_NoDrawing ?a_NoKind ?a_NoStanding ?a_NoChange ?a_NoMirror ?a_NoRoot ?a_NoText ?a_NoRow ?a_NoName ?e_LimbError ?e_NoNumber ?e_NoText ?m_R ?n_R ?y_ga ?y_gt ?y_cl ?y_so ?y_sb ?y_t1 ?y_qNoDrawing ?y_qNoNumber ?y_qNoTable ?y_qNoStanding ?y_v
    (case a1 => k_is)
    (case l1 => k_is)
    (case c1 => k_is)
    (case k1 => k_is)
    (case a2 => k_is)
    (case l2 => k_is)
    (case c2 => k_is)
    (case k2 => k_is)
    (case a3 => k_is)
    (case l3 => k_is)
    (case c3 => k_is)
    (case k3 => k_is)
    (case a4 => k_is)
    (case l4 => k_is)
    (case c4 => k_is)
    (case k4 => k_is)
    (case a5 => k_is)
    (case l5 => k_is)
    (case c5 => k_is)
    (case k5 => k_is)
    (case a6 => k_is)
    (case l6 => k_is)
    (case c6 => k_is)
    (case k6 => k_is)
    (case a7 => k_is)
    (case l7 => k_is)
    (case c7 => k_is)
    (case k7 => k_is)
    (case a8 => k_is)
    (case l8 => k_is)
    (case c8 => k_is)
    (case k8 => k_is)
    (case a9 => k_is)
    (case l9 => k_is)
    (case c9 => k_is)
    (case k9 => k_is)
    (case a10 => k_is)
    (case l10 => k_is)
    (case c10 => k_is)
    (case k10 => k_is)
    (case a11 => k_is)
    (case l11 => k_is)
    (case c11 => k_is)
    (case k11 => k_is)
    (case a12 => k_is)
    (case l12 => k_is)
    (case c12 => k_is)
    (case k12 => k_is)
    (case a13 => k_is)
    (case l13 => k_is)
    (case c13 => k_is)
    (case k13 => k_is)
    (case a14 => k_is)
    (case l14 => k_is)
    (case c14 => k_is)
    (case k14 => k_is)
    (case a15 => k_is)
    (case l15 => k_is)
    (case c15 => k_is)
    (case k15 => k_is)
    (case a16 => k_is)
    (case l16 => k_is)
    (case c16 => k_is)
    (case k16 => k_is)
    (case a17 => k_is)
    (case l17 => k_is)
    (case c17 => k_is)
    (case k17 => k_is)
    (case a18 => k_is)
    (case l18 => k_is)
    (case c18 => k_is)
    (case k18 => k_is)
    (case a19 => k_is)
    (case l19 => k_is)
    (case c19 => k_is)
    (case k19 => k_is)
    (case a20 => k_is)
    (case l20 => k_is)
    (case c20 => k_is)
    (case k20 => k_is)
    (case a21 => k_is)
    (case l21 => k_is)
    (case c21 => k_is)
    (case k21 => k_is)
    (case a22 => k_is)
    (case l22 => k_is)
    (case c22 => k_is)
    (case k22 => k_is)
    (case a23 => k_is)
    (case l23 => k_is)
    (case c23 => k_is)
    (case k23 => k_is)
    (case a24 => k_is)
    (case l24 => k_is)
    (case c24 => k_is)
    (case k24 => k_is)
    (case a25 => k_is)
    (case l25 => k_is)
    (case c25 => k_is)
    (case k25 => k_is)
    (case a26 => k_is)
    (case l26 => k_is)
    (case c26 => k_is)
    (case k26 => k_is)
    (case a27 => k_is)
    (case l27 => k_is)
    (case c27 => k_is)
    (case k27 => k_is)
    (case a28 => k_is)
    (case l28 => k_is)
    (case c28 => k_is)
    (case k28 => k_is)
    (case a29 => k_is)
    (case l29 => k_is)
    (case c29 => k_is)
    (case k29 => k_is)
    (case a30 => k_is)
    (case l30 => k_is)
    (case c30 => k_is)
    (case k30 => k_is)
    (case a31 => k_is)
    (case l31 => k_is)
    (case c31 => k_is)
    (case k31 => k_is)
    (case a32 => k_is)
    (case l32 => k_is)
    (case c32 => k_is)
    (case k32 => k_is)
    (case a33 => k_is)
    (case l33 => k_is)
    (case c33 => k_is)
    (case k33 => k_is)
    (case a34 => k_is)
    (case l34 => k_is)
    (case c34 => k_is)
    (case k34 => k_is)
    (case aC => k_is)
    (case a35 => k_is)
    (case i35 => k_is)
    (case l35 => k_is)
    (case c35 => k_is)
    (case k35 => k_is)
    (case a36 => k_is)
    (case i36 => k_is)
    (case l36 => k_is)
    (case dl36 => k_is)
    (case c36 => k_is)
    (case k36 => k_is)
    (case pg => k_is)
    (case hd => k_is)
    (case po => k_is)
    (case sa => k_is)
    (case mk => k_is)
    (case kc => k_is)
    (case nP => k_is)
    (case g1 => k_is)
    (case g2 => k_is)
    (case g3 => k_is)
    (case g4 => k_is)
    (case z0 => k_is)
    (case z1 => k_is)
    (case z2 => k_is)
    (case z3 => k_is)
    (case z4 => k_is)
    (case z5 => k_is)
    (case z6 => k_is)
    (case z7 => k_is)
    (case z8 => k_is)
    (case z9 => k_is)
    (case z10 => k_is)
    (case z11 => k_is)
    (case z12 => k_is)
    (case a_LimbError => k_is)
    (case a_NoGround => k_is)
    (case a_NoNumber => k_is)
    (case a_NoTable => k_is)
    (case a_NoDrawing => k_is)
    (case a_NoKind => k_is)
    (case a_NoStanding => k_is)
    (case a_NoChange => k_is)
    (case a_NoMirror => k_is)
    (case a_NoRoot => k_is)
    (case a_NoText => k_is)
    (case a_NoRow => k_is)
    (case a_NoName => k_is)
    (case e_LimbError => k_exc)
    (case e_NoNumber => k_exc)
    (case e_NoText => k_exc)
    (case m_R => k_is)
    (case n_R => decide)
    (case y_ga => k_is)
    (case y_gt => k_is)
    (case y_cl => k_is)
    (case y_so => k_is)
    (case y_sb => k_is)
    (case y_t1 => kit_is)
    (case y_qNoDrawing => kit_is)
    (case y_qNoNumber => kit_is)
    (case y_qNoTable => kit_is)
    (case y_qNoStanding => kit_is)
    (case y_v => kit_is)
#print axioms PySem.Challenge.cw_limbtables_k70_numbers_written_and_read_holds