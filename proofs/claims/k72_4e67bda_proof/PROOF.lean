import PyProof.Rows.All
import Wide.All
import OpenK.AllK
import Wide.FinOn
import Lean
import PyProof.EqAt
import PyProof.EqKinds
import PyProof.TupleCall
import PyProof.ZipIter
import PyProof.Rows.ZipGen
import PyProof.SumWalkG
import PyProof.EnumMake
import PyProof.EnumFor
import KE.KRevIter
import PyProof.ListNew
import PyProof.FactsAll.int_6
import PyProof.AutoIntG2
import PyProof.RulesAs
import PyProof.Rows.TopTwo
import PyProof.ExcArgsOwn
import PyProof.ExcBaseAll.ValueError
import OpenK.KDescr
import KE.RegKIsAll
import PyProof.EqKinds
import PyProof.NeKinds
import PySem.Challenge.RW_limbtables_k72_standings_written_and_rea
-- CHANGE: your row's module here, as the last of these rows
set_option Elab.async false
set_option linter.all false
set_option maxRecDepth 100000
namespace L2
open PySem PySem.Spec PyProof.Rows
abbrev Key := Sum Int Str
def keyIs : Key → Value → Bool
  | .inl k, v => Value.isInt k v
  | .inr x, v => Value.isStrOf x v
def keyH (w : World) : Key → Int
  | .inl k => hashInt k
  | .inr x => hashStr w x
theorem keyIs_shape : ∀ {k : Key} {v : Value}, keyIs k v = true → (∃ i t, k = Sum.inl i ∧ v = Value.int i t) ∨ (∃ x t, k = Sum.inr x ∧ v = Value.str x t)
  | .inl i, v, h => by
    obtain ⟨t, e⟩ := Value.isInt_shape (k := i) (v := v) h
    exact .inl ⟨i, t, rfl, e⟩
  | .inr x, v, h => by
    obtain ⟨t, e⟩ := Value.isStrOf_shape (x := x) (v := v) h
    exact .inr ⟨x, t, rfl, e⟩
theorem key_ll (a b : Int) : decide ((Sum.inl a : Key) = Sum.inl b) = (a == b) := by
  by_cases e : a = b
  · subst e; simp
  · have h : ¬ (Sum.inl a : Key) = Sum.inl b := fun q => e (Sum.inl.inj q)
    rw [decide_eq_false h]
    exact (beq_eq_false_iff_ne.mpr e).symm
theorem key_rr (a b : Str) : decide ((Sum.inr a : Key) = Sum.inr b) = decide (a = b) := by
  by_cases e : a = b
  · subst e; simp
  · have h : ¬ (Sum.inr a : Key) = Sum.inr b := fun q => e (Sum.inr.inj q)
    rw [decide_eq_false h, decide_eq_false e]
theorem key_lr (a : Int) (b : Str) : decide ((Sum.inl a : Key) = Sum.inr b) = false := decide_eq_false (fun q => nomatch q)
theorem key_rl (a : Str) (b : Int) : decide ((Sum.inr a : Key) = Sum.inl b) = false := decide_eq_false (fun q => nomatch q)
def mixKind (prog : Program) (w : World) : PySem.KeyKind prog w Key where
  is := keyIs
  hash := keyH w
  inj := fun v a b ha hb => by
    rcases keyIs_shape ha with ⟨i, t, rfl, rfl⟩ | ⟨x, t, rfl, rfl⟩
    · rcases keyIs_shape hb with ⟨j, u, rfl, e⟩ | ⟨y, u, rfl, e⟩
      · injection e with e1 _; rw [e1]
      · exact nomatch e
    · rcases keyIs_shape hb with ⟨j, u, rfl, e⟩ | ⟨y, u, rfl, e⟩
      · exact nomatch e
      · injection e with e1 _; rw [e1]
  byValue := fun k v h => by
    rcases keyIs_shape h with ⟨i, t, rfl, rfl⟩ | ⟨x, t, rfl, rfl⟩ <;> rfl
  pyHash := fun hv h => by
    rcases keyIs_shape hv with ⟨i, t, rfl, rfl⟩ | ⟨x, t, rfl, rfl⟩
    · exact wpAny_pyHash_int h
    · exact wpAny_pyHash_str h
  eqBool := fun hu hv h => by
    rcases keyIs_shape hu with ⟨i, t, rfl, rfl⟩ | ⟨x, t, rfl, rfl⟩
    · rcases keyIs_shape hv with ⟨j, u, rfl, rfl⟩ | ⟨y, u, rfl, rfl⟩
      · rw [key_ll] at h; exact wpAny_eqBool_int h
      · rw [key_lr] at h; exact SeqAt.EqAt.int_str i t y u _ _ _ _ h
    · rcases keyIs_shape hv with ⟨j, u, rfl, rfl⟩ | ⟨y, u, rfl, rfl⟩
      · rw [key_rl] at h; exact SeqAt.EqAt.str_int x t j u _ _ _ _ h
      · rw [key_rr] at h; exact wpAny_eqBool_str h
  «strs» := fun k x t v h => by
    rcases keyIs_shape h with ⟨i, u, rfl, e⟩ | ⟨y, u, rfl, e⟩
    · exact nomatch e
    · injection e with e1 _
      subst e1
      cases v <;> rfl
end L2
namespace L2
open PySem PySem.Spec PyProof.Rows
inductive V where
  | non | bl (b : Bool) | int (i : Int) | str (x : Str) | byt (b : Array UInt8) | flt (b : UInt64) | ref (a : Addr) | ty (n : String)
  deriving DecidableEq
def RelV : V → Value → Prop
  | .non, u => u = Value.none
  | .bl b, u => u = Value.bool b
  | .int i, u => ∃ t, u = Value.int i t
  | .str x, u => ∃ t, u = Value.str x t
  | .byt b, u => ∃ t, u = Value.bytes b t
  | .flt b, u => ∃ t, u = Value.float b t
  | .ref a, u => u = Value.ref a
  | .ty n, u => u = Value.type n
abbrev Vals : List V → List Value → Prop := Paired RelV
theorem Vals.length {xs : List V} {us : List Value} (r : Vals xs us) : xs.length = us.length := Paired.length r
theorem Vals.get : ∀ {xs : List V} {us : List Value} {i : Nat} {x : V}, Vals xs us → xs[i]? = some x → ∃ u, us[i]? = some u ∧ RelV x u
  | _, _, _, _, .nil, e => by simp at e
  | _, _, 0, _, .cons r _, e => by simp at e; subst e; exact ⟨_, rfl, r⟩
  | _, _, i + 1, x, .cons _ t, e => by
    obtain ⟨u, h1, h2⟩ := Vals.get (i := i) (x := x) t (by simpa using e)
    exact ⟨u, by simpa using h1, h2⟩
theorem Vals.set {x : V} {u : Value} (r : RelV x u) : ∀ {xs : List V} {us : List Value} (i : Nat), Vals xs us → Vals (xs.set i x) (us.set i u)
  | _, _, _, .nil => .nil
  | _, _, 0, .cons _ t => .cons r t
  | _, _, i + 1, .cons q t => .cons q (Vals.set r i t)
theorem Vals.append : ∀ {xs ys : List V} {us ws : List Value}, Vals xs us → Vals ys ws → Vals (xs ++ ys) (us ++ ws)
  | _, _, _, _, .nil, s => s
  | _, _, _, _, .cons r t, s => .cons r (Vals.append t s)
theorem Vals.take : ∀ {xs : List V} {us : List Value} (n : Nat), Vals xs us → Vals (xs.take n) (us.take n)
  | _, _, 0, _ => .nil
  | _, _, _ + 1, .nil => .nil
  | _, _, n + 1, .cons r t => .cons r (Vals.take n t)
theorem Vals.drop : ∀ {xs : List V} {us : List Value} (n : Nat), Vals xs us → Vals (xs.drop n) (us.drop n)
  | _, _, 0, r => r
  | _, _, _ + 1, .nil => .nil
  | _, _, n + 1, .cons _ t => Vals.drop n t
theorem Vals.none_of : ∀ {xs : List V} {us : List Value} {i : Nat}, Vals xs us → xs[i]? = none → us[i]? = none := fun {xs us i} r e => by
  have h1 := r.length
  have h2 : xs.length ≤ i := List.getElem?_eq_none_iff.mp e
  exact List.getElem?_eq_none_iff.mpr (by omega)
def RelO : Option V → Option Value → Prop
  | some v, some u => RelV v u
  | none, none => True
  | _, _ => False
def KV {κ : Type} : List (κ × V) → List (κ × Value) → Prop := Paired fun (p : κ × V) (q : κ × Value) => p.1 = q.1 ∧ RelV p.2 q.2
def kV : Key → V
  | .inl i => .int i
  | .inr x => .str x
inductive HO where
    | lst (xs : List V)
    | tup (xs : List V)
    | dK (kvs : List (Key × V)) | dT (kvs : List (List Key × V))
    | set (S : Int → Bool) (n : Nat)
    | ins (C dx : Addr) (fs : List (Str × V))
    | own (x : Addr)
    | xd (fs : List (Str × V))
    | met (f x : Addr)
    | rng (lo hi : Int)
    | frz (o : Obj) (u : HO)
    | tbl (ps : Array Value)
    | ext (φ : Heap → Prop)
abbrev Hp := Addr → Option HO
def upd (H : Hp) (a : Addr) (o : HO) : Hp := fun b => if b = a then some o else H b
theorem upd_same {H : Hp} {a : Addr} {o : HO} : upd H a o a = some o := by unfold upd; rw [if_pos rfl]
theorem upd_ne {H : Hp} {a b : Addr} {o : HO} (h : b ≠ a) : upd H a o b = H b := by unfold upd; rw [if_neg h]
theorem ne_of {H : Hp} {a b : Addr} {o u : HO} (h : H a = some o) (h' : H b = some u) (d : o ≠ u) : a ≠ b := by
  intro e; subst e; rw [h] at h'; exact d (Option.some.inj h')
theorem ne_of_none {H : Hp} {a b : Addr} {o : HO} (h : H a = some o) (h' : H b = none) : a ≠ b := by
  intro e; subst e; rw [h] at h'; cases h'
section
variable (P : Program) (w : World)
def ObjOk (H : Hp) (h : Heap) (a : Addr) : HO → Prop
  | .lst xs => xs.length ≤ sizeLine ∧ ∃ (its : List Value) (n : Nat), Vals xs its ∧ h.get? a = some { cls := .type "list", data := .seq its.toArray n }
  | .tup xs => xs.length ≤ sizeLine ∧ ∃ its : List Value, Vals xs its ∧ IsTup h a its.toArray
  | .dK kvs => kvs.length ≤ sizeLine ∧ (a == sysModules) = false ∧ ∃ vs, KV kvs vs ∧ h.DictOf (mixKind P w) a vs
  | .dT kvs => kvs.length ≤ sizeLine ∧ (a == sysModules) = false ∧ ∃ xs : List (List Key × Addr × Value),
      Paired (fun (p : List Key × V) (q : List Key × Addr × Value) => p.1 = q.1 ∧ H q.2.1 = some (.tup (p.1.map kV)) ∧ RelV p.2 q.2.2) kvs xs ∧
      ∃ o es ep, h.get? a = some o ∧ o.ExactDict ∧ o.data = .dict es ep ∧ es.toList = xs.map (entryOfKey (tupleKind (mixKind P w))) ∧ (xs.map (·.1)).Nodup
  | .set S n => h.SetOf (intKind P w) a S n
  | .ins C dx fs => H dx = some (.own a) ∧ fs.length ≤ 1000 ∧ dx ≠ a ∧ h.get? a = some (PySem.W.instObj C dx) ∧
      ∃ mA, h.Ns1 dx mA ∧ (∀ f, RelO (fs.lookup f) (mA f)) ∧ PySem.Within mA (fs.map (·.1))
  | .own _ => ∃ o, h.get? a = some o
  | .xd fs => ∃ mA, h.Ns1 a mA ∧ ∀ f, RelO (fs.lookup f) (mA f)
  | .rng lo hi => ∃ t u v, h.get? a = some { cls := .type "range", data := .fields #[.int lo t, .int hi u, .int 1 v] }
  | .frz o u => h.get? a = some o ∧ ObjOk H h a u
  | .tbl ps => h.get? a = some { cls := .none, data := .fields ps }
  | .met f x => h.get? a = some (PySem.W.methodObj (.ref f) (.ref x))
  | .ext φ => φ h ∧ (∃ o, h.get? a = some o) ∧ ∀ h1 h2 : Heap, φ h1 → (∀ o, h1.get? a = some o → h2.get? a = some o) → φ h2
def HOk (H : Hp) (h : Heap) : Prop := ∀ a o, H a = some o → ObjOk P w H h a o
end
section
variable {P : Program} {w : World} {H H' : Hp} {h h' : Heap} {a : Addr} {o : HO}
theorem ObjOk.lt (x : ObjOk P w H h a o) : a < h.objs.size := by
  cases o with
  | lst xs => obtain ⟨_, _, _, _, e⟩ := x; exact Heap.lt_size e
  | tup xs => obtain ⟨_, _, _, p⟩ := x; exact p.lt
  | dK kvs => obtain ⟨_, _, _, _, o, _, _, e, _⟩ := x; exact Heap.lt_size e
  | dT kvs => obtain ⟨_, _, _, _, o, _, _, e, _⟩ := x; exact Heap.lt_size e
  | set S n => obtain ⟨o, _, _, _, e, _⟩ := x; exact Heap.lt_size e
  | ins C dx fs => obtain ⟨_, _, _, e, _⟩ := x; exact Heap.lt_size e
  | own y => obtain ⟨_, e⟩ := x; exact Heap.lt_size e
  | xd fs => obtain ⟨_, ⟨_, _, _, e, _⟩, _⟩ := x; exact Heap.lt_size e
  | rng lo hi => obtain ⟨_, _, _, e⟩ := x; exact Heap.lt_size e
  | frz ob u => obtain ⟨e, _⟩ := x; exact Heap.lt_size e
  | tbl ps => exact Heap.lt_size (show h.get? a = some _ from x)
  | met f y => exact Heap.lt_size (show h.get? a = some _ from x)
  | ext φ => obtain ⟨_, ⟨_, e⟩, _⟩ := x; exact Heap.lt_size e
theorem Paired.mapP {α β : Type} {F G : α → β → Prop} : ∀ {l₁ : List α} {l₂ : List β}, Paired F l₁ l₂ → (∀ a b, F a b → G a b) → Paired G l₁ l₂
  | _, _, .nil, _ => .nil
  | _, _, .cons r t, f => .cons (f _ _ r) (Paired.mapP t f)
theorem ObjOk.stay (x : ObjOk P w H h a o) (k : ∀ b u, (b = a ∨ H b = some (.own a)) → h.get? b = some u → h'.get? b = some u)
    (ho : ∀ b, H b = some (.own a) → H' b = some (.own a)) (ht : ∀ b xs, H b = some (.tup xs) → H' b = some (.tup xs)) : ObjOk P w H' h' a o := by
  induction o with
  | lst xs => obtain ⟨z, its, n, r, e⟩ := x; exact ⟨z, its, n, r, k _ _ (.inl rfl) e⟩
  | tup xs => obtain ⟨z, its, r, ob, e, c⟩ := x; exact ⟨z, its, r, ob, k _ _ (.inl rfl) e, c⟩
  | dK kvs => obtain ⟨z, y, vs, r, ob, es, ep, e, c⟩ := x; exact ⟨z, y, vs, r, ob, es, ep, k _ _ (.inl rfl) e, c⟩
  | dT kvs =>
    obtain ⟨z, y, xs, r, ob, es, ep, e, c⟩ := x
    exact ⟨z, y, xs, Paired.mapP r fun p q z => ⟨z.1, ht _ _ z.2.1, z.2.2⟩, ob, es, ep, k _ _ (.inl rfl) e, c⟩
  | set S n => obtain ⟨ob, es, ep, t, e, c⟩ := x; exact ⟨ob, es, ep, t, k _ _ (.inl rfl) e, c⟩
  | ins C dx fs =>
    obtain ⟨d, z, ne, e, mA, ⟨od, es, ep, e2, c⟩, r⟩ := x
    exact ⟨ho _ d, z, ne, k _ _ (.inl rfl) e, mA, ⟨od, es, ep, k _ _ (.inr d) e2, c⟩, r⟩
  | own y => obtain ⟨ob, e⟩ := x; exact ⟨ob, k _ _ (.inl rfl) e⟩
  | xd fs => obtain ⟨mA, ⟨od, es, ep, e, c⟩, r⟩ := x; exact ⟨mA, ⟨od, es, ep, k _ _ (.inl rfl) e, c⟩, r⟩
  | rng lo hi => obtain ⟨t, u, v, e⟩ := x; exact ⟨t, u, v, k _ _ (.inl rfl) e⟩
  | frz ob u ih => obtain ⟨e, q⟩ := x; exact ⟨k _ _ (.inl rfl) e, ih q⟩
  | tbl ps =>
    have e : h.get? a = some { cls := .none, data := .fields ps } := x
    show h'.get? a = some { cls := .none, data := .fields ps }
    exact k a _ (.inl rfl) e
  | met f y =>
    have e : h.get? a = some (PySem.W.methodObj (.ref f) (.ref y)) := x
    show h'.get? a = some (PySem.W.methodObj (.ref f) (.ref y))
    exact k a _ (.inl rfl) e
  | ext φ => obtain ⟨p, ⟨o, e⟩, st⟩ := x; exact ⟨st _ _ p fun o q => k _ _ (.inl rfl) q, ⟨o, k _ _ (.inl rfl) e⟩, st⟩
theorem HOk.lt (x : HOk P w H h) (e : H a = some o) : a < h.objs.size := (x a o e).lt
theorem HOk.fresh (x : HOk P w H h) (e : h.objs.size ≤ a) : H a = none := by
  cases q : H a with
  | none => rfl
  | some u => exact absurd (Nat.lt_of_lt_of_le (x.lt q) e) (Nat.lt_irrefl _)
theorem HOk.kept (x : HOk P w H h) (k : ∀ b u, h.get? b = some u → h'.get? b = some u) : HOk P w H h' := fun a o e =>
  (x a o e).stay (fun b u _ q => k b u q) (fun _ q => q) fun _ _ q => q
theorem HOk.laid (x : HOk P w H h) (k : ∀ b u, h.get? b = some u → h'.get? b = some u) (hp : h.objs.size ≤ a) (new : ObjOk P w (upd H a o) h' a o) : HOk P w (upd H a o) h' := fun b u e => by
  have hn := x.fresh hp
  by_cases hb : b = a
  · subst hb; rw [upd_same] at e; cases e; exact new
  · rw [upd_ne hb] at e
    exact (x b u e).stay (fun c v _ q => k c v q) (fun c q => by rw [upd_ne (ne_of_none q hn)]; exact q) fun c xs q => by rw [upd_ne (ne_of_none q hn)]; exact q
end
def Rd (H : Hp) (a : Addr) (u : HO) : Prop := H a = some u ∨ ∃ o, H a = some (.frz o u)
theorem Rd.of {H : Hp} {a : Addr} {u : HO} (h : H a = some u) : Rd H a u := .inl h
theorem Rd.ok {P : Program} {w : World} {H : Hp} {h : Heap} {a : Addr} {u : HO} (r : Rd H a u) (x : HOk P w H h) : ObjOk P w H h a u := by
  rcases r with r | ⟨o, r⟩
  · exact x a u r
  · obtain ⟨_, q⟩ := x a _ r
    exact q
def Mut : Option HO → Prop
  | some (.lst _) => True
  | some (.dK _) => True
  | some (.dT _) => True
  | some (.set _ _) => True
  | some (.ins _ _ _) => True
  | some (.ext _) => True
  | _ => False
section
variable {P : Program} {w : World} {H : Hp} {h h' : Heap} {x e : Addr} {o' : HO}
theorem HOk.write (ok : HOk P w H h) (mu : Mut (H x)) (he : e = x ∨ H e = some (.own x)) (k : ∀ b u, b ≠ e → h.get? b = some u → h'.get? b = some u) (heo : ∃ u, h'.get? e = some u)
    (new : ObjOk P w (upd H x o') h' x o') : HOk P w (upd H x o') h' := fun b u q => by
  have nown : ∀ c y, H c = some (.own y) → c ≠ x := fun c y r z => by subst z; rw [r] at mu; exact mu
  have ntup : ∀ c xs, H c = some (.tup xs) → c ≠ x := fun c xs r z => by subst z; rw [r] at mu; exact mu
  by_cases hb : b = x
  · subst hb; rw [upd_same] at q; cases q; exact new
  · rw [upd_ne hb] at q
    by_cases hbe : b = e
    · have q' : H b = some (.own x) := by
        rcases he with z | z
        · exact absurd (hbe.trans z) hb
        · rw [hbe]; exact z
      rw [q] at q'; cases q'
      obtain ⟨v, hv⟩ := heo
      exact ⟨v, by rw [hbe]; exact hv⟩
    · refine (ok b u q).stay (fun c v hc r => k c v ?_ r) (fun c r => by rw [upd_ne (nown c b r)]; exact r) fun c xs r => by rw [upd_ne (ntup c xs r)]; exact r
      rcases hc with rfl | hc
      · exact hbe
      · rintro rfl
        rcases he with z | z
        · exact nown c b hc z
        · rw [hc] at z; cases z; exact hb rfl
end
structure Un (fs ex : List Addr) (H H' : Hp) (h h' : Heap) : Prop where
  keep : ∀ b o, h.get? b = some o → H b = none → b ∉ fs → b ∉ ex → h'.get? b = some o
  slot : ∀ b o, h.get? b = some o → H b = none → b ∈ fs → b ∉ ex → ∃ sl, h'.get? b = some { o with slots := sl }
  free : ∀ b o, h.get? b = some o → H b = none → b ∉ ex → H' b = none
  there : ∀ b o, h.get? b = some o → b ∉ ex → ∃ o', h'.get? b = some o'
  tups : ∀ b xs, H b = some (.tup xs) → H' b = some (.tup xs)
  frzs : ∀ b o u, H b = some (.frz o u) → H' b = some (.frz o u)
  tbls : ∀ b ps, H b = some (.tbl ps) → ∃ more, H' b = some (.tbl (ps ++ more))
section
variable {fs fs' ex ex' : List Addr} {H H1 H2 : Hp} {h h1 h2 h' : Heap} {a x e : Addr} {o : HO}
theorem Un.any (u : Un fs ex H H1 h h1) {b : Addr} {ob : Obj} (q : h.get? b = some ob) (n : H b = none) (hx : b ∉ ex) : ∃ sl, h1.get? b = some { ob with slots := sl } := by
  by_cases hb : b ∈ fs
  · exact u.slot b ob q n hb hx
  · exact ⟨ob.slots, u.keep b ob q n hb hx⟩
theorem Un.trans (a : Un fs ex H H1 h h1) (b : Un fs ex H1 H2 h1 h2) : Un fs ex H H2 h h2 where
  keep := fun c ob q n hc hx => b.keep c ob (a.keep c ob q n hc hx) (a.free c ob q n hx) hc hx
  slot := fun c ob q n hc hx => by
    obtain ⟨sl, e1⟩ := a.slot c ob q n hc hx
    obtain ⟨sl', e2⟩ := b.slot c _ e1 (a.free c ob q n hx) hc hx
    exact ⟨sl', e2⟩
  free := fun c ob q n hx => by
    obtain ⟨o', e1⟩ := a.there c ob q hx
    exact b.free c o' e1 (a.free c ob q n hx) hx
  there := fun c ob q hx => by
    obtain ⟨o', e1⟩ := a.there c ob q hx
    exact b.there c o' e1 hx
  tups := fun c xs q => b.tups c xs (a.tups c xs q)
  frzs := fun c ob xs q => b.frzs c ob xs (a.frzs c ob xs q)
  tbls := fun c ps q => by
    obtain ⟨m1, e1⟩ := a.tbls c ps q
    obtain ⟨m2, e2⟩ := b.tbls c _ e1
    exact ⟨m1 ++ m2, by rw [e2, Array.append_assoc]⟩
theorem Un.kept (k : ∀ b u, h.get? b = some u → h'.get? b = some u) : Un fs ex H H h h' :=
  ⟨fun b ob q _ _ _ => k b ob q, fun b ob q _ _ _ => ⟨ob.slots, k b ob q⟩, fun _ _ _ n _ => n, fun b ob q _ => ⟨ob, k b ob q⟩, fun _ _ q => q, fun _ _ _ q => q, fun _ ps q => ⟨#[], by rw [q]; simp⟩⟩
theorem Un.refl : Un fs ex H H h h := Un.kept fun _ _ q => q
theorem Un.laid (k : ∀ b u, h.get? b = some u → h'.get? b = some u) (hp : h.objs.size ≤ a) (hn : H a = none) : Un fs ex H (upd H a o) h h' where
  keep := fun b u q _ _ _ => k b u q
  slot := fun b u q _ _ _ => ⟨u.slots, k b u q⟩
  free := fun b u q n _ => by rw [upd_ne (Nat.ne_of_lt (Nat.lt_of_lt_of_le (Heap.lt_size q) hp))]; exact n
  there := fun b u q _ => ⟨u, k b u q⟩
  tups := fun b xs q => by rw [upd_ne (ne_of_none q hn)]; exact q
  frzs := fun b u xs q => by rw [upd_ne (ne_of_none q hn)]; exact q
  tbls := fun b ps q => ⟨#[], by rw [upd_ne (ne_of_none q hn), q]; simp⟩
theorem Un.write (mu : Mut (H x)) (he : e = x ∨ H e = some (.own x)) (k : ∀ b u, b ≠ e → h.get? b = some u → h'.get? b = some u) (heo : ∃ u, h'.get? e = some u) : Un fs ex H (upd H x o) h h' := by
  have hx : ∀ b, H b = none → b ≠ x := fun b n z => by subst z; rw [n] at mu; exact mu
  have hb : ∀ b, H b = none → b ≠ e := fun b n z => by
    subst z
    rcases he with r | r
    · exact hx b n r
    · rw [n] at r; cases r
  have hm : ∀ b u, H b = some u → ¬ Mut (some u) → b ≠ x := fun b u q nm z => by subst z; rw [q] at mu; exact nm mu
  refine ⟨fun b u q n _ _ => k b u (hb b n) q, fun b u q n _ _ => ⟨u.slots, k b u (hb b n) q⟩, fun b u q n _ => by rw [upd_ne (hx b n)]; exact n, fun b u q _ => ?_,
    fun b xs q => by rw [upd_ne (hm b _ q fun z => z)]; exact q, fun b u xs q => by rw [upd_ne (hm b _ q fun z => z)]; exact q, fun b ps q => ⟨#[], by rw [upd_ne (hm b _ q fun z => z), q]; simp⟩⟩
  by_cases hbe : b = e
  · subst hbe; exact heo
  · exact ⟨u, k b u hbe q⟩
theorem Un.mono (u : Un fs ex H H1 h h1) (hs : ∀ b ∈ fs, b ∈ fs') (hx : ∀ b ∈ ex, b ∈ ex') : Un fs' ex' H H1 h h1 :=
  ⟨fun b ob q n hb he => u.keep b ob q n (fun z => hb (hs b z)) fun z => he (hx b z), fun _ _ q n _ he => u.any q n fun z => he (hx _ z), fun b ob q n he => u.free b ob q n fun z => he (hx b z), fun b ob q he => u.there b ob q fun z => he (hx b z), u.tups, u.frzs, u.tbls⟩
end
def trk (h : Heap) (H : Hp) : List Addr := (List.range h.objs.size).filter fun a => (H a).isSome
def hidT (h : Heap) (H : Hp) : Heap := PySem.W.hideAll h (trk h H)
theorem hidT_size (h : Heap) (H : Hp) : (hidT h H).objs.size = h.objs.size := PySem.W.hideAll_size _ _
theorem hidT_get {h : Heap} {H : Hp} {b : Addr} {o : Obj} (e : h.get? b = some o) (n : H b = none) : (hidT h H).get? b = some o :=
  PySem.W.hideAll_get _ e fun hm => by
    have q : (H b).isSome = true := (List.mem_filter.mp hm).2
    rw [n] at q; simp at q
theorem of_hidT {h : Heap} {H : Hp} {b : Addr} {o : Obj} (e : (hidT h H).get? b = some o) : h.get? b = some o ∧ H b = none := by
  have e' : h.get? b = some o := PySem.W.of_hideAll (trk h H) e
  refine ⟨e', ?_⟩
  cases q : H b with
  | none => rfl
  | some x =>
    have hm : b ∈ trk h H := List.mem_filter.mpr ⟨List.mem_range.mpr (Heap.lt_size e'), by simp [q]⟩
    have z : (hidT h H).get? b = none := PySem.W.hideAll_none (trk h H) hm
    rw [z] at e; cases e
def allNews (g h : Heap) (L : Addr) : List (Addr × Obj) := (List.range h.objs.size).filterMap fun a => if a = L ∨ (g.get? a).isSome = true then none else (h.get? a).map fun o => (a, o)
def rest (g h : Heap) (L d : Addr) : List (Addr × Obj) := (allNews g h L).filter fun p => decide (p.1 ≠ d)
end L2
namespace L2
open PySem PySem.Spec PyProof.Rows
structure Mod (K : PySem.W.Frag) (mg : Str → Option Value) (base : Heap) : Prop where
  kin : K.In base
  glob : base.Ns mainGlobals mg
  blt : ∃ mb, base.Ns builtinsNs mb ∧ ∀ x : Str, x ≠ "__name__" → mb x = bootBuiltins x
  nolimit : base.NoLimit
structure Cx where
  prog : Program
  w : World
  K : PySem.W.Frag
  mg : Str → Option Value
  base : Heap
  A : Around
  N : List Str
  s₀ : Shared
  H₀ : Hp
  env : Env
  outer : List Env
  stack : List Env
  ex : List Addr
  fn : Str → Bool
  calm : Bool
  pn : List (Addr × Obj)
  xe : Value → Shared → Prop
def frs (l : List Env) : List Addr := l.filterMap (·.frame)
abbrev Cx.fs (X : Cx) : List Addr := frs X.outer
def Vis (sc : Scope) (x : Str) : Prop := sc.names.lookup x = some .local ∨ sc.names.lookup x = some .cell ∨ sc.names.lookup x = some .free
def Loc (sc : Scope) (x : Str) : Prop := sc.names.lookup x = some .local ∨ sc.names.lookup x = some .cell
def Look (env : Env) (h : Heap) (m : Str → Option Value) (x : Str) (u : Value) : Prop :=
  (env.kindOf x = some .local ∧ m x = some u) ∨ ((env.kindOf x = some .cell ∨ env.kindOf x = some .free) ∧ ∃ c, env.cells.lookup x = some c ∧ h.IsCell c (some u))
structure Cx.Ok (X : Cx) : Prop where
  mod : Mod X.K X.mg X.base
  kind : X.env.scope.kind = .function
  glob : X.env.globals = mainGlobals
  blt : X.env.builtins = builtinsNs
  above : X.s₀.heap.objs.size ≤ X.env.locals
  inj : ∀ x y c, X.env.cells.lookup x = some c → X.env.cells.lookup y = some c → x = y
  has : ∀ x, (X.env.kindOf x = some .cell ∨ X.env.kindOf x = some .free) → ∃ c, X.env.cells.lookup x = some c
  cab : ∀ x c, X.fn x = true → X.env.cells.lookup x = some c → X.s₀.heap.objs.size ≤ c
  hd : X.calm = true → X.A.handled = none
  frames : X.A.frames = some X.stack
  stk : X.stack = X.outer ∨ (X.stack = X.env :: X.outer ∧ X.env.frame = some X.env.locals)
  exf : ∀ b ∈ X.ex, b ≠ X.env.locals ∧ ∀ x c, X.env.cells.lookup x = some c → c ≠ b
  bs : ∀ b o, X.base.get? b = some o → X.s₀.heap.get? b = some o ∧ X.H₀ b = none
  bsz : X.base.objs.size ≤ X.s₀.heap.objs.size
  noex : ∀ b o, X.base.get? b = some o → b ∉ X.ex
  exfs : ∀ b ∈ X.ex, b ∉ X.fs
  funs : X.s₀.heap.FunFrames X.base X.outer
  frf : ∀ b ∈ X.fs, X.H₀ b = none
structure Inv (X : Cx) (pins : List (Addr × Obj)) (σ : List (Option V)) (H : Hp) (s : Shared) : Prop where
  ok : X.Ok
  os : s.os = X.s₀.os
  bare : AllBare s.gens
  base : Un X.fs X.ex X.H₀ H X.s₀.heap s.heap
  loc : ∃ m, s.heap.Ns X.env.locals m ∧ ∀ (i : Nat) (x : Str) (v : V), X.N[i]? = some x → σ[i]? = some (some v) → Vis X.env.scope x → ∃ u, RelV v u ∧ Look X.env s.heap m x u
  cell : ∀ x c, X.env.cells.lookup x = some c → ∃ v, s.heap.IsCell c v
  free : H X.env.locals = none
  freeC : ∀ x c, X.env.cells.lookup x = some c → H c = none
  pin : ∀ p ∈ X.pn ++ pins, s.heap.get? p.1 = some p.2 ∧ H p.1 = none ∧ p.1 ≠ X.env.locals ∧ p.1 ∉ X.fs ∧ ∀ v, p.2.data ≠ .cell v
  hok : HOk X.prog X.w H s.heap
  len : σ.length = X.N.length
section
variable {X : Cx} {pins : List (Addr × Obj)} {σ : List (Option V)} {H H' : Hp} {s : Shared} {h' : Heap}
theorem Cx.Ok.nofr (ok : X.Ok) {b : Addr} {o : Obj} (e : X.base.get? b = some o) : b ∉ X.fs := fun hb => by
  have := (ok.funs.mem hb).1
  rw [e] at this; cases this
theorem Inv.bs (I : Inv X pins σ H s) : ∀ b o, X.base.get? b = some o → s.heap.get? b = some o ∧ H b = none := fun b o e =>
  ⟨I.base.keep b o (I.ok.bs b o e).1 (I.ok.bs b o e).2 (I.ok.nofr e) (I.ok.noex b o e), I.base.free b o (I.ok.bs b o e).1 (I.ok.bs b o e).2 (I.ok.noex b o e)⟩
theorem Inv.bk (I : Inv X pins σ H s) : ∀ b o, X.base.get? b = some o → s.heap.get? b = some o := fun b o e => (I.bs b o e).1
theorem Inv.mod (I : Inv X pins σ H s) : Mod X.K X.mg X.base := I.ok.mod
theorem Inv.kIn (I : Inv X pins σ H s) : X.K.In s.heap := I.ok.mod.kin.keeps I.bk
theorem Inv.nolimit (I : Inv X pins σ H s) : s.heap.NoLimit := I.ok.mod.nolimit.keeps I.bk
theorem Inv.fr (I : Inv X pins σ H s) : ∃ m, Fr X.base X.env.locals s.heap m :=
  let ⟨m, hn, _⟩ := I.loc
  ⟨m, hn, I.bk, Nat.le_trans I.ok.bsz I.ok.above⟩
theorem Inv.lt (I : Inv X pins σ H s) : X.env.locals < s.heap.objs.size := let ⟨_, hn, _⟩ := I.loc; hn.lt
theorem Inv.sz (I : Inv X pins σ H s) : X.s₀.heap.objs.size ≤ s.heap.objs.size := Nat.le_trans I.ok.above (Nat.le_of_lt I.lt)
theorem Inv.nofs (I : Inv X pins σ H s) {a : Addr} (h : s.heap.objs.size ≤ a) : a ∉ X.fs := fun hb => by
  obtain ⟨_, o, ho, _⟩ := I.ok.funs.mem hb
  exact absurd (Nat.lt_of_lt_of_le (Heap.lt_size ho) (Nat.le_trans I.sz h)) (Nat.lt_irrefl _)
theorem Inv.cne (I : Inv X pins σ H s) : ∀ x c, X.env.cells.lookup x = some c → c ≠ X.env.locals := fun x c e z => by
  obtain ⟨v, o, ho, hd⟩ := I.cell x c e
  obtain ⟨m, ⟨o', es, ep, ho', hd', _⟩, _⟩ := I.loc
  rw [z, ho'] at ho; cases ho; rw [hd'] at hd; cases hd
theorem Inv.funs (I : Inv X pins σ H s) : s.heap.FunFrames X.base X.outer := by
  have all : ∀ (l : List Env), (∀ b ∈ frs l, b ∈ X.fs) → X.s₀.heap.FunFrames X.base l → s.heap.FunFrames X.base l := by
    intro l
    induction l with
    | nil => intro _ _; trivial
    | cons env r ih =>
      intro hs hl
      obtain ⟨hk, ⟨L, o, hf, hn, ho, hd⟩, hr⟩ := hl
      have hL : L ∈ X.fs := hs L (by unfold frs; rw [List.filterMap_cons, hf]; exact List.mem_cons_self)
      obtain ⟨sl, e⟩ := I.base.slot L o ho (I.ok.frf L hL) hL fun z => I.ok.exfs L z hL
      exact ⟨hk, ⟨L, _, hf, hn, e, hd⟩, ih (fun b hb => hs b (by unfold frs; rw [List.filterMap_cons, hf]; exact List.mem_cons_of_mem _ hb)) hr⟩
  exact all X.outer (fun _ hb => hb) I.ok.funs
theorem Inv.stack (I : Inv X pins σ H s) : s.heap.FunFrames X.base X.stack := by
  rcases I.ok.stk with e | ⟨e, hf⟩
  · rw [e]; exact I.funs
  · rw [e]
    obtain ⟨m, hn, _⟩ := I.loc
    refine .cons (by rw [I.ok.kind]; decide) hf hn ?_ I.funs
    exact Heap.get?_none_of_le (Nat.le_trans I.ok.bsz I.ok.above)
theorem Inv.stkSub (I : Inv X pins σ H s) : ∀ b ∈ frs X.stack, b ∈ X.env.locals :: X.fs := fun b hb => by
  rcases I.ok.stk with e | ⟨e, hf⟩
  · rw [e] at hb; exact List.mem_cons_of_mem _ hb
  · rw [e] at hb
    unfold frs at hb
    rw [List.filterMap_cons, hf] at hb
    exact hb
theorem Inv.stkFree (I : Inv X pins σ H s) : ∀ b ∈ frs X.stack, H b = none := fun b hb => by
  rcases List.mem_cons.mp (I.stkSub b hb) with e | hb
  · rw [e]; exact I.free
  · obtain ⟨_, o, ho, _⟩ := I.ok.funs.mem hb
    exact I.base.free b o ho (I.ok.frf b hb) fun z => I.ok.exfs b z hb
theorem Inv.step {g' : Array GenState} {t' : Nat} {d' : Drawn} {ch : List Addr} (I : Inv X pins σ H s)
    (hch : ∀ b ∈ ch, (b ∈ X.ex ∨ X.s₀.heap.objs.size ≤ b) ∧ b ≠ X.env.locals ∧ (∀ x c, X.env.cells.lookup x = some c → c ≠ b) ∧ ∀ p ∈ X.pn ++ pins, p.1 ≠ b)
    (keep : ∀ b o, b ≠ X.env.locals → b ∉ X.fs → b ∉ ch → s.heap.get? b = some o → H b = none → h'.get? b = some o)
    (slot : ∀ b o, b ≠ X.env.locals → b ∈ X.fs → b ∉ ch → s.heap.get? b = some o → H b = none → ∃ sl, h'.get? b = some { o with slots := sl }) (free : ∀ b o, b ∉ ch → s.heap.get? b = some o → H b = none → H' b = none)
    (there : ∀ b o, b ∉ ch → s.heap.get? b = some o → ∃ o', h'.get? b = some o')
    (tups : ∀ b xs, H b = some (.tup xs) → H' b = some (.tup xs)) (frzs : ∀ b o u, H b = some (.frz o u) → H' b = some (.frz o u)) (tbls : ∀ b ps, H b = some (.tbl ps) → ∃ more, H' b = some (.tbl (ps ++ more)))
    (ns : ∀ m, s.heap.Ns X.env.locals m → h'.Ns X.env.locals m) (hok : HOk X.prog X.w H' h') (hg : AllBare g') :
    Inv X pins σ H' { s with heap := h', gens := g', drawn := d', toks := t' } := by
  have neL : ∀ b o, X.s₀.heap.get? b = some o → b ≠ X.env.locals := fun b o e => Nat.ne_of_lt (Nat.lt_of_lt_of_le (Heap.lt_size e) I.ok.above)
  have neC : ∀ b o, X.s₀.heap.get? b = some o → b ∉ X.ex → b ∉ ch := fun b o e hx hb => by
    rcases (hch b hb).1 with z | z
    · exact hx z
    · exact absurd (Nat.lt_of_lt_of_le (Heap.lt_size e) z) (Nat.lt_irrefl _)
  have cellK : ∀ x c, X.env.cells.lookup x = some c → ∀ v, s.heap.IsCell c v → h'.IsCell c v := fun x c e v ⟨o, ho, hd⟩ => by
    have nch : c ∉ ch := fun z => (hch c z).2.2.1 x c e rfl
    by_cases hc : c ∈ X.fs
    · obtain ⟨sl, q⟩ := slot c o (I.cne x c e) hc nch ho (I.freeC x c e)
      exact ⟨_, q, hd⟩
    · exact ⟨o, keep c o (I.cne x c e) hc nch ho (I.freeC x c e), hd⟩
  refine ⟨I.ok, I.os, hg, ⟨fun b o e n hb hx => ?_, fun b o e n hb hx => ?_, fun b o e n hx => ?_, fun b o e hx => ?_, fun b xs e => tups b xs (I.base.tups b xs e), fun b o xs e => frzs b o xs (I.base.frzs b o xs e), fun b ps e => ?_⟩, ?_, fun x c e => ?_, ?_, fun x c e => ?_, fun p hp => ?_, hok, I.len⟩
  · exact keep b o (neL b o e) hb (neC b o e hx) (I.base.keep b o e n hb hx) (I.base.free b o e n hx)
  · obtain ⟨sl, e1⟩ := I.base.slot b o e n hb hx
    obtain ⟨sl', e2⟩ := slot b _ (neL b o e) hb (neC b o e hx) e1 (I.base.free b o e n hx)
    exact ⟨sl', e2⟩
  · obtain ⟨o', e1⟩ := I.base.there b o e hx
    exact free b o' (neC b o e hx) e1 (I.base.free b o e n hx)
  · obtain ⟨o', e1⟩ := I.base.there b o e hx
    exact there b o' (neC b o e hx) e1
  · obtain ⟨m1, e1⟩ := I.base.tbls b ps e
    obtain ⟨m2, e2⟩ := tbls b _ e1
    exact ⟨m1 ++ m2, by rw [e2, Array.append_assoc]⟩
  · obtain ⟨m, hn, hl⟩ := I.loc
    refine ⟨m, ns m hn, fun i x v e1 e2 e3 => ?_⟩
    obtain ⟨u, r, l⟩ := hl i x v e1 e2 e3
    refine ⟨u, r, ?_⟩
    rcases l with l | ⟨k, c, e, z⟩
    · exact .inl l
    · exact .inr ⟨k, c, e, cellK x c e _ z⟩
  · obtain ⟨v, z⟩ := I.cell x c e
    exact ⟨v, cellK x c e v z⟩
  · obtain ⟨m, ⟨o, _, _, ho, _⟩, _⟩ := I.loc
    exact free _ o (fun z => (hch _ z).2.1 rfl) ho I.free
  · obtain ⟨v, o, ho, hd⟩ := I.cell x c e
    exact free c o (fun z => (hch c z).2.2.1 x c e rfl) ho (I.freeC x c e)
  · obtain ⟨e, n, ne, nf, d⟩ := I.pin p hp
    have nch : p.1 ∉ ch := fun z => (hch p.1 z).2.2.2 p hp rfl
    exact ⟨keep p.1 p.2 ne nf nch e n, free p.1 p.2 nch e n, ne, nf, d⟩
theorem Inv.un {t' : Nat} (I : Inv X pins σ H s) (u : Un X.fs [] H H' s.heap h') (hok : HOk X.prog X.w H' h') : Inv X pins σ H' { s with heap := h', toks := t' } := by
  obtain ⟨m, ⟨o, es, ep, ho, r⟩, _⟩ := id I.loc
  obtain ⟨sl, hL⟩ := u.any ho I.free (by simp)
  exact I.step (g' := s.gens) (d' := s.drawn) (ch := []) (fun _ z => nomatch z) (fun b o _ hb _ e n => u.keep b o e n hb (by simp)) (fun b o _ hb _ e n => u.slot b o e n hb (by simp)) (fun b o _ e n => u.free b o e n (by simp)) (fun b o _ e => u.there b o e (by simp)) u.tups u.frzs u.tbls (fun m' hm => by
    obtain ⟨o', es', ep', ho', r'⟩ := hm
    rw [ho] at ho'; cases ho'
    exact ⟨_, es', ep', hL, r'⟩) hok I.bare
theorem Inv.call {g' : Array GenState} {t' : Nat} {d' : Drawn} {ch : List Addr} (I : Inv X pins σ H s) (u : Un (frs X.stack) ch H H' s.heap h') (hok : HOk X.prog X.w H' h') (hg : AllBare g')
    (hch : ∀ b ∈ ch, (b ∈ X.ex ∨ X.s₀.heap.objs.size ≤ b) ∧ b ≠ X.env.locals ∧ (∀ x c, X.env.cells.lookup x = some c → c ≠ b) ∧ ∀ p ∈ X.pn ++ pins, p.1 ≠ b) :
    Inv X pins σ H' { s with heap := h', gens := g', drawn := d', toks := t' } := by
  obtain ⟨m, ⟨o, es, ep, ho, r⟩, _⟩ := id I.loc
  obtain ⟨sl, hL⟩ := u.any ho I.free fun z => (hch _ z).2.1 rfl
  exact I.step (ch := ch) hch (fun b o hL hb hc e n => u.keep b o e n (fun z => (List.mem_cons.mp (I.stkSub b z)).elim hL hb) hc) (fun b o _ _ hc e n => u.any e n hc) (fun b o hc e n => u.free b o e n hc) (fun b o hc e => u.there b o e hc) u.tups u.frzs u.tbls (fun m' hm => by
    obtain ⟨o', es', ep', ho', r'⟩ := hm
    rw [ho] at ho'; cases ho'
    exact ⟨_, es', ep', hL, r'⟩) hok hg
theorem Inv.turned {t' : Nat} {it : Addr} (I : Inv X pins σ H s) (k : ∀ b o, b ≠ it → s.heap.get? b = some o → h'.get? b = some o) (hn : H it = none) (hL : it ≠ X.env.locals)
    (h1 : it ∈ X.ex ∨ X.s₀.heap.objs.size ≤ it) (h2 : ∀ x c, X.env.cells.lookup x = some c → c ≠ it) (h3 : ∀ p ∈ X.pn ++ pins, p.1 ≠ it) : Inv X pins σ H { s with heap := h', toks := t' } := by
  have nit : ∀ b u, H b = some u → b ≠ it := fun b u e z => by rw [z, hn] at e; cases e
  refine I.step (g' := s.gens) (d' := s.drawn) (ch := [it]) (fun b hb => ?_) (fun b o _ _ hc e _ => k b o (fun z => hc (by simp [z])) e) (fun b o _ _ hc e _ => ⟨o.slots, k b o (fun z => hc (by simp [z])) e⟩) (fun _ _ _ _ n => n)
    (fun b o hc e => ⟨o, k b o (fun z => hc (by simp [z])) e⟩) (fun _ _ e => e) (fun _ _ _ e => e) (fun b ps e => ⟨#[], by rw [e]; simp⟩) (fun m hm => ?_) (fun b u e => ?_) I.bare
  · have e : b = it := by simpa using hb
    subst e
    exact ⟨h1, hL, h2, h3⟩
  · obtain ⟨o, es, ep, ho, r⟩ := hm
    exact ⟨o, es, ep, k _ o (Ne.symm hL) ho, r⟩
  · refine (I.hok b u e).stay (fun c v hc q => k c v ?_ q) (fun _ q => q) fun _ _ q => q
    rcases hc with z | z
    · rw [z]; exact nit b u e
    · exact nit c _ z
theorem Inv.tok (I : Inv X pins σ H s) (t : Nat) : Inv X pins σ H { s with toks := t } := I.un (h' := s.heap) (t' := t) Un.refl I.hok
theorem Inv.kept {t' : Nat} (I : Inv X pins σ H s) (k : ∀ b u, s.heap.get? b = some u → h'.get? b = some u) : Inv X pins σ H { s with heap := h', toks := t' } := I.un (Un.kept k) (I.hok.kept k)
theorem Inv.laid {a : Addr} {o : HO} {t' : Nat} (I : Inv X pins σ H s) (k : ∀ b u, s.heap.get? b = some u → h'.get? b = some u) (hp : s.heap.objs.size ≤ a) (new : ObjOk X.prog X.w (upd H a o) h' a o) :
    Inv X pins σ (upd H a o) { s with heap := h', toks := t' } := I.un (Un.laid k hp (I.hok.fresh hp)) (I.hok.laid k hp new)
theorem Inv.write {x e : Addr} {o : HO} {t' : Nat} (I : Inv X pins σ H s) (mu : Mut (H x)) (he : e = x ∨ H e = some (.own x)) (k : ∀ b u, b ≠ e → s.heap.get? b = some u → h'.get? b = some u) (heo : ∃ u, h'.get? e = some u)
    (new : ObjOk X.prog X.w (upd H x o) h' x o) : Inv X pins σ (upd H x o) { s with heap := h', toks := t' } := I.un (Un.write mu he k heo) (I.hok.write mu he k heo new)
theorem Inv.weak {σ' : List (Option V)} (I : Inv X pins σ H s) (hl : σ'.length = σ.length) (w : ∀ (i : Nat) v, σ'[i]? = some (some v) → σ[i]? = some (some v)) : Inv X pins σ' H s :=
  ⟨I.ok, I.os, I.bare, I.base, let ⟨m, hn, hl'⟩ := I.loc; ⟨m, hn, fun i x v e1 e2 e3 => hl' i x v e1 (w i v e2) e3⟩, I.cell, I.free, I.freeC, I.pin, I.hok, hl.trans I.len⟩
theorem Inv.pins_of {pins' : List (Addr × Obj)} (I : Inv X pins σ H s) (h : ∀ p ∈ pins', s.heap.get? p.1 = some p.2 ∧ H p.1 = none ∧ p.1 ≠ X.env.locals ∧ p.1 ∉ X.fs ∧ ∀ v, p.2.data ≠ .cell v) : Inv X pins' σ H s :=
  ⟨I.ok, I.os, I.bare, I.base, I.loc, I.cell, I.free, I.freeC, fun p hp => (List.mem_append.mp hp).elim (fun z => I.pin p (List.mem_append_left _ z)) (h p), I.hok, I.len⟩
theorem nodup_ix {N : List Str} (hN : N.Nodup) {i j : Nat} {x : Str} (a : N[i]? = some x) (b : N[j]? = some x) : i = j := by
  obtain ⟨h1, e1⟩ := List.getElem?_eq_some_iff.mp a
  obtain ⟨h2, e2⟩ := List.getElem?_eq_some_iff.mp b
  exact (List.getElem_inj hN).mp (e1.trans e2.symm)
theorem store_ok2 {M : Model} {A : Around} {E : Value → Shared → Prop} {i : Nat} {x : Str} {v : V} {u : Value} {Q : Unit → Shared → Prop} (I : Inv X pins σ H s) (hN : X.N.Nodup) (hi : X.N[i]? = some x) (hx : Loc X.env.scope x) (r : RelV v u)
    (h : ∀ s', Inv X pins (σ.set i (some v)) H s' → (∃ a, Heap.SameBut a s.heap s'.heap ∧ (a = X.env.locals ∨ X.env.cells.lookup x = some a)) → Q () s') (hf : X.fn x = true ∨ X.env.scope.names.lookup x = some .local := by first | exact .inl rfl | exact .inr rfl | assumption) : wpAny M A (storeName X.env x u) Q E s := by
  obtain ⟨m, hn, hl⟩ := id I.loc
  have hcls : (X.env.scope.kind == .class || (X.env.scope.kind == .module && X.env.locals != X.env.globals)) = false := by rw [I.ok.kind]; rfl
  have hiσ : i < σ.length := by rw [I.len]; exact (List.getElem?_eq_some_iff.mp hi).1
  have cne := I.cne
  have tracked : ∀ {a : Addr} {h' : Heap}, (∃ o, s.heap.get? a = some o ∧ H a = none) → Heap.SameBut a s.heap h' → HOk X.prog X.w H h' := fun {a h'} ha hs b ob e => by
    obtain ⟨_, _, hfree⟩ := ha
    refine (I.hok b ob e).stay (fun c w' hc q => (hs.2 c ?_).trans q) (fun _ q => q) fun _ _ q => q
    rintro rfl
    rcases hc with rfl | hc
    · rw [hfree] at e; cases e
    · rw [hfree] at hc; cases hc
  rcases hx with hk | hk
  · refine wpAny_storeName_local hk hn (fun h' hn' hs => ?_) hcls
    obtain ⟨oL, _, _, hoL, _⟩ := id hn
    refine h _ ⟨I.ok, I.os, I.bare, ⟨fun b o e n hb hx => ?_, fun b o e n hb hx => ?_, I.base.free, fun b o e hx => ?_, I.base.tups, I.base.frzs, I.base.tbls⟩, ⟨_, hn', fun j y v' e1 e2 e3 => ?_⟩, fun y c e => ?_, I.free, I.freeC, fun p hp => ?_, tracked ⟨oL, hoL, I.free⟩ hs, by simpa using I.len⟩ ⟨_, hs, .inl rfl⟩
    · exact (hs.2 b (Nat.ne_of_lt (Nat.lt_of_lt_of_le (Heap.lt_size e) I.ok.above))).trans (I.base.keep b o e n hb hx)
    · obtain ⟨sl, e1⟩ := I.base.slot b o e n hb hx
      exact ⟨sl, (hs.2 b (Nat.ne_of_lt (Nat.lt_of_lt_of_le (Heap.lt_size e) I.ok.above))).trans e1⟩
    · obtain ⟨o', e1⟩ := I.base.there b o e hx
      exact ⟨o', (hs.2 b (Nat.ne_of_lt (Nat.lt_of_lt_of_le (Heap.lt_size e) I.ok.above))).trans e1⟩
    · by_cases hj : j = i
      · subst hj
        rw [hi] at e1; cases e1
        rw [List.getElem?_set_self hiσ] at e2
        cases e2
        exact ⟨u, r, .inl ⟨hk, by simp⟩⟩
      · rw [List.getElem?_set_ne (Ne.symm hj)] at e2
        obtain ⟨u', r', q⟩ := hl j y v' e1 e2 e3
        refine ⟨u', r', ?_⟩
        rcases q with ⟨k, e⟩ | ⟨k, c, e, z⟩
        · refine .inl ⟨k, ?_⟩
          have : y ≠ x := fun e => hj (nodup_ix hN e1 (e ▸ hi))
          simp [this, e]
        · exact .inr ⟨k, c, e, z.sameBut hs (cne y c e)⟩
    · obtain ⟨w', z⟩ := I.cell y c e
      exact ⟨w', z.sameBut hs (cne y c e)⟩
    · obtain ⟨e, n, ne, nf, d⟩ := I.pin p hp
      exact ⟨(hs.2 p.1 ne).trans e, n, ne, nf, d⟩
  · have hfn : X.fn x = true := by
      rcases hf with z | z
      · exact z
      · rw [z] at hk; cases hk
    obtain ⟨c, hc⟩ := I.ok.has x (.inl hk)
    obtain ⟨w', z⟩ := I.cell x c hc
    refine wpAny_storeName_cell I.ok.kind hk hc z (fun h' hc' hs => ?_)
    obtain ⟨oc, hoc, hocd⟩ := id z
    refine h { s with heap := h' } ⟨I.ok, I.os, I.bare, ⟨fun b o e n hb hx => ?_, fun b o e n hb hx => ?_, I.base.free, fun b o e hx => ?_, I.base.tups, I.base.frzs, I.base.tbls⟩, ⟨m, hn.sameBut hs (Ne.symm (cne x c hc)), fun j y v' e1 e2 e3 => ?_⟩, fun y c' e => ?_, I.free, I.freeC, fun p hp => ?_, tracked ⟨oc, hoc, I.freeC x c hc⟩ hs, by simpa using I.len⟩ ⟨c, hs, .inr hc⟩
    · exact (hs.2 b (Nat.ne_of_lt (Nat.lt_of_lt_of_le (Heap.lt_size e) (I.ok.cab x c hfn hc)))).trans (I.base.keep b o e n hb hx)
    · obtain ⟨sl, e1⟩ := I.base.slot b o e n hb hx
      exact ⟨sl, (hs.2 b (Nat.ne_of_lt (Nat.lt_of_lt_of_le (Heap.lt_size e) (I.ok.cab x c hfn hc)))).trans e1⟩
    · obtain ⟨o', e1⟩ := I.base.there b o e hx
      exact ⟨o', (hs.2 b (Nat.ne_of_lt (Nat.lt_of_lt_of_le (Heap.lt_size e) (I.ok.cab x c hfn hc)))).trans e1⟩
    · by_cases hj : j = i
      · subst hj
        rw [hi] at e1; cases e1
        rw [List.getElem?_set_self hiσ] at e2
        cases e2
        exact ⟨u, r, .inr ⟨.inl hk, c, hc, hc'⟩⟩
      · rw [List.getElem?_set_ne (Ne.symm hj)] at e2
        obtain ⟨u', r', q⟩ := hl j y v' e1 e2 e3
        refine ⟨u', r', ?_⟩
        rcases q with q | ⟨k, c', e, z'⟩
        · exact .inl q
        · refine .inr ⟨k, c', e, z'.sameBut hs ?_⟩
          rintro rfl
          exact hj (nodup_ix hN e1 (I.ok.inj _ _ _ e hc ▸ hi))
    · by_cases hcc : c' = c
      · subst hcc; exact ⟨_, hc'⟩
      · obtain ⟨w2, z2⟩ := I.cell y c' e
        exact ⟨w2, z2.sameBut hs hcc⟩
    · obtain ⟨e, n, ne, nf, d⟩ := I.pin p hp
      refine ⟨(hs.2 p.1 ?_).trans e, n, ne, nf, d⟩
      intro q
      rw [q, hoc] at e
      have q' : oc = p.2 := Option.some.inj e
      exact d w' (by rw [← q']; exact hocd)
theorem store_ok {M : Model} {A : Around} {E : Value → Shared → Prop} {i : Nat} {x : Str} {v : V} {u : Value} {Q : Unit → Shared → Prop} (I : Inv X pins σ H s) (hN : X.N.Nodup) (hi : X.N[i]? = some x) (hx : Loc X.env.scope x) (r : RelV v u)
    (h : ∀ s', Inv X pins (σ.set i (some v)) H s' → Q () s') (hf : X.fn x = true ∨ X.env.scope.names.lookup x = some .local := by first | exact .inl rfl | exact .inr rfl | assumption) : wpAny M A (storeName X.env x u) Q E s :=
  store_ok2 I hN hi hx r (fun s' I' _ => h s' I') hf
theorem Inv.call' {s' : Shared} {ch : List Addr} (I : Inv X pins σ H s) (ho : s'.os = s.os) (u : Un (frs X.stack) ch H H' s.heap s'.heap) (hok : HOk X.prog X.w H' s'.heap) (hg : AllBare s'.gens)
    (hch : ∀ b ∈ ch, (b ∈ X.ex ∨ X.s₀.heap.objs.size ≤ b) ∧ b ≠ X.env.locals ∧ (∀ x c, X.env.cells.lookup x = some c → c ≠ b) ∧ ∀ p ∈ X.pn ++ pins, p.1 ≠ b) : Inv X pins σ H' s' := by
  obtain ⟨h', g', d', t', o'⟩ := s'
  have e : o' = s.os := ho
  subst e
  exact I.call (g' := g') (t' := t') (d' := d') u hok hg hch
end
abbrev XK := Value → Option Addr → Hp → Prop
abbrev St := List (Option V)
abbrev VK := V → Hp → Prop
abbrev TE := St → Hp → VK → Prop
abbrev TT := St → Hp → (Bool → Hp → Prop) → Prop
abbrev TA := St → Hp → (List V → Hp → Prop) → Prop
structure Ends where
  nx : St → Hp → Prop
  rt : VK
  bk : St → Hp → Prop := fun _ _ => False
  ct : St → Hp → Prop := fun _ _ => False
abbrev TS := Ends → St → Hp → Prop
def EP (X : Cx) (pins : List (Addr × Obj)) (σ : St) (Q : VK) (u : Value) (s' : Shared) : Prop := ∃ v H', Inv X pins σ H' s' ∧ RelV v u ∧ Q v H'
def TP (X : Cx) (pins : List (Addr × Obj)) (σ : St) (Q : Bool → Hp → Prop) (b : Bool) (s' : Shared) : Prop := ∃ H', Inv X pins σ H' s' ∧ Q b H'
def AP (X : Cx) (pins : List (Addr × Obj)) (σ : St) (Q : List V → Hp → Prop) (us : List Value) (s' : Shared) : Prop := ∃ vs H', Inv X pins σ H' s' ∧ Vals vs us ∧ Q vs H'
def SP (X : Cx) (pins : List (Addr × Obj)) (D : Ends) (f : Flow) (s' : Shared) : Prop :=
  match f with
  | .next => ∃ σ' H', Inv X pins σ' H' s' ∧ D.nx σ' H'
  | .brk => ∃ σ' H', Inv X pins σ' H' s' ∧ D.bk σ' H'
  | .cont => ∃ σ' H', Inv X pins σ' H' s' ∧ D.ct σ' H'
  | .ret u => ∃ v σ' H', Inv X pins σ' H' s' ∧ RelV v u ∧ D.rt v H'
def PE (X : Cx) (e : Expr) (t : TE) : Prop :=
  ∀ (pins : List (Addr × Obj)) (s : Shared) (σ : St) (H : Hp) (Q : VK), Inv X pins σ H s → t σ H Q → wpAny (model X.prog X.w) X.A (eval e X.env) (EP X pins σ Q) X.xe s
def PT (X : Cx) (e : Expr) (t : TT) : Prop :=
  ∀ (pins : List (Addr × Obj)) (s : Shared) (σ : St) (H : Hp) (Q : Bool → Hp → Prop), Inv X pins σ H s → t σ H Q → wpAny (model X.prog X.w) X.A (isTrue e X.env (eval e X.env)) (TP X pins σ Q) X.xe s
def PW (X : Cx) (e : Expr) (t : TT) : Prop :=
  ∀ (whole : Sem Value) (pins : List (Addr × Obj)) (s : Shared) (σ : St) (H : Hp) (Q : Bool → Hp → Prop), Inv X pins σ H s → t σ H Q → wpAny (model X.prog X.w) X.A (isTrue e X.env whole) (TP X pins σ Q) X.xe s
theorem PW.pt {X : Cx} {e : Expr} {t : TT} (h : PW X e t) : PT X e t := h _
def PA (X : Cx) (es : List Expr) (t : TA) : Prop :=
  ∀ (pos : Pos) (pins : List (Addr × Obj)) (s : Shared) (σ : St) (H : Hp) (Q : List V → Hp → Prop), Inv X pins σ H s → t σ H Q → wpAny (model X.prog X.w) X.A (spliced (backTo pos (starEach es X.env))) (AP X pins σ Q) X.xe s
def PS (X : Cx) (st : Stmt) (t : TS) : Prop :=
  ∀ (pins : List (Addr × Obj)) (s : Shared) (σ : St) (H : Hp) (D : Ends), Inv X pins σ H s → t D σ H → wpAny (model X.prog X.w) X.A (exec st X.env) (SP X pins D) X.xe s
def PSs (X : Cx) (st : List Stmt) (t : TS) : Prop :=
  ∀ (pins : List (Addr × Obj)) (s : Shared) (σ : St) (H : Hp) (D : Ends), Inv X pins σ H s → t D σ H → wpAny (model X.prog X.w) X.A (execs st X.env) (SP X pins D) X.xe s
theorem thn {α : Type} {t : Sem α} {Q Q' : α → Shared → Prop} {M : Model} {A : Around} {E : Value → Shared → Prop} {s : Shared} (h : wpAny M A t Q E s) (hQ : ∀ a s, Q a s → Q' a s) : wpAny M A t Q' E s := wpAny_mono h hQ fun _ _ x => x
end L2
namespace L2
open PySem PySem.Spec PyProof.Rows
section
variable {X : Cx}
theorem bin {a b : Expr} {ta tb : TE} (ha : PE X a ta) (hb : PE X b tb) {pins : List (Addr × Obj)} {s : Shared} {σ : St} {H : Hp} {R : V → V → Hp → Prop} (I : Inv X pins σ H s) (h : ta σ H fun x H1 => tb σ H1 fun y H2 => R x y H2)
    {α : Type} {Q : α → Shared → Prop} {f : Value → Value → Sem α}
    (hf : ∀ v u s2 x y H2, Inv X pins σ H2 s2 → RelV x v → RelV y u → R x y H2 → wpAny (model X.prog X.w) X.A (f v u) Q X.xe s2) :
    wpAny (model X.prog X.w) X.A (eval a X.env) (fun v s₁ => wpAny (model X.prog X.w) X.A (eval b X.env) (fun u s₂ => wpAny (model X.prog X.w) X.A (f v u) Q X.xe s₂) X.xe s₁) X.xe s := by
  refine thn (ha pins s σ H _ I h) fun v s1 ⟨x, H1, I1, r1, q1⟩ => ?_
  refine thn (hb pins s1 σ H1 _ I1 q1) fun u s2 ⟨y, H2, I2, r2, q2⟩ => ?_
  exact hf v u s2 x y H2 I2 r1 r2 q2
def tVar (i : Nat) : TE := fun σ H Q => ∃ v, σ[i]? = some (some v) ∧ Q v H
def tC (v : V) : TE := fun _ H Q => Q v H
theorem pe_var {i : Nat} {x : Str} {pos : Pos} (hN : X.N[i]? = some x) (hv : Vis X.env.scope x) (hd : (x == ("__debug__" : Str)) = false := by decide) (hcd : (x == ("__classdict__" : Str)) = false := by decide) : PE X (.Name x pos) (tVar i) := by
  intro pins s σ H Q I h
  obtain ⟨v, e, h⟩ := h
  obtain ⟨m, hn, hl⟩ := I.loc
  obtain ⟨u, r, l⟩ := hl i x v hN e hv
  have fin : EP X pins σ Q u s := ⟨v, H, I, r, h⟩
  rcases l with ⟨hk, hm⟩ | ⟨hk, c, hc, hcell⟩
  · exact wpAny_Name (wpAny_loadName_local I.ok.kind hk hn hm fin) hd
  · rcases hk with hk | hk
    · exact wpAny_Name (wpAny_loadName_cell I.ok.kind hk hc hcell fin) hd
    · exact wpAny_Name (wpAny_loadName_free I.ok.kind hk hc hcell fin hcd) hd
theorem pe_int {i j pos} : PE X (.Constant (.int i) j pos) (tC (.int i)) := fun _ _ _ H _ I h => wpAny_Constant_int ⟨.int i, H, I.tok _, ⟨_, rfl⟩, h⟩
theorem pe_bl {b j pos} : PE X (.Constant (.bool b) j pos) (tC (.bl b)) := fun _ _ _ H _ I h => Constant_bool ⟨.bl b, H, I, rfl, h⟩
theorem pe_str {x j pos} : PE X (.Constant (.str x) j pos) (tC (.str x)) := fun _ _ _ H _ I h => Calls.Constant_str ⟨.str x, H, I.tok _, ⟨_, rfl⟩, h⟩
def Gl (X : Cx) (x : Str) : Prop := X.env.kindOf x = some .globalImplicit
theorem ld_glob {E : Value → Shared → Prop} {pins : List (Addr × Obj)} {s : Shared} {σ : St} {H : Hp} {x : Str} {u : Value} {pos : Pos} {Q : Value → Shared → Prop} (I : Inv X pins σ H s) (hg : Gl X x) (hm : X.mg x = some u) (h : Q u s)
    (hd : (x == ("__debug__" : Str)) = false := by decide) : wpAny (model X.prog X.w) X.A (eval (.Name x pos) X.env) Q E s :=
  Calls.Name_function_global I.ok.kind hg (Calls.loadGlobal_global (by rw [I.ok.glob]; exact I.mod.glob.keeps I.bk) hm h) hd
theorem ld_blt {E : Value → Shared → Prop} {pins : List (Addr × Obj)} {s : Shared} {σ : St} {H : Hp} {x : Str} {u : Value} {pos : Pos} {Q : Value → Shared → Prop} (I : Inv X pins σ H s) (hg : Gl X x) (hm : X.mg x = none) (hv : bootBuiltins x = some u) (h : Q u s)
    (hn : x ≠ "__name__" := by decide) (hd : (x == ("__debug__" : Str)) = false := by decide) : wpAny (model X.prog X.w) X.A (eval (.Name x pos) X.env) Q E s := by
  obtain ⟨mb, h1, h2⟩ := I.mod.blt
  exact Calls.Name_function_global I.ok.kind hg (Calls.loadGlobal_builtin (by rw [I.ok.glob]; exact I.mod.glob.keeps I.bk) hm (by rw [I.ok.blt]; exact h1.keeps I.bk) ((h2 x hn).trans hv) h) hd
theorem pe_glob {x : Str} {v : V} {u : Value} {pos : Pos} (hg : Gl X x) (hm : X.mg x = some u) (r : RelV v u) (hd : (x == ("__debug__" : Str)) = false := by decide) : PE X (.Name x pos) (tC v) :=
  fun _ _ _ H _ I h => ld_glob I hg hm ⟨v, H, I, r, h⟩ hd
theorem pe_bltn {x : Str} {v : V} {u : Value} {pos : Pos} (hg : Gl X x) (hm : X.mg x = none) (hv : bootBuiltins x = some u) (r : RelV v u) (hn : x ≠ "__name__" := by decide) (hd : (x == ("__debug__" : Str)) = false := by decide) : PE X (.Name x pos) (tC v) :=
  fun _ _ _ H _ I h => ld_blt I hg hm hv ⟨v, H, I, r, h⟩ hn hd
def t2I (ta tb : TE) (k : Int → Int → Hp → Prop) : St → Hp → Prop := fun σ H => ta σ H fun x H1 => tb σ H1 fun y H2 => ∃ i j, x = .int i ∧ y = .int j ∧ k i j H2
def tAdd (ta tb : TE) : TE := fun σ H Q => t2I ta tb (fun i j H2 => Q (.int (i + j)) H2) σ H
def tSub (ta tb : TE) : TE := fun σ H Q => t2I ta tb (fun i j H2 => Q (.int (i - j)) H2) σ H
def tMul (ta tb : TE) : TE := fun σ H Q => t2I ta tb (fun i j H2 => (-(2 ^ 64) < i ∧ i < 2 ^ 64) ∧ Q (.int (i * j)) H2) σ H
variable {a b : Expr} {ta tb : TE} {pos : Pos}
def PC (X : Cx) (op : CmpOp) (a b : Expr) (t : TE) : Prop :=
  ∀ (pins : List (Addr × Obj)) (s : Shared) (σ : St) (H : Hp) (Q : VK), Inv X pins σ H s → t σ H Q →
    wpAny (model X.prog X.w) X.A (eval a X.env) (fun v s₁ => wpAny (model X.prog X.w) X.A (eval b X.env) (fun u s₂ => wpAny (model X.prog X.w) X.A (compareOp op v u) (EP X pins σ Q) X.xe s₂) X.xe s₁) X.xe s
theorem nobehind (b : Expr) {op : CmpOp} (h : op ≠ .In) (h2 : op ≠ .NotIn) : behindInMarks op b = false := by
  have e1 : (op == CmpOp.In) = false := by cases op <;> first | rfl | exact absurd rfl h
  have e2 : (op == CmpOp.NotIn) = false := by cases op <;> first | rfl | exact absurd rfl h2
  cases b <;> simp [behindInMarks, e1, e2]
def tCmp (p : Int → Int → Bool) (ta tb : TE) : TE := fun σ H Q => t2I ta tb (fun i j H2 => Q (.bl (p i j)) H2) σ H
abbrev tLt : TE → TE → TE := tCmp fun i j => decide (i < j)
abbrev tLe : TE → TE → TE := tCmp fun i j => decide (i ≤ j)
abbrev tGt : TE → TE → TE := tCmp fun i j => decide (j < i)
abbrev tGe : TE → TE → TE := tCmp fun i j => decide (j ≤ i)
abbrev tEqI : TE → TE → TE := tCmp fun i j => decide (i = j)
abbrev tNeI : TE → TE → TE := tCmp fun i j => !decide (i = j)
def tIsN (ta : TE) : TE := fun σ H Q => ta σ H fun x H1 => Q (.bl (decide (x = .non))) H1
def tNotN (ta : TE) : TE := fun σ H Q => ta σ H fun x H1 => Q (.bl (!decide (x = .non))) H1
def tB (t : TE) : TT := fun σ H Q => t σ H fun x H1 => ∃ c, x = .bl c ∧ Q c H1
theorem pt_cmp {op : CmpOp} {t : TE} (h : PC X op a b t) (h1 : behindInMarks op b = false := by first | exact nobehind _ (by decide) (by decide) | rfl) : PT X (.Compare a [op] [b] pos) (tB t) := by
  intro pins s σ H Q I hw
  refine wpAny_isTrue_Compare1 (thn (h pins s σ H _ I hw) fun v s1 h1 => thn h1 fun u s2 h2 => thn h2 fun c s3 ⟨x, H1, I1, r1, q1⟩ => ?_) h1
  obtain ⟨d, rfl, q⟩ := q1
  cases r1
  exact wpAny_truthy_bool ⟨H1, I1, q⟩
theorem pt_val {e : Expr} {t : TE} (h : PE X e t) (he : ∀ whole, isTrue e X.env whole = (do let v ← whole; standAt e.pos; holding [v] (truthy v)) := by intro _; rfl) : PT X e (tB t) := by
  intro pins s σ H Q I hw
  refine isTrue_plain (thn (h pins s σ H _ I hw) fun v s1 ⟨x, H1, I1, r1, q1⟩ => ?_) (he _)
  obtain ⟨d, rfl, q⟩ := q1
  cases r1
  exact wpAny_truthy_bool ⟨H1, I1, q⟩
variable {tA tB' : TT} {rest : List Expr}
def tAnd (t u : TT) : TT := fun σ H Q => t σ H fun c H1 => if c = true then u σ H1 Q else Q false H1
def tOr (t u : TT) : TT := fun σ H Q => t σ H fun c H1 => if c = true then Q true H1 else u σ H1 Q
def tNot (t : TT) : TT := fun σ H Q => t σ H fun c H1 => Q (!c) H1
theorem pw_and1 (ha : PT X a tA) : PW X (.BoolOp .And [a] pos) tA := by
  intro wh pins s σ H Q I h
  refine isTrue_and (thn (ha pins s σ H Q I h) fun c s1 e => ?_)
  cases c with
  | true => exact isTrue_and_nil e
  | false => exact e
theorem pw_or1 (ha : PT X a tA) : PW X (.BoolOp .Or [a] pos) tA := by
  intro wh pins s σ H Q I h
  refine isTrue_or (thn (ha pins s σ H Q I h) fun c s1 e => ?_)
  cases c with
  | false => exact isTrue_or_nil e
  | true => exact e
theorem pw_and (ha : PT X a tA) (hb : PW X (.BoolOp .And (b :: rest) pos) tB') : PW X (.BoolOp .And (a :: b :: rest) pos) (tAnd tA tB') := by
  intro wh pins s σ H Q I h
  refine isTrue_and (thn (ha pins s σ H _ I h) fun c s1 ⟨H1, I1, q1⟩ => ?_)
  cases c with
  | true => exact hb wh pins s1 σ H1 Q I1 q1
  | false => exact ⟨H1, I1, q1⟩
theorem pw_or (ha : PT X a tA) (hb : PW X (.BoolOp .Or (b :: rest) pos) tB') : PW X (.BoolOp .Or (a :: b :: rest) pos) (tOr tA tB') := by
  intro wh pins s σ H Q I h
  refine isTrue_or (thn (ha pins s σ H _ I h) fun c s1 ⟨H1, I1, q1⟩ => ?_)
  cases c with
  | true => exact ⟨H1, I1, q1⟩
  | false => exact hb wh pins s1 σ H1 Q I1 q1
theorem pt_not (ha : PT X a tA) : PT X (.UnaryOp .Not a pos) (tNot tA) := by
  intro pins s σ H Q I h
  exact isTrue_not (ha pins s σ H (fun c H1 => Q (!c) H1) I h)
def tAndV (ta tb : TE) : TE := fun σ H Q => ta σ H fun x H1 => ∃ c, x = .bl c ∧ if c = true then tb σ H1 Q else Q (.bl false) H1
def tOrV (ta tb : TE) : TE := fun σ H Q => ta σ H fun x H1 => ∃ c, x = .bl c ∧ if c = true then Q (.bl true) H1 else tb σ H1 Q
def tNotV (ta : TE) : TE := fun σ H Q => ta σ H fun x H1 => ∃ c, x = .bl c ∧ Q (.bl (!c)) H1
theorem pe_one {op} {t : TE} (h : PE X a t) : PE X (.BoolOp op [a] pos) t := fun pins s σ H Q I hw => BoolOp_one (h pins s σ H Q I hw)
theorem pe_and (ha : PE X a ta) (hb : PE X (.BoolOp .And (b :: rest) pos) tb) : PE X (.BoolOp .And (a :: b :: rest) pos) (tAndV ta tb) := by
  intro pins s σ H Q I h
  refine BoolOp_and (thn (ha pins s σ H _ I h) fun v s1 ⟨x, H1, I1, r1, q1⟩ => ?_)
  obtain ⟨c, rfl, q1⟩ := q1
  cases r1
  refine wpAny_truthy_bool ?_
  cases c with
  | true => exact hb pins s1 σ H1 Q I1 q1
  | false => exact ⟨.bl false, H1, I1, rfl, q1⟩
theorem pe_or (ha : PE X a ta) (hb : PE X (.BoolOp .Or (b :: rest) pos) tb) : PE X (.BoolOp .Or (a :: b :: rest) pos) (tOrV ta tb) := by
  intro pins s σ H Q I h
  refine BoolOp_or (thn (ha pins s σ H _ I h) fun v s1 ⟨x, H1, I1, r1, q1⟩ => ?_)
  obtain ⟨c, rfl, q1⟩ := q1
  cases r1
  refine wpAny_truthy_bool ?_
  cases c with
  | false => exact hb pins s1 σ H1 Q I1 q1
  | true => exact ⟨.bl true, H1, I1, rfl, q1⟩
theorem pe_not (ha : PE X a ta) : PE X (.UnaryOp .Not a pos) (tNotV ta) := by
  intro pins s σ H Q I h
  refine UnaryOp_ (thn (ha pins s σ H _ I h) fun v s1 ⟨x, H1, I1, r1, q1⟩ => ?_)
  obtain ⟨c, rfl, q1⟩ := q1
  cases r1
  exact not_of (wpAny_truthy_bool ⟨.bl (!c), H1, I1, rfl, q1⟩)
def tIf (t : TT) (ta tb : TE) : TE := fun σ H Q => t σ H fun c H1 => if c = true then ta σ H1 Q else tb σ H1 Q
theorem pe_ifExp {c : Expr} (hc : PT X c tA) (ha : PE X a ta) (hb : PE X b tb) : PE X (.IfExp c a b pos) (tIf tA ta tb) := by
  intro pins s σ H Q I h
  refine wpAny_IfExp (thn (hc pins s σ H _ I h) fun d s1 ⟨H1, I1, q1⟩ => ?_)
  cases d with
  | true => exact ha pins s1 σ H1 Q I1 q1
  | false => exact hb pins s1 σ H1 Q I1 q1
end
end L2
namespace L2
open PySem PySem.Spec PyProof.Rows
def SqL (K : PySem.W.Frag) (H : Hp) (a : Addr) (xs : List V) : Prop :=
  Rd H a (.lst xs) ∨
    ∃ (o : Obj) (its : Array Value) (n : Nat), K.lookup a = some o ∧ o.cls = .type "list" ∧ o.dict = none ∧ o.data = .seq its n ∧ its.size ≤ sizeLine ∧ Vals xs its.toList
def SqT (K : PySem.W.Frag) (H : Hp) (a : Addr) (xs : List V) : Prop :=
  Rd H a (.tup xs) ∨
    ∃ (o : Obj) (its : Array Value) (n : Nat), K.lookup a = some o ∧ o.cls = .type "tuple" ∧ o.data = .seq its n ∧ its.size ≤ sizeLine ∧ Vals xs its.toList
def absV : Value → Option V
  | .none => some .non
  | .bool b => some (.bl b)
  | .int i _ => some (.int i)
  | .str x _ => some (.str x)
  | .bytes b _ => some (.byt b)
  | .float b _ => some (.flt b)
  | .ref a => some (.ref a)
  | .type n => some (.ty n)
  | _ => none
theorem RelV.abs {x : V} {u : Value} (r : RelV x u) : absV u = some x := by
  cases x with
  | non => cases r; rfl
  | bl _ => cases r; rfl
  | int _ => obtain ⟨t, rfl⟩ := r; rfl
  | str _ => obtain ⟨t, rfl⟩ := r; rfl
  | byt _ => obtain ⟨t, rfl⟩ := r; rfl
  | flt _ => obtain ⟨t, rfl⟩ := r; rfl
  | ref _ => cases r; rfl
  | ty _ => cases r; rfl
theorem RelV.inj {x y : V} {u : Value} (r : RelV x u) (q : RelV y u) : x = y := Option.some.inj (r.abs.symm.trans q.abs)
theorem Vals.inj : ∀ {xs ys : List V} {us : List Value}, Vals xs us → Vals ys us → xs = ys
  | _, _, _, .nil, .nil => rfl
  | _, _, _, .cons r t, .cons r' t' => by rw [r.inj r', Vals.inj t t']
section
variable {X : Cx} {pins : List (Addr × Obj)} {σ : St} {H : Hp} {s : Shared} {a : Addr} {xs ys : List V}
theorem SqL.of {K : PySem.W.Frag} (h : H a = some (.lst xs)) : SqL K H a xs := .inl (.inl h)
theorem SqT.of {K : PySem.W.Frag} (h : H a = some (.tup xs)) : SqT K H a xs := .inl (.inl h)
theorem Inv.list (I : Inv X pins σ H s) (h : SqL X.K H a xs) : ∃ its : List Value, Vals xs its ∧ PlainL s.heap a its.toArray ∧ xs.length ≤ sizeLine := by
  rcases h with h | ⟨o, its, n, hk, hc, hd, hs, hz, r⟩
  · obtain ⟨z, its, n, r, e⟩ := h.ok I.hok
    exact ⟨its, r, ⟨_, n, e, rfl, rfl, rfl⟩, z⟩
  · refine ⟨its.toList, r, ⟨o, n, I.kIn a o hk, hc, hd, by simpa using hs⟩, ?_⟩
    have e := r.length
    simp only [Array.length_toList] at e
    omega
theorem Inv.tuple (I : Inv X pins σ H s) (h : SqT X.K H a xs) : ∃ its : List Value, Vals xs its ∧ IsTup s.heap a its.toArray ∧ xs.length ≤ sizeLine := by
  rcases h with h | ⟨o, its, n, hk, hc, hs, hz, r⟩
  · obtain ⟨z, its, r, p⟩ := h.ok I.hok
    exact ⟨its, r, p, z⟩
  · refine ⟨its.toList, r, ⟨o, I.kIn a o hk, hc, n, by simpa using hs⟩, ?_⟩
    have e := r.length
    simp only [Array.length_toList] at e
    omega
theorem Inv.list_inj (I : Inv X pins σ H s) (h : SqL X.K H a xs) (h' : SqL X.K H a ys) : xs = ys := by
  obtain ⟨its, r, ⟨o, n, e, _, _, d⟩, _⟩ := I.list h
  obtain ⟨its', r', ⟨o', n', e', _, _, d'⟩, _⟩ := I.list h'
  rw [e] at e'; cases e'
  rw [d] at d'
  injection d' with d1 _
  have : its = its' := by simpa using congrArg Array.toList d1
  subst this
  exact r.inj r'
theorem Inv.tuple_inj (I : Inv X pins σ H s) (h : SqT X.K H a xs) (h' : SqT X.K H a ys) : xs = ys := by
  obtain ⟨its, r, ⟨o, e, _, n, d⟩, _⟩ := I.tuple h
  obtain ⟨its', r', ⟨o', e', _, n', d'⟩, _⟩ := I.tuple h'
  rw [e] at e'; cases e'
  rw [d] at d'
  injection d' with d1 _
  have : its = its' := by simpa using congrArg Array.toList d1
  subst this
  exact r.inj r'
end
abbrev Cx.wish (X : Cx) (E : Value → Shared → Prop) : Cx := { X with xe := E }
abbrev Cx.nox (X : Cx) : Cx := X.wish fun _ _ => False
theorem Cx.Ok.wish {X : Cx} (ok : X.Ok) (E : Value → Shared → Prop) : (X.wish E).Ok :=
  ⟨ok.mod, ok.kind, ok.glob, ok.blt, ok.above, ok.inj, ok.has, ok.cab, ok.hd, ok.frames, ok.stk, ok.exf, ok.bs, ok.bsz, ok.noex, ok.exfs, ok.funs, ok.frf⟩
theorem Cx.Ok.unwish {X : Cx} {E : Value → Shared → Prop} (ok : (X.wish E).Ok) : X.Ok :=
  ⟨ok.mod, ok.kind, ok.glob, ok.blt, ok.above, ok.inj, ok.has, ok.cab, ok.hd, ok.frames, ok.stk, ok.exf, ok.bs, ok.bsz, ok.noex, ok.exfs, ok.funs, ok.frf⟩
section
variable {X : Cx} {pins : List (Addr × Obj)} {σ : St} {H : Hp} {s : Shared} {E : Value → Shared → Prop}
theorem Inv.wish (I : Inv X pins σ H s) (E : Value → Shared → Prop) : Inv (X.wish E) pins σ H s := ⟨I.ok.wish E, I.os, I.bare, I.base, I.loc, I.cell, I.free, I.freeC, I.pin, I.hok, I.len⟩
theorem Inv.unwish (I : Inv (X.wish E) pins σ H s) : Inv X pins σ H s := ⟨I.ok.unwish, I.os, I.bare, I.base, I.loc, I.cell, I.free, I.freeC, I.pin, I.hok, I.len⟩
theorem SP.unwish {D : Ends} {f : Flow} {s' : Shared} (h : SP (X.wish E) pins D f s') : SP X pins D f s' := by
  cases f with
  | next => obtain ⟨σ', H', I, q⟩ := h; exact ⟨σ', H', I.unwish, q⟩
  | brk => obtain ⟨σ', H', I, q⟩ := h; exact ⟨σ', H', I.unwish, q⟩
  | cont => obtain ⟨σ', H', I, q⟩ := h; exact ⟨σ', H', I.unwish, q⟩
  | ret u => obtain ⟨v, σ', H', I, r, q⟩ := h; exact ⟨v, σ', H', I.unwish, r, q⟩
theorem PE.nox {e : Expr} {t : TE} (h : PE X.nox e t) : PE X e t := fun pins s σ H Q I hw =>
  wpAny_mono (h pins s σ H Q (I.wish _) hw) (fun _ _ ⟨v, H', I', r, q⟩ => ⟨v, H', I'.unwish, r, q⟩) fun _ _ z => False.elim z
theorem PT.nox {e : Expr} {t : TT} (h : PT X.nox e t) : PT X e t := fun pins s σ H Q I hw =>
  wpAny_mono (h pins s σ H Q (I.wish _) hw) (fun _ _ ⟨H', I', q⟩ => ⟨H', I'.unwish, q⟩) fun _ _ z => False.elim z
theorem PSs.nox {st : List Stmt} {t : TS} (h : PSs X.nox st t) : PSs X st t := fun pins s σ H D I hw =>
  wpAny_mono (h pins s σ H D (I.wish _) hw) (fun _ _ q => q.unwish) fun _ _ z => False.elim z
end
section
variable {X : Cx} {st : Stmt} {rest : List Stmt} {t u : TS} {e : Expr} {te : TE} {pos : Pos}
def tNext : TS := fun D σ H => D.nx σ H
def tSeq (t u : TS) : TS := fun D σ H => t { D with nx := u D } σ H
theorem pss_nil : PSs X [] tNext := fun _ _ σ H _ I h => wpAny_execs_nil ⟨σ, H, I, h⟩
theorem pss_cons (h1 : PS X st t) (h2 : PSs X rest u) : PSs X (st :: rest) (tSeq t u) := by
  intro pins s σ H D I h
  refine wpAny_execs_cons (thn (h1 pins s σ H { D with nx := u D } I h) fun f s1 q => ?_)
  cases f with
  | next =>
    obtain ⟨σ', H', I', q⟩ := q
    exact h2 pins s1 σ' H' D I' q
  | ret v => exact q
  | brk => exact q
  | cont => exact q
theorem pss_one (h1 : PS X st t) : PSs X [st] t := by
  intro pins s σ H D I h
  refine wpAny_execs_cons (thn (h1 pins s σ H D I h) fun f s1 q => ?_)
  cases f with
  | next => exact wpAny_execs_nil q
  | ret v => exact q
  | brk => exact q
  | cont => exact q
def tBreak : TS := fun D σ H => D.bk σ H
def tCont : TS := fun D σ H => D.ct σ H
theorem Inv.quiet {pins : List (Addr × Obj)} {σ : St} {H : Hp} {s : Shared} (I : Inv X pins σ H s) : interactive X.env = false := by simp [interactive, I.ok.kind]
def tDrop (te : TE) : TS := fun D σ H => te σ H fun _ H1 => D.nx σ H1
theorem ps_expr (he : PE X e te) (hs : swapsWith e none pos.line X.env = pure false := by rfl) : PS X (.Expr e pos) (tDrop te) := by
  intro pins s σ H D I h
  exact wpAny_Expr_any (thn (he pins s σ H _ I h) fun v s1 ⟨x, H1, I1, r1, q1⟩ => ⟨σ, H1, I1, q1⟩) I.quiet hs
def tRet (te : TE) : TS := fun D σ H => te σ H D.rt
theorem ps_ret (he : PE X e te) : PS X (.Return (some e) pos) (tRet te) := by
  intro pins s σ H D I h
  exact wpAny_Return_some (thn (he pins s σ H _ I h) fun v s1 ⟨x, H1, I1, r1, q1⟩ => ⟨x, σ, H1, I1, r1, q1⟩)
def tRetN : TS := fun D _ H => D.rt .non H
def tIfS (c : TT) (t u : TS) : TS := fun D σ H => c σ H fun b H1 => if b = true then t D σ H1 else u D σ H1
theorem ps_if {c : Expr} {a b : List Stmt} {tc : TT} (hc : PT X c tc) (ha : PSs X a t) (hb : PSs X b u) : PS X (.If c a b pos) (tIfS tc t u) := by
  intro pins s σ H D I h
  refine wpAny_If (thn (hc pins s σ H _ I h) fun d s1 ⟨H1, I1, q1⟩ => ?_)
  cases d with
  | true => exact ha pins s1 σ H1 D I1 q1
  | false => exact hb pins s1 σ H1 D I1 q1
def tNever : TS := fun _ _ _ => False
theorem ps_never : PS X st tNever := fun _ _ _ _ _ _ h => h.elim
end
abbrev TG := V → St → Hp → (St → Hp → Prop) → Prop
abbrev TGs := List V → St → Hp → (St → Hp → Prop) → Prop
def PG (X : Cx) (target : Expr) (t : TG) : Prop :=
  ∀ (pins : List (Addr × Obj)) (s : Shared) (σ : St) (H : Hp) (v : V) (u : Value) (Q : St → Hp → Prop), Inv X pins σ H s → RelV v u → t v σ H Q →
    wpAny (model X.prog X.w) X.A (assign target X.env u) (fun _ s' => ∃ σ' H', Inv X pins σ' H' s' ∧ Q σ' H') X.xe s
def PGs (X : Cx) (ts : List Expr) (t : TGs) : Prop :=
  ∀ (pins : List (Addr × Obj)) (s : Shared) (σ : St) (H : Hp) (vs : List V) (us : List Value) (Q : St → Hp → Prop), Inv X pins σ H s → Vals vs us → t vs σ H Q →
    wpAny (model X.prog X.w) X.A (assignInOrder ((assignEach ts X.env).map (·.2)) us) (fun _ s' => ∃ σ' H', Inv X pins σ' H' s' ∧ Q σ' H') X.xe s
abbrev TSet := V → V → V → Hp → (Hp → Prop) → Prop
def PSet (X : Cx) (t : TSet) : Prop :=
  ∀ (pins : List (Addr × Obj)) (s : Shared) (σ : St) (H : Hp) (o i v : V) (ov iv u : Value) (Q : Hp → Prop), Inv X pins σ H s → RelV o ov → RelV i iv → RelV v u → t o i v H Q →
    wpAny (model X.prog X.w) X.A (setItem ov iv u) (fun _ s' => ∃ H', Inv X pins σ H' s' ∧ Q H') X.xe s
abbrev TIp := V → V → Hp → VK → Prop
def PIp (X : Cx) (op : Operator) (t : TIp) : Prop :=
  ∀ (pins : List (Addr × Obj)) (s : Shared) (σ : St) (H : Hp) (x y : V) (v u : Value) (Q : VK), Inv X pins σ H s → RelV x v → RelV y u → t x y H Q →
    wpAny (model X.prog X.w) X.A (inplaceOp op v u) (EP X pins σ Q) X.xe s
section
variable {X : Cx} {pos : Pos}
def gName (i : Nat) : TG := fun v σ H Q => Q (σ.set i (some v)) H
theorem pg_name {i : Nat} {x : Str} (hN : X.N.Nodup) (hi : X.N[i]? = some x) (hx : Loc X.env.scope x) (hf : X.fn x = true ∨ X.env.scope.names.lookup x = some .local := by first | exact .inl rfl | exact .inr rfl | assumption) : PG X (.Name x pos) (gName i) := by
  intro pins s σ H v u Q I r h
  exact wpAny_assign_Name (store_ok I hN hi hx r (fun s' I' => ⟨_, H, I', h⟩) hf)
def gNil : TGs := fun vs σ H Q => vs = [] ∧ Q σ H
def gCons (t : TG) (u : TGs) : TGs := fun vs σ H Q => ∃ v r, vs = v :: r ∧ t v σ H fun σ' H' => u r σ' H' Q
theorem pgs_nil : PGs X [] gNil := by
  intro pins s σ H vs us Q I r h
  obtain ⟨e, h⟩ := h
  subst e
  cases r
  exact assignInOrder_nil ⟨σ, H, I, h⟩
theorem pgs_cons {e : Expr} {es : List Expr} {t : TG} {u : TGs} (h1 : PG X e t) (h2 : PGs X es u)
    (hs : (assignEach (e :: es) X.env).map (·.2) = assign e X.env :: (assignEach es X.env).map (·.2) := by rfl) : PGs X (e :: es) (gCons t u) := by
  intro pins s σ H vs us Q I r h
  obtain ⟨v, vr, e1, h⟩ := h
  subst e1
  cases r with
  | cons r rr =>
    rw [hs]
    refine assignInOrder_cons (thn (h1 pins s σ H _ _ _ I r h) fun _ s1 ⟨σ1, H1, I1, q1⟩ => ?_)
    exact h2 pins s1 σ1 H1 _ _ Q I1 rr q1
def gTup (K : PySem.W.Frag) (n : Nat) (t : TGs) : TG := fun v σ H Q => ∃ a xs, v = .ref a ∧ SqT K H a xs ∧ xs.length = n ∧ t xs σ H Q
theorem pg_tup {es : List Expr} {k : Nat} {t : TGs} {n : Nat} (hc : X.calm = true) (h : PGs X es t)
    (hn : (assignEach es X.env).length = n := by rfl) (hst : (assignEach es X.env).findIdx? (·.1) = none := by rfl) : PG X (.Tuple es k pos) (gTup X.K n t) := by
  intro pins s σ H v u Q I r hw
  obtain ⟨a, xs, e1, hq, hl, hw⟩ := hw
  subst e1
  cases r
  obtain ⟨its, rv, ht, hz⟩ := I.tuple hq
  refine assign_Tuple_tuple (I.ok.hd hc) ht (by simp [hn, ← hl, rv.length]) hst fun h' hx => ?_
  have I1 : Inv X pins σ H { s with heap := h' } := I.kept (t' := s.toks) fun b o e => hx b o (Nat.ne_of_lt (Heap.lt_size e)) e
  exact h pins _ σ H xs _ Q I1 (by simpa using rv) hw
def gSub (to ti : TE) (t : TSet) : TG := fun v σ H Q => to σ H fun o H1 => ti σ H1 fun i H2 => t o i v H2 fun H3 => Q σ H3
theorem pg_sub {o i : Expr} {to ti : TE} {t : TSet} (ho : PE X o to) (hi : PE X i ti) (hs : PSet X t)
    (ha : ∀ v, assign (.Subscript o i pos) X.env v = (do
      let ov ← holding [v] (eval o X.env)
      let iv ← holding [v, ov] (eval i X.env)
      standAt pos
      holding [v, ov, iv] (setItem ov iv v)
      release [v, ov, iv] []) := by intro _; rfl) : PG X (.Subscript o i pos) (gSub to ti t) := by
  intro pins s σ H v u Q I r h
  rw [ha]
  refine wpAny_bind (wpAny_holding (thn (ho pins s σ H _ I h) fun ov s1 ⟨x, H1, I1, r1, q1⟩ => ?_))
  refine wpAny_bind (wpAny_holding (thn (hi pins s1 σ H1 _ I1 q1) fun iv s2 ⟨y, H2, I2, r2, q2⟩ => ?_))
  refine wpAny_bind (wpAny_standAt (wpAny_bind (wpAny_holding (thn (hs pins s2 σ H2 x y v ov iv u _ I2 r1 r2 r q2) fun _ s3 ⟨H3, I3, q3⟩ => ?_))))
  exact wpAny_release ⟨σ, H3, I3, q3⟩
def tAsg (te : TE) (g : TG) : TS := fun D σ H => te σ H fun x H1 => g x σ H1 D.nx
theorem ps_asg {tg e : Expr} {te : TE} {g : TG} (he : PE X e te) (hg : PG X tg g) (hs : swapsWithSole [tg] e pos.line X.env = pure false := by rfl) (hw : swappedStores [tg] e X.env = pure none := by rfl)
    (h1 : (assignEach [tg] X.env).map (·.2) = [assign tg X.env] := by rfl) : PS X (.Assign [tg] e pos) (tAsg te g) := by
  intro pins s σ H D I h
  refine wpAny_Assign_stores (thn (he pins s σ H _ I h) fun v s1 ⟨x, H1, I1, r1, q1⟩ => ?_) hs hw
  rw [h1]
  exact thn (hg pins s1 σ H1 x v _ I1 r1 q1) fun _ s2 q => q
theorem ps_set {i : Nat} {x : Str} {e : Expr} {te : TE} {pos' : Pos} (hN : X.N.Nodup) (hi : X.N[i]? = some x) (hx : Loc X.env.scope x) (he : PE X e te) (hs : swapsWith e (some (.Name x pos')) pos.line X.env = pure false := by rfl) (hf : X.fn x = true ∨ X.env.scope.names.lookup x = some .local := by first | exact .inl rfl | exact .inr rfl | assumption) :
    PS X (.Assign [.Name x pos'] e pos) (tAsg te (gName i)) := by
  intro pins s σ H D I h
  refine wpAny_Assign_Name (thn (he pins s σ H _ I h) fun v s1 ⟨y, H1, I1, r1, q1⟩ => ?_) hs
  exact store_ok I1 hN hi hx r1 (fun s2 I2 => ⟨_, H1, I2, q1⟩) hf
def tPar (i j : Nat) (ta : TA) : TS := fun D σ H => ta σ H fun vs H1 => ∃ v w, vs = [v, w] ∧ D.nx ((σ.set i (some v)).set j (some w)) H1
theorem ps_par {i j : Nat} {x y : Str} {a b : Expr} {ta : TA} {px py pt : Pos} {kt k2 pt2} (hc : X.calm = true) (hN : X.N.Nodup) (hi : X.N[i]? = some x) (hj : X.N[j]? = some y) (hij : i ≠ j)
    (hx : X.env.scope.names.lookup x = some .local) (hy : X.env.scope.names.lookup y = some .local) (ha : PA X [a, b] ta)
    (hw : swappedStores [.Tuple [.Name x px, .Name y py] kt pt] (.Tuple [a, b] k2 pt2) X.env = pure (some [x, y]))
    (hs : swapsWithSole [.Tuple [.Name x px, .Name y py] kt pt] (.Tuple [a, b] k2 pt2) pos.line X.env = pure false := by rfl) :
    PS X (.Assign [.Tuple [.Name x px, .Name y py] kt pt] (.Tuple [a, b] k2 pt2) pos) (tPar i j ta) := by
  intro pins s σ H D I h
  rw [exec_Assign_arm]
  refine wpAny_bind (wpAny_standAt ?_)
  rw [hs]
  refine wpAny_bind (wpAny_pure ?_)
  rw [if_neg (by decide)]
  refine wpAny_bind (Tuple_ (thn (ha _ pins s σ H _ I h) fun us s1 ⟨vs, H1, I1, r1, q1⟩ => ?_))
  obtain ⟨v, w, e1, q1⟩ := q1
  subst e1
  obtain ⟨u1, u2, rfl, rv, rw'⟩ : ∃ u1 u2, us = [u1, u2] ∧ RelV v u1 ∧ RelV w u2 := by
    cases r1 with
    | cons p q =>
      cases q with
      | cons p' q' =>
        cases q'
        exact ⟨_, _, rfl, p, p'⟩
  refine wpAny_newObj_type ?_ (by show 2 ≤ sizeLine; decide)
  have I2 : Inv X pins σ H1 { s1 with heap := s1.heap.push { cls := .type "tuple", data := .seq [u1, u2].toArray } } := I1.kept (t' := s1.toks) fun b o e => Heap.get?_push_of_some _ e
  rw [hw]
  refine wpAny_bind (wpAny_pure ?_)
  show wpAny (model X.prog X.w) X.A (do rule "assign.swapped-stores"; let items ← unpackItems (.ref s1.heap.objs.size) 2 none; assignInOrder [fun v => bindName X.env y v, fun v => bindName X.env x v] items.reverse; pure Flow.next) _ _ _
  refine wpAny_bind (wpAny_rule (wpAny_bind (unpackItems_tuple (items := #[u1, u2]) (I.ok.hd hc) (IsTup.new s1.heap _) fun h' hx' => ?_)))
  have I3 := I2.kept (h' := h') (t' := s1.toks) fun b o e => hx' b o (Nat.ne_of_lt (Heap.lt_size e)) e
  show wpAny _ _ (assignInOrder [fun v => bindName X.env y v, fun v => bindName X.env x v] [u2, u1] >>= fun _ => pure Flow.next) _ _ _
  refine wpAny_bind (assignInOrder_cons (wpAny_bindName (store_ok I3 hN hj (.inl hy) rw' (fun s2 I4 => ?_) (.inr hy))))
  refine assignInOrder_cons (wpAny_bindName (store_ok I4 hN hi (.inl hx) rv (fun s3 I5 => assignInOrder_nil (wpAny_pure ?_)) (.inr hx)))
  rw [List.set_comm _ _ (Ne.symm hij)] at I5
  exact ⟨_, H1, I5, q1⟩
def tAug (i : Nat) (te : TE) (ti : TIp) : TS := fun D σ H => ∃ x, σ[i]? = some (some x) ∧ te σ H fun y H1 => ti x y H1 fun z H2 => D.nx (σ.set i (some z)) H2
def tAugS (to ti te : TE) (tget : V → V → Hp → VK → Prop) (tip : TIp) (tset : TSet) : TS := fun D σ H => to σ H fun o H1 => ti σ H1 fun i H2 => tget o i H2 fun x H3 => te σ H3 fun y H4 => tip x y H4 fun z H5 => tset o i z H5 fun H6 => D.nx σ H6
def PGet (X : Cx) (t : V → V → Hp → VK → Prop) : Prop :=
  ∀ (pins : List (Addr × Obj)) (s : Shared) (σ : St) (H : Hp) (o i : V) (ov iv : Value) (Q : VK), Inv X pins σ H s → RelV o ov → RelV i iv → t o i H Q →
    wpAny (model X.prog X.w) X.A (getItem ov iv) (EP X pins σ Q) X.xe s
def ipI (f : Int → Int → Int) : TIp := fun x y H Q => ∃ i j, x = .int i ∧ y = .int j ∧ Q (.int (f i j)) H
end
section
variable {X : Cx} {pos : Pos}
def tWhile (c : TT) (tb : TS) : TS := fun D σ H => ∃ W : Nat → St → Hp → Prop, (∃ m, W m σ H) ∧ ∀ m σ H, W m σ H →
  c σ H fun b H1 => if b = true then ∃ N : St → Hp → Prop, (∀ σ' H', N σ' H' → ∃ m', m' < m ∧ W m' σ' H') ∧ tb { D with nx := N, ct := N, bk := D.nx } σ H1 else D.nx σ H1
theorem ps_while {c : Expr} {body : List Stmt} {tc : TT} {tb : TS} (hp : PassesOwn (model X.prog X.w) X.A X.env X.xe) (hc : PT X c tc) (hb : PSs X body tb) : PS X (.While c body [] pos) (tWhile tc tb) := by
  intro pins s σ H D I h
  obtain ⟨W, ⟨m0, w0⟩, turn⟩ := h
  refine wpAny_While (codeAny_whileLoop (fun n s' => ∃ σ' H', Inv X pins σ' H' s' ∧ W n σ' H') ?_ m0 ⟨σ, H, I, w0⟩)
  rintro n s1 ⟨σ1, H1, I1, w1⟩
  refine wpAny_passesOwn hp (thn (hc pins s1 σ1 H1 _ I1 (turn n σ1 H1 w1)) fun b s2 ⟨H2, I2, q2⟩ => ?_)
  cases b with
  | true =>
    obtain ⟨N, hN, q2⟩ := q2
    rw [if_pos rfl]
    refine wpAny_passesOwn hp (thn (hb pins s2 σ1 H2 _ I2 q2) fun f s3 q3 => ?_)
    cases f with
    | next =>
      obtain ⟨σ3, H3, I3, n3⟩ := q3
      obtain ⟨m', hm, w3⟩ := hN σ3 H3 n3
      exact ⟨m', hm, σ3, H3, I3, w3⟩
    | cont =>
      obtain ⟨σ3, H3, I3, n3⟩ := q3
      obtain ⟨m', hm, w3⟩ := hN σ3 H3 n3
      exact ⟨m', hm, σ3, H3, I3, w3⟩
    | brk => exact q3
    | ret v => exact q3
  | false =>
    rw [if_neg Bool.false_ne_true]
    exact wpAny_execs_nil ⟨σ1, H2, I2, q2⟩
end
structure It where
  go : Nat → Hp → Prop
  yld : Nat → Hp → V → Hp → Prop
  stop : Nat → Hp → Prop
def FpOk (X : Cx) (pins : List (Addr × Obj)) (H : Hp) (b : Addr) : Prop :=
  H b = none ∧ b ≠ X.env.locals ∧ b ∉ X.fs ∧ (b ∈ X.ex ∨ X.s₀.heap.objs.size ≤ b) ∧ (∀ x c, X.env.cells.lookup x = some c → c ≠ b) ∧ ∀ p ∈ X.pn ++ pins, p.1 ≠ b
theorem Inv.fpOk {X : Cx} {pins : List (Addr × Obj)} {σ : St} {H H' : Hp} {s : Shared} {b : Addr} (I : Inv X pins σ H s) (hb : s.heap.objs.size ≤ b) (hn : H' b = none) : FpOk X pins H' b := by
  refine ⟨hn, Nat.ne_of_gt (Nat.lt_of_lt_of_le I.lt hb), I.nofs hb, .inr (Nat.le_trans I.sz hb), fun x c e z => ?_, fun p hp z => ?_⟩
  · obtain ⟨v, q⟩ := I.cell x c e
    exact absurd (Nat.lt_of_lt_of_le q.lt (by rw [z]; exact hb)) (Nat.lt_irrefl _)
  · exact absurd (Nat.lt_of_lt_of_le (Heap.lt_size (I.pin p hp).1) (by rw [z]; exact hb)) (Nat.lt_irrefl _)
structure Turn (P : Program) (w : World) (K : PySem.W.Frag) (tg : Expr) (J : It) (fp : List Addr) (it : Addr) (tn : Nat → Heap → Prop) : Prop where
  mem : it ∈ fp
  obj : ∀ i h, tn i h → ∀ b ∈ fp, ∃ o, h.get? b = some o ∧ ∀ v, o.data ≠ .cell v
  keep : ∀ i h h', tn i h → (∀ b ∈ fp, ∀ o, h.get? b = some o → h'.get? b = some o) → tn i h'
  item : ∀ (X : Cx), X.prog = P → X.w = w → X.K = K → X.calm = true → ∀ (i : Nat) (pins : List (Addr × Obj)) (s : Shared) (σ : St) (H : Hp) (E : Value → Shared → Prop), Inv X pins σ H s → (∀ b ∈ fp, FpOk X pins H b) → tn i s.heap → J.go i H →
    wpAny (model P w) X.A (pyNext (.ref it)) (fun r s1 => ∃ u, r = some u ∧
      wpAny (model P w) X.A (letOwnedTupleGo tg (.ref it) u) (fun _ s2 => ∃ x H', Inv X pins σ H' s2 ∧ RelV x u ∧ J.yld i H x H' ∧ tn (i + 1) s2.heap ∧ ∀ b ∈ fp, H' b = none) E s1) E s
  done : ∀ (X : Cx), X.prog = P → X.w = w → X.K = K → X.calm = true → ∀ (i : Nat) (pins : List (Addr × Obj)) (s : Shared) (σ : St) (H : Hp) (E : Value → Shared → Prop), Inv X pins σ H s → (∀ b ∈ fp, FpOk X pins H b) → tn i s.heap → J.stop i H →
    wpAny (model P w) X.A (pyNext (.ref it)) (fun r s1 => r = none ∧ Inv X pins σ H s1) E s
  self : ∀ (A : Around) (i : Nat) (s : Shared) (Q : Value → Shared → Prop) (E : Value → Shared → Prop), tn i s.heap → Q (.ref it) s → wpAny (model P w) A (pyIter (.ref it)) Q E s
abbrev TI := St → Hp → (It → Hp → Prop) → Prop
def PIE (X : Cx) (pins : List (Addr × Obj)) (σ : St) (tg : Expr) (R : It → Hp → Prop) (itv : Value) (s2 : Shared) : Prop :=
  ∃ (it : Addr) (fp : List Addr) (tn : Nat → Heap → Prop) (J : It) (H' : Hp), itv = .ref it ∧ Inv X pins σ H' s2 ∧ Turn X.prog X.w X.K tg J fp it tn ∧ tn 0 s2.heap ∧ (∀ b ∈ fp, FpOk X pins H' b) ∧ R J H'
def PI (X : Cx) (tg iter : Expr) (wi : TI) : Prop :=
  ∀ (pins : List (Addr × Obj)) (s : Shared) (σ : St) (H : Hp) (R : It → Hp → Prop), Inv X pins σ H s → wi σ H R →
    wpAny (model X.prog X.w) X.A (eval iter X.env) (fun v s1 => wpAny (model X.prog X.w) X.A (pyIter v) (PIE X pins σ tg R) X.xe s1) X.xe s
theorem go_of {M : Model} {A : Around} {E : Value → Shared → Prop} {s : Shared} {tg : Expr} {it : Addr} {u : Value} {o : Obj} {n : String} {vs : Array Value} {Q : Unit → Shared → Prop} (ho : s.heap.get? it = some o) (hc : o.cls = .type n) (hd : o.data = .fields vs)
    (hn : ["enumerate", "zip", "dict_itemiterator", "dict_reverseitemiterator", "odict_iterator", "itertools.zip_longest", "itertools.pairwise"].contains n = false) (hQ : Q () s) : wpAny M A (letOwnedTupleGo tg (.ref it) u) Q E s := by
  unfold letOwnedTupleGo
  cases tg <;> first
    | exact wpAny_pure hQ
    | (cases u <;> first
        | exact wpAny_pure hQ
        | (refine wpAny_bind (wpAny_load ho ?_)
           rw [hc, hd]
           show wpAny M A (if (["enumerate", "zip", "dict_itemiterator", "dict_reverseitemiterator", "odict_iterator", "itertools.zip_longest", "itertools.pairwise"].contains n && vs[0]? == some (rawInt _)) = true then _ else _) Q E s
           rw [if_neg (by intro h; rw [hn, Bool.false_and] at h; cases h)]
           exact wpAny_pure hQ))
def Itl (K : PySem.W.Frag) (a : Addr) : It :=
  ⟨fun i H => ∃ xs x, SqL K H a xs ∧ xs[i]? = some x, fun i H x H' => H' = H ∧ ∀ xs, SqL K H a xs → xs[i]? = some x, fun i H => ∃ xs, SqL K H a xs ∧ xs.length ≤ i⟩
def Itt (K : PySem.W.Frag) (a : Addr) : It :=
  ⟨fun i H => ∃ xs x, SqT K H a xs ∧ xs[i]? = some x, fun i H x H' => H' = H ∧ ∀ xs, SqT K H a xs → xs[i]? = some x, fun i H => ∃ xs, SqT K H a xs ∧ xs.length ≤ i⟩
def Itr (lo : Int) (n : Nat) : It := ⟨fun i _ => i < n, fun i H x H' => H' = H ∧ x = .int (lo + i), fun i _ => n ≤ i⟩
theorem turn_list {P : Program} {w : World} {K : PySem.W.Frag} {tg : Expr} (a it : Addr) : Turn P w K tg (Itl K a) [it] it (fun i h => h.IsListIter it a i) where
  mem := by simp
  obj := fun i h st b hb => by
    have e : b = it := by simpa using hb
    subst e
    obtain ⟨o, e, c, d⟩ := st
    exact ⟨o, e, fun v z => by rw [d] at z; cases z⟩
  keep := fun i h h' st k => st.at fun o e => k it (by simp) o e
  item := by
    intro X hP hw hK hc i pins s σ H E I hf st hg
    subst hP hw hK
    obtain ⟨xs, x, hq, hx⟩ := hg
    obtain ⟨its, rv, p, hz⟩ := I.list hq
    obtain ⟨u, hu, ru⟩ := rv.get hx
    obtain ⟨f0, f1, f2, f3, f4, f5⟩ := hf it (by simp)
    refine wpAny_pyNext_list_item st p.isList (x := u) (by simpa using hu) fun h' st' sb => ?_
    have I1 : Inv X pins σ H { s with heap := h' } := I.turned (t' := s.toks) (fun b o hb e => (sb.2 b hb).trans e) f0 f1 f3 f4 f5
    obtain ⟨o, e, c, d⟩ := id st'
    exact ⟨u, rfl, go_of (s := { s with heap := h' }) e c d (by decide) ⟨x, H, I1, ru, ⟨rfl, fun ys hy => by rw [I.list_inj hy hq]; exact hx⟩, st', fun b hb => (hf b hb).1⟩⟩
  done := by
    intro X hP hw hK hc i pins s σ H E I hf st hg
    subst hP hw hK
    obtain ⟨xs, hq, hx⟩ := hg
    obtain ⟨its, rv, p, hz⟩ := I.list hq
    obtain ⟨f0, f1, f2, f3, f4, f5⟩ := hf it (by simp)
    have hl := rv.length
    exact wpAny_pyNext_list_end (I.ok.hd hc) st p.isList (by simp; omega) fun h' eb => ⟨rfl, I.turned (t' := s.toks) (fun b o hb e => eb b o hb e) f0 f1 f3 f4 f5⟩
  self := fun _ _ _ _ _ st h => wpAny_pyIter_listiter st h
theorem turn_tuple {P : Program} {w : World} {K : PySem.W.Frag} {tg : Expr} (a it : Addr) : Turn P w K tg (Itt K a) [it] it (fun i h => h.IsTupleIter it a i) where
  mem := by simp
  obj := fun i h st b hb => by
    have e : b = it := by simpa using hb
    subst e
    obtain ⟨o, e, c, d⟩ := st
    exact ⟨o, e, fun v z => by rw [d] at z; cases z⟩
  keep := fun i h h' st k => st.at fun o e => k it (by simp) o e
  item := by
    intro X hP hw hK hc i pins s σ H E I hf st hg
    subst hP hw hK
    obtain ⟨xs, x, hq, hx⟩ := hg
    obtain ⟨its, rv, p, hz⟩ := I.tuple hq
    obtain ⟨u, hu, ru⟩ := rv.get hx
    obtain ⟨f0, f1, f2, f3, f4, f5⟩ := hf it (by simp)
    refine wpAny_pyNext_tuple_item st (show s.heap.IsTuple a its.toArray from p) (x := u) (by simpa using hu) fun h' st' sb => ?_
    have I1 : Inv X pins σ H { s with heap := h' } := I.turned (t' := s.toks) (fun b o hb e => (sb.2 b hb).trans e) f0 f1 f3 f4 f5
    obtain ⟨o, e, c, d⟩ := id st'
    exact ⟨u, rfl, go_of (s := { s with heap := h' }) e c d (by decide) ⟨x, H, I1, ru, ⟨rfl, fun ys hy => by rw [I.tuple_inj hy hq]; exact hx⟩, st', fun b hb => (hf b hb).1⟩⟩
  done := by
    intro X hP hw hK hc i pins s σ H E I hf st hg
    subst hP hw hK
    obtain ⟨xs, hq, hx⟩ := hg
    obtain ⟨its, rv, p, hz⟩ := I.tuple hq
    obtain ⟨f0, f1, f2, f3, f4, f5⟩ := hf it (by simp)
    have hl := rv.length
    exact wpAny_pyNext_tuple_end (I.ok.hd hc) st (show s.heap.IsTuple a its.toArray from p) (by simp; omega) fun h' eb => ⟨rfl, I.turned (t' := s.toks) (fun b o hb e => eb b o hb e) f0 f1 f3 f4 f5⟩
  self := fun _ _ _ _ _ st h => wpAny_pyIter_tupleiter st h
theorem turn_range {P : Program} {w : World} {K : PySem.W.Frag} {tg : Expr} (it : Addr) (lo : Int) (n : Nat) : Turn P w K tg (Itr lo n) [it] it (fun i h => IsRangeIter h it (lo + (i : Nat) * 1) ((n : Int) - (i : Nat)) 1) where
  mem := by simp
  obj := fun i h st b hb => by
    have e : b = it := by simpa using hb
    subst e
    exact ⟨_, st, fun v z => by
      have z' : Data.fields _ = Data.cell v := z
      cases z'⟩
  keep := fun i h h' st k => k it (by simp) _ st
  item := by
    intro X hP hw hK hc i pins s σ H E I hf st hg
    subst hP hw hK
    obtain ⟨f0, f1, f2, f3, f4, f5⟩ := hf it (by simp)
    have W := Walks.range (prog := X.prog) (w := X.w) (I.ok.hd hc) it lo 1 n
    refine W.item i s _ _ hg st fun v h' tk hv st' kk => ?_
    obtain ⟨t, rfl⟩ := hv
    have I1 : Inv X pins σ H { s with heap := h', toks := tk } := I.turned (fun b o hb e => kk b o (by simpa using hb) e) f0 f1 f3 f4 f5
    refine ⟨_, rfl, go_of (s := { s with heap := h', toks := tk }) (n := "range_iterator") st' rfl rfl (by decide) ⟨.int (lo + i), H, I1, ⟨t, ?_⟩, ⟨rfl, rfl⟩, st', fun b hb => (hf b hb).1⟩⟩
    rw [Int.mul_one]
  done := by
    intro X hP hw hK hc i pins s σ H E I hf st hg
    subst hP hw hK
    obtain ⟨f0, f1, f2, f3, f4, f5⟩ := hf it (by simp)
    exact wpAny_pyNext_range_end (I.ok.hd hc) st (by have : n ≤ i := hg; omega) fun h' eb => ⟨rfl, I.turned (t' := s.toks) (fun b o hb e => eb b o hb e) f0 f1 f3 f4 f5⟩
  self := fun _ _ _ _ _ st h => wpAny_pyIter_rangeiter st h
end L2
namespace L2
open PySem PySem.Spec PyProof.Rows
section
variable {X : Cx} {tg : Expr}
def iList (K : PySem.W.Frag) (tl : TE) : TI := fun σ H R => tl σ H fun x H1 => ∃ a, x = .ref a ∧ (∃ xs, SqL K H1 a xs) ∧ R (Itl K a) H1
def iTup (K : PySem.W.Frag) (tl : TE) : TI := fun σ H R => tl σ H fun x H1 => ∃ a, x = .ref a ∧ (∃ xs, SqT K H1 a xs) ∧ R (Itt K a) H1
theorem pi_list {l : Expr} {tl : TE} (hl : PE X l tl) : PI X tg l (iList X.K tl) := by
  intro pins s σ H R I h
  refine thn (hl pins s σ H _ I h) fun v s1 ⟨x, H1, I1, r1, q1⟩ => ?_
  obtain ⟨a, e, ⟨xs, hq⟩, q⟩ := q1
  subst e
  cases r1
  obtain ⟨its, rv, p, hz⟩ := I1.list hq
  refine wpAny_pyIter_list p.isList ?_
  refine ⟨s1.heap.objs.size, [s1.heap.objs.size], _, _, H1, rfl, I1.kept (t' := s1.toks) fun b o e => Heap.get?_push_of_some _ e, turn_list a _, ⟨_, Heap.get?_push_size _ rfl, rfl, rfl⟩, fun b hb => ?_, q⟩
  have e : b = s1.heap.objs.size := by simpa using hb
  subst e
  exact I1.fpOk (Nat.le_refl _) (I1.hok.fresh (Nat.le_refl _))
theorem pi_tup {l : Expr} {tl : TE} (hl : PE X l tl) : PI X tg l (iTup X.K tl) := by
  intro pins s σ H R I h
  refine thn (hl pins s σ H _ I h) fun v s1 ⟨x, H1, I1, r1, q1⟩ => ?_
  obtain ⟨a, e, ⟨xs, hq⟩, q⟩ := q1
  subst e
  cases r1
  obtain ⟨its, rv, p, hz⟩ := I1.tuple hq
  refine wpAny_pyIter_tuple (show s1.heap.IsTuple a its.toArray from p) ?_
  refine ⟨s1.heap.objs.size, [s1.heap.objs.size], _, _, H1, rfl, I1.kept (t' := s1.toks) fun b o e => Heap.get?_push_of_some _ e, turn_tuple a _, ⟨_, Heap.get?_push_size _ rfl, rfl, rfl⟩, fun b hb => ?_, q⟩
  have e : b = s1.heap.objs.size := by simpa using hb
  subst e
  exact I1.fpOk (Nat.le_refl _) (I1.hok.fresh (Nat.le_refl _))
theorem range_it {pins : List (Addr × Obj)} {σ : St} {H : Hp} {s : Shared} {R : It → Hp → Prop} {E : Value → Shared → Prop} {lo hi : Int} {t u v : Tok} {tk : Nat} (I : Inv X pins σ H s) (h1 : -(2 ^ 62) ≤ lo) (h2 : lo < 2 ^ 62) (h3 : -(2 ^ 62) ≤ hi) (h4 : hi < 2 ^ 62)
    (q : R (Itr lo (hi - lo).toNat) H) : wpAny (model X.prog X.w) X.A (pyIter (.ref s.heap.objs.size)) (PIE X pins σ tg R) E { s with heap := s.heap.push { cls := .type "range", data := .fields #[.int lo t, .int hi u, .int 1 v] }, toks := tk } := by
  refine wpAny_pyIter_range (IsRange.new ..) (small_one h1 h2 h3 h4) ?_
  have I1 : Inv X pins σ H { s with heap := s.heap.push { cls := .type "range", data := .fields #[.int lo t, .int hi u, .int 1 v] }, toks := tk } := I.kept fun b o e => Heap.get?_push_of_some _ e
  refine ⟨(s.heap.push { cls := .type "range", data := .fields #[.int lo t, .int hi u, .int 1 v] }).objs.size, [(s.heap.push { cls := .type "range", data := .fields #[.int lo t, .int hi u, .int 1 v] }).objs.size], _, _, H, rfl,
    I1.kept (t' := tk) fun b o e => Heap.get?_push_of_some _ e, turn_range _ lo (hi - lo).toNat, ?_, fun b hb => ?_, q⟩
  · have e1 : lo + ((0 : Nat) : Int) * 1 = lo := by simp
    have e2 : (((hi - lo).toNat : Nat) : Int) - ((0 : Nat) : Int) = Builtin.Range.rangeSize lo hi 1 := by rw [rangeSize_one]; split <;> omega
    show IsRangeIter _ _ (lo + ((0 : Nat) : Int) * 1) ((((hi - lo).toNat : Nat) : Int) - ((0 : Nat) : Int)) 1
    rw [e1, e2]
    exact Heap.get?_push_size _ rfl
  · have e : b = (s.heap.push { cls := .type "range", data := .fields #[.int lo t, .int hi u, .int 1 v] }).objs.size := by simpa using hb
    subst e
    exact I1.fpOk (Nat.le_refl _) (I1.hok.fresh (Nat.le_refl _))
def iRng1 (ta : TA) : TI := fun σ H R => ta σ H fun vs H1 => ∃ j : Int, vs = [.int j] ∧ -(2 ^ 62) ≤ j ∧ j < 2 ^ 62 ∧ R (Itr 0 j.toNat) H1
def iRng2 (ta : TA) : TI := fun σ H R => ta σ H fun vs H1 => ∃ i j : Int, vs = [.int i, .int j] ∧ (-(2 ^ 62) ≤ i ∧ i < 2 ^ 62 ∧ -(2 ^ 62) ≤ j ∧ j < 2 ^ 62) ∧ R (Itr i (j - i).toNat) H1
theorem pi_range1 {a : Expr} {ta : TA} {p pos : Pos} (hg : Gl X "range") (hm : X.mg "range" = none) (ha : PA X [a] ta) (hs : starEach [a] X.env = [(false, eval a X.env)] := by rfl) : PI X tg (.Call (.Name "range" p) [a] [] pos) (iRng1 ta) := by
  intro pins s σ H R I h
  refine Call_ (ld_blt I hg hm boot_range (PyProof.Rows.callWith_type1 (thn (ha pos pins s σ H _ I h) fun us s1 ⟨vs, H1, I1, r1, q1⟩ => ?_) hs rfl))
  obtain ⟨j, e, q1, q2, q⟩ := q1
  subst e
  cases r1 with
  | cons r rr =>
    cases rr
    obtain ⟨t, rfl⟩ := r
    exact call_range_1 (range_it I1 (by omega) (by omega) q1 q2 (by simpa using q))
theorem pi_range2 {a b : Expr} {ta : TA} {p pos : Pos} (hg : Gl X "range") (hm : X.mg "range" = none) (ha : PA X [a, b] ta) (hs : starEach [a, b] X.env = [(false, eval a X.env), (false, eval b X.env)] := by rfl) (hs2 : starEach [b] X.env = [(false, eval b X.env)] := by rfl) :
    PI X tg (.Call (.Name "range" p) [a, b] [] pos) (iRng2 ta) := by
  intro pins s σ H R I h
  refine Call_ (ld_blt I hg hm boot_range (PyProof.Rows.callWith_type1 (thn (ha pos pins s σ H _ I h) fun us s1 ⟨vs, H1, I1, r1, q1⟩ => ?_) (by rw [hs, hs2]) (by rw [hs2]; rfl)))
  obtain ⟨i, j, e, ⟨q1, q2, q3, q4⟩, q⟩ := q1
  subst e
  cases r1 with
  | cons r rr =>
    cases rr with
    | cons r' rr =>
      cases rr
      obtain ⟨t, rfl⟩ := r
      obtain ⟨t', rfl⟩ := r'
      exact call_range_2 (range_it I1 q1 q2 q3 q4 q)
def tFor (wi : TI) (g : TG) (tb : TS) : TS := fun D σ H => wi σ H fun J H1 => ∃ W : Nat → Nat → St → Hp → Prop, (∃ m, W 0 m σ H1) ∧ ∀ i m σ H, W i m σ H →
  (J.stop i H ∧ D.nx σ H) ∨ (J.go i H ∧ ∃ N : St → Hp → Prop, (∀ σ' H', N σ' H' → ∃ m', m' < m ∧ W (i + 1) m' σ' H') ∧ ∀ x H', J.yld i H x H' → g x σ H' fun σ2 H2 => tb { D with nx := N, ct := N, bk := D.nx } σ2 H2)
def pinsAt (fp : List Addr) (h : Heap) : List (Addr × Obj) := fp.filterMap fun b => (h.get? b).map fun o => (b, o)
theorem mem_pinsAt {fp : List Addr} {h : Heap} {b : Addr} {o : Obj} (hb : b ∈ fp) (e : h.get? b = some o) : (b, o) ∈ pinsAt fp h := List.mem_filterMap.mpr ⟨b, hb, by rw [e]; rfl⟩
theorem of_pinsAt {fp : List Addr} {h : Heap} {p : Addr × Obj} (hp : p ∈ pinsAt fp h) : p.1 ∈ fp ∧ h.get? p.1 = some p.2 := by
  obtain ⟨b, hb, e⟩ := List.mem_filterMap.mp hp
  cases q : h.get? b with
  | none => rw [q] at e; cases e
  | some o =>
    rw [q] at e
    have e' : (b, o) = p := Option.some.inj e
    subst e'
    exact ⟨hb, q⟩
theorem Inv.pinned {pins : List (Addr × Obj)} {σ : St} {H : Hp} {s : Shared} {fp : List Addr} (I : Inv X pins σ H s) (hf : ∀ b ∈ fp, FpOk X pins H b) (ho : ∀ b ∈ fp, ∃ o, s.heap.get? b = some o ∧ ∀ v, o.data ≠ .cell v) : Inv X (pins ++ pinsAt fp s.heap) σ H s :=
  I.pins_of fun p hp => (List.mem_append.mp hp).elim (fun z => I.pin p (List.mem_append_right _ z)) fun z => by
    obtain ⟨hb, e⟩ := of_pinsAt z
    obtain ⟨f0, f1, f2, _⟩ := hf p.1 hb
    obtain ⟨o, e', d⟩ := ho p.1 hb
    rw [e] at e'; cases e'
    exact ⟨e, f0, f1, f2, d⟩
theorem Inv.unpinned {pins pl : List (Addr × Obj)} {σ : St} {H : Hp} {s : Shared} (I : Inv X (pins ++ pl) σ H s) : Inv X pins σ H s := I.pins_of fun p hp => I.pin p (List.mem_append_right _ (List.mem_append_left _ hp))
theorem ps_for {iter : Expr} {body : List Stmt} {wi : TI} {g : TG} {tb : TS} {pos : Pos} (hp : PassesOwn (model X.prog X.w) X.A X.env X.xe) (hc : X.calm = true) (hi : PI X tg iter wi) (hg : PG X tg g) (hb : PSs X body tb)
    (hs : ∀ x, foldedSetIterable iter X.env x = pure x := by intro _; rfl) : PS X (.For tg iter body [] pos) (tFor wi g tb) := by
  intro pins s σ H D I h
  refine wpAny_For (thn (hi pins s σ H _ I h) fun v s1 h1 => thn h1 fun itv s2 h2 => ?_) hs
  obtain ⟨it, fp, tn, J, H2, e, I2, T, st2, f2, W, ⟨m0, w0⟩, turn⟩ := h2
  subst e
  -- what stays true of the iterator's objects through the loop
  have stat : ∀ {H' : Hp}, (∀ b ∈ fp, H' b = none) → ∀ b ∈ fp, FpOk X pins H' b := fun hn b hb => ⟨hn b hb, (f2 b hb).2⟩
  refine codeAny_forLoop_any (fun n s' => ∃ i σ' H', Inv X pins σ' H' s' ∧ tn i s'.heap ∧ (∀ b ∈ fp, H' b = none) ∧ W i n σ' H') ?_ m0 ⟨0, σ, H2, I2, st2, fun b hb => (f2 b hb).1, w0⟩
  rintro n s3 ⟨i, σ3, H3, I3, st3, fr3, w3⟩
  rcases turn i n σ3 H3 w3 with ⟨stop, qn⟩ | ⟨go, N, hN, step⟩
  · refine wpAny_passesOwn hp (thn (T.done X rfl rfl rfl hc i pins s3 σ3 H3 X.xe I3 (stat fr3) st3 stop) fun r s4 ⟨hr, I4⟩ => ?_)
    subst hr
    exact wpAny_execs_nil ⟨σ3, H3, I4, qn⟩
  · refine wpAny_passesOwn hp (thn (T.item X rfl rfl rfl hc i pins s3 σ3 H3 X.xe I3 (stat fr3) st3 go) fun r s4 ⟨u, hr, h4⟩ => ?_)
    subst hr
    refine wpAny_passesOwn hp (thn h4 fun _ s5 ⟨x, H5, I5, r5, y5, st5, fr5⟩ => ?_)
    have I5' := I5.pinned (stat fr5) (T.obj _ _ st5)
    refine wpAny_passesOwn hp (thn (hg _ s5 σ3 H5 x u _ I5' r5 (step x H5 y5)) fun _ s6 ⟨σ6, H6, I6, q6⟩ => ?_)
    refine wpAny_passesOwn hp (thn (hb _ s6 σ6 H6 _ I6 q6) fun f s7 q7 => ?_)
    have again : ∀ {σ7 : St} {H7 : Hp}, Inv X (pins ++ pinsAt fp s5.heap) σ7 H7 s7 → N σ7 H7 → ∃ m, m < n ∧ ∃ i σ' H', Inv X pins σ' H' s7 ∧ tn i s7.heap ∧ (∀ b ∈ fp, H' b = none) ∧ W i m σ' H' := fun {σ7 H7} I7 n7 => by
      obtain ⟨m', hm, w7⟩ := hN σ7 H7 n7
      refine ⟨m', hm, i + 1, σ7, H7, I7.unpinned, T.keep _ _ _ st5 fun b hb o e => (I7.pin (b, o) (List.mem_append_right _ (List.mem_append_right _ (mem_pinsAt hb e)))).1, fun b hb => ?_, w7⟩
      obtain ⟨o, e, d⟩ := T.obj _ _ st5 b hb
      exact (I7.pin (b, o) (List.mem_append_right _ (List.mem_append_right _ (mem_pinsAt hb e)))).2.1
    cases f with
    | next => obtain ⟨σ7, H7, I7, n7⟩ := q7; exact again I7 n7
    | cont => obtain ⟨σ7, H7, I7, n7⟩ := q7; exact again I7 n7
    | brk => obtain ⟨σ7, H7, I7, q7⟩ := q7; exact ⟨σ7, H7, I7.unpinned, q7⟩
    | ret v => obtain ⟨x7, σ7, H7, I7, r7, q7⟩ := q7; exact ⟨x7, σ7, H7, I7.unpinned, r7, q7⟩
end
theorem for_list {K : PySem.W.Frag} {a : Addr} {xs : List V} {g : TG} {tb : TS} {D : Ends} {σ : St} {H : Hp} (Pv : Nat → St → Hp → Prop) (h0 : Pv 0 σ H) (hl : ∀ i σ H, i ≤ xs.length → Pv i σ H → SqL K H a xs)
    (hs : ∀ i x σ H, xs[i]? = some x → Pv i σ H → g x σ H fun σ2 H2 => tb { D with nx := Pv (i + 1), ct := Pv (i + 1), bk := D.nx } σ2 H2) (hd : ∀ σ H, Pv xs.length σ H → D.nx σ H) :
    ∃ W : Nat → Nat → St → Hp → Prop, (∃ m, W 0 m σ H) ∧ ∀ i m σ H, W i m σ H →
      ((Itl K a).stop i H ∧ D.nx σ H) ∨ ((Itl K a).go i H ∧ ∃ N : St → Hp → Prop, (∀ σ' H', N σ' H' → ∃ m', m' < m ∧ W (i + 1) m' σ' H') ∧ ∀ x H', (Itl K a).yld i H x H' → g x σ H' fun σ2 H2 => tb { D with nx := N, ct := N, bk := D.nx } σ2 H2) := by
  refine ⟨fun i m σ H => m = xs.length - i ∧ i ≤ xs.length ∧ Pv i σ H, ⟨xs.length, by simp, Nat.zero_le _, h0⟩, ?_⟩
  rintro i m σ H ⟨rfl, hi, p⟩
  have q := hl i σ H hi p
  by_cases hlt : i < xs.length
  · refine .inr ⟨⟨xs, xs[i], q, by simp [hlt]⟩, Pv (i + 1), fun σ' H' p' => ⟨xs.length - (i + 1), by omega, rfl, hlt, p'⟩, fun x H' y => ?_⟩
    obtain ⟨e, y⟩ := y
    subst e
    exact hs i x σ _ (y xs q) p
  · have e : i = xs.length := by omega
    subst e
    exact .inl ⟨⟨xs, q, Nat.le_refl _⟩, hd σ H p⟩
theorem for_range {lo : Int} {n : Nat} {g : TG} {tb : TS} {D : Ends} {σ : St} {H : Hp} (Pv : Nat → St → Hp → Prop) (h0 : Pv 0 σ H)
    (hs : ∀ i σ H, i < n → Pv i σ H → g (.int (lo + i)) σ H fun σ2 H2 => tb { D with nx := Pv (i + 1), ct := Pv (i + 1), bk := D.nx } σ2 H2) (hd : ∀ σ H, Pv n σ H → D.nx σ H) :
    ∃ W : Nat → Nat → St → Hp → Prop, (∃ m, W 0 m σ H) ∧ ∀ i m σ H, W i m σ H →
      ((Itr lo n).stop i H ∧ D.nx σ H) ∨ ((Itr lo n).go i H ∧ ∃ N : St → Hp → Prop, (∀ σ' H', N σ' H' → ∃ m', m' < m ∧ W (i + 1) m' σ' H') ∧ ∀ x H', (Itr lo n).yld i H x H' → g x σ H' fun σ2 H2 => tb { D with nx := N, ct := N, bk := D.nx } σ2 H2) := by
  refine ⟨fun i m σ H => m = n - i ∧ i ≤ n ∧ Pv i σ H, ⟨n, by simp, Nat.zero_le _, h0⟩, ?_⟩
  rintro i m σ H ⟨rfl, hi, p⟩
  by_cases hlt : i < n
  · refine .inr ⟨hlt, Pv (i + 1), fun σ' H' p' => ⟨n - (i + 1), by omega, rfl, hlt, p'⟩, fun x H' y => ?_⟩
    obtain ⟨e, y⟩ := y
    subst e y
    exact hs i σ _ hlt p
  · have e : i = n := by omega
    subst e
    exact .inl ⟨Nat.le_refl _, hd σ H p⟩
end L2
namespace L2
open PySem PySem.Spec PyProof.Rows
abbrev R2 := V → V → Hp → VK → Prop
def OpR (X : Cx) (f : Value → Value → Sem Value) (r : R2) : Prop :=
  ∀ (pins : List (Addr × Obj)) (s : Shared) (σ : St) (H : Hp) (x y : V) (v u : Value) (Q : VK), Inv X pins σ H s → RelV x v → RelV y u → r x y H Q →
    wpAny (model X.prog X.w) X.A (f v u) (EP X pins σ Q) X.xe s
def UnR (X : Cx) (f : Value → Sem Value) (r : V → Hp → VK → Prop) : Prop :=
  ∀ (pins : List (Addr × Obj)) (s : Shared) (σ : St) (H : Hp) (x : V) (v : Value) (Q : VK), Inv X pins σ H s → RelV x v → r x H Q →
    wpAny (model X.prog X.w) X.A (f v) (EP X pins σ Q) X.xe s
def CallR (X : Cx) (f : Value) (r : List V → Hp → VK → Prop) : Prop :=
  ∀ (pins : List (Addr × Obj)) (s : Shared) (σ : St) (H : Hp) (xs : List V) (us : List Value) (Q : VK), Inv X pins σ H s → Vals xs us → r xs H Q →
    wpAny (model X.prog X.w) X.A (call f us) (EP X pins σ Q) X.xe s
def TruR (X : Cx) (r : V → Hp → (Bool → Hp → Prop) → Prop) : Prop :=
  ∀ (pins : List (Addr × Obj)) (s : Shared) (σ : St) (H : Hp) (x : V) (v : Value) (Q : Bool → Hp → Prop), Inv X pins σ H s → RelV x v → r x H Q →
    wpAny (model X.prog X.w) X.A (truthy v) (TP X pins σ Q) X.xe s
def tOp (r : R2) (ta tb : TE) : TE := fun σ H Q => ta σ H fun x H1 => tb σ H1 fun y H2 => r x y H2 Q
def tUn (r : V → Hp → VK → Prop) (ta : TE) : TE := fun σ H Q => ta σ H fun x H1 => r x H1 Q
def rI (C : Int → Int → Prop) (g : Int → Int → V) : R2 := fun x y H Q => ∃ i j, x = .int i ∧ y = .int j ∧ C i j ∧ Q (g i j) H
def rI0 (g : Int → Int → V) : R2 := fun x y H Q => ∃ i j, x = .int i ∧ y = .int j ∧ Q (g i j) H
def rU (g : Int → V) : V → Hp → VK → Prop := fun x H Q => ∃ i, x = .int i ∧ Q (g i) H
section
variable {X : Cx} {a b c : Expr} {ta tb tc : TE} {pos : Pos}
theorem binT (ha : PE X a ta) (hb : PE X b tb) {pins : List (Addr × Obj)} {s : Shared} {σ : St} {H : Hp} {R : V → V → Hp → Prop} (I : Inv X pins σ H s)
    (h : ta σ H fun x H1 => tb σ H1 fun y H2 => R x y H2) {Q : Value → Shared → Prop} {f : Value → Value → Sem Value}
    (hf : ∀ v u s2 x y H2, Inv X pins σ H2 s2 → RelV x v → RelV y u → R x y H2 → wpAny (model X.prog X.w) X.A (f v u) Q X.xe s2) :
    wpAny (model X.prog X.w) X.A (eval a X.env) (fun v s₁ => wpAny (model X.prog X.w) X.A (eval b X.env) (fun u s₂ => wpAny (model X.prog X.w) X.A (f v u) Q X.xe s₂) X.xe s₁) X.xe s := by
  refine thn (ha pins s σ H _ I h) fun v s1 ⟨x, H1, I1, r1, q1⟩ => ?_
  refine thn (hb pins s1 σ H1 _ I1 q1) fun u s2 ⟨y, H2, I2, r2, q2⟩ => ?_
  exact hf v u s2 x y H2 I2 r1 r2 q2
theorem pe_op {op : Operator} {r : R2} (ho : OpR X (binaryOp op) r) (ha : PE X a ta) (hb : PE X b tb) : PE X (.BinOp a op b pos) (tOp r ta tb) := by
  intro pins s σ H Q I h
  exact wpAny_BinOp (binT ha hb I h fun v u s2 x y H2 I2 rx ry q => ho pins s2 σ H2 x y v u Q I2 rx ry q)
theorem pe_un {op : UnaryOp} {r : V → Hp → VK → Prop} (ho : UnR X (unaryOp op) r) (ha : PE X a ta) : PE X (.UnaryOp op a pos) (tUn r ta) := by
  intro pins s σ H Q I h
  exact UnaryOp_ (thn (ha pins s σ H _ I h) fun v s1 ⟨x, H1, I1, r1, q1⟩ => ho pins s1 σ H1 x v Q I1 r1 q1)
theorem opI {f : Value → Value → Sem Value} {C : Int → Int → Prop} {g : Int → Int → Int}
    (rule : ∀ (i j : Int) (t u : Tok) (s : Shared) (Q : Value → Shared → Prop) (E : Value → Shared → Prop), C i j → Q (.int (g i j) s.toks) { s with toks := s.toks + 1 } → wpAny (model X.prog X.w) X.A (f (.int i t) (.int j u)) Q E s) :
    OpR X f (rI C fun i j => .int (g i j)) := by
  intro pins s σ H x y v u Q I rx ry h
  obtain ⟨i, j, rfl, rfl, hc, q⟩ := h
  obtain ⟨t, rfl⟩ := rx
  obtain ⟨t', rfl⟩ := ry
  exact rule i j t t' s _ _ hc ⟨.int (g i j), H, I.tok _, ⟨_, rfl⟩, q⟩
theorem opI0 {f : Value → Value → Sem Value} {g : Int → Int → Int}
    (rule : ∀ (i j : Int) (t u : Tok) (s : Shared) (Q : Value → Shared → Prop) (E : Value → Shared → Prop), Q (.int (g i j) s.toks) { s with toks := s.toks + 1 } → wpAny (model X.prog X.w) X.A (f (.int i t) (.int j u)) Q E s) :
    OpR X f (rI0 fun i j => .int (g i j)) := by
  intro pins s σ H x y v u Q I rx ry h
  obtain ⟨i, j, rfl, rfl, q⟩ := h
  obtain ⟨t, rfl⟩ := rx
  obtain ⟨t', rfl⟩ := ry
  exact rule i j t t' s _ _ ⟨.int (g i j), H, I.tok _, ⟨_, rfl⟩, q⟩
theorem opB0 {f : Value → Value → Sem Value} {g : Int → Int → Bool}
    (rule : ∀ (i j : Int) (t u : Tok) (s : Shared) (Q : Value → Shared → Prop) (E : Value → Shared → Prop), Q (.bool (g i j)) s → wpAny (model X.prog X.w) X.A (f (.int i t) (.int j u)) Q E s) :
    OpR X f (rI0 fun i j => .bl (g i j)) := by
  intro pins s σ H x y v u Q I rx ry h
  obtain ⟨i, j, rfl, rfl, q⟩ := h
  obtain ⟨t, rfl⟩ := rx
  obtain ⟨t', rfl⟩ := ry
  exact rule i j t t' s _ _ ⟨.bl (g i j), H, I, rfl, q⟩
def CDiv (i j : Int) : Prop := 0 < j ∧ j < 1073741824
def CDivN (i j : Int) : Prop := j ≠ 0 ∧ j.natAbs < 1073741824
def CPow (i j : Int) : Prop := 0 ≤ j ∧ j ≤ 1000000 ∧ i.natAbs < 2 ^ 64
def CMul (i j : Int) : Prop := (-(2 ^ 64) < i ∧ i < 2 ^ 64) ∨ (-(2 ^ 64) < j ∧ j < 2 ^ 64)
theorem CMul.ok {i j : Int} (h : CMul i j) : IntMulOk i j := by
  rcases h with ⟨h1, h2⟩ | ⟨h1, h2⟩
  · exact .of_left (intBits_le_64 h1 h2)
  · exact .of_right (intBits_le_64 h1 h2)
theorem op_add : OpR X (binaryOp .Add) (rI0 fun i j => .int (i + j)) := opI0 fun _ _ _ _ _ _ _ q => add_int q
theorem op_sub : OpR X (binaryOp .Sub) (rI0 fun i j => .int (i - j)) := opI0 fun _ _ _ _ _ _ _ q => sub_int q
theorem op_mul : OpR X (binaryOp .Mult) (rI CMul fun i j => .int (i * j)) := opI fun _ _ _ _ _ _ _ hc q => mul_int q hc.ok
theorem op_fdiv : OpR X (binaryOp .FloorDiv) (rI CDiv fun i j => .int (i / j)) := opI fun i j _ _ _ _ _ hc q => by
  have h1 : (0 : Int) < j := hc.1
  have h2 : j < 1073741824 := hc.2
  exact floordiv_int (by omega) (by rw [Int.fdiv_eq_ediv_of_nonneg i (by omega)]; exact q) (.inl (PyProof.noPylong_small (by omega)))
theorem op_mod : OpR X (binaryOp .Mod) (rI (fun _ j => 0 < j) fun i j => .int (i % j)) := opI fun i j _ _ _ _ _ hc q => by
  have h1 : (0 : Int) < j := hc
  exact mod_int' (by omega) (by rw [Int.fmod_eq_emod_of_nonneg i (by omega)]; exact q)
theorem op_pow : OpR X (binaryOp .Pow) (rI CPow fun i j => .int (i ^ j.toNat)) := opI fun _ _ _ _ _ _ _ hc q => pow_int_small hc.1 hc.2.1 hc.2.2 q
theorem unI {f : Value → Sem Value} {g : Int → Int}
    (rule : ∀ (i : Int) (t : Tok) (s : Shared) (Q : Value → Shared → Prop) (E : Value → Shared → Prop), Q (.int (g i) s.toks) { s with toks := s.toks + 1 } → wpAny (model X.prog X.w) X.A (f (.int i t)) Q E s) :
    UnR X f (rU fun i => .int (g i)) := by
  intro pins s σ H x v Q I rx h
  obtain ⟨i, rfl, q⟩ := h
  obtain ⟨t, rfl⟩ := rx
  exact rule i t s _ _ ⟨.int (g i), H, I.tok _, ⟨_, rfl⟩, q⟩
theorem un_neg : UnR X (unaryOp .USub) (rU fun i => .int (-i)) := unI fun _ _ _ _ _ q => neg_int q
end
def scal : V → V → Bool
  | .non, .non => true | .non, .int _ => true | .int _, .non => true | .non, .bl _ => true | .bl _, .non => true | .non, .str _ => true | .str _, .non => true
  | .int _, .int _ => true | .bl _, .bl _ => true | .str _, .str _ => true | .byt _, .byt _ => true
  | .int _, .str _ => true | .str _, .int _ => true | .bl _, .str _ => true | .str _, .bl _ => true
  | _, _ => false
def rEq : R2 := fun x y H Q => scal x y = true ∧ Q (.bl (decide (x = y))) H
def rNe : R2 := fun x y H Q => scal x y = true ∧ Q (.bl (!decide (x = y))) H
theorem dec_int {i j : Int} : decide (V.int i = V.int j) = (i == j) := by
  rw [Bool.eq_iff_iff]
  simp
theorem dec_bl {i j : Bool} : decide (V.bl i = V.bl j) = (i == j) := by
  rw [Bool.eq_iff_iff]
  simp
theorem dec_str {i j : Str} : decide (V.str i = V.str j) = (i == j) := by
  rw [Bool.eq_iff_iff]
  simp
theorem dec_byt {i j : Array UInt8} : decide (V.byt i = V.byt j) = (i.toList == j.toList) := by
  rw [Bool.eq_iff_iff]
  cases i
  cases j
  simp
section
variable {X : Cx} {a b c : Expr} {ta tb tc : TE} {pos : Pos}
theorem fin_bl {pins : List (Addr × Obj)} {σ : St} {H : Hp} {s : Shared} {Q : VK} {k k' : Bool} (I : Inv X pins σ H s) (q : Q (.bl k) H) (e : k = k') : EP X pins σ Q (.bool k') s := by
  subst e
  exact ⟨.bl k, H, I, rfl, q⟩
theorem op_eq : OpR X (compareOp .Eq) rEq := by
  intro pins s σ H x y v u Q I rx ry h
  obtain ⟨hs, q⟩ := h
  cases x with
  | non =>
    cases rx
    cases y with
    | non => cases ry; exact PySem.EqNone.eq_none_none (fin_bl I q (by simp))
    | bl j => cases ry; exact PySem.EqNone.eq_none_bool (fin_bl I q (by simp))
    | int j => obtain ⟨t', rfl⟩ := ry; exact PySem.EqNone.eq_none_int (fin_bl I q (by simp))
    | str j => obtain ⟨t', rfl⟩ := ry; exact PySem.EqNone.eq_none_str (fin_bl I q (by simp))
    | _ => exact absurd (show false = true from hs) Bool.false_ne_true
  | bl i =>
    cases rx
    cases y with
    | non => cases ry; exact PySem.EqNone.eq_bool_none (fin_bl I q (by simp))
    | bl j => cases ry; exact eq_bool (fin_bl I q dec_bl)
    | str j => obtain ⟨t', rfl⟩ := ry; exact PySem.EqMixed.eq_bool_str (fin_bl I q (by simp))
    | _ => exact absurd (show false = true from hs) Bool.false_ne_true
  | int i =>
    obtain ⟨t, rfl⟩ := rx
    cases y with
    | non => cases ry; exact PySem.EqNone.eq_int_none (fin_bl I q (by simp))
    | int j => obtain ⟨t', rfl⟩ := ry; exact eq_int (fin_bl I q dec_int)
    | str j => obtain ⟨t', rfl⟩ := ry; exact PySem.EqMixed.eq_int_str (fin_bl I q (by simp))
    | _ => exact absurd (show false = true from hs) Bool.false_ne_true
  | str i =>
    obtain ⟨t, rfl⟩ := rx
    cases y with
    | non => cases ry; exact PySem.EqNone.eq_str_none (fin_bl I q (by simp))
    | bl j => cases ry; exact PySem.EqMixed.eq_str_bool (fin_bl I q (by simp))
    | int j => obtain ⟨t', rfl⟩ := ry; exact PySem.EqMixed.eq_str_int (fin_bl I q (by simp))
    | str j => obtain ⟨t', rfl⟩ := ry; exact eq_str (fin_bl I q dec_str)
    | _ => exact absurd (show false = true from hs) Bool.false_ne_true
  | byt i =>
    obtain ⟨t, rfl⟩ := rx
    cases y with
    | byt j => obtain ⟨t', rfl⟩ := ry; exact PySem.W.eq_bytes (fin_bl I q dec_byt)
    | _ => exact absurd (show false = true from hs) Bool.false_ne_true
  | _ => cases y <;> exact absurd (show false = true from hs) Bool.false_ne_true
theorem op_ne : OpR X (compareOp .NotEq) rNe := by
  intro pins s σ H x y v u Q I rx ry h
  obtain ⟨hs, q⟩ := h
  cases x with
  | non =>
    cases rx
    cases y with
    | non => cases ry; exact PySem.EqNone.ne_none_none (fin_bl I q (by simp))
    | bl j => cases ry; exact PySem.EqNone.ne_none_bool (fin_bl I q (by simp))
    | int j => obtain ⟨t', rfl⟩ := ry; exact PySem.EqNone.ne_none_int (fin_bl I q (by simp))
    | str j => obtain ⟨t', rfl⟩ := ry; exact PySem.EqNone.ne_none_str (fin_bl I q (by simp))
    | _ => exact absurd (show false = true from hs) Bool.false_ne_true
  | bl i =>
    cases rx
    cases y with
    | non => cases ry; exact PySem.EqNone.ne_bool_none (fin_bl I q (by simp))
    | bl j => cases ry; exact ne_bool (fin_bl I q (congrArg not dec_bl))
    | str j => obtain ⟨t', rfl⟩ := ry; exact PySem.EqMixed.ne_bool_str (fin_bl I q (by simp))
    | _ => exact absurd (show false = true from hs) Bool.false_ne_true
  | int i =>
    obtain ⟨t, rfl⟩ := rx
    cases y with
    | non => cases ry; exact PySem.EqNone.ne_int_none (fin_bl I q (by simp))
    | int j => obtain ⟨t', rfl⟩ := ry; exact ne_int (fin_bl I q (congrArg not dec_int))
    | str j => obtain ⟨t', rfl⟩ := ry; exact PySem.EqMixed.ne_int_str (fin_bl I q (by simp))
    | _ => exact absurd (show false = true from hs) Bool.false_ne_true
  | str i =>
    obtain ⟨t, rfl⟩ := rx
    cases y with
    | non => cases ry; exact PySem.EqNone.ne_str_none (fin_bl I q (by simp))
    | bl j => cases ry; exact PySem.EqMixed.ne_str_bool (fin_bl I q (by simp))
    | int j => obtain ⟨t', rfl⟩ := ry; exact PySem.EqMixed.ne_str_int (fin_bl I q (by simp))
    | str j => obtain ⟨t', rfl⟩ := ry; exact ne_str (fin_bl I q (congrArg not dec_str))
    | _ => exact absurd (show false = true from hs) Bool.false_ne_true
  | byt i =>
    obtain ⟨t, rfl⟩ := rx
    cases y with
    | byt j => obtain ⟨t', rfl⟩ := ry; exact PySem.W.ne_bytes (fin_bl I q (congrArg not dec_byt))
    | _ => exact absurd (show false = true from hs) Bool.false_ne_true
  | _ => cases y <;> exact absurd (show false = true from hs) Bool.false_ne_true
theorem op_lt : OpR X (compareOp .Lt) (rI0 fun i j => .bl (decide (i < j))) := opB0 fun _ _ _ _ _ _ _ q => lt_int q
theorem op_le : OpR X (compareOp .LtE) (rI0 fun i j => .bl (decide (i ≤ j))) := opB0 fun _ _ _ _ _ _ _ q => le_int q
theorem op_gt : OpR X (compareOp .Gt) (rI0 fun i j => .bl (decide (j < i))) := opB0 fun _ _ _ _ _ _ _ q => gt_int q
theorem op_ge : OpR X (compareOp .GtE) (rI0 fun i j => .bl (decide (j ≤ i))) := opB0 fun _ _ _ _ _ _ _ q => ge_int q
theorem op_notin_str : OpR X (compareOp .NotIn) (fun x y H Q => ∃ i j, x = .str i ∧ y = .str j ∧ Q (.bl (!(!(Builtin.Str.occurrences j i 0 j.length 1).isEmpty))) H) := by
  intro pins s σ H x y v u Q I rx ry h
  obtain ⟨i, j, rfl, rfl, q⟩ := h
  obtain ⟨t, rfl⟩ := rx
  obtain ⟨t', rfl⟩ := ry
  exact notIn_str (fin_bl I q rfl)
def isObj : HO → Bool
  | .lst _ => true
  | .ins _ _ _ => true
  | _ => false
theorem OpR.or {f : Value → Value → Sem Value} {r r' : R2} (h : OpR X f r) (h' : OpR X f r') : OpR X f (fun x y H Q => r x y H Q ∨ r' x y H Q) := by
  intro pins s σ H x y v u Q I rx ry q
  rcases q with q | q
  · exact h pins s σ H x y v u Q I rx ry q
  · exact h' pins s σ H x y v u Q I rx ry q
theorem nomark (b : Expr) {op : CmpOp} (h : op ≠ .In := by decide) (h2 : op ≠ .NotIn := by decide) : behindInMarks op b = false := by
  have e1 : (op == CmpOp.In) = false := by cases op <;> first | rfl | exact absurd rfl h
  have e2 : (op == CmpOp.NotIn) = false := by cases op <;> first | rfl | exact absurd rfl h2
  cases b <;> simp [behindInMarks, e1, e2]
theorem pe_cmpR {op : CmpOp} {r : R2} (ho : OpR X (compareOp op) r) (ha : PE X a ta) (hb : PE X b tb) (hm : behindInMarks op b = false) : PE X (.Compare a [op] [b] pos) (tOp r ta tb) := by
  intro pins s σ H Q I h
  exact wpAny_Compare1 (binT ha hb I h fun v u s2 x y H2 I2 rx ry q => ho pins s2 σ H2 x y v u Q I2 rx ry q) hm
def tTest (t : TE) : TT := fun σ H Q => t σ H fun x H' => ∃ k, x = .bl k ∧ Q k H'
theorem pt_cmpR {op : CmpOp} {r : R2} (ho : OpR X (compareOp op) r) (ha : PE X a ta) (hb : PE X b tb) (hm : behindInMarks op b = false) : PT X (.Compare a [op] [b] pos) (tTest (tOp r ta tb)) := by
  intro pins s σ H Q I h
  refine wpAny_isTrue_Compare1 (thn (ha pins s σ H _ I h) fun v s1 ⟨x, H1, I1, r1, q1⟩ => thn (hb pins s1 σ H1 _ I1 q1) fun u s2 ⟨y, H2, I2, r2, q2⟩ =>
    thn (ho pins s2 σ H2 x y v u _ I2 r1 r2 q2) fun c s3 ⟨z, H3, I3, r3, k, e, q3⟩ => ?_) hm
  subst e
  cases r3
  exact wpAny_truthy_bool ⟨H3, I3, q3⟩
def tChain (r r' : R2) (ta tb tc : TE) : TE := fun σ H Q => ta σ H fun x H1 => tb σ H1 fun y H2 => r x y H2 fun z H3 => ∃ k, z = .bl k ∧
  (if k = true then tc σ H3 fun w' H4 => r' y w' H4 Q else Q (.bl false) H3)
theorem pe_chain {op op' : CmpOp} {r r' : R2} (ho : OpR X (compareOp op) r) (ho' : OpR X (compareOp op') r') (ha : PE X a ta) (hb : PE X b tb) (hc : PE X c tc)
    (hm : lastMarks [op, op'] [b, c] = false := by with_unfolding_all rfl) : PE X (.Compare a [op, op'] [b, c] pos) (tChain r r' ta tb tc) := by
  intro pins s σ H Q I h
  refine Compare_chain (thn (ha pins s σ H _ I h) fun v s1 ⟨x, H1, I1, r1, q1⟩ => chain_link (thn (hb pins s1 σ H1 _ I1 q1) fun u s2 ⟨y, H2, I2, r2, q2⟩ =>
    thn (ho pins s2 σ H2 x y v u _ I2 r1 r2 q2) fun d s3 ⟨z, H3, I3, r3, k, e, q3⟩ => ?_)) hm
  subst e
  cases r3
  refine wpAny_truthy_bool ?_
  cases k with
  | false => exact ite_ff ⟨.bl false, H3, I3, rfl, q3⟩
  | true => exact ite_tt (chain_last (thn (hc pins s3 σ H3 _ I3 q3) fun w' s4 ⟨z', H4, I4, r4, q4⟩ => ho' pins s4 σ H4 y z' u w' Q I4 r2 r4 q4))
theorem pt_chain {op op' : CmpOp} {r r' : R2} (ho : OpR X (compareOp op) r) (ho' : OpR X (compareOp op') r') (ha : PE X a ta) (hb : PE X b tb) (hc : PE X c tc)
    (hm : lastMarks [op, op'] [b, c] = false := by with_unfolding_all rfl) : PT X (.Compare a [op, op'] [b, c] pos) (tTest (tChain r r' ta tb tc)) := by
  intro pins s σ H Q I h
  refine isTrue_chain (thn (ha pins s σ H _ I h) fun v s1 ⟨x, H1, I1, r1, q1⟩ => test_link (thn (hb pins s1 σ H1 _ I1 q1) fun u s2 ⟨y, H2, I2, r2, q2⟩ =>
    thn (ho pins s2 σ H2 x y v u _ I2 r1 r2 q2) fun d s3 ⟨z, H3, I3, r3, k, e, q3⟩ => ?_)) hm
  subst e
  cases r3
  refine wpAny_truthy_bool ?_
  cases k with
  | false =>
    obtain ⟨k', e', q'⟩ := q3
    cases e'
    exact ite_ff ⟨H3, I3, q'⟩
  | true =>
    refine ite_tt (test_last (thn (hc pins s3 σ H3 _ I3 q3) fun w' s4 ⟨z', H4, I4, r4, q4⟩ => thn (ho' pins s4 σ H4 y z' u w' _ I4 r2 r4 q4) fun d' s5 ⟨z2, H5, I5, r5, k2, e2, q5⟩ => ?_))
    subst e2
    cases r5
    exact wpAny_truthy_bool ⟨H5, I5, q5⟩
def TruV (K : PySem.W.Frag) (x : V) (H : Hp) (k : Bool) : Prop :=
  match x with
  | .non => k = false
  | .bl b => k = b
  | .int i => k = (i != 0)
  | .str y => y.length ≤ sizeLine ∧ k = ((y.length : Int) != 0)
  | .byt y => y.size ≤ sizeLine ∧ k = ((y.size : Int) != 0)
  | .ref p => (∃ xs, SqL K H p xs ∧ k = !xs.isEmpty) ∨ (∃ xs, SqT K H p xs ∧ k = !xs.isEmpty) ∨ ∃ kvs, H p = some (.dK kvs) ∧ k = !kvs.isEmpty
  | _ => False
theorem isEmpty_kv {κ : Type} {kvs : List (κ × V)} {vs : List (κ × Value)} (r : KV kvs vs) : (!vs.isEmpty) = !kvs.isEmpty := by
  cases r <;> rfl
theorem isEmpty_of {xs : List V} {its : List Value} (r : Vals xs its) : (!its.toArray.isEmpty) = !xs.isEmpty := by
  cases r <;> simp
theorem line63 : (sizeLine : Nat) < 2 ^ 63 := by rw [sizeLine_eq]; decide
theorem tru_ok : TruR X (fun x H Q => ∃ k, TruV X.K x H k ∧ Q k H) := by
  intro pins s σ H x v Q I rx h
  obtain ⟨k, e, q⟩ := h
  have hl := line63
  have hs : sizeLine = 16777216 := sizeLine_eq
  cases x with
  | non =>
    cases rx
    have e' : k = false := e
    subst e'
    exact truthy_none ⟨H, I, q⟩
  | bl b =>
    cases rx
    have e' : k = b := e
    subst e'
    exact wpAny_truthy_bool ⟨H, I, q⟩
  | int i =>
    obtain ⟨t, rfl⟩ := rx
    have e' : k = (i != 0) := e
    subst e'
    exact PySem.P.truthy_int ⟨H, I, q⟩
  | str y =>
    obtain ⟨t, rfl⟩ := rx
    obtain ⟨hy, e'⟩ : y.length ≤ sizeLine ∧ k = ((y.length : Int) != 0) := e
    subst e'
    exact PySem.P.truthy_str (by omega) ⟨H, I.tok _, q⟩
  | byt y =>
    obtain ⟨t, rfl⟩ := rx
    obtain ⟨hy, e'⟩ : y.size ≤ sizeLine ∧ k = ((y.size : Int) != 0) := e
    subst e'
    exact PySem.W.truthy_bytes (by omega) ⟨H, I.tok _, q⟩
  | ref p =>
    cases rx
    have e' : (∃ xs, SqL X.K H p xs ∧ k = !xs.isEmpty) ∨ (∃ xs, SqT X.K H p xs ∧ k = !xs.isEmpty) ∨ ∃ kvs, H p = some (.dK kvs) ∧ k = !kvs.isEmpty := e
    rcases e' with ⟨xs, hx, e'⟩ | ⟨xs, hx, e'⟩ | ⟨kvs, hx, e'⟩
    · subst e'
      obtain ⟨its, r, pl, hz⟩ := I.list hx
      have hlen := r.length
      exact wpAny_truthy_list pl.isList (by simp only [List.size_toArray]; omega) ⟨H, I.tok _, by rw [isEmpty_of r]; exact q⟩
    · subst e'
      obtain ⟨its, r, pl, hz⟩ := I.tuple hx
      have hlen := r.length
      exact truthy_tuple pl (by simp only [List.size_toArray]; omega) ⟨H, I.tok _, by rw [isEmpty_of r]; exact q⟩
    · subst e'
      obtain ⟨hz, hS, vs, r, m⟩ : kvs.length ≤ sizeLine ∧ (p == sysModules) = false ∧ ∃ vs, KV kvs vs ∧ s.heap.DictOf (mixKind X.prog X.w) p vs := I.hok p _ hx
      have hlen : kvs.length = vs.length := Paired.length r
      exact wpAny_truthy_dict hS m (by omega) ⟨H, I.tok _, by rw [isEmpty_kv r]; exact q⟩
  | _ => exact (show False from e).elim
theorem pt_truth (ha : PE X a ta) (he : ∀ whole, isTrue a X.env whole = (do let v ← whole; standAt a.pos; holding [v] (truthy v))) :
    PT X a (fun σ H Q => ta σ H fun x H' => ∃ k, TruV X.K x H' k ∧ Q k H') := by
  intro pins s σ H Q I h
  exact isTrue_plain (thn (ha pins s σ H _ I h) fun v s1 ⟨x, H1, I1, r1, q1⟩ => tru_ok pins s1 σ H1 x v Q I1 r1 q1) (he _)
theorem op_add_str : OpR X (binaryOp .Add) (fun x y H Q => ∃ i j, x = .str i ∧ y = .str j ∧ i.length + j.length ≤ sizeLine ∧ Q (.str (i ++ j)) H) := by
  intro pins s σ H x y v u Q I rx ry h
  obtain ⟨i, j, rfl, rfl, hz, q⟩ := h
  obtain ⟨t, rfl⟩ := rx
  obtain ⟨t', rfl⟩ := ry
  exact add_str (fun t' tk => ⟨.str (i ++ j), H, I.tok _, ⟨_, rfl⟩, q⟩) hz
def PlainIxT (b : Expr) : Prop := ∀ o i, subscripted b false o i = operate [o, i] (getItem o i)
theorem vals1 {x : V} {us : List Value} (r : Vals [x] us) : ∃ u, us = [u] ∧ RelV x u := by
  cases r with
  | cons r1 r2 => cases r2; exact ⟨_, rfl, r1⟩
theorem vals2 {x y : V} {us : List Value} (r : Vals [x, y] us) : ∃ u w', us = [u, w'] ∧ RelV x u ∧ RelV y w' := by
  cases r with
  | cons r1 r2 =>
    cases r2 with
    | cons r3 r4 => cases r4; exact ⟨_, _, rfl, r1, r3⟩
theorem call_abs : CallR X (.builtin "abs") (fun xs H Q => ∃ i, xs = [.int i] ∧ Q (.int (if i < 0 then -i else i)) H) := by
  intro pins s σ H xs us Q I r h
  obtain ⟨i, rfl, q⟩ := h
  obtain ⟨u, rfl, t, rfl⟩ := vals1 r
  exact call_abs_int fun u tk => ⟨.int (if i < 0 then -i else i), H, I.tok _, ⟨_, rfl⟩, q⟩
theorem call_max2 (hc : X.calm = true) : CallR X (.builtin "max") (fun xs H Q => ∃ i j, xs = [.int i, .int j] ∧ Q (.int (if j > i then j else i)) H) := by
  intro pins s σ H xs us Q I r h
  obtain ⟨i, j, rfl, q⟩ := h
  obtain ⟨u, w', rfl, ⟨t, rfl⟩, ⟨t', rfl⟩⟩ := vals2 r
  refine max_two_ints (I.ok.hd hc) fun h' tk k => ⟨_, H, I.kept k, ?_, q⟩
  by_cases hj : j > i
  · rw [if_pos hj, if_pos hj]; exact ⟨_, rfl⟩
  · rw [if_neg hj, if_neg hj]; exact ⟨_, rfl⟩
theorem call_min2 (hc : X.calm = true) : CallR X (.builtin "min") (fun xs H Q => ∃ i j, xs = [.int i, .int j] ∧ Q (.int (if j < i then j else i)) H) := by
  intro pins s σ H xs us Q I r h
  obtain ⟨i, j, rfl, q⟩ := h
  obtain ⟨u, w', rfl, ⟨t, rfl⟩, ⟨t', rfl⟩⟩ := vals2 r
  refine min_two_ints (I.ok.hd hc) fun h' tk k => ⟨_, H, I.kept k, ?_, q⟩
  by_cases hj : j < i
  · rw [if_pos hj, if_pos hj]; exact ⟨_, rfl⟩
  · rw [if_neg hj, if_neg hj]; exact ⟨_, rfl⟩
theorem call_str_int : CallR X (.type "str") (fun xs H Q => ∃ i, xs = [.int i] ∧ i.natAbs.log2 < 1920 ∧ Q (.str (toString i)) H) := by
  intro pins s σ H xs us Q I r h
  obtain ⟨i, rfl, hz, q⟩ := h
  obtain ⟨u, rfl, t, rfl⟩ := vals1 r
  exact PySem.P.str_of_int hz ⟨.str _, H, I.tok _, ⟨_, rfl⟩, q⟩
def LenV (K : PySem.W.Frag) (x : V) (H : Hp) (n : Nat) : Prop :=
  match x with
  | .str y => y.length ≤ sizeLine ∧ n = y.length
  | .byt y => y.size ≤ sizeLine ∧ n = y.size
  | .ref p => (∃ xs, SqL K H p xs ∧ n = xs.length) ∨ ∃ xs, SqT K H p xs ∧ n = xs.length
  | _ => False
end
end L2
namespace L2
open PySem PySem.Spec PyProof.Rows
structure ObjM (h : Heap) (x dx C : Addr) (mA : Str → Option Value) : Prop where
  obj : h.get? x = some (PySem.W.instObj C dx)
  ns : h.Ns1 dx mA
  ne : dx ≠ x
theorem lookIn_ns {h : Heap} {dx : Addr} {mA : Str → Option Value} (n : h.Ns1 dx mA) : ∃ od, h.get? dx = some od ∧ ∀ name, PySem.W.lookIn name od = some (mA name) := by
  obtain ⟨o, es, ep, ho, hd, hk, _, hm⟩ := n
  refine ⟨o, ho, fun name => ?_⟩
  have e := hm name
  unfold nsFind findBy at e
  rw [← Array.find?_toList] at e
  unfold PySem.W.lookIn
  rw [hd]
  dsimp only
  split
  · rename_i y q
    rw [q] at e
    exact congrArg some e
  · rename_i q
    rw [q] at e
    have a : es.toList.any (·.refKey) = false := by
      rw [List.any_eq_false]
      intro y hy
      obtain ⟨z, t, hkey⟩ := hk y (Array.mem_toList_iff.mp hy)
      simp [DictEntry.refKey, hkey]
    have a' : ¬ es.toList.any (·.refKey) = true := by rw [a]; exact Bool.false_ne_true
    rw [if_neg a']
    exact congrArg some e
theorem ObjM.look {h : Heap} {x dx C : Addr} {mA : Str → Option Value} (I : ObjM h x dx C mA) : ∃ od, PySem.W.InstAt h x (PySem.W.instObj C dx) C (some od) ∧ ∀ name, PySem.W.lookIn name od = some (mA name) :=
  let ⟨od, ho, hl⟩ := lookIn_ns I.ns
  ⟨od, ⟨I.obj, rfl, rfl, ho⟩, hl⟩
section
variable {prog : Program} {w : World} {A : Around} {E : Value → Shared → Prop} {s : Shared} {K : PySem.W.Frag} {x dx C f : Addr} {mA : Str → Option Value} {name : Str} {v : Value}
theorem get_map {expr : Bool} {Q : Value → Shared → Prop} (X : K.In s.heap) (I : ObjM s.heap x dx C mA) (hg : PySem.W.plainGet K C name = true) (hh : PySem.W.hasDictIn K C = true)
    (ha : PySem.W.findIn K (.ref C) name = some none) (hv : mA name = some v) (hv' : PySem.W.handedIn v = true) (h : Q v { s with toks := s.toks + 1 }) :
    wpAny (model prog w) A (getAttr (.ref x) name expr) Q E s := by
  obtain ⟨od, J, hl⟩ := I.look
  exact PySem.W.get_value X J (PySem.W.plainGet_of hg).1 (PySem.W.findObj_own hh ha rfl (by rw [hl, hv])) hv' h
theorem get_meth {pl : Sem Bool} {Q : Value × List Value → Shared → Prop} (X : K.In s.heap) (I : ObjM s.heap x dx C mA) (hg : PySem.W.plainGet K C name = true)
    (hf : PySem.W.findIn K (.ref C) name = some (some (.ref f))) (ht : PySem.W.isFn K (.ref f) = true) (hv : mA name = none) (h : Q (.ref f, [.ref x]) s) :
    wpAny (model prog w) A (getMethod (.ref x) name pl) Q E s := by
  obtain ⟨od, J, hl⟩ := I.look
  exact PySem.W.method_fn X J (PySem.W.plainGet_of hg).1 (PySem.W.plainGet_of hg).2 hf (beq_iff_eq.mp ht) (by show (PySem.W.lookIn name od).map (·.isSome) = some false; rw [hl, hv]; rfl) h
theorem set_map {ns : List Str} {Q : Unit → Shared → Prop} (X : K.In s.heap) (I : ObjM s.heap x dx C mA)
    (hs : PySem.W.findIn K (.ref C) "__setattr__" = some (some (.builtin "object.__setattr__"))) (hp : PySem.W.plainOver K C = true) (ht : PySem.W.takerIn K C name = some none) (hh : PySem.W.hasDictIn K C = true)
    (hw : PySem.Within mA ns) (hsz : ns.length ≤ sizeLine)
    (h : ∀ h', ObjM h' x dx C (fun y => if y = name then some v else mA y) → Heap.SameBut dx s.heap h' → Q () { s with heap := h', toks := s.toks + 2 }) :
    wpAny (model prog w) A (setAttr (.ref x) name v) Q E s := by
  obtain ⟨od, J, hl⟩ := I.look
  refine PySem.W.set_plain X J hs (PySem.W.osa_open (s := { s with toks := s.toks + 1 }) (r := none) X J hp ht fun b => ?_)
  obtain ⟨cd, hc, hd'⟩ := PySem.W.any_some hh
  have hx : s.heap.get? x = some ⟨.ref C, some dx, .plain, #[]⟩ := I.obj
  refine wpAny_bind (wpAny_pure (wpAny_bind (wpAny_bind (wpAny_loadPart hx (wpAny_bind (PySem.W.Looks.here (s := { s with toks := s.toks + 1 }) (PySem.W.looks_clsIn X hc) ?_))))))
  rw [hd']
  refine wpAny_pure (a := some dx) (wpAny_bind (wpAny_pure (wpAny_bind ?_)))
  refine wpAny_nsSet1 (s := { s with toks := s.toks + 1 }) I.ns fun h' hn2 hs2 => ?_
  obtain ⟨oD, esD, epD, hoD, hdD, hcD⟩ := hn2.count (PySem.Within.cons name v hw)
  refine wpAny_bind (wpAny_lookBehind hoD (by rw [hdD]; exact pastItsLine_dict (Nat.le_trans hcD (by rw [List.length_cons]; omega))) ?_)
  exact wpAny_pure (h _ ⟨(hs2.2 _ (Ne.symm I.ne)).trans I.obj, hn2, I.ne⟩ hs2)
theorem make_map {R : Result → Shared → Prop} {vs : List Value} {kw : List (Str × Value)} (X : K.In s.heap) (hm : PySem.W.makesIn K C = true)
    (hi : PySem.W.findIn K (.ref C) "__init__" = some (some (.ref f))) (hf : PySem.W.typeIn K (.ref f) = some (.type "function"))
    (h : codeAny (model prog w) (A.under (.builtin "type.__call__" ⟨.ref C :: vs, kw⟩)) (.call (.ref f) ⟨.ref (s.heap.objs.size + 1) :: vs, kw⟩) (PySem.W.InitBack (s.heap.objs.size + 1) R)
      { s with heap := (s.heap.push PySem.W.emptyDict).push (PySem.W.instObj C s.heap.objs.size) }) :
    codeAny (model prog w) A (.call (.ref C) ⟨vs, kw⟩) R s := by
  obtain ⟨hh, g, d, t, os⟩ := s
  exact PySem.W.make_core (PySem.W.makes_of X hm) (PySem.W.looks_findIn X hi) (fun self => PySem.W.bind_fn X self hf) (.inl rfl) h
end
def putF (f : Str) (v : V) : List (Str × V) → List (Str × V)
  | [] => [(f, v)]
  | (g, x) :: r => if g = f then (g, v) :: r else (g, x) :: putF f v r
theorem lookup_putF (f g : Str) (v : V) : ∀ fs : List (Str × V), (putF f v fs).lookup g = if g = f then some v else fs.lookup g
  | [] => by
    show List.lookup g [(f, v)] = _
    by_cases h : g = f
    · have hb : (g == f) = true := beq_iff_eq.mpr h
      simp only [List.lookup, hb, if_pos h]
    · have hb : (g == f) = false := beq_eq_false_iff_ne.mpr h
      simp only [List.lookup, hb, if_neg h]
  | (k, x) :: r => by
    have ih := lookup_putF f g v r
    rw [show putF f v ((k, x) :: r) = (if k = f then (k, v) :: r else (k, x) :: putF f v r) from rfl]
    by_cases hk : k = f
    · rw [if_pos hk]
      by_cases h : g = k
      · have hb : (g == k) = true := beq_iff_eq.mpr h
        simp only [List.lookup, hb, if_pos (h.trans hk)]
      · have hb : (g == k) = false := beq_eq_false_iff_ne.mpr h
        simp only [List.lookup, hb, if_neg (fun e : g = f => h (e.trans hk.symm))]
    · rw [if_neg hk]
      by_cases h : g = k
      · have hb : (g == k) = true := beq_iff_eq.mpr h
        simp only [List.lookup, hb, if_neg (fun e : g = f => hk (h.symm.trans e))]
      · have hb : (g == k) = false := beq_eq_false_iff_ne.mpr h
        simp only [List.lookup, hb]
        exact ih
theorem keys_putF (f : Str) (v : V) : ∀ fs : List (Str × V), f ∈ (putF f v fs).map (·.1) ∧ ∀ g, g ∈ fs.map (·.1) → g ∈ (putF f v fs).map (·.1)
  | [] => ⟨by simp [putF], fun g h => by simp at h⟩
  | (k, x) :: r => by
    obtain ⟨i1, i2⟩ := keys_putF f v r
    rw [show putF f v ((k, x) :: r) = (if k = f then (k, v) :: r else (k, x) :: putF f v r) from rfl]
    by_cases hk : k = f
    · rw [if_pos hk]
      subst hk
      exact ⟨by simp, fun g h => by simpa using h⟩
    · rw [if_neg hk]
      refine ⟨?_, fun g h => ?_⟩
      · rw [List.map_cons]
        exact List.mem_cons_of_mem _ i1
      · rw [List.map_cons] at h ⊢
        rcases List.mem_cons.mp h with e | e
        · exact List.mem_cons.mpr (.inl e)
        · exact List.mem_cons_of_mem _ (i2 g e)
theorem length_putF (f : Str) (v : V) : ∀ fs : List (Str × V), (putF f v fs).length ≤ fs.length + 1
  | [] => by simp [putF]
  | (k, x) :: r => by
    have ih := length_putF f v r
    rw [show putF f v ((k, x) :: r) = (if k = f then (k, v) :: r else (k, x) :: putF f v r) from rfl]
    by_cases hk : k = f
    · rw [if_pos hk, List.length_cons, List.length_cons]; omega
    · rw [if_neg hk, List.length_cons, List.length_cons]; omega
theorem RelO.some_of {v : V} {o : Option Value} (r : RelO (some v) o) : ∃ u, o = some u ∧ RelV v u := by
  cases o with
  | none => exact (show False from r).elim
  | some u => exact ⟨u, rfl, r⟩
theorem RelO.none_of {o : Option Value} (r : RelO none o) : o = none := by
  cases o with
  | none => rfl
  | some u => exact (show False from r).elim
theorem handed_of {v : V} {u : Value} (r : RelV v u) : PySem.W.handedIn u = true := by
  cases v with
  | non => cases (show u = Value.none from r); rfl
  | bl b => cases (show u = Value.bool b from r); rfl
  | int i => obtain ⟨t, e⟩ := (show ∃ t, u = Value.int i t from r); cases e; rfl
  | str x => obtain ⟨t, e⟩ := (show ∃ t, u = Value.str x t from r); cases e; rfl
  | byt b => obtain ⟨t, e⟩ := (show ∃ t, u = Value.bytes b t from r); cases e; rfl
  | flt b => obtain ⟨t, e⟩ := (show ∃ t, u = Value.float b t from r); cases e; rfl
  | ref a => cases (show u = Value.ref a from r); rfl
  | ty n => cases (show u = Value.type n from r); rfl
section
variable {P : Program} {w : World} {H H' : Hp} {h h' : Heap} {a C dx : Addr} {fs fs' : List (Str × V)}
theorem ins_get (hok : HOk P w H h) (e : H a = some (.ins C dx fs)) : ∃ mA, ObjM h a dx C mA ∧ (∀ f, RelO (fs.lookup f) (mA f)) ∧ PySem.Within mA (fs.map (·.1)) ∧ fs.length ≤ 1000 ∧ H dx = some (.own a) := by
  obtain ⟨d, z, ne, ob, mA, n, r, q⟩ := (show ObjOk P w H h a (.ins C dx fs) from hok a _ e)
  exact ⟨mA, ⟨ob, n, ne⟩, r, q, z, d⟩
end
structure Cls (K : PySem.W.Frag) (C : Addr) : Prop where
  pg : PySem.W.plainGet K C Str.empty = true
  hd : PySem.W.hasDictIn K C = true
  po : PySem.W.plainOver K C = true
  sa : PySem.W.findIn K (.ref C) "__setattr__" = some (some (.builtin "object.__setattr__"))
theorem Cls.get {K : PySem.W.Frag} {C : Addr} (c : Cls K C) (f : Str) : PySem.W.plainGet K C f = true := c.pg
def NoAttr (K : PySem.W.Frag) (C : Addr) (f : Str) : Prop := PySem.W.findIn K (.ref C) f = some none
theorem NoAttr.taker {K : PySem.W.Frag} {C : Addr} {f : Str} (n : NoAttr K C f) : PySem.W.takerIn K C f = some none := by
  unfold PySem.W.takerIn
  rw [show PySem.W.findIn K (.ref C) f = some none from n]
  rfl
structure Con (K : PySem.W.Frag) (C : Addr) (f : Str) (v : V) (u : Value) : Prop where
  at_ : PySem.W.findIn K (.ref C) f = some (some u)
  rel : RelV v u
  get : PySem.W.specialIn K u "__get__" = some none
  cp : PySem.W.copiedNames.contains f = false
structure Meth (K : PySem.W.Frag) (C : Addr) (m : Str) (f : Addr) : Prop where
  at_ : PySem.W.findIn K (.ref C) m = some (some (.ref f))
  fn : PySem.W.isFn K (.ref f) = true
  kp : PySem.W.keepIn K (.ref f) = true
section
variable {X : Cx} {pins : List (Addr × Obj)} {σ : St} {H : Hp} {s : Shared} {a C dx : Addr} {fs : List (Str × V)} {f : Str} {v : V} {A : Around} {E : Value → Shared → Prop}
theorem getattr_ok {b : Bool} {Q : Value → Shared → Prop} (I : Inv X pins σ H s) (e : H a = some (.ins C dx fs)) (c : Cls X.K C) (n : NoAttr X.K C f) (l : fs.lookup f = some v)
    (h : ∀ u s', Inv X pins σ H s' → RelV v u → Q u s') : wpAny (model X.prog X.w) A (getAttr (.ref a) f b) Q E s := by
  obtain ⟨mA, O, r, _, _, _⟩ := ins_get I.hok e
  obtain ⟨u, hu, ru⟩ := RelO.some_of (v := v) (o := mA f) (by rw [← l]; exact r f)
  exact get_map I.kIn O (c.get f) c.hd n hu (handed_of ru) (h u _ (I.tok _) ru)
theorem getmeth_ok {m : Str} {g : Addr} {pl : Sem Bool} {Q : Value × List Value → Shared → Prop} (I : Inv X pins σ H s) (e : H a = some (.ins C dx fs)) (c : Cls X.K C) (k : Meth X.K C m g) (l : fs.lookup m = none)
    (h : Q (.ref g, [.ref a]) s) : wpAny (model X.prog X.w) A (getMethod (.ref a) m pl) Q E s := by
  obtain ⟨mA, O, r, _, _, _⟩ := ins_get I.hok e
  have hn : mA m = none := RelO.none_of (by rw [← l]; exact r m)
  exact get_meth I.kIn O (c.get m) k.at_ k.fn hn h
theorem setattr_ok {y : V} {u : Value} {Q : Unit → Shared → Prop} (I : Inv X pins σ H s) (e : H a = some (.ins C dx fs)) (c : Cls X.K C) (n : NoAttr X.K C f) (hl : fs.length < 1000) (ry : RelV y u)
    (h : ∀ s', Inv X pins σ (upd H a (.ins C dx (putF f y fs))) s' → Q () s') : wpAny (model X.prog X.w) A (setAttr (.ref a) f u) Q E s := by
  obtain ⟨mA, O, r, wi, _, ho⟩ := ins_get I.hok e
  have hz : (fs.map (·.1)).length ≤ sizeLine := by rw [List.length_map, sizeLine_eq]; omega
  refine set_map I.kIn O c.sa c.po n.taker c.hd wi hz fun h' O' sb => h _ ?_
  have hd : ∃ o, h'.get? dx = some o := let ⟨o, _, _, e', _⟩ := O'.ns; ⟨o, e'⟩
  refine I.write (x := a) (e := dx) (by rw [e]; exact True.intro) (.inr ho) (fun b q hb z => (sb.2 b hb).trans z) hd ?_
  refine ⟨by rw [upd_ne O.ne]; exact ho, ?_, O.ne, O'.obj, _, O'.ns, fun g => ?_, fun g hg => ?_⟩
  · have := length_putF f y fs; omega
  · show RelO ((putF f y fs).lookup g) (if g = f then some u else mA g)
    rw [lookup_putF]
    by_cases q : g = f
    · rw [if_pos q, if_pos q]; exact ry
    · rw [if_neg q, if_neg q]; exact r g
  · by_cases q : g = f
    · rw [q]; exact (keys_putF f y fs).1
    · refine (keys_putF f y fs).2 g (wi g fun z => hg ?_)
      show (if g = f then some u else mA g) = none
      rw [if_neg q]; exact z
theorem Inv.made (I : Inv X pins σ H s) : Inv X pins σ (upd (upd H s.heap.objs.size (.own (s.heap.objs.size + 1))) (s.heap.objs.size + 1) (.ins C s.heap.objs.size []))
    { s with heap := (s.heap.push PySem.W.emptyDict).push (PySem.W.instObj C s.heap.objs.size) } := by
  have e1 : (s.heap.push PySem.W.emptyDict).get? s.heap.objs.size = some PySem.W.emptyDict := Heap.get?_push_size s.heap rfl
  have e2 : ((s.heap.push PySem.W.emptyDict).push (PySem.W.instObj C s.heap.objs.size)).get? (s.heap.objs.size + 1) = some (PySem.W.instObj C s.heap.objs.size) := by
    have := Heap.get?_push_size (s.heap.push PySem.W.emptyDict) (o := PySem.W.instObj C s.heap.objs.size) rfl
    rwa [Heap.size_push] at this
  have e3 : (s.heap.push PySem.W.emptyDict).Ns s.heap.objs.size (fun _ => none) := ⟨PySem.W.emptyDict, #[], _, e1, rfl, (fun e he => absurd he (by simp)), fun _ => rfl⟩
  have I1 := I.laid (a := s.heap.objs.size) (o := .own (s.heap.objs.size + 1)) (h' := s.heap.push PySem.W.emptyDict) (t' := s.toks) (fun b u q => Heap.get?_push_of_some _ q) (Nat.le_refl _) ⟨_, e1⟩
  refine I1.laid (a := s.heap.objs.size + 1) (o := .ins C s.heap.objs.size []) (t' := s.toks) (fun b u q => Heap.get?_push_of_some _ q) (Nat.le_of_eq (Heap.size_push _ _)) ?_
  have ne : s.heap.objs.size ≠ s.heap.objs.size + 1 := Nat.ne_of_lt (Nat.lt_succ_self _)
  refine ⟨by rw [upd_ne ne, upd_same], Nat.zero_le _, ne, e2, fun _ => none, (Heap.Ns1.of_empty e3).at fun o q => Heap.get?_push_of_some _ q, fun _ => True.intro, fun y hy => absurd rfl hy⟩
theorem attr_of {prog : Program} {w : World} {env : Env} {e : Expr} {f : Str} {pos : Pos} {s : Shared} {Q : Value → Shared → Prop} (hb : attributeBase e f env (eval e env) = eval e env)
    (h : wpAny (model prog w) A (eval e env) (fun o s₁ => wpAny (model prog w) A (getAttr o f true) Q E s₁) E s) : wpAny (model prog w) A (eval (.Attribute e f pos) env) Q E s :=
  Attribute_any_ h (by rw [arm_eval_Attribute, hb])
end
def tFld (K : PySem.W.Frag) (ta : TE) (f : Str) : TE := fun σ H Q => ta σ H fun x H1 => ∃ a C dx fs v, x = .ref a ∧ H1 a = some (.ins C dx fs) ∧ Cls K C ∧ NoAttr K C f ∧ fs.lookup f = some v ∧ Q v H1
def tCon (K : PySem.W.Frag) (ta : TE) (f : Str) : TE := fun σ H Q => ta σ H fun x H1 => ∃ a C dx fs v u, x = .ref a ∧ H1 a = some (.ins C dx fs) ∧ Cls K C ∧ Con K C f v u ∧ fs.lookup f = none ∧ Q v H1
def sFld (K : PySem.W.Frag) (ta tv : TE) (f : Str) : TS := fun D σ H => tv σ H fun y H1 => ta σ H1 fun x H2 => ∃ a C dx fs, x = .ref a ∧ H2 a = some (.ins C dx fs) ∧ Cls K C ∧ NoAttr K C f ∧ fs.length < 1000 ∧
  D.nx σ (upd H2 a (.ins C dx (putF f y fs)))
def InOp (X : Cx) (op : Operator) (rd : V → V → Hp → VK → Prop) : Prop :=
  ∀ (pins : List (Addr × Obj)) (s : Shared) (σ : St) (H : Hp) (x y : V) (u v : Value) (Q : VK), Inv X pins σ H s → RelV x u → RelV y v → rd x y H Q → wpAny (model X.prog X.w) X.A (inplaceOp op u v) (EP X pins σ Q) X.xe s
def sFldAug (K : PySem.W.Frag) (ta tv : TE) (rd : V → V → Hp → VK → Prop) (f : Str) : TS := fun D σ H => ta σ H fun x H1 => ∃ a C dx fs v, x = .ref a ∧ H1 a = some (.ins C dx fs) ∧ Cls K C ∧ NoAttr K C f ∧ fs.lookup f = some v ∧
  tv σ H1 fun y H2 => rd v y H2 fun z H3 => ∃ dx' fs', H3 a = some (.ins C dx' fs') ∧ fs'.length < 1000 ∧ D.nx σ (upd H3 a (.ins C dx' (putF f z fs')))
section
variable {X : Cx} {o e value : Expr} {f : Str} {pos pos' tpos : Pos} {ta tv : TE}
theorem pe_fld (he : PE X e ta) (hb : attributeBase e f X.env (eval e X.env) = eval e X.env) : PE X (.Attribute e f pos) (tFld X.K ta f) := by
  intro pins s σ H Q I h
  refine attr_of hb (thn (he pins s σ H _ I h) fun u s1 ⟨x, H1, I1, rx, a, C, dx, fs, v, ex, ea, c, n, l, q⟩ => ?_)
  subst ex
  obtain rfl : u = Value.ref a := rx
  exact getattr_ok I1 ea c n l fun u' s2 I2 ru => ⟨v, H1, I2, ru, q⟩
theorem ps_fld (ha : PE X o ta) (hv : PE X value tv) (hs : swapsWith value (some (.Attribute o f pos')) pos.line X.env = pure false) : PS X (.Assign [.Attribute o f pos'] value pos) (sFld X.K ta tv f) := by
  intro pins s σ H D I h
  refine plainObj_wpAny_Assign_Attribute (thn (hv pins s σ H _ I h) fun u s1 ⟨y, H1, I1, ry, q⟩ => thn (ha pins s1 σ H1 _ I1 q) fun ov s2 ⟨x, H2, I2, rx, a, C, dx, fs, ex, ea, c, n, l, q2⟩ => ?_) hs
  subst ex
  obtain rfl : ov = Value.ref a := rx
  exact setattr_ok I2 ea c n l ry fun s3 I3 => ⟨σ, _, I3, q2⟩
def rAdd : V → V → Hp → VK → Prop := fun x y H Q => ∃ i j, x = .int i ∧ y = .int j ∧ Q (.int (i + j)) H
def rSub : V → V → Hp → VK → Prop := fun x y H Q => ∃ i j, x = .int i ∧ y = .int j ∧ Q (.int (i - j)) H
theorem methcall_of {pl : Sem Bool} {m : Str} {apos : Pos} {args : List Expr} {pins : List (Addr × Obj)} {s : Shared} {σ : St} {H : Hp} {Q : Value → Shared → Prop} {te : TE} (he : PE X e te) (I : Inv X pins σ H s)
    (h : te σ H fun x H1 => ∃ a C dx fs g, x = .ref a ∧ H1 a = some (.ins C dx fs) ∧ Cls X.K C ∧ Meth X.K C m g ∧ fs.lookup m = none ∧
      ∀ s1, Inv X pins σ H1 s1 → wpAny (model X.prog X.w) X.A (callWith pos (.ref g) [.ref a] (backTo pos (starEach args X.env)) (backToKw pos (keywordEach [] X.env))) Q X.xe s1)
    (ht : eval (.Call (.Attribute e m apos) args [] pos) X.env = (do
      let ov ← eval e X.env
      standAt apos.atName
      let (f, first) ← holding [ov] (getMethod ov m pl)
      callWith pos f first (backTo pos (starEach args X.env)) (backToKw pos (keywordEach [] X.env)))) :
    wpAny (model X.prog X.w) X.A (eval (.Call (.Attribute e m apos) args [] pos) X.env) Q X.xe s := by
  refine PySem.W.methodCall_KW (pl := pl) (thn (he pins s σ H _ I h) fun u s1 ⟨x, H1, I1, rx, a, C, dx, fs, g, ex, ea, c, k, l, q⟩ => ?_) ht
  subst ex
  obtain rfl : u = Value.ref a := rx
  exact getmeth_ok I1 ea c k l (q s1 I1)
end
section
variable {X : Cx} {pins : List (Addr × Obj)} {σ : St} {H : Hp} {s : Shared} {A : Around} {E : Value → Shared → Prop} {Q : Value → Shared → Prop} {c : Value} {b : Bool}
inductive TyOf (K : PySem.W.Frag) (H : Hp) : V → Value → Prop where
  | non : TyOf K H .non (.type "NoneType")
  | bl (x : Bool) : TyOf K H (.bl x) (.type "bool")
  | int (i : Int) : TyOf K H (.int i) (.type "int")
  | str (x : Str) : TyOf K H (.str x) (.type "str")
  | flt (x : UInt64) : TyOf K H (.flt x) (.type "float")
  | lst {a : Addr} {xs : List V} (e : H a = some (.lst xs)) : TyOf K H (.ref a) (.type "list")
  | frz {a : Addr} {o : Obj} {xs : List V} (e : H a = some (.frz o (.lst xs))) : TyOf K H (.ref a) (.type "list")
  | tup {a : Addr} {xs : List V} (e : H a = some (.tup xs)) : TyOf K H (.ref a) (.type "tuple")
  | dK {a : Addr} {kvs : List (Key × V)} (e : H a = some (.dK kvs)) : TyOf K H (.ref a) (.type "dict")
  | dT {a : Addr} {kvs : List (List Key × V)} (e : H a = some (.dT kvs)) : TyOf K H (.ref a) (.type "dict")
  | ins {a C dx : Addr} {fs : List (Str × V)} (e : H a = some (.ins C dx fs)) (cl : Cls K C) (ha : PySem.W.findIn K (.ref C) "__class__" = some (some (.builtin "object.__class__")))
      (hn : PySem.W.specialIn K (.builtin "object.__class__") "__get__" = some (some (.builtin "getset_descriptor.__get__"))) (htk : PySem.W.takesIn K (.builtin "object.__class__") = some true)
      (hm : PySem.W.mroIn K C (.type "object") = some true) : TyOf K H (.ref a) (.ref C)
theorem isinst_ok {x : V} {u t : Value} (I : Inv X pins σ H s) (rx : RelV x u) (ty : TyOf X.K H x t) (e : PySem.W.kitOne X.K t c = some b) (h : ∀ tk, Q (.bool b) { s with toks := tk }) :
    wpAny (model X.prog X.w) A (call (.builtin "isinstance") [u, c]) Q E s := by
  cases ty with
  | non => cases (show u = Value.none from rx); exact PySem.W.kia_one PySem.W.kitx_none I.kIn True.intro e (fun z => nomatch z) h
  | bl y => cases (show u = Value.bool y from rx); exact PySem.W.kia_one PySem.W.kitx_bool I.kIn True.intro e (fun z => nomatch z) h
  | int i => obtain ⟨t, q⟩ := (show ∃ t, u = Value.int i t from rx); cases q; exact PySem.W.kia_one PySem.W.kitx_int I.kIn True.intro e (fun z => nomatch z) h
  | str y => obtain ⟨t, q⟩ := (show ∃ t, u = Value.str y t from rx); cases q; exact PySem.W.kia_one PySem.W.kitx_str I.kIn True.intro e (fun z => nomatch z) h
  | flt y => obtain ⟨t, q⟩ := (show ∃ t, u = Value.float y t from rx); cases q; exact PySem.W.kia_one PySem.W.kitx_float I.kIn True.intro e (fun z => nomatch z) h
  | @lst a xs ea =>
    cases (show u = Value.ref a from rx)
    obtain ⟨_, _, n, _, h1⟩ := (show ObjOk X.prog X.w H s.heap a (.lst xs) from I.hok a _ ea)
    exact PySem.W.kia_one PySem.W.kitx_list I.kIn ⟨_, h1, rfl⟩ e (fun z => nomatch z) h
  | @frz a ob xs ea =>
    cases (show u = Value.ref a from rx)
    obtain ⟨_, _, _, n, _, h1⟩ := (show ObjOk X.prog X.w H s.heap a (.frz ob (.lst xs)) from I.hok a _ ea)
    exact PySem.W.kia_one PySem.W.kitx_list I.kIn ⟨_, h1, rfl⟩ e (fun z => nomatch z) h
  | @tup a xs ea =>
    cases (show u = Value.ref a from rx)
    obtain ⟨_, _, _, p⟩ := (show ObjOk X.prog X.w H s.heap a (.tup xs) from I.hok a _ ea)
    obtain ⟨o, h1, h2, _⟩ := p
    exact PySem.W.kia_one PySem.W.kitx_tuple I.kIn ⟨o, h1, h2⟩ e (fun z => nomatch z) h
  | @dK a kvs ea =>
    cases (show u = Value.ref a from rx)
    obtain ⟨_, _, vs, _, p⟩ := (show ObjOk X.prog X.w H s.heap a (.dK kvs) from I.hok a _ ea)
    obtain ⟨o, es, ep, h1, h2, _⟩ := p
    exact PySem.W.kia_one PySem.W.kitx_dict I.kIn ⟨o, h1, h2.1⟩ e (fun z => nomatch z) h
  | @dT a kvs ea =>
    cases (show u = Value.ref a from rx)
    obtain ⟨_, _, xs, _, o, es, ep, h1, h2, _⟩ := (show ObjOk X.prog X.w H s.heap a (.dT kvs) from I.hok a _ ea)
    exact PySem.W.kia_one PySem.W.kitx_dict I.kIn ⟨o, h1, h2.1⟩ e (fun z => nomatch z) h
  | @ins a C dx fs ea cl ha hn htk hm =>
    cases (show u = Value.ref a from rx)
    obtain ⟨mA, O, _⟩ := ins_get I.hok ea
    obtain ⟨od, J, _⟩ := O.look
    exact PySem.W.kia_one (PySem.W.kitx_own (cl.get _) cl.hd ha hn htk hm) I.kIn J e (fun z => nomatch z) h
end
end L2
namespace L2
open PySem PySem.Spec PyProof.Rows
structure Room (k : Nat) (A : Around) : Prop where
  hd : A.handled = none
  dp : A.depth + 3 * k + 5 < recursionLimit
  un : A.units + 16 * k + 200 < cLine
theorem Room.mono {j k : Nat} {A : Around} (r : Room k A) (h : j ≤ k) : Room j A := ⟨r.hd, by have := r.dp; omega, by have := r.un; omega⟩
theorem Room.deeper {k : Nat} {A : Around} (r : Room (k + 1) A) (env : Env) : Room k (A.deeper env) :=
  ⟨r.hd, by have := r.dp; show A.depth + 1 + 3 * k + 5 < _; omega, by have := r.un; show A.units + 3 + 16 * k + 200 < _; omega⟩
theorem Room.in1 {k : Nat} {A : Around} (r : Room (k + 1) A) : Room k A.in1 :=
  ⟨r.hd, by have := r.dp; show A.depth + 3 * k + 5 < _; omega, by have := r.un; show A.units + 1 + 16 * k + 200 < _; omega⟩
theorem make_depth {A : Around} {C : Addr} {us : List Value} {kw : List (Str × Value)} : (A.under (.builtin "type.__call__" ⟨.ref C :: us, kw⟩)).depth = A.depth + 1 := by
  first | rfl | simp [Around.under, Code.weight, Code.isCreation, Code.isGuard, Code.isCaller, Code.frames, Code.isFrame, guardIds]
theorem make_units {A : Around} {C : Addr} {us : List Value} {kw : List (Str × Value)} : (A.under (.builtin "type.__call__" ⟨.ref C :: us, kw⟩)).units = A.units + 1 := by
  first | rfl | simp [Around.under, Code.cUnits, Code.frames, Code.isFrame]
theorem Room.make {k : Nat} {A : Around} (r : Room (k + 1) A) (C : Addr) (us : List Value) (kw : List (Str × Value)) : Room k (A.under (.builtin "type.__call__" ⟨.ref C :: us, kw⟩)) :=
  ⟨r.hd, by have := r.dp; rw [make_depth]; omega, by have := r.un; rw [make_units]; omega⟩
theorem Room.depth {k : Nat} {A : Around} (r : Room k A) : A.depth < recursionLimit := by have := r.dp; omega
theorem Room.units {k : Nat} {A : Around} (r : Room k A) : A.units + 64 < cLine := by have := r.un; omega
def tNil : TA := fun _ H Q => Q [] H
def tCons (ta : TE) (tr : TA) : TA := fun σ H Q => ta σ H fun x H1 => tr σ H1 fun xs H2 => Q (x :: xs) H2
section
variable {X : Cx} {e : Expr} {es : List Expr} {te : TE} {t : TA} {pos : Pos}
theorem pa_nil : PA X [] tNil := fun _ _ _ _ H Q I h => Calls.spliced_nil ⟨[], H, I, .nil, h⟩
theorem pa_cons (ha : PE X e te) (hr : PA X es t) (hs : starEach (e :: es) X.env = (false, eval e X.env) :: starEach es X.env := by rfl) : PA X (e :: es) (tCons te t) := by
  intro pos pins s σ H Q I h
  rw [hs]
  show wpAny _ _ (spliced ((false, eval e X.env) :: backTo pos (starEach es X.env))) _ _ s
  refine Calls.spliced_cons (thn (ha pins s σ H _ I h) fun u s1 ⟨x, H1, I1, r1, q1⟩ => ?_)
  exact thn (hr pos pins s1 σ H1 _ I1 q1) fun us s2 ⟨xs, H2, I2, r2, q2⟩ => ⟨x :: xs, H2, I2, .cons r1 r2, q2⟩
def tTup (t : TA) : TE := fun σ H Q => t σ H fun xs H1 => xs.length ≤ sizeLine ∧ ∀ p, H1 p = none → Q (.ref p) (upd H1 p (.tup xs))
def tLst (t : TA) : TE := fun σ H Q => t σ H fun xs H1 => xs.length ≤ sizeLine ∧ ∀ p, H1 p = none → Q (.ref p) (upd H1 p (.lst xs))
theorem pe_tup {x1} (h : PA X es t) : PE X (.Tuple es x1 pos) (tTup t) := by
  intro pins s σ H Q I hq
  refine wpAny_Tuple_spliced (thn (h pos pins s σ H _ I hq) fun us s1 ⟨xs, H1, I1, r, z, q⟩ => ⟨by rw [← r.length]; exact z, ?_⟩)
  have hf : H1 s1.heap.objs.size = none := I1.hok.fresh (Nat.le_refl _)
  refine ⟨.ref s1.heap.objs.size, upd H1 s1.heap.objs.size (.tup xs), I1.laid (t' := s1.toks) (fun b u e => Heap.get?_push_of_some _ e) (Nat.le_refl _) ?_, rfl, q _ hf⟩
  exact ⟨z, us, r, ⟨_, Heap.get?_push_size _ rfl, rfl, _, rfl⟩⟩
theorem pe_lst (h : PA X es t) : PE X (.List es pos) (tLst t) := by
  intro pins s σ H Q I hq
  refine wpAny_List_spliced (thn (h pos pins s σ H _ I hq) fun us s1 ⟨xs, H1, I1, r, z, q⟩ => ⟨by rw [← r.length]; exact z, ?_⟩)
  have hf : H1 s1.heap.objs.size = none := I1.hok.fresh (Nat.le_refl _)
  refine ⟨.ref s1.heap.objs.size, upd H1 s1.heap.objs.size (.lst xs), I1.laid (t' := s1.toks) (fun b u e => Heap.get?_push_of_some _ e) (Nat.le_refl _) ?_, rfl, q _ hf⟩
  exact ⟨z, us, 0, r, Heap.get?_push_size _ rfl⟩
end
abbrev Sp := List V → Hp → VK → XK → Prop
abbrev CXT := List Env → Hp → Shared → XK → Value → Shared → Prop
structure Env0 (P : Program) (w : World) (K : PySem.W.Frag) (mg : Str → Option Value) (base : Heap) (A : Around) (outer : List Env) (s : Shared) (H : Hp) : Prop where
  frames : A.frames = some outer
  mod : Mod K mg base
  bs : ∀ b o, base.get? b = some o → s.heap.get? b = some o ∧ H b = none
  bsz : base.objs.size ≤ s.heap.objs.size
  funs : s.heap.FunFrames base outer
  frf : ∀ b ∈ frs outer, H b = none
  hok : HOk P w H s.heap
  bare : AllBare s.gens
def CE (outer : List Env) (P : Program) (w : World) (H : Hp) (s : Shared) (Q : VK) (u : Value) (s' : Shared) : Prop :=
  ∃ v H', s'.os = s.os ∧ AllBare s'.gens ∧ Un (frs outer) [] H H' s.heap s'.heap ∧ HOk P w H' s'.heap ∧ RelV v u ∧ Q v H'
def CR (CX : CXT) (outer : List Env) (P : Program) (w : World) (H : Hp) (s : Shared) (Q : VK) (E : XK) (r : Result) (s' : Shared) : Prop :=
  match r with
  | .ok (.ret u) => CE outer P w H s Q u s'
  | .ok _ => False
  | .error e => CX outer H s E e s'
structure FnOk (P : Program) (w : World) (K : PySem.W.Frag) (mg : Str → Option Value) (base : Heap) (CX : CXT) (k : Nat) (f : Addr) (fd : FuncData) (ps : List Str) (sp : Sp) : Prop where
  len : ∀ vs H Q E, sp vs H Q E → vs.length = ps.length
  run : ∀ (A : Around) (outer : List Env) (s : Shared) (H : Hp) (args : Args) (us : List Value) (vs : List V) (Q : VK) (E : XK), Room k A → Env0 P w K mg base A outer s H → BindsTo s fd args (ps.zip us) → Vals vs us → sp vs H Q E →
    codeAny (model P w) A (.call (.ref f) args) (CR CX outer P w H s Q E) s
theorem FnOk.mono {P : Program} {w : World} {K : PySem.W.Frag} {mg : Str → Option Value} {base : Heap} {CX : CXT} {j k : Nat} {f : Addr} {fd : FuncData} {ps : List Str} {sp : Sp} (F : FnOk P w K mg base CX j f fd ps sp) (h : j ≤ k) :
    FnOk P w K mg base CX k f fd ps sp := ⟨F.len, fun A outer s H args us vs Q E hr => F.run A outer s H args us vs Q E (hr.mono h)⟩
theorem Env0.make {P : Program} {w : World} {K : PySem.W.Frag} {mg : Str → Option Value} {base : Heap} {A : Around} {outer : List Env} {s : Shared} {H : Hp} (e : Env0 P w K mg base A outer s H) (C : Addr) (us : List Value) (kw : List (Str × Value)) :
    Env0 P w K mg base (A.under (.builtin "type.__call__" ⟨.ref C :: us, kw⟩)) outer s H := ⟨by first | exact e.frames | (simpa [Around.under, Code.envs, Code.isFrame, pushEnvs] using e.frames), e.mod, e.bs, e.bsz, e.funs, e.frf, e.hok, e.bare⟩
theorem Env0.in1 {P : Program} {w : World} {K : PySem.W.Frag} {mg : Str → Option Value} {base : Heap} {A : Around} {outer : List Env} {s : Shared} {H : Hp} (e : Env0 P w K mg base A outer s H) :
    Env0 P w K mg base A.in1 outer s H := ⟨e.frames, e.mod, e.bs, e.bsz, e.funs, e.frf, e.hok, e.bare⟩
section
variable {X : Cx} {pins : List (Addr × Obj)} {σ : St} {H : Hp} {s s' : Shared}
theorem Inv.env0 (I : Inv X pins σ H s) : Env0 X.prog X.w X.K X.mg X.base X.A X.stack s H :=
  ⟨I.ok.frames, I.ok.mod, I.bs, Nat.le_trans I.ok.bsz I.sz, I.stack, I.stkFree, I.hok, I.bare⟩
theorem Inv.after {Q : VK} {u : Value} (I : Inv X pins σ H s) (h : CE X.stack X.prog X.w H s Q u s') : EP X pins σ Q u s' := by
  obtain ⟨v, H', os, bare, un, hok, r, q⟩ := h
  obtain ⟨hh, g, d, t, os'⟩ := s'
  obtain rfl : os' = s.os := os
  exact ⟨v, H', I.call (h' := hh) (g' := g) (d' := d) (t' := t) (ch := []) un hok bare (fun b z => absurd z (by simp)), r, q⟩
end
def tCall (sp : Sp) (dvs : List V) (E : XK) (t : TA) : TE := fun σ H Q => t σ H fun vs H1 => sp (vs ++ dvs) H1 Q E
def tMeth (C : Addr) (m : Str) (sp : Sp) (dvs : List V) (E : XK) (ta : TE) (t : TA) : TE := fun σ H Q => ta σ H fun x H1 => ∃ a dx fs, x = .ref a ∧ H1 a = some (.ins C dx fs) ∧ fs.lookup m = none ∧
  t σ H1 fun vs H2 => sp (x :: (vs ++ dvs)) H2 Q E
def tMake (C : Addr) (sp : Sp) (dvs : List V) (E : XK) (t : TA) : TE := fun σ H Q => t σ H fun vs H1 => ∀ x dx, H1 x = none → H1 dx = none → dx ≠ x →
  sp (.ref x :: (vs ++ dvs)) (upd (upd H1 dx (.own x)) x (.ins C dx [])) (fun v H2 => v = .non ∧ Q (.ref x) H2) E
def Binds (K : PySem.W.Frag) (fd : FuncData) (ps : List Str) (ds : List Value) : Prop :=
  ∀ (s : Shared) (us : List Value), K.In s.heap → (us ++ ds).length = ps.length → BindsTo s fd ⟨us, []⟩ (ps.zip (us ++ ds))
theorem Binds.all {K : PySem.W.Frag} {fd : FuncData} {ps : List Str} (h : ∀ us : List Value, us.length = ps.length → bindArgs fd ⟨us, []⟩ = pure (ps.zip us)) : Binds K fd ps [] := fun s us _ hl => by
  rw [List.append_nil] at hl ⊢
  exact .of_eq (h us hl)
def Passes (CX : CXT) (X : Cx) (E : XK) : Prop := ∀ (pins : List (Addr × Obj)) (σ : St) (H : Hp) (s : Shared) (e : Value) (s' : Shared), Inv X pins σ H s → CX X.stack H s E e s' → X.xe e s'
section
variable {X : Cx} {CX : CXT} {k : Nat} {f C : Addr} {fd : FuncData} {ps : List Str} {sp : Sp} {dvs : List V} {ds : List Value} {E : XK} {x m : Str} {p pos apos : Pos} {e o : Expr} {es : List Expr} {ta : TE} {t : TA}
theorem run_fn {pins : List (Addr × Obj)} {σ : St} {H : Hp} {s : Shared} {Q : VK} {us : List Value} {vs : List V} (F : FnOk X.prog X.w X.K X.mg X.base CX k f fd ps sp) (hr : Room k X.A) (hb : Binds X.K fd ps ds) (hd : Vals dvs ds) (hx : Passes CX X E)
    (I : Inv X pins σ H s) (r : Vals vs us) (h : sp (vs ++ dvs) H Q E) : wpAny (model X.prog X.w) X.A (call (.ref f) us) (EP X pins σ Q) X.xe s := by
  have r2 : Vals (vs ++ dvs) (us ++ ds) := r.append hd
  have hl : (us ++ ds).length = ps.length := by rw [← r2.length]; exact F.len _ _ _ _ h
  refine wpAny_call (codeAny_mono (F.run X.A X.stack s H ⟨us, []⟩ (us ++ ds) (vs ++ dvs) Q E hr I.env0 (hb s us I.kIn hl) r2 h) fun r s' hq => ?_)
  cases r with
  | error e => exact hx pins σ H s e s' I hq
  | ok fl =>
    cases fl with
    | ret u => exact I.after hq
    | next => exact False.elim hq
    | brk => exact False.elim hq
    | cont => exact False.elim hq
theorem pe_call (F : FnOk X.prog X.w X.K X.mg X.base CX k f fd ps sp) (hr : Room k X.A) (hg : Gl X x) (hm : X.mg x = some (.ref f)) (hk : PySem.W.keepIn X.K (.ref f) = true) (hb : Binds X.K fd ps ds) (hd : Vals dvs ds) (hx : Passes CX X E)
    (ha : PA X (e :: es) t) (hdb : (x == ("__debug__" : Str)) = false := by decide) (he : starEach (e :: es) X.env = (false, eval e X.env) :: starEach es X.env := by rfl) (hpl : (backTo pos (starEach es X.env)).any (·.1) = false := by rfl) :
    PE X (.Call (.Name x p) (e :: es) [] pos) (tCall sp dvs E t) := by
  intro pins s σ H Q I h
  refine wpAny_Call_Name_kw (ld_glob I hg hm ?_ hdb)
  refine PySem.W.callWith_K (h₀ := X.base) I.ok.mod.kin hk (thn (ha pos pins s σ H _ I h) fun us s1 ⟨vs, H1, I1, r, q⟩ => ⟨I1.kIn, ?_⟩) he hpl
  exact run_fn F hr hb hd hx I1 r q
theorem pe_meth {pl : Sem Bool} (he : PE X o ta) (c : Cls X.K C) (hm : Meth X.K C m f) (F : FnOk X.prog X.w X.K X.mg X.base CX k f fd ps sp) (hr : Room k X.A) (hb : Binds X.K fd ps ds) (hd : Vals dvs ds) (hx : Passes CX X E) (ha : PA X (e :: es) t)
    (hst : starEach (e :: es) X.env = (false, eval e X.env) :: starEach es X.env := by rfl) (hpl : (backTo pos (starEach es X.env)).any (·.1) = false := by rfl)
    (ht : eval (.Call (.Attribute o m apos) (e :: es) [] pos) X.env = (do
      let ov ← eval o X.env
      standAt apos.atName
      let (f, first) ← holding [ov] (getMethod ov m pl)
      callWith pos f first (backTo pos (starEach (e :: es) X.env)) (backToKw pos (keywordEach [] X.env))) := by rfl) :
    PE X (.Call (.Attribute o m apos) (e :: es) [] pos) (tMeth C m sp dvs E ta t) := by
  intro pins s σ H Q I h
  refine PySem.W.methodCall_KW (pl := pl) (thn (he pins s σ H _ I h) fun u s1 ⟨x, H1, I1, rx, a, dx, fs, ex, ea, l, q⟩ => ?_) ht
  subst ex
  obtain rfl : u = Value.ref a := rx
  refine getmeth_ok I1 ea c hm l ?_
  refine PySem.W.callWith_K (first := [.ref a]) (h₀ := X.base) I.ok.mod.kin hm.kp (thn (ha pos pins s1 σ H1 _ I1 q) fun us s2 ⟨vs, H2, I2, r, q2⟩ => ⟨I2.kIn, ?_⟩) hst hpl
  exact run_fn (us := .ref a :: us) (vs := .ref a :: vs) F hr hb hd hx I2 (.cons rfl r) q2
structure Mk (K : PySem.W.Frag) (C f : Addr) : Prop where
  makes : PySem.W.makesIn K C = true
  init : PySem.W.findIn K (.ref C) "__init__" = some (some (.ref f))
  fn : PySem.W.isFn K (.ref f) = true
  kp : PySem.W.keepIn K (.ref C) = true
theorem run_make {pins : List (Addr × Obj)} {σ : St} {H : Hp} {s : Shared} {Q : VK} {us : List Value} {vs : List V} (M : Mk X.K C f) (F : FnOk X.prog X.w X.K X.mg X.base CX k f fd ps sp) (hr : Room (k + 1) X.A) (hb : Binds X.K fd ps ds) (hd : Vals dvs ds)
    (hx : Passes CX X E) (I : Inv X pins σ H s) (r : Vals vs us)
    (h : ∀ x dx, H x = none → H dx = none → dx ≠ x → sp (.ref x :: (vs ++ dvs)) (upd (upd H dx (.own x)) x (.ins C dx [])) (fun v H2 => v = .non ∧ Q (.ref x) H2) E) :
    wpAny (model X.prog X.w) X.A (call (.ref C) us) (EP X pins σ Q) X.xe s := by
  have hq := h (s.heap.objs.size + 1) s.heap.objs.size (I.hok.fresh (Nat.le_succ _)) (I.hok.fresh (Nat.le_refl _)) (Nat.ne_of_lt (Nat.lt_succ_self _))
  have I2 := Inv.made (C := C) I
  have r2 : Vals (V.ref (s.heap.objs.size + 1) :: (vs ++ dvs)) (Value.ref (s.heap.objs.size + 1) :: (us ++ ds)) := .cons rfl (r.append hd)
  have hl : (Value.ref (s.heap.objs.size + 1) :: us ++ ds).length = ps.length := by
    have e := r2.length
    rw [F.len _ _ _ _ hq] at e
    exact e.symm
  refine wpAny_call (make_map (f := f) I.kIn M.makes M.init (beq_iff_eq.mp M.fn) (codeAny_mono (F.run _ X.stack _ _ ⟨Value.ref (s.heap.objs.size + 1) :: us, []⟩ (Value.ref (s.heap.objs.size + 1) :: (us ++ ds)) _ _ E (hr.make C us [])
    (I2.env0.make C us []) (hb _ (Value.ref (s.heap.objs.size + 1) :: us) I2.kIn hl) r2 hq) fun r s' hq' => ?_))
  cases r with
  | error e => exact hx pins σ _ _ e s' I2 hq'
  | ok fl =>
    cases fl with
    | ret u =>
      obtain ⟨v, H', I3, rv, ev, q3⟩ := I2.after hq'
      subst ev
      exact ⟨rv, ⟨V.ref (s.heap.objs.size + 1), H', I3, rfl, q3⟩⟩
    | next => exact False.elim hq'
    | brk => exact False.elim hq'
    | cont => exact False.elim hq'
theorem pe_make (M : Mk X.K C f) (F : FnOk X.prog X.w X.K X.mg X.base CX k f fd ps sp) (hr : Room (k + 1) X.A) (hg : Gl X x) (hm : X.mg x = some (.ref C)) (hb : Binds X.K fd ps ds) (hd : Vals dvs ds) (hx : Passes CX X E)
    (ha : PA X (e :: es) t) (hdb : (x == ("__debug__" : Str)) = false := by decide) (he : starEach (e :: es) X.env = (false, eval e X.env) :: starEach es X.env := by rfl) (hpl : (backTo pos (starEach es X.env)).any (·.1) = false := by rfl) :
    PE X (.Call (.Name x p) (e :: es) [] pos) (tMake C sp dvs E t) := by
  intro pins s σ H Q I h
  refine wpAny_Call_Name_kw (ld_glob I hg hm ?_ hdb)
  refine PySem.W.callWith_K (h₀ := X.base) I.ok.mod.kin M.kp (thn (ha pos pins s σ H _ I h) fun us s1 ⟨vs, H1, I1, r, q⟩ => ⟨I1.kIn, ?_⟩) he hpl
  exact run_make M F hr hb hd hx I1 r q
end
def PK (X : Cx) (kws : List Keyword) (t : TA) : Prop :=
  ∀ (pos : Pos) (pins : List (Addr × Obj)) (s : Shared) (σ : St) (H : Hp) (Q : List V → Hp → Prop), Inv X pins σ H s → t σ H Q → wpAny (model X.prog X.w) X.A (evalAll ((backToKw pos (keywordEach kws X.env)).map (·.2))) (AP X pins σ Q) X.xe s
section
variable {X : Cx} {CX : CXT} {k : Nat} {f C : Addr} {fd : FuncData} {ps ks : List Str} {sp : Sp} {E : XK} {x m : Str} {p pos apos kpos : Pos} {e o : Expr} {es : List Expr} {kws : List Keyword} {te ta : TE} {t tk : TA} {nm : Option Str}
structure KBinds (K : PySem.W.Frag) (fd : FuncData) (ps ks : List Str) (g : List Value → List Value → List Value) (gV : List V → List V → List V) : Prop where
  to : ∀ (s : Shared) (us ws : List Value), K.In s.heap → (g us ws).length = ps.length → BindsTo s fd ⟨us, ks.zip ws⟩ (ps.zip (g us ws))
  rel : ∀ {vs : List V} {us : List Value} {zs : List V} {ws : List Value}, Vals vs us → Vals zs ws → Vals (gV vs zs) (g us ws)
def tCallK (sp : Sp) (gV : List V → List V → List V) (E : XK) (t tk : TA) : TE := fun σ H Q => t σ H fun vs H1 => tk σ H1 fun zs H2 => sp (gV vs zs) H2 Q E
variable {g : List Value → List Value → List Value} {gV : List V → List V → List V}
end
structure FnScope (N P : List Str) (sc : Scope) : Prop where
  kind : sc.kind = .function
  co : sc.isCoroutine = false
  gen : sc.isGenerator = false
  nd : N.Nodup
  pre : N.take P.length = P
  par : ∀ x ∈ P, sc.names.lookup x = some .local ∨ sc.names.lookup x = some .cell
  nofree : ∀ y ∈ sc.names, y.2 ≠ .free
theorem bindL_out {kindOf : Str → Option NameKind} {x : Str} : ∀ {binds : List (Str × Value)} {m : Str → Option Value}, (∀ v, (x, v) ∉ binds) → bindL kindOf binds m x = m x
  | [], _, _ => rfl
  | (n, v) :: r, m, h => by
    unfold bindL
    rw [bindL_out fun w hw => h w (List.mem_cons_of_mem _ hw)]
    split
    · have : x ≠ n := by rintro rfl; exact h v List.mem_cons_self
      simp [this]
    · rfl
theorem bindC_out {kindOf : Str → Option NameKind} {x : Str} : ∀ {binds : List (Str × Value)} {m : Str → Option Value}, (∀ v, (x, v) ∉ binds) → bindC kindOf binds m x = m x
  | [], _, _ => rfl
  | (n, v) :: r, m, h => by
    unfold bindC
    rw [bindC_out fun w hw => h w (List.mem_cons_of_mem _ hw)]
    split
    · rfl
    · have : x ≠ n := by rintro rfl; exact h v List.mem_cons_self
      simp [this]
theorem bindL_get {kindOf : Str → Option NameKind} {x : Str} {v : Value} : ∀ {P : List Str} {vs : List Value} {i : Nat} {m : Str → Option Value}, P.Nodup → P[i]? = some x → vs[i]? = some v → kindOf x = some .local →
    bindL kindOf (P.zip vs) m x = some v
  | [], _, _, _, _, h, _, _ => by simp at h
  | _ :: _, [], _, _, _, _, h, _ => by simp at h
  | p :: P, w :: vs, 0, m, nd, h1, h2, hk => by
    simp at h1 h2; subst h1; subst h2
    show bindL kindOf ((p, w) :: P.zip vs) m p = _
    unfold bindL
    rw [bindL_out fun v hv => (List.nodup_cons.mp nd).1 (List.of_mem_zip hv).1, if_pos hk]
    simp
  | p :: P, w :: vs, i + 1, m, nd, h1, h2, hk => by
    show bindL kindOf ((p, w) :: P.zip vs) m x = _
    unfold bindL
    exact bindL_get (i := i) (List.nodup_cons.mp nd).2 (by simpa using h1) (by simpa using h2) hk
theorem bindC_get {kindOf : Str → Option NameKind} {x : Str} {v : Value} : ∀ {P : List Str} {vs : List Value} {i : Nat} {m : Str → Option Value}, P.Nodup → P[i]? = some x → vs[i]? = some v → kindOf x ≠ some .local →
    bindC kindOf (P.zip vs) m x = some v
  | [], _, _, _, _, h, _, _ => by simp at h
  | _ :: _, [], _, _, _, _, h, _ => by simp at h
  | p :: P, w :: vs, 0, m, nd, h1, h2, hk => by
    simp at h1 h2; subst h1; subst h2
    show bindC kindOf ((p, w) :: P.zip vs) m p = _
    unfold bindC
    rw [bindC_out fun v hv => (List.nodup_cons.mp nd).1 (List.of_mem_zip hv).1, if_neg hk]
    simp
  | p :: P, w :: vs, i + 1, m, nd, h1, h2, hk => by
    show bindC kindOf ((p, w) :: P.zip vs) m x = _
    unfold bindC
    exact bindC_get (i := i) (List.nodup_cons.mp nd).2 (by simpa using h1) (by simpa using h2) hk
def start (N : List Str) (vs : List V) : St := vs.map some ++ List.replicate (N.length - vs.length) none
def cxOf (CX : CXT) (P : Program) (w : World) (K : PySem.W.Frag) (mg : Str → Option Value) (base : Heap) (N : List Str) (qual : Str) (scope : Scope) (f : Addr) (cd : Value) (A : Around) (outer : List Env) (s : Shared) (H : Hp) (E : XK) : Cx where
  prog := P
  w := w
  K := K
  mg := mg
  base := base
  A := A.deeper (envOfC qual scope s.heap.objs.size f cd)
  N := N
  s₀ := s
  H₀ := H
  env := envOfC qual scope s.heap.objs.size f cd
  outer := outer
  stack := envOfC qual scope s.heap.objs.size f cd :: outer
  ex := []
  calm := true
  fn := fun _ => true
  pn := []
  xe := fun e s' => wpAny (model P w) (A.deeper (envOfC qual scope s.heap.objs.size f cd)) (leaving (envOfC qual scope s.heap.objs.size f cd) e) (fun _ s'' => CX outer H s E e s'') (fun e' s'' => CX outer H s E e' s'') s'
theorem cell_has {sc : Scope} {n : Nat} {x : Str} (h : sc.names.lookup x = some .cell) : ∃ c, (cellsFrom n sc.names []).lookup x = some c := by
  have q := PySem.W.cellsFrom_some sc.names n [] (.inl h)
  exact Option.isSome_iff_exists.mp q
theorem inv_start {CX : CXT} {P : Program} {w : World} {K : PySem.W.Frag} {mg : Str → Option Value} {base : Heap} {N ps : List Str} {qual : Str} {scope : Scope} {f : Addr} {cd : Value} {A : Around} {outer : List Env} {s s1 : Shared} {H : Hp} {E : XK} {us : List Value} {vs : List V}
    (S : FnScope N ps scope) (hd : A.handled = none) (e0 : Env0 P w K mg base A outer s H) (hl : vs.length = ps.length) (r : Vals vs us)
    (x : InCallC s s.heap.objs.size (bindL (envOfC qual scope s.heap.objs.size f cd).kindOf (ps.zip us) fun _ => none) (cellsFrom (s.heap.objs.size + 1) scope.names []) (bindC (envOfC qual scope s.heap.objs.size f cd).kindOf (ps.zip us) fun _ => none) s1) :
    Inv (cxOf CX P w K mg base N qual scope f cd A outer s H E) [] (start N vs) H s1 := by
  have hpl : ps.length ≤ N.length := by have := congrArg List.length S.pre; rw [List.length_take] at this; omega
  obtain ⟨h1, tk, rfl, hk⟩ := x.done
  have noA : ∀ b : Addr, b ∉ (cxOf CX P w K mg base N qual scope f cd A outer s H E).ex := fun b z => absurd (show b ∈ ([] : List Addr) from z) (by simp)
  refine ⟨⟨e0.mod, S.kind, rfl, rfl, Nat.le_refl _, fun y z c h1 h2 => ?_, fun y hy => ?_, fun y c _ h => ?_, fun _ => hd, Around.frames_deeper e0.frames, .inr ⟨rfl, rfl⟩, fun b z => absurd z (noA b), e0.bs, e0.bsz, fun b _ _ => noA b, fun b z => absurd z (noA b), e0.funs, e0.frf⟩,
    rfl, e0.bare, Un.kept hk, ⟨_, x.toInCall.ns, fun i y v h1 h2 h3 => ?_⟩, fun y c h => ⟨_, x.cell y c h⟩, e0.hok.fresh (Nat.le_refl _), fun y c h => ?_, fun p hp => absurd (show p ∈ ([] : List (Addr × Obj)) from hp) (by simp), e0.hok.kept hk, ?_⟩
  · exact name_of_addr x.apart (PySem.mem_of_lookup h1) (PySem.mem_of_lookup h2)
  · have hy : scope.names.lookup y = some .cell ∨ scope.names.lookup y = some .free := hy
    rcases hy with hy | hy
    · exact cell_has hy
    · exact absurd rfl (S.nofree _ (PySem.mem_of_lookup hy))
  · exact Nat.le_of_lt (x.above y c (PySem.mem_of_lookup h))
  · have hi : i < vs.length := by
      unfold start at h2
      by_cases hi : i < vs.length
      · exact hi
      · rw [List.getElem?_append_right (by simpa using hi)] at h2
        rw [List.getElem?_replicate] at h2
        split at h2 <;> cases h2
    have ha : vs[i]? = some v := by
      unfold start at h2
      rw [List.getElem?_append_left (by simpa using hi), List.getElem?_map] at h2
      cases e : vs[i]? with
      | none => rw [e] at h2; cases h2
      | some a => rw [e] at h2; cases h2; rfl
    obtain ⟨u, hu, rv⟩ := r.get ha
    have hp : ps[i]? = some y := by
      rw [← S.pre, List.getElem?_take_of_lt (by omega)]; exact h1
    have ndP : ps.Nodup := by rw [← S.pre]; exact S.nd.sublist (List.take_sublist _ _)
    refine ⟨u, rv, ?_⟩
    rcases S.par y (List.mem_of_getElem? hp) with k | k
    · exact .inl ⟨k, bindL_get ndP hp hu k⟩
    · obtain ⟨c, e⟩ := cell_has (n := s.heap.objs.size + 1) k
      refine .inr ⟨.inl k, c, e, ?_⟩
      have q := x.cell y c e
      rw [bindC_get ndP hp hu (by show scope.names.lookup y ≠ _; rw [k]; decide)] at q
      exact q
  · exact e0.hok.fresh (Nat.le_of_lt (x.above y c (PySem.mem_of_lookup h)))
  · unfold start
    show _ = N.length
    rw [List.length_append, List.length_map, List.length_replicate]
    omega
theorem fn_of {CX : CXT} {P : Program} {w : World} {K : PySem.W.Frag} {mg : Str → Option Value} {base : Heap} {k : Nat} {f : Addr} {name qual : Str} {params : Arguments} {body : List Stmt} {scope : Scope} {dV kV doc pm cdv ct oc : Value} {an od : Option Addr}
    {osl : Array (Option Value)} {N ps : List Str} {sp : Sp} (lk : K.lookup f = some ⟨oc, od, .func (PySem.W.fnOf name qual params body scope dV kV doc pm an cdv ct), osl⟩) (hcd : PySem.W.codeIn K cdv qual = true) (S : FnScope N ps scope)
    (len : ∀ vs H Q E, sp vs H Q E → vs.length = ps.length)
    (hbody : ∀ (A : Around) (outer : List Env) (s : Shared) (H : Hp) (vs : List V) (Q : VK) (E : XK), Room k (A.deeper (envOfC qual scope s.heap.objs.size f cdv)) → sp vs H Q E →
      ∃ t, PSs (cxOf CX P w K mg base N qual scope f cdv A outer s H E) body t ∧ t { nx := fun _ H' => Q .non H', rt := Q } (start N vs) H) :
    FnOk P w K mg base CX (k + 1) f (PySem.W.fnOf name qual params body scope dV kV doc pm an cdv ct) ps sp := by
  refine ⟨len, fun A outer s H args us vs Q E hr e0 hb r hsp => ?_⟩
  have hl := len _ _ _ _ hsp
  have KX : K.In s.heap := e0.mod.kin.keeps fun b o e => (e0.bs b o e).1
  have lim : s.heap.NoLimit := e0.mod.nolimit.keeps fun b o e => (e0.bs b o e).1
  have hkind : ∀ y ∈ ps.zip us, scope.names.lookup y.1 = some .local ∨ (scope.names.lookup y.1 = some .cell ∧ ((cellsFrom (s.heap.objs.size + 1) scope.names []).lookup y.1).isSome = true) := fun ⟨n, v⟩ hy => by
    rcases S.par n (List.of_mem_zip hy).1 with q | q
    · exact .inl q
    · exact .inr ⟨q, PySem.W.cellsFrom_some _ _ _ (.inl q)⟩
  refine codeAny_call_function hr.depth (KX _ _ lk) rfl S.co S.gen rfl (PySem.W.codeRec_of KX hcd) (hb _ _ _ _ ?_)
  refine wpAny_newFunctionEnv_cells S.kind hkind fun env he s1 x => ?_
  subst he
  refine ⟨lim.keeps x.toInCall.keep, codeAny_func ?_⟩
  obtain ⟨t, ht, hq⟩ := hbody A outer s H vs Q E (hr.deeper _) hsp
  have I : Inv (cxOf CX P w K mg base N qual scope f cdv A outer s H E) [] (start N vs) H s1 := inv_start S hr.hd e0 hl r x
  refine wpAny_mono (ht [] s1 (start N vs) H _ I hq) (fun fl s' hs => ?_) fun e s' hs => hs
  have fin : ∀ {σ' : St} {H' : Hp} {v : V} {u : Value}, Inv (cxOf CX P w K mg base N qual scope f cdv A outer s H E) [] σ' H' s' → RelV v u → Q v H' → CE outer P w H s Q u s' :=
    fun {σ' H' v u} J rv q => ⟨v, H', J.os, J.bare, J.base, J.hok, rv, q⟩
  cases fl with
  | ret u =>
    obtain ⟨v, σ', H', J, rv, q⟩ := hs
    exact fin J rv q
  | next =>
    obtain ⟨σ', H', J, q⟩ := hs
    exact fin (v := V.non) (u := Value.none) J rfl q
  | brk =>
    obtain ⟨_, _, _, q⟩ := hs
    exact False.elim q
  | cont =>
    obtain ⟨_, _, _, q⟩ := hs
    exact False.elim q
end L2
namespace L2
open PySem PySem.Spec PyProof.Rows
section
variable {X : Cx} {x : Str} {p pos : Pos} {e : Expr} {es : List Expr} {t : TA} {id T : String} {r : List V → Hp → VK → Prop}
def tCB (r : List V → Hp → VK → Prop) (t : TA) : TE := fun σ H Q => t σ H fun vs H1 => r vs H1 Q
theorem pe_callB (hc : CallR X (.builtin id) r) (hg : Gl X x) (hm : X.mg x = none) (hv : bootBuiltins x = some (.builtin id)) (ha : PA X (e :: es) t) (hn : x ≠ "__name__" := by decide) (hdb : (x == ("__debug__" : Str)) = false := by decide)
    (he : starEach (e :: es) X.env = (false, eval e X.env) :: starEach es X.env := by rfl) (hpl : (backTo pos (starEach es X.env)).any (·.1) = false := by rfl) : PE X (.Call (.Name x p) (e :: es) [] pos) (tCB r t) := by
  intro pins s σ H Q I h
  refine wpAny_Call_Name_kw (ld_blt I hg hm hv ?_ hn hdb)
  exact PyProof.Rows.callWith_builtin1 (thn (ha pos pins s σ H _ I h) fun us s1 ⟨vs, H1, I1, r1, q1⟩ => hc pins s1 σ H1 vs us Q I1 r1 q1) he hpl
theorem pe_callTy (hc : CallR X (.type T) r) (hg : Gl X x) (hm : X.mg x = none) (hv : bootBuiltins x = some (.type T)) (ha : PA X (e :: es) t) (hn : x ≠ "__name__" := by decide) (hdb : (x == ("__debug__" : Str)) = false := by decide)
    (he : starEach (e :: es) X.env = (false, eval e X.env) :: starEach es X.env := by rfl) (hpl : (backTo pos (starEach es X.env)).any (·.1) = false := by rfl) : PE X (.Call (.Name x p) (e :: es) [] pos) (tCB r t) := by
  intro pins s σ H Q I h
  refine wpAny_Call_Name_kw (ld_blt I hg hm hv ?_ hn hdb)
  exact PyProof.Rows.callWith_type1 (thn (ha pos pins s σ H _ I h) fun us s1 ⟨vs, H1, I1, r1, q1⟩ => hc pins s1 σ H1 vs us Q I1 r1 q1) he hpl
end
end L2
namespace HT
open PySem PyProof.Rows
def lexLt : List Int → List Int → Bool
  | [], [] => false
  | [], _ :: _ => true
  | _ :: _, [] => false
  | x :: xs, y :: ys => if x = y then lexLt xs ys else decide (x < y)
section
open PySem.SeqAt
open PySem.AutoSeq1 (wpAny_loadPart')
open PySem.MeetsSeq PySem.MeetsSeq2 PySem.MeetsSeq3
end
section
variable {prog : Program} {w : World} {A : Around} {E : Value → Shared → Prop} {s : Shared}
def sIx (n d : Nat) : Option Int → Nat
  | none => d
  | some v => if v < 0 then (v + (n : Int)).toNat else min v.toNat n
theorem sIx_le (n d : Nat) (hd : d ≤ n) (o : Option Int) : sIx n d o ≤ n := by
  cases o with
  | none => exact hd
  | some v =>
    show (if v < 0 then (v + (n : Int)).toNat else min v.toNat n) ≤ n
    by_cases hv : v < 0
    · rw [if_pos hv]; omega
    · rw [if_neg hv]; exact Nat.min_le_right _ _
end
end HT
namespace L2
open PySem PySem.Spec PyProof.Rows
abbrev TO := St → Hp → (Option Int → Hp → Prop) → Prop
def PO (X : Cx) (e : Option Expr) (t : TO) : Prop :=
  ∀ (pins : List (Addr × Obj)) (s : Shared) (σ : St) (H : Hp) (Q : Option Int → Hp → Prop), Inv X pins σ H s → t σ H Q →
    wpAny (model X.prog X.w) X.A (evalPart e X.env) (fun u s' => ∃ o H', Inv X pins σ H' s' ∧ IsPart u o ∧ Q o H') X.xe s
def tNoPart : TO := fun _ H Q => Q none H
def tPart (t : TE) : TO := fun σ H Q => t σ H fun x H1 => ∃ i, x = .int i ∧ Q (some i) H1
section
variable {X : Cx} {e : Expr} {te : TE} {lo hi : Option Expr} {tl th : TO} {pos p2 : Pos}
theorem po_none : PO X none tNoPart := by
  intro pins s σ H Q I h
  rw [evalPart_none]
  exact wpAny_pure ⟨none, H, I, .none, h⟩
theorem po_some (h : PE X e te) : PO X (some e) (tPart te) := by
  intro pins s σ H Q I hw
  rw [evalPart_some]
  refine thn (h pins s σ H _ I hw) fun u s1 ⟨x, H1, I1, r1, q1⟩ => ?_
  obtain ⟨i, rfl, q⟩ := q1
  obtain ⟨t, rfl⟩ := r1
  exact ⟨some i, H1, I1, .int i t, q⟩
def SlR (X : Cx) (r : V → Option Int → Option Int → Hp → VK → Prop) : Prop :=
  ∀ (pins : List (Addr × Obj)) (s : Shared) (σ : St) (H : Hp) (x : V) (v vl vu : Value) (lo hi : Option Int) (sl : Addr) (Q : VK), Inv X pins σ H s → RelV x v → s.heap.IsSliceOf sl vl vu .none → IsPart vl lo → IsPart vu hi → r x lo hi H Q →
    ∃ T id, typeLookup (.type T) "__getitem__" = pure (some (.builtin id)) ∧ s.TypeIs v T ∧ wpAny (model X.prog X.w) X.A (getItem v (.ref sl)) (EP X pins σ Q) X.xe s
theorem SlR.or {r r' : V → Option Int → Option Int → Hp → VK → Prop} (h : SlR X r) (h' : SlR X r') : SlR X (fun x lo hi H Q => r x lo hi H Q ∨ r' x lo hi H Q) := by
  intro pins s σ H x v vl vu lo hi sl Q I rx hs pl pu q
  rcases q with q | q
  · exact h pins s σ H x v vl vu lo hi sl Q I rx hs pl pu q
  · exact h' pins s σ H x v vl vu lo hi sl Q I rx hs pl pu q
def tSl (r : V → Option Int → Option Int → Hp → VK → Prop) (te : TE) (tl th : TO) : TE := fun σ H Q => te σ H fun x H1 => tl σ H1 fun l H2 => th σ H2 fun u H3 => r x l u H3 Q
theorem pe_slice {r : V → Option Int → Option Int → Hp → VK → Prop} (hr : SlR X r) (he : PE X e te) (hl : PO X lo tl) (hu : PO X hi th) : PE X (.Subscript e (.Slice lo hi none p2) pos) (tSl r te tl th) := by
  intro pins s σ H Q I h
  refine Subscript_ (thn (he pins s σ H _ I h) fun v s1 ⟨x, H1, I1, r1, q1⟩ => ?_)
  refine wpAny_Slice (thn (hl pins s1 σ H1 _ I1 q1) fun vl s2 ⟨l, H2, I2, pl, q2⟩ => thn (hu pins s2 σ H2 _ I2 q2) fun vu s3 ⟨u, H3, I3, pu, q3⟩ => ?_)
  rw [evalPart_none]
  refine wpAny_pure ?_
  have I4 : Inv X pins σ H3 { s3 with heap := s3.heap.push { cls := .type "slice", data := .fields #[vl, vu, .none] } } := I3.kept (t' := s3.toks) fun b ob q => Heap.get?_push_of_some _ q
  obtain ⟨T, id, hT, ht, hg⟩ := hr pins { s3 with heap := s3.heap.push { cls := .type "slice", data := .fields #[vl, vu, .none] } } σ H3 x v vl vu l u s3.heap.objs.size Q I4 r1 (Heap.IsSliceOf.new ..) pl pu q3
  show wpAny (model X.prog X.w) X.A (subscriptTail e (.Slice lo hi none p2) v (.ref s3.heap.objs.size)) (EP X pins σ Q) X.xe { s3 with heap := s3.heap.push { cls := .type "slice", data := .fields #[vl, vu, .none] } }
  exact tail_any (ops := [.ref s3.heap.objs.size, v]) ht hT hg (by with_unfolding_all rfl)
def cutV (xs : List V) (lo hi : Option Int) : List V := (xs.drop (HT.sIx xs.length 0 lo)).take (HT.sIx xs.length xs.length hi - HT.sIx xs.length 0 lo)
theorem cutV_length (xs : List V) (lo hi : Option Int) : (cutV xs lo hi).length ≤ xs.length := by
  unfold cutV
  rw [List.length_take, List.length_drop]
  omega
def rSlT (K : PySem.W.Frag) : V → Option Int → Option Int → Hp → VK → Prop := fun x lo hi H Q => ∃ a xs, x = .ref a ∧ SqT K H a xs ∧
  ¬ (HT.sIx xs.length 0 lo = 0 ∧ HT.sIx xs.length xs.length hi = xs.length) ∧ ∀ p, H p = none → Q (.ref p) (upd H p (.tup (cutV xs lo hi)))
def rLtT (K : PySem.W.Frag) : R2 := fun x y H Q => ∃ a b ns ms, x = .ref a ∧ y = .ref b ∧ SqT K H a (ns.map V.int) ∧ SqT K H b (ms.map V.int) ∧ Q (.bl (HT.lexLt ns ms)) H
def rCatT (K : PySem.W.Frag) : R2 := fun x y H Q => ∃ a b xs ys, x = .ref a ∧ y = .ref b ∧ SqT K H a xs ∧ SqT K H b ys ∧ xs ≠ [] ∧ xs.length + ys.length ≤ sizeLine ∧
  (ys = [] → Q (.ref a) H) ∧ (ys ≠ [] → ∀ p, H p = none → Q (.ref p) (upd H p (.tup (xs ++ ys))))
end
end L2
namespace L2
open PySem PySem.Spec PyProof.Rows
def ixN (n : Nat) (i : Int) : Option Nat := if 0 ≤ i then (if i < n then some i.toNat else none) else if -(n : Int) ≤ i then some (i + n).toNat else none
def atI {α : Type} (xs : List α) (i : Int) : Option α := (ixN xs.length i).bind fun j => xs[j]?
theorem ixN_seq {n : Nat} {i : Int} {j : Nat} (h : ixN n i = some j) : seqIndex? i n = some j ∧ j < n ∧ -(n : Int) ≤ i ∧ i < n := by
  unfold ixN at h
  by_cases h0 : 0 ≤ i
  · rw [if_pos h0] at h
    by_cases h1 : i < n
    · rw [if_pos h1] at h
      have e : i.toNat = j := Option.some.inj h
      exact ⟨by rw [seqIndex_of h0 h1, e], by omega, by omega, h1⟩
    · rw [if_neg h1] at h; cases h
  · rw [if_neg h0] at h
    by_cases h1 : -(n : Int) ≤ i
    · rw [if_pos h1] at h
      have e : (i + n).toNat = j := Option.some.inj h
      exact ⟨by rw [seqIndex_neg (by omega) h1, e], by omega, h1, by omega⟩
    · rw [if_neg h1] at h; cases h
theorem atI_get {α : Type} {xs : List α} {i : Int} {v : α} (h : atI xs i = some v) : ∃ j, seqIndex? i xs.length = some j ∧ xs[j]? = some v ∧ j < xs.length ∧ -(xs.length : Int) ≤ i ∧ i < xs.length := by
  unfold atI at h
  cases e : ixN xs.length i with
  | none => rw [e] at h; cases h
  | some j =>
    rw [e] at h
    obtain ⟨h1, h2, h3, h4⟩ := ixN_seq e
    exact ⟨j, h1, h, h2, h3, h4⟩
theorem atI_nat {α : Type} {xs : List α} {j : Nat} {v : α} (h : xs[j]? = some v) : atI xs (j : Int) = some v := by
  have hj : j < xs.length := (List.getElem?_eq_some_iff.mp h).1
  have e : ixN xs.length (j : Int) = some j := by
    unfold ixN
    rw [if_pos (by omega), if_pos (by omega)]; simp
  unfold atI; rw [e]; exact h
theorem atI_last {α : Type} (xs : List α) (v : α) : atI (xs ++ [v]) (-1) = some v := by
  have hl : (xs ++ [v]).length = xs.length + 1 := by simp
  have e : ixN (xs ++ [v]).length (-1) = some xs.length := by
    unfold ixN
    rw [hl, if_neg (by decide), if_pos (by omega)]
    congr 1
    omega
  unfold atI
  rw [e]
  show (xs ++ [v])[xs.length]? = some v
  simp
def PlainIx (b : Expr) : Prop := ∀ o i, subscripted b false o i = operate [o, i] (getItem o i)
def IxR (X : Cx) (r : R2) : Prop :=
  ∀ (value slice : Expr) (pins : List (Addr × Obj)) (s : Shared) (σ : St) (H : Hp) (x y : V) (v u : Value) (Q : VK), Inv X pins σ H s → RelV x v → RelV y u → r x y H Q →
    subscripted slice false v u = operate [v, u] (getItem v u) → wpAny (model X.prog X.w) X.A (subscriptTail value slice v u) (EP X pins σ Q) X.xe s
def MtR (X : Cx) (id : String) (r : V → List V → Hp → VK → Prop) : Prop :=
  ∀ (pins : List (Addr × Obj)) (s : Shared) (σ : St) (H : Hp) (x : V) (xs : List V) (v : Value) (us : List Value) (Q : VK), Inv X pins σ H s → RelV x v → Vals xs us → r x xs H Q →
    wpAny (model X.prog X.w) X.A (call (.builtin id) (v :: us)) (EP X pins σ Q) X.xe s
section
variable {X : Cx} {a b : Expr} {ta tb : TE} {pos : Pos}
theorem IxR.or {r r' : R2} (h : IxR X r) (h' : IxR X r') : IxR X (fun x y H Q => r x y H Q ∨ r' x y H Q) := by
  intro value slice pins s σ H x y v u Q I rx ry q hs
  rcases q with q | q
  · exact h value slice pins s σ H x y v u Q I rx ry q hs
  · exact h' value slice pins s σ H x y v u Q I rx ry q hs
theorem MtR.or {id : String} {r r' : V → List V → Hp → VK → Prop} (h : MtR X id r) (h' : MtR X id r') : MtR X id (fun x xs H Q => r x xs H Q ∨ r' x xs H Q) := by
  intro pins s σ H x xs v us Q I rx rs q
  rcases q with q | q
  · exact h pins s σ H x xs v us Q I rx rs q
  · exact h' pins s σ H x xs v us Q I rx rs q
theorem pe_ix {r : R2} (hr : IxR X r) (ha : PE X a ta) (hb : PE X b tb) (hs : PlainIx b) : PE X (.Subscript a b pos) (tOp r ta tb) := by
  intro pins s σ H Q I h
  exact Subscript_ (binT ha hb I h fun v u s2 x y H2 I2 rx ry q => hr a b pins s2 σ H2 x y v u Q I2 rx ry q (hs _ _))
def rIxL (K : PySem.W.Frag) : R2 := fun x y H Q => ∃ p xs i v, x = .ref p ∧ y = .int i ∧ SqL K H p xs ∧ atI xs i = some v ∧ Q v H
def rIxT (K : PySem.W.Frag) : R2 := fun x y H Q => ∃ p xs i v, x = .ref p ∧ y = .int i ∧ SqT K H p xs ∧ atI xs i = some v ∧ Q v H
def rIxS : R2 := fun x y H Q => ∃ z i c, x = .str z ∧ y = .int i ∧ z.length ≤ sizeLine ∧ atI z.cps.toList i = some c ∧ Q (.str ⟨#[c]⟩) H
theorem ix_list : IxR X (rIxL X.K) := by
  intro value slice pins s σ H x y v u Q I rx ry h hs
  obtain ⟨p, xs, i, z, rfl, rfl, hq, he, q⟩ := h
  cases rx
  obtain ⟨t, rfl⟩ := ry
  obtain ⟨its, r, pl, hz⟩ := I.list hq
  obtain ⟨j, h1, h2, h3, h4, h5⟩ := atI_get he
  obtain ⟨w, ew, rw'⟩ := r.get h2
  have hl := r.length
  have hn := line63
  have fin : EP X pins σ Q w s := ⟨z, H, I, rw', q⟩
  by_cases h0 : 0 ≤ i
  · have hj : i.toNat = j := by
      rw [seqIndex_of h0 h5] at h1
      exact Option.some.inj h1
    exact item_listR pl.isList h0 (by omega) (by rw [hj]; simpa using ew) fin hs
  · have hj : (i + (its.toArray.size : Int)).toNat = j := by
      rw [seqIndex_neg (by omega) h4] at h1
      rw [List.size_toArray, ← hl]
      exact Option.some.inj h1
    exact subscriptTail_builtinR (x := w) pl.isList.typeIs slot_list_getitem.lookup
      (wpAny_getItem_list_neg (Q := fun r s' => r = w ∧ EP X pins σ Q r s') pl.isList (by omega) (by rw [List.size_toArray] <;> omega) (by omega) (by rw [hj]; simpa using ew) ⟨rfl, fin⟩) hs
theorem ix_tup : IxR X (rIxT X.K) := by
  intro value slice pins s σ H x y v u Q I rx ry h hs
  obtain ⟨p, xs, i, z, rfl, rfl, hq, he, q⟩ := h
  cases rx
  obtain ⟨t, rfl⟩ := ry
  obtain ⟨its, r, pl, hz⟩ := I.tuple hq
  obtain ⟨j, h1, h2, h3, h4, h5⟩ := atI_get he
  obtain ⟨w, ew, rw'⟩ := r.get h2
  have hl := r.length
  have hn := line63
  have fin : EP X pins σ Q w s := ⟨z, H, I, rw', q⟩
  exact subscriptTail_builtinR (x := w) pl.typeIs slot_tuple_getitem.lookup
    (getItem_tuple (j := j) (Q := fun r s' => r = w ∧ EP X pins σ Q r s') pl (by omega) (by omega) (by rw [List.size_toArray, ← hl]; exact h1) (by simpa using ew) ⟨rfl, fin⟩) hs
theorem ix_str : IxR X rIxS := by
  intro value slice pins s σ H x y v u Q I rx ry h hs
  obtain ⟨z, i, c, rfl, rfl, hz, he, q⟩ := h
  obtain ⟨t, rfl⟩ := rx
  obtain ⟨t', rfl⟩ := ry
  obtain ⟨j, h1, h2, h3, h4, h5⟩ := atI_get he
  have hl : z.cps.toList.length = z.length := by simp [Str.length]
  rw [hl] at h1 h4 h5
  have hn := line63
  exact tail_any (typeIs_str s z t) slot_str_getitem.lookup (getItem_str (c := c) (by
    have e1 : decide (i < -(2 ^ 63 : Int)) = false := decide_eq_false (by omega)
    have e2 : decide (i ≥ 2 ^ 63) = false := decide_eq_false (by omega)
    rw [e1, e2, Bool.or_false]) (by rw [h1]; simpa using h2) ⟨.str ⟨#[c]⟩, H, I.tok _, ⟨_, rfl⟩, q⟩) hs
def rIx (K : PySem.W.Frag) : R2 := fun x y H Q => rIxL K x y H Q ∨ rIxT K x y H Q ∨ rIxS x y H Q
theorem mapSeq_set (its : List Value) (n j : Nat) (u : Value) : Obj.mapSeq (·.setIfInBounds j u) { cls := .type "list", data := .seq its.toArray n } = { cls := .type "list", data := .seq (its.set j u).toArray n } := by
  simp [Obj.mapSeq]
theorem Inv.lst {pins : List (Addr × Obj)} {σ : St} {H : Hp} {s : Shared} {p : Addr} {xs : List V} (I : Inv X pins σ H s) (h : H p = some (.lst xs)) :
    ∃ (its : List Value) (n : Nat), Vals xs its ∧ s.heap.get? p = some { cls := .type "list", data := .seq its.toArray n } ∧ xs.length ≤ sizeLine := by
  obtain ⟨z, its, n, r, e⟩ := I.hok p _ h
  exact ⟨its, n, r, e, z⟩
theorem Inv.lstUpd {pins : List (Addr × Obj)} {σ : St} {H : Hp} {s : Shared} {p : Addr} {xs ys : List V} {its its' : List Value} {n n' : Nat} {f : Obj → Obj} (I : Inv X pins σ H s) (h : H p = some (.lst xs))
    (ho : s.heap.get? p = some { cls := .type "list", data := .seq its.toArray n }) (hf : f { cls := .type "list", data := .seq its.toArray n } = { cls := .type "list", data := .seq its'.toArray n' }) (r : Vals ys its') (hz : ys.length ≤ sizeLine) (t : Nat) :
    Inv X pins σ (upd H p (.lst ys)) { s with heap := s.heap.update p f, toks := t } := by
  have e : (s.heap.update p f).get? p = some { cls := .type "list", data := .seq its'.toArray n' } := by
    rw [Heap.get?_update_self f ho (by rw [hf] <;> rfl), hf]
  refine I.write (x := p) (e := p) (by rw [h]; trivial) (.inl rfl) (fun b u hb q => (Heap.get?_update_other _ _ (Ne.symm hb)).trans q) ⟨_, e⟩ ?_
  exact ⟨hz, its', n', r, e⟩
def rSetL : V → V → V → Hp → (Hp → Prop) → Prop := fun o i v H Q => ∃ p xs k j, o = .ref p ∧ i = .int k ∧ H p = some (.lst xs) ∧ ixN xs.length k = some j ∧ Q (upd H p (.lst (xs.set j v)))
theorem set_list : PSet X rSetL := by
  intro pins s σ H o i v ov iv u Q I ro ri rv h
  obtain ⟨p, xs, k, j, rfl, rfl, hp, hj, q⟩ := h
  cases ro
  obtain ⟨t, rfl⟩ := ri
  obtain ⟨its, n, r, ho, hz⟩ := I.lst hp
  obtain ⟨h1, h2, h3, h4⟩ := ixN_seq hj
  have hl := r.length
  have hn := line63
  have I' : Inv X pins σ (upd H p (.lst (xs.set j v))) { s with heap := s.heap.update p (Obj.mapSeq (·.setIfInBounds j u)) } :=
    I.lstUpd hp ho (mapSeq_set its n j u) (r.set rv j) (by rw [List.length_set]; exact hz) s.toks
  by_cases h0 : 0 ≤ k
  · have hk : k.toNat = j := by
      rw [seqIndex_of h0 h4] at h1
      exact Option.some.inj h1
    exact PySem.W.ki_setAt ho h0 (by omega) (by rw [List.size_toArray, ← hl]; exact h4) (by rw [hk]; exact ⟨_, I', q⟩)
  · have hk : (k + (its.toArray.size : Int)).toNat = j := by
      rw [seqIndex_neg (by omega) h3] at h1
      rw [List.size_toArray, ← hl]
      exact Option.some.inj h1
    exact PySem.W.ki_setBack ho (by omega) (by rw [List.size_toArray, ← hl]; exact h3) (by omega) (by rw [hk]; exact ⟨_, I', q⟩)
theorem slice_bounds (lo hi : Option Int) (n : Nat) : (sliceBounds lo hi none n).1 = ((HT.sIx n 0 lo : Nat) : Int) ∧ (sliceBounds lo hi none n).2.1 = ((HT.sIx n n hi : Nat) : Int) ∧ (sliceBounds lo hi none n).2.2 = 1 := by
  refine ⟨?_, ?_, rfl⟩
  · cases lo with
    | none => simp [sliceBounds, HT.sIx]
    | some i =>
      simp only [sliceBounds, HT.sIx, Option.getD_none, show (1 : Int) > 0 by decide, if_true]
      by_cases h : i < 0
      · simp only [h, if_true] <;> omega
      · simp only [h, if_false] <;> omega
  · cases hi with
    | none => simp [sliceBounds, HT.sIx]
    | some i =>
      simp only [sliceBounds, HT.sIx, Option.getD_none, show (1 : Int) > 0 by decide, if_true]
      by_cases h : i < 0
      · simp only [h, if_true] <;> omega
      · simp only [h, if_false] <;> omega
theorem slicePick_cut (its : List Value) (lo hi : Option Int) : slicePick its.toArray lo hi none = ((its.drop (HT.sIx its.length 0 lo)).take (HT.sIx its.length its.length hi - HT.sIx its.length 0 lo)).toArray := by
  obtain ⟨h1, h2, h3⟩ := slice_bounds lo hi its.toArray.size
  unfold slicePick
  rw [h1, h2, h3]
  simp only [sliceRange_one, pick_run, List.size_toArray] <;> rfl
def rSlL (K : PySem.W.Frag) : V → Option Int → Option Int → Hp → VK → Prop := fun x lo hi H Q => ∃ a xs, x = .ref a ∧ SqL K H a xs ∧ ∀ p, H p = none → Q (.ref p) (upd H p (.lst (cutV xs lo hi)))
theorem sl_list : SlR X (rSlL X.K) := by
  intro pins s σ H x v vl vu lo hi sl Q I rx hs pl pu h
  obtain ⟨a, xs, rfl, hx, q⟩ := h
  cases rx
  obtain ⟨its, r, ht, hz⟩ := I.list hx
  have hlen := r.length
  refine ⟨"list", _, slot_list_getitem.lookup, ht.isList.typeIs, ?_⟩
  refine wpAny_getItem_list_slice ht.isList hs pl pu .none (by simp) ?_ (by rw [List.size_toArray] <;> omega)
  rw [slicePick_cut, ← hlen]
  refine ⟨.ref s.heap.objs.size, _, I.laid (t' := s.toks) (o := .lst (cutV xs lo hi)) (fun b ob q => Heap.get?_push_of_some _ q) (Nat.le_refl _) ?_, rfl, q _ (I.hok.fresh (Nat.le_refl _))⟩
  exact ⟨Nat.le_trans (cutV_length xs lo hi) hz, _, 0, (r.drop (HT.sIx xs.length 0 lo)).take (HT.sIx xs.length xs.length hi - HT.sIx xs.length 0 lo), Heap.get?_push_size _ rfl⟩
def flatV : V → Bool
  | .non => true
  | .bl _ => true
  | .int _ => true
  | .str _ => true
  | _ => false
def eqV : V → V → Bool
  | .non, .non => true
  | .bl a, .bl b => a == b
  | .bl a, .int b => (if a then 1 else 0) == b
  | .int a, .bl b => a == (if b then 1 else 0)
  | .int a, .int b => a == b
  | .str a, .str b => a == b
  | _, _ => false
theorem eqAt_V {A : Around} {s : Shared} {y x : V} {u v : Value} (ry : RelV y u) (rx : RelV x v) (fy : flatV y = true) (fx : flatV x = true) : SeqAt.EqAt A s u v (eqV y x) := by
  cases y with
  | non =>
    cases ry
    cases x with
    | non => cases rx; exact SeqAt.EqAt.same _
    | bl b => cases rx; exact SeqAt.EqAt.none_bool b
    | int b => obtain ⟨t, rfl⟩ := rx; exact SeqAt.EqAt.none_int b t
    | str b => obtain ⟨t, rfl⟩ := rx; exact SeqAt.EqAt.none_str b t
    | _ => exact absurd (show false = true from fx) Bool.false_ne_true
  | bl a =>
    cases ry
    cases x with
    | non => cases rx; exact SeqAt.EqAt.bool_none a
    | bl b => cases rx; exact SeqAt.EqAt.bool_bool a b
    | int b => obtain ⟨t, rfl⟩ := rx; exact SeqAt.EqAt.bool_int a b t
    | str b => obtain ⟨t, rfl⟩ := rx; exact SeqAt.EqAt.bool_str a b t
    | _ => exact absurd (show false = true from fx) Bool.false_ne_true
  | int a =>
    obtain ⟨t', rfl⟩ := ry
    cases x with
    | non => cases rx; exact SeqAt.EqAt.int_none a t'
    | bl b => cases rx; exact SeqAt.EqAt.int_bool a t' b
    | int b => obtain ⟨t, rfl⟩ := rx; exact SeqAt.EqAt.int_int a t' b t
    | str b => obtain ⟨t, rfl⟩ := rx; exact SeqAt.EqAt.int_str a t' b t
    | _ => exact absurd (show false = true from fx) Bool.false_ne_true
  | str a =>
    obtain ⟨t', rfl⟩ := ry
    cases x with
    | non => cases rx; exact SeqAt.EqAt.str_none a t'
    | bl b => cases rx; exact SeqAt.EqAt.str_bool a t' b
    | int b => obtain ⟨t, rfl⟩ := rx; exact SeqAt.EqAt.str_int a t' b t
    | str b => obtain ⟨t, rfl⟩ := rx; exact SeqAt.EqAt.str_str a t' b t
    | _ => exact absurd (show false = true from fx) Bool.false_ne_true
  | _ => exact absurd (show false = true from fy) Bool.false_ne_true
def eqU (x : V) (u : Value) : Bool := match u with
  | .none => eqV .non x
  | .bool b => eqV (.bl b) x
  | .int i _ => eqV (.int i) x
  | .str z _ => eqV (.str z) x
  | _ => false
def inV (x : V) (xs : List V) : Bool := xs.any fun y => eqV y x
def rIn (K : PySem.W.Frag) (neg : Bool) : R2 := fun x y H Q => ∃ p xs, y = .ref p ∧ (SqL K H p xs ∨ SqT K H p xs) ∧ flatV x = true ∧ xs.all flatV = true ∧ Q (.bl (if neg then !inV x xs else inV x xs)) H
theorem call_len_seq : CallR X (.builtin "len") (fun xs H Q => ∃ p ys, xs = [.ref p] ∧ (SqL X.K H p ys ∨ SqT X.K H p ys) ∧ Q (.int ys.length) H) := by
  intro pins s σ H xs us Q I r h
  obtain ⟨p, ys, rfl, hq, q⟩ := h
  obtain ⟨u, rfl, rx⟩ := vals1 r
  cases rx
  have hn := line63
  rcases hq with hq | hq
  · obtain ⟨its, r', pl, hz⟩ := I.list hq
    have hlen := r'.length
    exact Calls.call_len_list pl.isList (by simp only [List.size_toArray] <;> omega) ⟨.int ys.length, H, I.tok _, ⟨s.toks + 1, by rw [List.size_toArray, hlen]⟩, q⟩
  · obtain ⟨its, r', pl, hz⟩ := I.tuple hq
    have hlen := r'.length
    exact len_tuple pl (by simp only [List.size_toArray] <;> omega) ⟨.int ys.length, H, I.tok _, ⟨s.toks + 1, by rw [List.size_toArray, hlen]⟩, q⟩
theorem call_len_str : CallR X (.builtin "len") (fun xs H Q => ∃ z, xs = [.str z] ∧ z.length ≤ sizeLine ∧ Q (.int z.length) H) := by
  intro pins s σ H xs us Q I r h
  obtain ⟨z, rfl, hz, q⟩ := h
  obtain ⟨u, rfl, t, rfl⟩ := vals1 r
  have hn := line63
  exact len_str (by omega) ⟨.int z.length, H, I.tok _, ⟨_, rfl⟩, q⟩
theorem CallR.or {f : Value} {r r' : List V → Hp → VK → Prop} (h : CallR X f r) (h' : CallR X f r') : CallR X f (fun xs H Q => r xs H Q ∨ r' xs H Q) := by
  intro pins s σ H xs us Q I rs q
  rcases q with q | q
  · exact h pins s σ H xs us Q I rs q
  · exact h' pins s σ H xs us Q I rs q
theorem call_list_of : CallR X (.type "list") (fun xs H Q => ∃ p ys, xs = [.ref p] ∧ (SqL X.K H p ys ∨ SqT X.K H p ys) ∧ ∀ l, H l = none → Q (.ref l) (upd H l (.lst ys))) := by
  intro pins s σ H xs us Q I r h
  obtain ⟨p, ys, rfl, hq, q⟩ := h
  obtain ⟨u, rfl, rx⟩ := vals1 r
  cases rx
  have fin : ∀ (its : List Value), Vals ys its → ys.length ≤ sizeLine → ∀ (h' : Heap) (c' : Nat), (∀ b o', s.heap.get? b = some o' → h'.get? b = some o') →
      h'.get? s.heap.objs.size = some { cls := .type "list", dict := none, data := .seq its.toArray c', slots := #[] } → EP X pins σ Q (.ref s.heap.objs.size) { s with heap := h' } := fun its r' hz h' c' kp e =>
    ⟨.ref s.heap.objs.size, _, I.laid (t' := s.toks) kp (Nat.le_refl _) (show ObjOk X.prog X.w _ h' _ (.lst ys) from ⟨hz, its, c', r', e⟩), rfl, q _ (I.hok.fresh (Nat.le_refl _))⟩
  rcases hq with hq | hq
  · obtain ⟨its, r', pl, hz⟩ := I.list hq
    have hlen := r'.length
    obtain ⟨o, ho, hc, n, hd⟩ := pl.isList
    exact call_list_seq p (.inl rfl) ho hc hd (fun h' c' kp e => fin its r' hz h' c' kp e) (by simp only [List.size_toArray] <;> omega)
  · obtain ⟨its, r', pl, hz⟩ := I.tuple hq
    have hlen := r'.length
    obtain ⟨o, ho, hc, n, hd⟩ := pl
    exact call_list_seq p (.inr rfl) ho hc hd (fun h' c' kp e => fin its r' hz h' c' kp e) (by simp only [List.size_toArray] <;> omega)
def tyV (K : PySem.W.Frag) (T : String) (x : V) (H : Hp) : Prop := match x with
  | .str _ => T = "str"
  | .int _ => T = "int"
  | .ref p => (T = "list" ∧ ∃ xs, SqL K H p xs) ∨ (T = "tuple" ∧ ∃ o, K.lookup p = some o ∧ o.cls = .type "tuple" ∧ o.dict = none) ∨
      (T = "dict" ∧ ((∃ kvs, H p = some (.dK kvs)) ∨ ∃ kvs, H p = some (.dT kvs))) ∨ (T = "set" ∧ ∃ S n, H p = some (.set S n))
  | _ => False
theorem tyV_is {pins : List (Addr × Obj)} {σ : St} {H : Hp} {s : Shared} {T : String} {x : V} {v : Value} (I : Inv X pins σ H s) (r : RelV x v) (ty : tyV X.K T x H) :
    s.TypeIs v T ∧ ∀ a, v = .ref a → ∃ ob, s.heap.get? a = some ob ∧ ob.dict = none := by
  cases x with
  | str z =>
    obtain ⟨t, rfl⟩ := r
    cases (show T = "str" from ty)
    exact ⟨typeIs_str s z t, fun _ e => nomatch e⟩
  | int i =>
    obtain ⟨t, rfl⟩ := r
    cases (show T = "int" from ty)
    exact ⟨typeIs_int s i t, fun _ e => nomatch e⟩
  | ref p =>
    cases r
    rcases ty with ⟨rfl, xs, hq⟩ | ⟨rfl, o, hk, hc, hd⟩ | ⟨rfl, hk⟩ | ⟨rfl, S, n, hk⟩
    · obtain ⟨its, _, pl, _⟩ := I.list hq
      refine ⟨pl.isList.typeIs, fun a e => ?_⟩
      cases e
      obtain ⟨o, n, e, c, hd, _⟩ := pl
      exact ⟨o, e, hd⟩
    · refine ⟨⟨o, I.kIn p o hk, hc⟩, fun a e => ?_⟩
      cases e
      exact ⟨o, I.kIn _ o hk, hd⟩
    · have z : ∃ o, s.heap.get? p = some o ∧ o.ExactDict := by
        rcases hk with ⟨kvs, hk⟩ | ⟨kvs, hk⟩
        · obtain ⟨_, _, _, _, o, _, _, e, ex, _⟩ := I.hok p _ hk
          exact ⟨o, e, ex⟩
        · obtain ⟨_, _, _, _, o, _, _, e, ex, _⟩ := I.hok p _ hk
          exact ⟨o, e, ex⟩
      obtain ⟨o, e, ex⟩ := z
      refine ⟨⟨o, e, ex.1⟩, fun a e2 => ?_⟩
      cases e2
      exact ⟨o, e, ex.2.1⟩
    · obtain ⟨o, _, _, _, e, ex, _⟩ := I.hok p _ hk
      refine ⟨⟨o, e, ex.1⟩, fun a e2 => ?_⟩
      cases e2
      exact ⟨o, e, ex.2.1⟩
  | _ => exact False.elim ty
def tBM0 (K : PySem.W.Frag) (T : String) (r : V → List V → Hp → VK → Prop) (to : TE) : TE := fun σ H Q => to σ H fun x H1 => tyV K T x H1 ∧ r x [] H1 Q
def tBM (K : PySem.W.Frag) (T : String) (r : V → List V → Hp → VK → Prop) (to : TE) (t : TA) : TE := fun σ H Q => to σ H fun x H1 => tyV K T x H1 ∧ t σ H1 fun xs H2 => r x xs H2 Q
variable {o e : Expr} {es : List Expr} {to : TE} {t : TA} {name : Str} {apos cpos : Pos} {T id : String} {r : V → List V → Hp → VK → Prop}
theorem pe_bm0 (pa : PlainAttrs T) (slot : Slot T name id) (hty : typeOf (.builtin id) = pure (.type "method_descriptor")) (hm : MtR X id r) (ho : PE X o to)
    (hbase : attributeBase o name X.env (eval o X.env) = eval o X.env := by rfl) (hline : (apos.endLine == cpos.line) = true := by rfl) : PE X (.Call (.Attribute o name apos) [] [] cpos) (tBM0 X.K T r to) := by
  intro pins s σ H Q I h
  refine wpAny_Call_method0_late hbase hline (thn (ho pins s σ H _ I h) fun v s1 ⟨x, H1, I1, r1, ty, q1⟩ => ?_)
  obtain ⟨h1, h2⟩ := tyV_is I1 r1 ty
  exact ⟨T, id, pa, slot, hty, h1, h2, Calls.callWith_builtin rfl (PySem.evalArgs_none (hm pins s1 σ H1 x [] v [] Q I1 r1 .nil q1))⟩
theorem pe_bm (pa : PlainAttrs T) (slot : Slot T name id) (hty : typeOf (.builtin id) = pure (.type "method_descriptor")) (hm : MtR X id r) (ho : PE X o to) (ha : PA X (e :: es) t)
    (hbase : attributeBase o name X.env (eval o X.env) = eval o X.env := by rfl)
    (hfew : ((backTo cpos (starEach (e :: es) X.env)).all (fun x => !x.1) && (backToKw cpos (keywordEach [] X.env)).all (fun x => x.1.isSome)
      && decide ((e :: es).length + ([] : List Keyword).length + (if ([] : List Keyword).isEmpty then 0 else 1) < 30)) = true := by rfl)
    (hline : (apos.endLine == cpos.line) = true := by rfl) (hs : starEach (e :: es) X.env = (false, eval e X.env) :: starEach es X.env := by rfl) (hplain : (backTo cpos (starEach es X.env)).any (·.1) = false := by rfl) :
    PE X (.Call (.Attribute o name apos) (e :: es) [] cpos) (tBM X.K T r to t) := by
  intro pins s σ H Q I h
  refine wpAny_Call_method_late hbase hfew hline rfl (thn (ho pins s σ H _ I h) fun v s1 ⟨x, H1, I1, r1, ty, q1⟩ => ?_)
  obtain ⟨h1, h2⟩ := tyV_is I1 r1 ty
  refine ⟨T, id, pa, slot, hty, h1, h2, ?_⟩
  have hA := ha cpos pins s1 σ H1 _ I1 q1
  rw [hs] at hA ⊢
  refine Calls.callWith_builtin (by show (false || (backTo cpos (starEach es X.env)).any (·.1)) = false; rw [hplain] <;> rfl) (Calls.evalArgs_plain ?_)
  exact thn hA fun us s2 ⟨vs, H2, I2, r2, q2⟩ => hm pins s2 σ H2 x vs v us Q I2 r1 r2 q2
/- xs.append(e), list.index on a module's tuple .. are MtR facts of 06m -/
end
end L2
namespace L2
open PySem PySem.Spec PyProof.Rows
def MtM (X : Cx) (id : String) (r : V → List V → Hp → VK → Prop) : Prop :=
  ∀ (pins : List (Addr × Obj)) (s : Shared) (σ : St) (H : Hp) (x : V) (xs : List V) (v : Value) (us : List Value) (Q : VK), Inv X pins σ H s → RelV x v → Vals xs us → r x xs H Q →
    wpAny (model X.prog X.w) X.A (call (.builtin id) (v :: us)) (EP X pins σ Q) X.xe s
theorem Vals.one : ∀ {x : V} {us : List Value}, Vals [x] us → ∃ u, us = [u] ∧ RelV x u
  | _, _, .cons r .nil => ⟨_, rfl, r⟩
theorem Vals.two : ∀ {x y : V} {us : List Value}, Vals [x, y] us → ∃ u v, us = [u, v] ∧ RelV x u ∧ RelV y v
  | _, _, _, .cons r (.cons q .nil) => ⟨_, _, rfl, r, q⟩
theorem Vals.zero : ∀ {us : List Value}, Vals [] us → us = []
  | _, .nil => rfl
theorem Vals.dropLast {xs : List V} {us : List Value} (h : Vals xs us) : Vals xs.dropLast us.dropLast := by
  induction h with
  | nil => exact .nil
  | cons r t ih =>
    cases t with
    | nil => exact .nil
    | cons q t' => exact .cons r ih
theorem Vals.eraseIdx : ∀ {xs : List V} {us : List Value} (i : Nat), Vals xs us → Vals (xs.eraseIdx i) (us.eraseIdx i)
  | _, _, _, .nil => .nil
  | _, _, 0, .cons _ t => t
  | _, _, i + 1, .cons r t => .cons r (Vals.eraseIdx i t)
theorem Vals.reverse {xs : List V} {us : List Value} (h : Vals xs us) : Vals xs.reverse us.reverse := by
  induction h with
  | nil => exact .nil
  | cons r t ih => rw [List.reverse_cons, List.reverse_cons]; exact Vals.append ih (.cons r .nil)
theorem Vals.rep {xs : List V} {us : List Value} (h : Vals xs us) : ∀ k : Nat, Vals (List.replicate k xs).flatten (List.replicate k us).flatten
  | 0 => .nil
  | k + 1 => by
    rw [List.replicate_succ, List.replicate_succ, List.flatten_cons, List.flatten_cons]
    exact Vals.append h (Vals.rep h k)
theorem foldl_rep (its : List Value) : ∀ (k : Nat) (acc : List Value),
    List.foldl (fun x1 x2 => x1 ++ x2) acc.toArray (List.replicate k its.toArray) = (acc ++ (List.replicate k its).flatten).toArray
  | 0, acc => by simp
  | k + 1, acc => by
    have e : acc.toArray ++ its.toArray = (acc ++ its).toArray := by simp
    have e2 : (acc ++ its) ++ (List.replicate k its).flatten = acc ++ (List.replicate (k + 1) its).flatten := by
      rw [List.replicate_succ, List.flatten_cons, List.append_assoc]
    rw [← e2, ← foldl_rep its k (acc ++ its), ← e, List.replicate_succ, List.foldl_cons]
section
variable {X : Cx} {pins : List (Addr × Obj)} {σ : St} {H : Hp} {s : Shared} {l b : Addr} {xs ys zs : List V}
theorem Inv.lset {its its' : List Value} {n : Nat} {f : Array Value → Array Value} {t' : Nat} (I : Inv X pins σ H s) (hH : H l = some (.lst xs))
    (e : s.heap.get? l = some { cls := .type "list", data := .seq its.toArray n }) (hf : f its.toArray = its'.toArray) (hv : Vals ys its') (hz : ys.length ≤ sizeLine) :
    Inv X pins σ (upd H l (.lst ys)) { s with heap := s.heap.update l (Obj.mapSeq f), toks := t' } := by
  have q := PySem.IsL.update e f
  rw [hf] at q
  refine I.write (x := l) (e := l) (by rw [hH]; exact trivial) (.inl rfl) (fun b' u hb hu => (Heap.get?_update_other s.heap (Obj.mapSeq f) (Ne.symm hb)).trans hu) ⟨_, q⟩ ?_
  exact ⟨hz, its', _, hv, q⟩
theorem Inv.lnew {its : List Value} {t' : Nat} (I : Inv X pins σ H s) (hv : Vals ys its) (hz : ys.length ≤ sizeLine) :
    Inv X pins σ (upd H s.heap.objs.size (.lst ys)) { s with heap := s.heap.push { cls := .type "list", data := .seq its.toArray }, toks := t' } :=
  I.laid (fun _ _ q => Heap.get?_push_of_some _ q) (Nat.le_refl _) ⟨hz, its, 0, hv, Heap.get?_push_size _ rfl⟩
theorem Inv.fresh (I : Inv X pins σ H s) : H s.heap.objs.size = none := I.hok.fresh (Nat.le_refl _)
theorem Inv.lstM (I : Inv X pins σ H s) (hH : H l = some (.lst xs)) : xs.length ≤ sizeLine ∧ ∃ (its : List Value) (n : Nat), Vals xs its ∧ xs.length = its.length ∧ s.heap.get? l = some { cls := .type "list", data := .seq its.toArray n } := by
  obtain ⟨z, its, n, r, e⟩ := I.hok l _ hH
  exact ⟨z, its, n, r, r.length, e⟩
theorem notLongL {n : Nat} (h : n ≤ sizeLine) : Builtin.List.listTooLong n = false := by
  unfold Builtin.List.listTooLong
  exact decide_eq_false (by omega)
end
section
variable {X : Cx}
def rAppend : V → List V → Hp → VK → Prop := fun x vs H Q => ∃ l xs y, x = .ref l ∧ vs = [y] ∧ H l = some (.lst xs) ∧ xs.length < sizeLine ∧ Q .non (upd H l (.lst (xs ++ [y])))
theorem mt_append : MtM X "list.append" rAppend := by
  intro pins s σ H x vs v us Q I rx rv h
  obtain ⟨l, xs, y, rfl, rfl, hH, hz, q⟩ := h
  cases rx
  obtain ⟨u, rfl, ru⟩ := rv.one
  obtain ⟨z, its, n, r, hl, e⟩ := I.lstM hH
  refine call_meets F.slot_list_append ⟨_, e, rfl⟩ F.entry_list_append (F.args_list_append_2 _ _) (PySem.list_append l its.toArray n u (by rw [List.size_toArray]; omega)) ⟨e, ?_⟩
  refine ⟨.non, _, I.lset (its' := its ++ [u]) hH e (by simp) (r.append (.cons ru .nil)) ?_, rfl, q⟩
  rw [List.length_append, List.length_singleton]
  omega
def rExtend : V → List V → Hp → VK → Prop := fun x vs H Q => ∃ l b xs zs, x = .ref l ∧ vs = [.ref b] ∧ H l = some (.lst xs) ∧ H b = some (.lst zs) ∧ xs.length + zs.length ≤ sizeLine ∧ Q .non (upd H l (.lst (xs ++ zs)))
theorem mt_extend : MtM X "list.extend" rExtend := by
  intro pins s σ H x vs v us Q I rx rv h
  obtain ⟨l, b, xs, zs, rfl, rfl, hH, hB, hz, q⟩ := h
  cases rx
  obtain ⟨u, rfl, ru⟩ := rv.one
  cases ru
  obtain ⟨z, its, n, r, hl, e⟩ := I.lstM hH
  obtain ⟨z2, its2, n2, r2, hl2, e2⟩ := I.lstM hB
  have hsz : its.toArray.size + its2.toArray.size ≤ sizeLine := by rw [List.size_toArray, List.size_toArray]; omega
  have hlong : ¬ (!its.toArray.isEmpty && Builtin.List.listTooLong (its.toArray.size + its2.toArray.size)) = true := by
    rw [notLongL hsz, Bool.and_false]
    exact Bool.false_ne_true
  refine call_meets F.slot_list_extend ⟨_, e, rfl⟩ F.entry_list_extend (F.args_list_extend_2 _ _)
    (AutoSeq1.list_extend_list_list_0 l its.toArray n b its2.toArray n2 hlong (by rw [List.size_toArray]; omega) (by omega)) ⟨e, e2, ?_⟩
  refine ⟨.non, _, I.lset (its' := its ++ its2) hH e (by simp) (r.append r2) ?_, rfl, q⟩
  rw [List.length_append]
  omega
def rPop : V → List V → Hp → VK → Prop := fun x vs H Q => ∃ l xs y, x = .ref l ∧ vs = [] ∧ H l = some (.lst xs) ∧ xs[xs.length - 1]? = some y ∧ Q y (upd H l (.lst xs.dropLast))
def rPopAt : V → List V → Hp → VK → Prop := fun x vs H Q => ∃ l xs i k y, x = .ref l ∧ vs = [.int i] ∧ H l = some (.lst xs) ∧ -(2 ^ 63) ≤ i ∧ i < 2 ^ 63 ∧ seqIndex? i xs.length = some k ∧ xs[k]? = some y ∧ Q y (upd H l (.lst (xs.eraseIdx k)))
def rReverse : V → List V → Hp → VK → Prop := fun x vs H Q => ∃ l xs, x = .ref l ∧ vs = [] ∧ H l = some (.lst xs) ∧ Q .non (upd H l (.lst xs.reverse))
def rClear : V → List V → Hp → VK → Prop := fun x vs H Q => ∃ l xs, x = .ref l ∧ vs = [] ∧ H l = some (.lst xs) ∧ Q .non (upd H l (.lst []))
def rCat : R2 := fun x y H Q => ∃ l b xs zs, x = .ref l ∧ y = .ref b ∧ H l = some (.lst xs) ∧ H b = some (.lst zs) ∧ xs.length + zs.length ≤ sizeLine ∧ ∀ p, H p = none → Q (.ref p) (upd H p (.lst (xs ++ zs)))
theorem op_cat : OpR X (binaryOp .Add) rCat := by
  intro pins s σ H x y v u Q I rx ry h
  obtain ⟨l, b, xs, zs, rfl, rfl, hH, hB, hz, q⟩ := h
  cases rx
  cases ry
  obtain ⟨z, its, n, r, hl, e⟩ := I.lstM hH
  obtain ⟨z2, its2, n2, r2, hl2, e2⟩ := I.lstM hB
  refine PySem.P.add_list e e2 ?_ (by rw [List.size_toArray, List.size_toArray]; omega)
  have ea : its.toArray ++ its2.toArray = (its ++ its2).toArray := by simp
  rw [ea]
  exact ⟨.ref _, _, I.lnew (t' := s.toks) (r.append r2) (by rw [List.length_append]; omega), rfl, q _ I.fresh⟩
def rRep : R2 := fun x y H Q => ∃ l k xs, x = .ref l ∧ y = .int k ∧ H l = some (.lst xs) ∧ -(2 ^ 63) ≤ k ∧ k < 2 ^ 63 ∧ xs.length * k.toNat ≤ sizeLine ∧
  ∀ p, H p = none → Q (.ref p) (upd H p (.lst (List.replicate k.toNat xs).flatten))
theorem len_rep {α : Type} (xs : List α) (k : Nat) : (List.replicate k xs).flatten.length = k * xs.length := by
  induction k with
  | zero => simp
  | succ k ih => rw [List.replicate_succ, List.flatten_cons, List.length_append, ih, Nat.succ_mul, Nat.add_comm]
theorem op_rep : OpR X (binaryOp .Mult) rRep := by
  intro pins s σ H x y v u Q I rx ry h
  obtain ⟨l, k, xs, rfl, rfl, hH, h1, h2, hz, q⟩ := h
  cases rx
  obtain ⟨t, rfl⟩ := ry
  obtain ⟨z, its, n, r, hl, e⟩ := I.lstM hH
  have hlen : its.toArray.size * k.toNat ≤ sizeLine := by rw [List.size_toArray, ← hl]; exact hz
  have hcap : ¬ its.toArray.size * k.toNat > (2 ^ 63 - 1) / 8 := by
    have : (sizeLine : Nat) ≤ (2 ^ 63 - 1) / 8 := by decide
    omega
  have hfit : ¬ (!Builtin.List.listFitsIndex k) = true := by
    rw [fitsIndex_both h1 h2]
    exact Bool.false_ne_true
  have hlong : ¬ Builtin.List.listTooLong (its.toArray.size * k.toNat) = true := by
    rw [notLongL hlen]
    exact Bool.false_ne_true
  have hnew : List.foldl (fun x1 x2 => x1 ++ x2) #[] (List.replicate (if its.toArray.isEmpty = true then 0 else k.toNat) its.toArray) = (List.replicate k.toNat its).flatten.toArray := by
    have f0 : ∀ m : Nat, List.foldl (fun x1 x2 => x1 ++ x2) #[] (List.replicate m its.toArray) = (List.replicate m its).flatten.toArray := fun m => by
      have := foldl_rep its m []
      rw [List.nil_append] at this
      exact this
    rw [f0]
    cases its with
    | nil => simp
    | cons a r' => rw [if_neg (by simp)]
  refine wpAny_binaryOp_repeat_ref (T := "list") (U := "int") (by decide) ⟨_, e, rfl⟩ (fun s' => typeIs_int s' k t) noFill_list_mul F.fills_int_mul F.slot_int_rmul repeat_list F.slot_int_index.lookup
    (call_meets F.slot_int_rmul (typeIs_int s k t) F.entry_int_rmul (F.args_int_rmul_2 _ _) (int___rmul___int_list k t l its.toArray n)
      ⟨e, rfl, ⟨_, e, rfl⟩, call_meets F.slot_list_mul ⟨_, e, rfl⟩ F.entry_list_mul (F.args_list_mul_2 _ _) (AutoListH.list___mul___list_int_3 l its.toArray n k t hfit hcap hlong) ⟨e, ?_⟩⟩)
  rw [hnew]
  exact ⟨.ref _, _, I.lnew (t' := s.toks) (r.rep k.toNat) (by rw [len_rep, Nat.mul_comm]; exact hz), rfl, q _ I.fresh⟩
end
section
variable {prog : Program} {w : World} {A : Around} {E : Value → Shared → Prop} {s : Shared}
end
section
variable {X : Cx}
end
end L2
namespace Att
open PySem PySem.W PySem.Calls PyProof.Rows
theorem ints_of_wellAll {P : Params} {h : Heap} : ∀ (ns : List Int) (vs : List Value), WellAll P h vs (ns.map WData.int) → IntsAre vs ns := by
  intro ns
  induction ns with
  | nil =>
    intro vs w
    rw [List.map_nil] at w
    cases w
    exact .nil
  | cons n ns ih =>
    intro vs w
    rw [List.map_cons] at w
    cases w with
    | cons a b =>
      cases a
      exact .cons _ _ (ih _ b)
theorem script_of {l : OpenLaw} {n : Nat} (hn : l.most = some n) {P : Params} {h : Heap} {args : List WData} {vals : List Value}
    (hpre : l.row.toRowW.claim.pre args = true) (hwl : WellAll P h vals args) :
    ∃ a vs ns, vals = [Value.ref a] ∧ args = [WData.list (ns.map WData.int)] ∧ h.get? a = some { cls := .type "list", data := .seq vs.toArray } ∧ IntsAre vs ns ∧ ns.length ≤ n := by
  have hsh : WShape.hasAll [] args [.list .int] = true := (pre_splitW hpre).1
  have hc : l.pre.holds [] { args := args } = true := (pre_splitW hpre).2
  obtain ⟨d, r, rfl, h1, h2⟩ := hasAllW_cons hsh
  obtain rfl := hasAllW_nil h2
  obtain ⟨xs, rfl, h3⟩ := hasW_list h1
  obtain ⟨ns, rfl⟩ := items_int h3
  have hlen : ns.length ≤ n := by
    unfold OpenLaw.pre at hc
    have h4 : (WTm.not (.lt (.lit (.int (n : Int))) (.len (.arg 0)))).holds [] { args := [.list (ns.map .int)] } = true := by
      have h4 := (holds_andW hc).1
      rw [hn] at h4
      exact h4
    have h5 := condW_of h4 (w_not (w_lt w_lit (w_len_list (w_arg rfl))))
    rw [List.length_map] at h5
    refine Nat.le_of_not_lt fun q => ?_
    have q' : (n : Int) < ((ns.length : Nat) : Int) := by omega
    first
      | (rw [decide_eq_true q'] at h5; exact absurd h5 (by decide))
      | (simp at h5; omega)
  cases hwl with
  | cons w1 w2 =>
    cases w2
    cases w1 with
    | list ho hall => exact ⟨_, _, ns, rfl, rfl, ho, ints_of_wellAll ns _ hall, hlen⟩
theorem post_true (l : OpenLaw) (args : List WData) : l.row.toRowW.claim.post args (.bool true) args = true :=
  postW_of (r := l.row.toRowW) (X := (true == true))
    (show WShape.has [] (.bool true) .bool = true by first | rfl | decide | simp [WShape.has, WShape.arms, WShape.armsAll])
    (show (WTm.eq .res (.lit (.bool true))).value [] { args := args, res := some (.bool true), after := args } = some (.bool (true == true)) from w_eq_bool (w_res rfl) w_lit) rfl
theorem attach_call {l : OpenLaw} {n : Nat} {q : Program} {loose : List Str} {XP : (Str → Option Value) → Heap → Prop} {YP : World → Heap → Prop} {d : DefRec}
    (hn : l.most = some n) (hdf : d.params.defaults = [])
    (call : ∀ (w : World) (s₀ s₁ : Shared) (mg mb : Str → Option Value) (fa : Addr) (o : Obj) (pm cd doc : Value) (a : Addr) (vs : List Value) (ns : List Int),
      Ground q loose [] XP w s₀ mg mb s₁.heap → YP w s₁.heap →
      s₁.heap.get? fa = some o → o.data = .func (docDef d.name d.params d.body d.scope pm cd doc) → s₁.heap.CodeRec cd d.name → mg d.name = some (.ref fa) →
      s₁.heap.get? a = some { cls := .type "list", data := .seq vs.toArray } → IntsAre vs ns → ns.length ≤ n → s₁.gens = #[] →
      codeAny (model l.prog w) callerA (.call (.ref fa) ⟨[.ref a], []⟩) (fun r s' => r = .ok (.ret (.bool true)) ∧ OldK s₁.heap s'.heap ∧ s'.os = s₁.os ∧ AllBare s'.gens) s₁) :
    WalkO q loose XP YP l.row.toRowW d [] (fun f vs => PySem.call f vs) := by
  intro w s₀ s₁ mg mb G Y fa o pm cd doc dV kV ho hd hcd hD hmg hg args vals as hpre hlay hrd hwl hlo
  obtain rfl : dV = .none := Dflts.none hD hdf
  obtain rfl : kV = .none := Dflts.noKw hD
  obtain ⟨a, vs, ns, rfl, rfl, hobj, hints, hlen⟩ := script_of hn hpre hwl
  refine enter_call (codeAny_mono (call w s₀ s₁ mg mb fa o pm cd doc a vs ns G Y ho (fd_plain hd) hcd hmg hobj hints hlen hg) fun r s' hq => ?_)
  obtain ⟨rfl, h2, h3, h4⟩ := hq
  exact ⟨.inl ⟨.bool true, .bool true, [], rfl, fun _ => rfl, .bool true, post_true l _, fun _ => ⟨List.Pairwise.nil, fun _ hm => (nomatch hm)⟩⟩, h2, h3, h4⟩
section
variable {prog : Program} {w : World} {A : Around} {E : Value → Shared → Prop} {s : Shared} {K : Frag}
def noObjs (h : Heap) : Heap := { h with objs := #[] }
def ledger (h : Heap) (L d : Addr) : List (Addr × Obj) := (List.range h.objs.size).filterMap fun a => if a = L ∨ a = d then none else (h.get? a).map fun o => (a, o)
end
end Att
namespace L2
open PySem PySem.Spec PyProof.Rows
theorem vals_ints : ∀ {vs : List Value} {ns : List Int}, IntsAre vs ns → Vals (ns.map V.int) vs
  | _, _, .nil => .nil
  | _, _, .cons n t h => .cons ⟨t, rfl⟩ (vals_ints h)
def Only (H : Hp) : Prop := ∀ b, H b = none ∨ ∃ o xs, H b = some (.frz o (.lst xs))
theorem law_call {P : Program} {w : World} {K : PySem.W.Frag} {mg mb : Str → Option Value} {CX : CXT} {k : Nat} {fa a : Addr} {fd : FuncData} {x : Str} {sp : Sp} {s₁ : Shared} {vs : List Value} {ns : List Int}
    (KX : K.In s₁.heap) (hns : s₁.heap.Ns mainGlobals mg) (hb : s₁.heap.Ns builtinsNs mb) (hbb : ∀ x : Str, x ≠ "__name__" → mb x = bootBuiltins x) (hlim : s₁.heap.NoLimit) (hg : s₁.gens = #[])
    (ha : s₁.heap.get? a = some { cls := .type "list", data := .seq vs.toArray }) (hi : IntsAre vs ns) (hl : ns.length ≤ sizeLine) (hr : Room k callerA)
    (F : ∀ base : Heap, K.In base → base.Ns mainGlobals mg → FnOk P w K mg base CX k fa fd [x] sp) (hbind : ∀ (s : Shared) (u : Value), BindsTo s fd ⟨[u], []⟩ [(x, u)])
    (hsp : ∀ H : Hp, Only H → SqL K H a (ns.map V.int) → sp [.ref a] H (fun v _ => v = .bl true) fun _ _ _ => False)
    (hCX : ∀ H e s', CX [] H s₁ (fun _ _ _ => False) e s' → False) :
    codeAny (model P w) callerA (.call (.ref fa) ⟨[.ref a], []⟩) (fun r s' => r = .ok (.ret (.bool true)) ∧ OldK s₁.heap s'.heap ∧ s'.os = s₁.os ∧ AllBare s'.gens) s₁ := by
  have rv := vals_ints hi
  have lenV := hi.length
  -- from an abstract heap in which nothing but the script may be tracked
  have core : ∀ H : Hp, Only H → SqL K H a (ns.map V.int) → HOk P w H s₁.heap → (∀ b, H b ≠ none → b = a) → (H a ≠ none → K.lookup a = none) →
      codeAny (model P w) callerA (.call (.ref fa) ⟨[.ref a], []⟩) (fun r s' => r = .ok (.ret (.bool true)) ∧ OldK s₁.heap s'.heap ∧ s'.os = s₁.os ∧ AllBare s'.gens) s₁ := by
    intro H hO hS hok hA hK
    have base_of : ∀ {b : Addr} {o : Obj}, s₁.heap.get? b = some o → H b = none → (hidT s₁.heap H).get? b = some o := fun e n => hidT_get e n
    have noA : ∀ {b : Addr} {o : Obj} {es : Array DictEntry} {ep : Nat}, s₁.heap.get? b = some o → o.data = .dict es ep → H b = none := fun {b o es ep} e d => by
      cases q : H b with
      | none => rfl
      | some u =>
        have e' : b = a := hA b (by rw [q]; simp)
        subst e'
        rw [ha] at e; cases e
        have d' : Data.seq vs.toArray _ = Data.dict es ep := d
        cases d'
    have nsK : ∀ {b : Addr} {m : Str → Option Value}, s₁.heap.Ns b m → (hidT s₁.heap H).Ns b m := fun {b m} ⟨o, es, ep, e, d, r⟩ => ⟨o, es, ep, base_of e (noA e d), d, r⟩
    have hKb : K.In (hidT s₁.heap H) := fun b o e => base_of (KX b o e) (by
      cases q : H b with
      | none => rfl
      | some u =>
        have e' : b = a := hA b (by rw [q]; simp)
        subst e'
        rw [hK (by rw [q]; simp)] at e; cases e)
    have hM : Mod K mg (hidT s₁.heap H) := ⟨hKb, nsK hns, ⟨mb, nsK hb, hbb⟩, let ⟨mc, h1, h2⟩ := hlim; ⟨mc, nsK h1, h2⟩⟩
    have e0 : Env0 P w K mg (hidT s₁.heap H) callerA [] s₁ H := ⟨rfl, hM, fun b o e => of_hidT e, Nat.le_of_eq (hidT_size _ _), trivial, fun b hb => absurd (show b ∈ ([] : List Addr) from hb) (by simp), hok, .of_eq hg⟩
    refine codeAny_mono ((F _ hKb (nsK hns)).run callerA [] s₁ H ⟨[.ref a], []⟩ [.ref a] [.ref a] _ _ hr e0 (hbind s₁ (.ref a)) (.cons rfl .nil) (hsp H hO hS)) fun r s' h => ?_
    cases r with
    | error e => exact (hCX H e s' h).elim
    | ok fl =>
      cases fl with
      | next => exact False.elim h
      | brk => exact False.elim h
      | cont => exact False.elim h
      | ret u =>
        obtain ⟨v, H', os, bare, un, hok', r', q⟩ := h
        have q' : v = .bl true := q
        subst q'
        obtain rfl : u = Value.bool true := r'
        refine ⟨rfl, OldK.of_keep fun b o e => ?_, os, bare⟩
        cases q : H b with
        | none => exact un.keep b o e q (by intro z; exact absurd (show b ∈ ([] : List Addr) from z) (by simp)) (by simp)
        | some u =>
          rcases hO b with z | ⟨ob, xs, z⟩
          · rw [q] at z; cases z
          · have z2 := un.frzs b ob _ z
            obtain ⟨e1, _⟩ := hok b _ z
            obtain ⟨e2, _⟩ := hok' b _ z2
            rw [e] at e1; cases e1
            exact e2
  cases hk : K.lookup a with
  | some o =>
    -- the script is one of the module's own objects
    have e := KX a o hk
    rw [ha] at e
    cases e
    refine core (fun _ => none) (fun _ => .inl rfl) (.inr ⟨_, vs.toArray, _, hk, rfl, rfl, rfl, by rw [List.size_toArray, lenV]; exact hl, by simpa using rv⟩) (fun b u z => by have z' : (none : Option HO) = some u := z; cases z') (fun b z => absurd rfl z) fun z => absurd rfl z
  | none =>
    refine core (fun b => if b = a then some (.frz { cls := .type "list", data := .seq vs.toArray } (.lst (ns.map V.int))) else none) (fun b => ?_) (.inl (.inr ⟨{ cls := .type "list", data := .seq vs.toArray }, if_pos rfl⟩)) (fun b u z => ?_) (fun b z => ?_) fun _ => hk
    · by_cases hb : b = a
      · exact .inr ⟨_, _, if_pos hb⟩
      · exact .inl (if_neg hb)
    · by_cases hb : b = a
      · have z' := (if_pos hb).symm.trans z
        cases z'
        subst hb
        exact ⟨ha, by rw [List.length_map]; exact hl, vs, _, rv, ha⟩
      · have z' := (if_neg hb).symm.trans z
        cases z'
    · by_cases hb : b = a
      · exact hb
      · exact absurd (if_neg hb) z
end L2
namespace L2
open PySem PySem.Spec PyProof.Rows
abbrev KOf {K : PySem.W.Frag} {h : Heap} (_ : K.In h) : PySem.W.Frag := K
theorem walk_of {l : PySem.W.OpenLaw} {n k : Nat} {q : Program} {loose : List Str} {XP : (Str → Option Value) → Heap → Prop} {YP : World → Heap → Prop} {d : DefRec} {K : Params → PySem.W.Frag} {CX : World → CXT} {sp : World → Sp} {x : Str}
    (hn : l.most = some n) (hn2 : n ≤ sizeLine) (hdf : d.params.defaults = []) (hr : Room k callerA)
    (hY : ∀ (w : World) (h : Heap), YP w h → (K w.params).In h)
    (F : ∀ (w : World) (mg : Str → Option Value) (fa : Addr) (h : Heap), (K w.params).In h → h.Ns mainGlobals mg → mg d.name = some (.ref fa) →
      ∃ fd : FuncData, (∀ (s : Shared) (u : Value), BindsTo s fd ⟨[u], []⟩ [(x, u)]) ∧
        ∀ base : Heap, (K w.params).In base → base.Ns mainGlobals mg → FnOk l.prog w (K w.params) mg base (CX w) k fa fd [x] (sp w))
    (hsp : ∀ (w : World) (H : Hp) (a : Addr) (ns : List Int), ns.length ≤ n → Only H → SqL (K w.params) H a (ns.map V.int) → sp w [.ref a] H (fun v _ => v = .bl true) fun _ _ _ => False)
    (hCX : ∀ (w : World) (H : Hp) (s : Shared) (e : Value) (s' : Shared), CX w [] H s (fun _ _ _ => False) e s' → False) :
    PySem.W.WalkO q loose XP YP l.row.toRowW d [] (fun f vs => PySem.call f vs) := by
  refine Att.attach_call hn hdf fun w s₀ s₁ mg mb fa o pm cd doc a vs ns G Y ho hd hcd hmg hobj hints hlen hg => ?_
  have KX := hY w _ Y
  obtain ⟨fd, hb, hF⟩ := F w mg fa _ KX G.T.g hmg
  exact law_call KX G.T.g G.T.b G.T.builtins G.T.nolimit hg hobj hints (Nat.le_trans hlen hn2) hr hF hb (fun H hO hS => hsp w H a ns hlen hO hS) fun H e s' => hCX w H s₁ e s'
end L2
/- THE LAST THEOREM (shape; LID, My.* are yours):
   My.Adr: a structure of the addresses that your layer names (classes, functions); My.Txt K t: a structure (Prop) of the equations over K;
   My.txt_mk : {K} {implicit addresses ..} (e1 : nsIn K mainGlobals "law" = some (some (.ref f))) (e2 : K.lookup f = some ⟨oc, od, .func (fnOf "law" "law" params body scope dV kV doc pm an cdv ct), sl⟩) (e3 : codeIn K cdv "law" = true) .. : ∃ t, My.Txt K t
set_option maxRecDepth 100000 in
set_option maxHeartbeats 0 in
theorem PySem.Challenge.cw_LID_holds : PySem.Challenge.rw_LID.Holds := by
  w_on; o_law; k_head; (case hw => w_witness2)
  k_fill
  refine L2.walk_of (l := PySem.Challenge.rw_LID) (n := 63) (k := 40) (x := "script") (CX := fun w => ..) (sp := fun _ => My.sp_law) rfl (by decide) rfl ⟨rfl, by decide, by decide⟩ (fun w h Y => PySem.W.kIn_of Y) ?F ?S ?C
  case F =>
    intro w mg fa h KX G hmg
    have T : ∃ t, My.Txt (L2.KOf KX) t := by
      dsimp only [L2.KOf]                          -- K must stand as «<heap const> w.params» for k_is
      refine' My.txt_mk ?e1 ?e2 ?e3 ..
      (case e1 => PySem.W.k_is)                    -- in the order: a name -> its address -> its object -> its parts
      (case e2 => PySem.W.k_is)
      ..
    obtain ⟨t, T⟩ := T
    have e0 := hmg.symm.trans (PySem.W.mg_of KX G T.law)
    cases e0                                       -- fa is the law's own address
    exact ⟨_, fun s u => .of_eq rfl, fun base kb nb => My.law_fn T kb nb⟩     -- if «.of_eq rfl» comes too early: refine' ⟨_, ?b, fun base kb nb => My.law_fn T kb nb⟩; exact fun s u => .of_eq rfl
  case S => exact fun w H a ns hl hO hS => ..
  case C => exact ..
(the tactic k_is has no namespace: write k_is) -/
namespace L2
open PySem PySem.Spec PyProof.Rows
def inClass (s : Stmt) (j : Nat) : Stmt := match s with
  | .ClassDef _ _ _ body _ _ _ _ _ _ _ => body.getD j (.Pass ⟨0, 0, 0, 0⟩)
  | _ => .Pass ⟨0, 0, 0, 0⟩
def defArgs (s : Stmt) : Arguments := match s with
  | .FunctionDef _ a _ _ _ _ _ _ _ _ => a
  | _ => { posonlyargs := [], args := [], vararg := none, kwonlyargs := [], kw_defaults := [], kwarg := none, defaults := [] }
def defBody (s : Stmt) : List Stmt := match s with
  | .FunctionDef _ _ b _ _ _ _ _ _ _ => b
  | _ => []
def defScope (s : Stmt) : Scope := match s with
  | .FunctionDef _ _ _ _ _ _ sc _ _ _ => sc
  | _ => { kind := .function, names := [], isGenerator := false, isCoroutine := false }
abbrev CX0 : CXT := fun _ _ _ _ _ _ => False
abbrev E0 : XK := fun _ _ _ => False
theorem pass0 {X : Cx} : Passes CX0 X E0 := fun _ _ _ _ _ _ _ h => h.elim
structure Fun (K : PySem.W.Frag) (x qual : Str) (st : Stmt) (f : Addr) (fd : FuncData) : Prop where
  ex : ∃ (oc : Value) (od : Option Addr) (kV doc pm : Value) (an : Option Addr) (cdv ct : Value) (osl : Array (Option Value)),
    fd = PySem.W.fnOf x qual (defArgs st) (defBody st) (defScope st) .none kV doc pm an cdv ct ∧ K.lookup f = some ⟨oc, od, .func fd, osl⟩ ∧ PySem.W.codeIn K cdv qual = true
  kp : PySem.W.keepIn K (.ref f) = true
section
variable {P : Program} {w : World} {K : PySem.W.Frag} {mg : Str → Option Value} {base : Heap}
theorem Fun.ok {x qual : Str} {st : Stmt} {f : Addr} {fd : FuncData} {N ps : List Str} {k : Nat} {sp : Sp} (F : Fun K x qual st f fd) (S : FnScope N ps (defScope st)) (len : ∀ vs H Q E, sp vs H Q E → vs.length = ps.length)
    (hbody : ∀ (cdv : Value) (A : Around) (outer : List Env) (s : Shared) (H : Hp) (vs : List V) (Q : VK) (E : XK), Room k (A.deeper (envOfC qual (defScope st) s.heap.objs.size f cdv)) → sp vs H Q E →
      ∃ t, PSs (cxOf CX0 P w K mg base N qual (defScope st) f cdv A outer s H E).nox (defBody st) t ∧ t { nx := fun _ H' => Q .non H', rt := Q } (start N vs) H) : FnOk P w K mg base CX0 (k + 1) f fd ps sp := by
  obtain ⟨oc, od, kV, doc, pm, an, cdv, ct, osl, rfl, lk, hcd⟩ := F.ex
  refine fn_of lk hcd S len fun A outer s H vs Q E hr hsp => ?_
  obtain ⟨t, h, q⟩ := hbody cdv A outer s H vs Q E hr hsp
  exact ⟨t, h.nox, q⟩
theorem Fun.binds {x qual : Str} {st : Stmt} {f : Addr} {fd : FuncData} {ps : List Str} (F : Fun K x qual st f fd)
    (h : ∀ (kV doc pm : Value) (an : Option Addr) (cdv ct : Value) (us : List Value), us.length = ps.length → bindArgs (PySem.W.fnOf x qual (defArgs st) (defBody st) (defScope st) .none kV doc pm an cdv ct) ⟨us, []⟩ = pure (ps.zip us)) : Binds K fd ps [] := by
  obtain ⟨oc, od, kV, doc, pm, an, cdv, ct, osl, rfl, lk, hcd⟩ := F.ex
  exact .all (h kV doc pm an cdv ct)
theorem fun_mk {x qual : Str} {st : Stmt} {f : Addr} {oc : Value} {od an : Option Addr} {osl : Array (Option Value)} {kV doc pm cdv ct : Value} (l : K.lookup f = some ⟨oc, od, .func (PySem.W.fnOf x qual (defArgs st) (defBody st) (defScope st) .none kV doc pm an cdv ct), osl⟩)
    (c : PySem.W.codeIn K cdv qual = true) (k : PySem.W.keepIn K (.ref f) = true) : Fun K x qual st f (PySem.W.fnOf x qual (defArgs st) (defBody st) (defScope st) .none kV doc pm an cdv ct) := ⟨⟨oc, od, kV, doc, pm, an, cdv, ct, osl, rfl, l, c⟩, k⟩
end
theorem small1000 {n : Nat} (h : n ≤ 1000) : n < sizeLine := Nat.lt_of_le_of_lt h (by decide)
section
variable {X : Cx}
theorem pv (i : Nat) {x : Str} {pos : Pos} (hN : X.N[i]? = some x := by rfl) (hv : Vis X.env.scope x := by first | exact Or.inl rfl | exact Or.inr (Or.inl rfl) | exact Or.inr (Or.inr rfl)) (hd : (x == ("__debug__" : Str)) = false := by decide)
    (hcd : (x == ("__classdict__" : Str)) = false := by decide) : PE X (.Name x pos) (tVar i) := pe_var hN hv hd hcd
end
theorem iteF {A B : Prop} (h : B) : if false = true then A else B := by
  rw [if_neg Bool.false_ne_true]
  exact h
theorem iteT {A B : Prop} (h : A) : if true = true then A else B := by
  rw [if_pos rfl]
  exact h
theorem ite2 {c A B : Prop} [Decidable c] (h1 : c → A) (h2 : ¬ c → B) : if c then A else B := by
  by_cases h : c
  · rw [if_pos h]
    exact h1 h
  · rw [if_neg h]
    exact h2 h
def Same (H H' : Hp) : Prop := ∀ b o, H b = some o → H' b = some o
theorem Same.refl (H : Hp) : Same H H := fun _ _ h => h
theorem Same.trans {H H1 H2 : Hp} (a : Same H H1) (b : Same H1 H2) : Same H H2 := fun c o h => b c o (a c o h)
theorem Same.free {H H' : Hp} (e : Same H H') {l : Addr} (h : H' l = Option.none) : H l = Option.none := by
  cases q : H l with
  | none => rfl
  | some o =>
    rw [e l o q] at h
    cases h
theorem Same.seq {K : PySem.W.Frag} {H H' : Hp} {a : Addr} {xs : List V} (e : Same H H') (h : SqL K H a xs) : SqL K H' a xs := by
  rcases h with (h | ⟨o, h⟩) | h
  · exact .inl (.inl (e _ _ h))
  · exact .inl (.inr ⟨o, e _ _ h⟩)
  · exact .inr h
end L2
namespace L2
open PySem PySem.Spec PyProof.Rows
theorem cf_or {x : Str} {c : Addr} : ∀ (names : List (Str × NameKind)) (n : Nat) (acc : List (Str × Addr)), (cellsFrom n names acc).lookup x = some c → n ≤ c ∨ acc.lookup x = some c
  | [], _, _, h => .inr h
  | (y, k) :: r, n, acc, h => by
    unfold cellsFrom at h
    split at h
    · rcases cf_or r (n + 1) _ h with z | z
      · exact .inl (Nat.le_of_succ_le z)
      · rw [List.lookup_cons] at z
        cases e : x == y with
        | true => rw [e] at z; cases z; exact .inl (Nat.le_refl _)
        | false => rw [e] at z; exact .inr z
    · exact cf_or r n acc h
theorem cf_own {x : Str} {c : Addr} : ∀ (names : List (Str × NameKind)) (n : Nat) (acc : List (Str × Addr)), (x, NameKind.cell) ∈ names → (cellsFrom n names acc).lookup x = some c → n ≤ c
  | [], _, _, m, _ => nomatch m
  | (y, k) :: r, n, acc, m, h => by
    unfold cellsFrom at h
    split at h
    · by_cases m' : (x, NameKind.cell) ∈ r
      · exact Nat.le_of_succ_le (cf_own r (n + 1) _ m' h)
      · have e : (x, NameKind.cell) = (y, k) := (List.mem_cons.mp m).resolve_right m'
        cases e
        rcases cf_or r (n + 1) _ h with z | z
        · exact Nat.le_of_succ_le z
        · rw [List.lookup_cons, beq_self_eq_true] at z
          cases z
          exact Nat.le_refl _
    · rename_i hk
      have m' : (x, NameKind.cell) ∈ r := by
        rcases List.mem_cons.mp m with e | m'
        · cases e; exact absurd rfl hk
        · exact m'
      exact cf_own r n acc m' h
theorem cf_out {x : Str} : ∀ {names : List (Str × NameKind)} {n : Nat} {acc : List (Str × Addr)}, (x, NameKind.cell) ∉ names → (cellsFrom n names acc).lookup x = acc.lookup x
  | [], _, _, _ => rfl
  | (y, k) :: r, n, acc, h => by
    unfold cellsFrom
    have hr : (x, NameKind.cell) ∉ r := fun m => h (List.mem_cons_of_mem _ m)
    split
    · rename_i hk
      have hy : (x == y) = false := by
        cases e : x == y with
        | false => rfl
        | true =>
          exfalso
          refine h ?_
          rw [beq_iff_eq.mp e, beq_iff_eq.mp hk]
          exact List.mem_cons_self
      rw [cf_out hr, List.lookup_cons, hy]
    · exact cf_out hr
theorem cf_inj : ∀ (names : List (Str × NameKind)) (n : Nat) (acc : List (Str × Addr)), (∀ x c, acc.lookup x = some c → c < n) → (∀ x y c, acc.lookup x = some c → acc.lookup y = some c → x = y) →
    ∀ x y c, (cellsFrom n names acc).lookup x = some c → (cellsFrom n names acc).lookup y = some c → x = y
  | [], _, _, _, hi => hi
  | (z, k) :: r, n, acc, hl, hi => by
    unfold cellsFrom
    split
    · refine cf_inj r (n + 1) _ (fun x c h => ?_) (fun x y c h1 h2 => ?_)
      · rw [List.lookup_cons] at h
        cases e : x == z with
        | true => rw [e] at h; cases h; exact Nat.lt_succ_self _
        | false => rw [e] at h; exact Nat.lt_succ_of_lt (hl x c h)
      · rw [List.lookup_cons] at h1 h2
        cases e1 : x == z with
        | true =>
          rw [e1] at h1
          cases h1
          cases e2 : y == z with
          | true => rw [beq_iff_eq.mp e1, beq_iff_eq.mp e2]
          | false => rw [e2] at h2; exact absurd (hl y _ h2) (Nat.lt_irrefl _)
        | false =>
          rw [e1] at h1
          cases e2 : y == z with
          | true => rw [e2] at h2; cases h2; exact absurd (hl x _ h1) (Nat.lt_irrefl _)
          | false => rw [e2] at h2; exact hi x y c h1 h2
    · exact cf_inj r n acc hl hi
theorem cf_cell {x : Str} {c : Addr} : ∀ (names : List (Str × NameKind)) (h : Heap) (acc : List (Str × Addr)), (cellsFrom h.objs.size names acc).lookup x = some c → (pushCells h names).IsCell c none ∨ acc.lookup x = some c
  | [], _, _, z => .inr z
  | (y, k) :: r, h, acc, z => by
    unfold cellsFrom at z
    unfold pushCells
    split at z
    · rename_i hk
      rw [if_pos hk]
      have z' : (cellsFrom (h.push { cls := .type "cell", data := .cell none }).objs.size r ((y, h.objs.size) :: acc)).lookup x = some c := by rw [Heap.size_push]; exact z
      rcases cf_cell r _ _ z' with q | q
      · exact .inl q
      · rw [List.lookup_cons] at q
        cases e : x == y with
        | true =>
          rw [e] at q
          cases q
          exact .inl ⟨_, pushCells_keeps _ _ _ _ (Heap.get?_push_size _ rfl), rfl⟩
        | false => rw [e] at q; exact .inr q
    · rename_i hk
      rw [if_neg hk]
      exact cf_cell r h acc z
theorem clos_go {env : Env} (f : Str × NameKind → List (Str × Addr) → Sem (ForInStep (List (Str × Addr))))
    (hf : ∀ name kind cs, f (name, kind) cs = if kind == .free then (do let a ← cellOf env name; pure (.yield ((name, a) :: cs))) else pure (.yield cs)) :
    ∀ (names : List (Str × NameKind)) (acc : List (Str × Addr)), (∀ y ∈ names, y.2 = .free → ∃ c, env.cells.lookup y.1 = some c) → (∀ x c, acc.lookup x = some c → env.cells.lookup x = some c) →
    ∃ cl, forIn names acc f = pure cl ∧ (∀ x c, cl.lookup x = some c → env.cells.lookup x = some c) ∧ (∀ y ∈ names, y.2 = .free → ∃ c, cl.lookup y.1 = some c) ∧ ∀ x c, acc.lookup x = some c → ∃ c', cl.lookup x = some c'
  | [], acc, _, ha => ⟨acc, rfl, ha, (fun _ m => nomatch m), fun x c e => ⟨c, e⟩⟩
  | (y, k) :: r, acc, h, ha => by
    rw [List.forIn_cons, hf]
    have hr : ∀ y ∈ r, y.2 = NameKind.free → ∃ c, env.cells.lookup y.1 = some c := fun z m => h z (List.mem_cons_of_mem _ m)
    by_cases hk : (k == NameKind.free) = true
    · obtain ⟨c, hc⟩ := h (y, k) List.mem_cons_self (beq_iff_eq.mp hk)
      have e : cellOf env y = pure c := by unfold cellOf; rw [hc]
      rw [if_pos hk, e, pure_bind, pure_bind]
      have ha' : ∀ x d, ((y, c) :: acc).lookup x = some d → env.cells.lookup x = some d := fun x d e => by
        rw [List.lookup_cons] at e
        cases e1 : x == y with
        | true => rw [e1] at e; cases e; rw [beq_iff_eq.mp e1]; exact hc
        | false => rw [e1] at e; exact ha x d e
      obtain ⟨cl, q1, q2, q3, q4⟩ := clos_go f hf r ((y, c) :: acc) hr ha'
      refine ⟨cl, q1, q2, fun z m hz => ?_, fun x d e => ?_⟩
      · rcases List.mem_cons.mp m with e | m
        · subst e
          exact q4 y c (by rw [List.lookup_cons, beq_self_eq_true])
        · exact q3 z m hz
      · by_cases e1 : (x == y) = true
        · exact q4 x c (by rw [List.lookup_cons, e1])
        · exact q4 x d (by rw [List.lookup_cons]; simp only [e1]; exact e)
    · rw [if_neg hk, pure_bind]
      obtain ⟨cl, q1, q2, q3, q4⟩ := clos_go f hf r acc hr ha
      refine ⟨cl, q1, q2, fun z m hz => ?_, q4⟩
      rcases List.mem_cons.mp m with e | m
      · subst e; exact absurd (beq_iff_eq.mpr hz) hk
      · exact q3 z m hz
theorem clos_ok {scope : Scope} {env : Env} (h : ∀ y ∈ scope.names, y.2 = .free → ∃ c, env.cells.lookup y.1 = some c) :
    ∃ cl, closureFor scope env = pure cl ∧ (∀ x c, cl.lookup x = some c → env.cells.lookup x = some c) ∧ ∀ y ∈ scope.names, y.2 = .free → ∃ c, cl.lookup y.1 = some c := by
  obtain ⟨cl, q1, q2, q3, _⟩ := clos_go (env := env) (fun x cs => if x.2 == .free then (do let a ← cellOf env x.1; pure (.yield ((x.1, a) :: cs))) else pure (.yield cs)) (fun _ _ _ => rfl) scope.names [] h (fun _ _ e => nomatch e)
  refine ⟨cl, ?_, q2, q3⟩
  unfold closureFor
  have e : (fun (x : Str × NameKind) (r : List (Str × Addr)) => (match x with
      | (name, kind) => if (kind == NameKind.free) = true then (do let __do_lift ← cellOf env name; pure (ForInStep.yield ((name, __do_lift) :: r))) else pure (ForInStep.yield r) : Sem (ForInStep (List (Str × Addr))))) =
      fun x cs => if x.2 == .free then (do let a ← cellOf env x.1; pure (.yield ((x.1, a) :: cs))) else pure (.yield cs) := by
    funext x cs
    rfl
  have q : (forIn scope.names ([] : List (Str × Addr)) fun (x : Str × NameKind) (r : List (Str × Addr)) => (match x with
      | (name, kind) => if (kind == NameKind.free) = true then (do let __do_lift ← cellOf env name; pure (ForInStep.yield ((name, __do_lift) :: r))) else pure (ForInStep.yield r) : Sem (ForInStep (List (Str × Addr))))) = pure cl := by
    rw [e]; exact q1
  simpa using q
theorem newEnv_block {M : Model} {A : Around} {E : Value → Shared → Prop} {s : Shared} {scope : Scope} {globals : Addr} {cl : List (Str × Addr)} {qual : Str} {env : Env} {Q : Env → Shared → Prop}
    (hQ : ∀ h', h'.Ns s.heap.objs.size (fun _ => none) → (∀ b o, s.heap.get? b = some o → h'.get? b = some o) →
      (∀ x c, (cellsFrom (s.heap.objs.size + 1) scope.names cl).lookup x = some c → h'.IsCell c none ∨ cl.lookup x = some c) →
      Q { scope, locals := s.heap.objs.size, globals, cells := cellsFrom (s.heap.objs.size + 1) scope.names cl, qual, func := none, code := env.code, frame := env.frame, builtins := env.builtins } { s with heap := h' }) :
    wpAny M A (newFunctionEnv scope globals cl [] qual none .none (some env)) Q E s := by
  simp only [newFunctionEnv, Option.isSome_some, if_true]
  refine wpAny_bind (wpAny_alloc ?_)
  refine wpAny_bind (wpAny_layCells _ (fun name kind cells => by cases hkc : kind == NameKind.cell <;> simp [hkc]) _ _ _ _ ?_)
  have hsz : (s.heap.push { cls := .type "dict", data := .dict #[] }).objs.size = s.heap.objs.size + 1 := Heap.size_push ..
  have q := hQ (pushCells (s.heap.push { cls := .type "dict", data := .dict #[] }) scope.names) ((Heap.Ns.new s.heap (.type "dict")).keeps (pushCells_keeps _ _)) (fun b o e => pushCells_keeps _ _ b o (Heap.get?_push_of_some _ e))
    (fun x c e => cf_cell scope.names (s.heap.push { cls := .type "dict", data := .dict #[] }) cl (by rw [hsz]; exact e))
  show wpAny _ _ _ _ _ _
  rw [show ({ s with heap := s.heap.push { cls := .type "dict", data := .dict #[] } } : Shared).heap.objs.size = s.heap.objs.size + 1 from hsz]
  exact wpAny_bind (wpAny_pure (wpAny_pure q))
theorem relabel_free {env : Env} {x : Str} : ∀ {names : List (Str × NameKind)}, names.lookup x = some .free →
    (names.map fun (n, k) => if (k == NameKind.free && env.scope.kind == .function && env.kindOf n == some .cell) then (n, NameKind.cell) else (n, k)).lookup x = some .cell ∨
    (names.map fun (n, k) => if (k == NameKind.free && env.scope.kind == .function && env.kindOf n == some .cell) then (n, NameKind.cell) else (n, k)).lookup x = some .free
  | [], h => by simp at h
  | (n, k) :: r, h => by
    have ih := @relabel_free env x r
    show List.lookup x ((if (k == NameKind.free && env.scope.kind == .function && env.kindOf n == some .cell) = true then (n, NameKind.cell) else (n, k)) :: _) = _ ∨ List.lookup x ((if (k == NameKind.free && env.scope.kind == .function && env.kindOf n == some .cell) = true then (n, NameKind.cell) else (n, k)) :: _) = _
    cases hx : x == n with
    | true =>
      simp only [List.lookup_cons, hx] at h
      cases h
      split <;> simp [List.lookup_cons, hx]
    | false =>
      simp only [List.lookup_cons, hx] at h
      split <;> (simp only [List.lookup_cons, hx]; exact ih h)
theorem relabel_back {env : Env} {x : Str} {kd : NameKind} : ∀ {names : List (Str × NameKind)},
    (names.map fun (n, k) => if (k == NameKind.free && env.scope.kind == .function && env.kindOf n == some .cell) then (n, NameKind.cell) else (n, k)).lookup x = some kd →
    names.lookup x = some kd ∨ names.lookup x = some .free
  | [], h => by simp at h
  | (n, k) :: r, h => by
    have ih := @relabel_back env x kd r
    have h' : List.lookup x ((if (k == NameKind.free && env.scope.kind == .function && env.kindOf n == some .cell) = true then (n, NameKind.cell) else (n, k)) :: (r.map fun (n, k) => if (k == NameKind.free && env.scope.kind == .function && env.kindOf n == some .cell) then (n, NameKind.cell) else (n, k))) = some kd := h
    cases hx : x == n with
    | true =>
      by_cases hc : (k == NameKind.free && env.scope.kind == .function && env.kindOf n == some .cell) = true
      · have hk : k = .free := by
          have := (Bool.and_eq_true _ _ ▸ (Bool.and_eq_true _ _ ▸ hc).1).1
          exact beq_iff_eq.mp this
        subst hk
        exact .inr (by simp [List.lookup_cons, hx])
      · rw [if_neg hc] at h'
        simp only [List.lookup_cons, hx] at h'
        cases h'
        exact .inl (by simp [List.lookup_cons, hx])
    | false =>
      have h2 : List.lookup x (r.map fun (n, k) => if (k == NameKind.free && env.scope.kind == .function && env.kindOf n == some .cell) then (n, NameKind.cell) else (n, k)) = some kd := by
        split at h' <;> simpa only [List.lookup_cons, hx] using h'
      rcases ih h2 with z | z
      · exact .inl (by simp only [List.lookup_cons, hx]; exact z)
      · exact .inr (by simp only [List.lookup_cons, hx]; exact z)
def cxIn (X : Cx) (N : List Str) (scope : Scope) (cl : List (Str × Addr)) (s : Shared) (H : Hp) (fp : List Addr) : Cx where
  prog := X.prog
  w := X.w
  K := X.K
  mg := X.mg
  base := X.base
  A := X.A
  N := N
  s₀ := s
  H₀ := H
  env := { scope := relabel scope X.env, locals := s.heap.objs.size, globals := X.env.globals, cells := cellsFrom (s.heap.objs.size + 1) scope.names cl, qual := X.env.qual, func := none, code := X.env.code, frame := X.env.frame, builtins := X.env.builtins }
  outer := X.stack
  stack := X.stack
  ex := fp
  fn := fun x => scope.names.lookup x == some .cell
  calm := X.calm
  pn := []
  xe := fun _ _ => False
structure BlScope (X : Cx) (scope : Scope) (own : List Str) (fr : List (Str × Nat)) : Prop where
  kind : scope.kind = .function
  free : ∀ y ∈ scope.names, y.2 = .free → X.env.scope.names.lookup y.1 = some .cell ∨ X.env.scope.names.lookup y.1 = some .free
  loc : ∀ y ∈ scope.names, y.2 = .local → scope.names.lookup y.1 = some .local
  look : ∀ y ∈ scope.names, scope.names.lookup y.1 = some y.2
  cap : ∀ y ∈ fr, scope.names.lookup y.1 = some .free ∧ X.N[y.2]? = some y.1
def capS (k : Nat) (fr : List (Str × Nat)) (σ : St) : St := List.replicate k none ++ fr.map fun y => (σ[y.2]?).getD none
def capN (own : List Str) (fr : List (Str × Nat)) : List Str := own ++ fr.map (·.1)
section
variable {X : Cx} {pins : List (Addr × Obj)} {σ : St} {H : Hp} {s : Shared}
theorem inv_block {scope : Scope} {own : List Str} {fr : List (Str × Nat)} {cl : List (Str × Addr)} {fp : List Addr} {h' : Heap} (I : Inv X pins σ H s) (B : BlScope X scope own fr)
    (hcl : ∀ x c, cl.lookup x = some c → X.env.cells.lookup x = some c) (hcl2 : ∀ y ∈ scope.names, y.2 = .free → ∃ c, cl.lookup y.1 = some c)
    (hfp : ∀ b ∈ fp, FpOk X pins H b) (hfo : ∀ b ∈ fp, ∃ o, s.heap.get? b = some o)
    (hn : h'.Ns s.heap.objs.size (fun _ => none)) (hk : ∀ b o, s.heap.get? b = some o → h'.get? b = some o)
    (hc : ∀ x c, (cellsFrom (s.heap.objs.size + 1) scope.names cl).lookup x = some c → h'.IsCell c none ∨ cl.lookup x = some c) :
    Inv (cxIn X (capN own fr) scope cl s H fp) [] (capS own.length fr σ) H { s with heap := h' } := by
  have clt : ∀ x c, cl.lookup x = some c → c < s.heap.objs.size := fun x c e => by
    obtain ⟨v, z⟩ := I.cell x c (hcl x c e)
    exact z.lt
  have ownC : ∀ x c, (cellsFrom (s.heap.objs.size + 1) scope.names cl).lookup x = some c → s.heap.objs.size + 1 ≤ c ∨ cl.lookup x = some c := fun x c e => cf_or _ _ _ e
  have bsz : X.base.objs.size ≤ s.heap.objs.size := Nat.le_trans I.ok.bsz I.sz
  refine ⟨⟨I.ok.mod, B.kind, I.ok.glob, I.ok.blt, Nat.le_refl _, ?_, ?_, ?_, I.ok.hd, I.ok.frames, .inl rfl, ?_, I.bs, bsz, ?_, ?_, I.stack, I.stkFree⟩, rfl, I.bare, Un.kept hk, ⟨_, hn, ?_⟩, ?_, I.hok.fresh (Nat.le_refl _), ?_, ?_, I.hok.kept hk, ?_⟩
  · exact cf_inj _ _ _ (fun x c e => Nat.lt_succ_of_lt (clt x c e)) fun x y c e1 e2 => I.ok.inj x y c (hcl x c e1) (hcl y c e2)
  · intro x hx
    have hx : (relabel scope X.env).names.lookup x = some .cell ∨ (relabel scope X.env).names.lookup x = some .free := hx
    have q : scope.names.lookup x = some .cell ∨ scope.names.lookup x = some .free := by
      rcases hx with z | z
      · exact relabel_back z
      · exact (relabel_back z).elim .inr .inr
    refine Option.isSome_iff_exists.mp (PySem.W.cellsFrom_some scope.names _ _ ?_)
    rcases q with z | z
    · exact .inl z
    · obtain ⟨c, e⟩ := hcl2 _ (PySem.mem_of_lookup z) rfl
      exact .inr (by rw [e]; rfl)
  · intro x c hf e
    have hf : (scope.names.lookup x == some .cell) = true := hf
    exact Nat.le_of_succ_le (cf_own _ _ _ (PySem.mem_of_lookup (beq_iff_eq.mp hf)) e)
  · intro b hb
    obtain ⟨o, ho⟩ := hfo b hb
    refine ⟨Nat.ne_of_lt (Heap.lt_size ho), fun x c e => ?_⟩
    rcases ownC x c e with z | z
    · intro q
      subst q
      exact absurd (Nat.lt_of_lt_of_le (Heap.lt_size ho) (Nat.le_of_succ_le z)) (Nat.lt_irrefl _)
    · exact (hfp b hb).2.2.2.2.1 x c (hcl x c z)
  · intro b o e hb
    rcases (hfp b hb).2.2.2.1 with z | z
    · exact I.ok.noex b o e z
    · exact absurd (Nat.lt_of_lt_of_le (Heap.lt_size e) (Nat.le_trans I.ok.bsz z)) (Nat.lt_irrefl _)
  · intro b hb z
    rcases List.mem_cons.mp (I.stkSub b z) with q | q
    · exact (hfp b hb).2.1 q
    · exact (hfp b hb).2.2.1 q
  · intro i x v h1 h2 h3
    have h1 : (capN own fr)[i]? = some x := h1
    unfold capN at h1
    unfold capS at h2
    by_cases hi : i < own.length
    · rw [List.getElem?_append_left (by rw [List.length_replicate]; exact hi), List.getElem?_replicate, if_pos hi] at h2
      cases h2
    · have hi' : own.length ≤ i := Nat.le_of_not_lt hi
      rw [List.getElem?_append_right hi', List.getElem?_map] at h1
      rw [List.getElem?_append_right (by rw [List.length_replicate]; exact hi'), List.length_replicate, List.getElem?_map] at h2
      cases e : fr[i - own.length]? with
      | none => rw [e] at h1; cases h1
      | some y =>
        rw [e] at h1 h2
        have hy1 : y.1 = x := Option.some.inj h1
        have hy2 : (σ[y.2]?).getD none = some v := Option.some.inj h2
        obtain ⟨c1, c2⟩ := B.cap y (List.mem_of_getElem? e)
        rw [hy1] at c1 c2
        have hs : σ[y.2]? = some (some v) := by
          cases e2 : σ[y.2]? with
          | none => rw [e2] at hy2; cases hy2
          | some o => rw [e2] at hy2; cases o with
            | none => cases hy2
            | some w => cases hy2; rfl
        obtain ⟨m, hm, hl⟩ := I.loc
        have hfree := B.free _ (PySem.mem_of_lookup c1) rfl
        obtain ⟨u, r, l⟩ := hl y.2 x v c2 hs (hfree.elim (fun z => .inr (.inl z)) fun z => .inr (.inr z))
        refine ⟨u, r, ?_⟩
        obtain ⟨k, c, e3, z⟩ : (X.env.kindOf x = some .cell ∨ X.env.kindOf x = some .free) ∧ ∃ c, X.env.cells.lookup x = some c ∧ s.heap.IsCell c (some u) := by
          rcases l with ⟨k, _⟩ | q
          · have k : X.env.scope.names.lookup x = some .local := k
            rcases hfree with z | z <;> (rw [z] at k; cases k)
          · exact q
        obtain ⟨d, hd⟩ := hcl2 _ (PySem.mem_of_lookup c1) rfl
        have hd' := hcl x d hd
        rw [e3] at hd'
        cases hd'
        obtain ⟨c', hc'⟩ : ∃ c', (cellsFrom (s.heap.objs.size + 1) scope.names cl).lookup x = some c' := Option.isSome_iff_exists.mp (PySem.W.cellsFrom_some scope.names _ _ (.inr (by rw [hd]; rfl)))
        have hcc : c' = c := by
          rcases ownC x c' hc' with q | q
          · -- an own cell of that name: it is free, so no
            exfalso
            have : (x, NameKind.cell) ∉ scope.names := fun m => by
              have := B.look _ m
              rw [c1] at this
              cases this
            exact absurd hc' (by
              rw [cf_out this]
              intro z
              rw [hd] at z
              cases z
              exact absurd (clt x _ hd) (Nat.not_lt.mpr (Nat.le_of_succ_le q)))
          · rw [hd] at q; cases q; rfl
        subst hcc
        refine .inr ⟨?_, c', hc', z.keeps hk⟩
        exact relabel_free c1
  · intro x c e
    rcases hc x c e with z | z
    · exact ⟨_, z⟩
    · obtain ⟨v, q⟩ := I.cell x c (hcl x c z)
      exact ⟨v, q.keeps hk⟩
  · intro x c e
    rcases ownC x c e with z | z
    · exact I.hok.fresh (Nat.le_of_succ_le z)
    · exact I.freeC x c (hcl x c z)
  · intro p hp
    exact absurd (show p ∈ ([] : List (Addr × Obj)) from hp) (by simp)
  · show (capS _ _ _).length = (capN _ _).length
    unfold capS capN
    simp
end
def PTs (X : Cx) (ifs : List Expr) (t : TT) : Prop :=
  ∀ (pins : List (Addr × Obj)) (s : Shared) (σ : St) (H : Hp) (Q : Bool → Hp → Prop), Inv X pins σ H s → t σ H Q →
    wpAny (model X.prog X.w) X.A (forIn ifs true fun c r => if r = true then do let ok ← isTrue c X.env (eval c X.env); pure (ForInStep.yield ok) else pure (ForInStep.yield r)) (TP X pins σ Q) X.xe s
def tYes : TT := fun _ H Q => Q true H
theorem pts_nil {X : Cx} : PTs X [] tYes := fun pins s σ H Q I h => wpAny_tests_nil ⟨H, I, h⟩
section
variable {prog : Program} {w : World} {A : Around} {R : Result → Shared → Prop} {s : Shared}
theorem compLoop_any {elt target iter : Expr} {ifs : List Expr} {scope : Scope} {pos : Pos} {it acc : Value} {env : Env} (I : Nat → Shared → Prop)
    (turn : ∀ n s, I n s → wpAny (model prog w) A (pyNext it) (fun r s₁ => match r with
      | none => R (.ok .next) s₁
      | some v => wpAny (model prog w) A (letOwnedTupleGo target it v) (fun _ s₁ => wpAny (model prog w) A (assign target env v) (fun _ s₂ =>
          wpAny (model prog w) A (forIn ifs true fun c r => if r = true then do let ok ← isTrue c env (eval c env); pure (ForInStep.yield ok) else pure (ForInStep.yield r)) (fun ok s₃ =>
            if ok = true then wpAny (model prog w) A (eval elt env) (fun x s₄ =>
              wpAny (model prog w) A (call (.builtin "list.append") [acc, x]) (fun _ s₅ => ∃ m, m < n ∧ I m s₅) (fun _ _ => False) s₄) (fun _ _ => False) s₃
            else ∃ m, m < n ∧ I m s₃) (fun _ _ => False) s₂) (fun _ _ => False) s₁) (fun _ _ => False) s₁) (fun _ _ => False) s)
    (n : Nat) (h : I n s) :
    codeAny (model prog w) A (.compLoop (.ListComp elt [⟨target, iter, ifs, 0⟩] scope pos) 0 it acc env) R s := by
  refine codeAny_loop rfl I (fun n s hI => ?_) n h
  show wpAny _ A ((compTurn (.ListComp elt [⟨target, iter, ifs, 0⟩] scope pos) 0 it acc env).onRaise (fun x => do noteFrame x env; theTreesLotGoes x)) _ _ s
  refine wpAny_noted ?_
  rw [compTurn_list]
  refine wpAny_bind (wpAny_standAt (wpAny_bind (wpAny_mono (turn n s hI) (fun r s₁ h₁ => ?_) fun _ _ h' => h'.elim)))
  cases r with
  | none => exact wpAny_pure h₁
  | some v =>
    refine wpAny_bind (wpAny_mono h₁ (fun _ s₁' h₁' => ?_) fun _ _ h' => h'.elim)
    refine wpAny_bind (wpAny_mono h₁' (fun _ s₂ h₂ => wpAny_bind (wpAny_mono h₂ (fun ok s₃ h₃ => ?_) fun _ _ h' => h'.elim)) fun _ _ h' => h'.elim)
    cases ok with
    | false => exact wpAny_pure ⟨rfl, h₃⟩
    | true =>
      exact wpAny_bind (wpAny_bind (wpAny_mono h₃ (fun x s₄ h₄ => wpAny_bind (wpAny_mono h₄ (fun _ s₅ h₅ => wpAny_pure (wpAny_pure ⟨rfl, h₅⟩)) fun _ _ h' => h'.elim)) fun _ _ h' => h'.elim))
end
def tBlock (g : TG) (tt : TT) (te : TE) (J : It) (D : Addr) (σ0 : St) (H1 : Hp) (Q : VK) : Prop :=
  ∃ W : Nat → Nat → St → Hp → Prop, (∃ m, W 0 m σ0 (upd H1 D (.lst []))) ∧ ∀ i m σ' H2, W i m σ' H2 →
    (J.stop i H2 ∧ Q (.ref D) H2) ∨ (J.go i H2 ∧ ∀ x H3, J.yld i H2 x H3 → g x σ' H3 fun σ4 H4 => tt σ4 H4 fun b H5 =>
      if b = true then te σ4 H5 fun y H6 => ∃ vs, H6 D = some (.lst vs) ∧ vs.length < sizeLine ∧ ∃ m', m' < m ∧ W (i + 1) m' σ4 (upd H6 D (.lst (vs ++ [y])))
      else ∃ m', m' < m ∧ W (i + 1) m' σ4 H5)
def tComp (k : Nat) (fr : List (Str × Nat)) (wi : TI) (g : TG) (tt : TT) (te : TE) : TE := fun σ H Q => wi σ H fun J H1 => ∀ D, H1 D = none → tBlock g tt te J D (capS k fr σ) H1 Q
section
variable {X : Cx} {tg iter elt : Expr} {ifs : List Expr} {scope : Scope} {pos : Pos} {own : List Str} {fr : List (Str × Nat)} {wi : TI} {g : TG} {tt : TT} {te : TE}
theorem comp_run {pins : List (Addr × Obj)} {s2 : Shared} {σ : St} {H2 : Hp} {it : Addr} {fp : List Addr} {tn : Nat → Heap → Prop} {J : It} {Q : VK} {cl : List (Str × Addr)} {RR : Value → Addr → Result → Shared → Prop} {E : Value → Shared → Prop}
    (hc : X.calm = true) (B : BlScope X scope own fr)
    (hb : ∀ cl s H fp, PG (cxIn X (capN own fr) scope cl s H fp) tg g ∧ PTs (cxIn X (capN own fr) scope cl s H fp) ifs tt ∧ PE (cxIn X (capN own fr) scope cl s H fp) elt te)
    (hcl : ∀ x c, cl.lookup x = some c → X.env.cells.lookup x = some c) (hcl2 : ∀ y ∈ scope.names, y.2 = .free → ∃ c, cl.lookup y.1 = some c)
    (I2 : Inv X pins σ H2 s2) (T : Turn X.prog X.w X.K tg J fp it tn) (st2 : tn 0 s2.heap) (f2 : ∀ b ∈ fp, FpOk X pins H2 b) (q : ∀ D, H2 D = none → tBlock g tt te J D (capS own.length fr σ) H2 Q)
    (hRR : ∀ D C s' H', Inv X pins σ H' s' → Q (.ref D) H' → (∃ m, s'.heap.Ns C m) → C ≠ X.env.locals → (∀ x c, X.env.cells.lookup x = some c → c ≠ C) → (∀ p ∈ X.pn ++ pins, p.1 ≠ C) → X.s₀.heap.objs.size ≤ C → H' C = none → RR (.ref D) C (.ok .next) s') :
    wpAny (model X.prog X.w) X.A (newList []) (fun acc s₃ => wpAny (model X.prog X.w) X.A (newFunctionEnv scope X.env.globals cl [] X.env.qual none .none (some X.env)) (fun cenv s₄ =>
      codeAny (model X.prog X.w) X.A (.compStart (.ListComp elt [⟨tg, iter, ifs, 0⟩] scope pos) 0 (.ref it) acc { cenv with scope := relabel scope X.env }) (RR acc cenv.locals) s₄) E s₃) E s2 := by
  refine wpAny_newObj_type ?_
  have fr0 : H2 s2.heap.objs.size = none := I2.hok.fresh (Nat.le_refl _)
  have I3 := I2.lnew (its := []) (ys := []) (t' := s2.toks) .nil (Nat.zero_le _)
  generalize hs3 : ({ s2 with heap := s2.heap.push { cls := .type "list", data := .seq ([] : List Value).toArray } } : Shared) = s3 at *
  have k23 : ∀ b o, s2.heap.get? b = some o → s3.heap.get? b = some o := fun b o e => by rw [← hs3]; exact Heap.get?_push_of_some _ e
  have sz3 : s3.heap.objs.size = s2.heap.objs.size + 1 := by rw [← hs3]; exact Heap.size_push ..
  have I3' : Inv X pins σ (upd H2 s2.heap.objs.size (.lst [])) s3 := I3
  have fne : ∀ b ∈ fp, b ≠ s2.heap.objs.size := fun b hb z => by
    obtain ⟨o, ho, _⟩ := T.obj 0 _ st2 b hb
    exact absurd (Heap.lt_size ho) (by rw [z]; exact Nat.lt_irrefl _)
  have f3 : ∀ b ∈ fp, FpOk X pins (upd H2 s2.heap.objs.size (.lst [])) b := fun b hb => ⟨by rw [upd_ne (fne b hb)]; exact (f2 b hb).1, (f2 b hb).2⟩
  have st3 : tn 0 s3.heap := T.keep 0 _ _ st2 fun b _ o e => k23 b o e
  have hfo : ∀ b ∈ fp, ∃ o, s3.heap.get? b = some o := fun b hb => let ⟨o, ho, _⟩ := T.obj 0 _ st3 b hb; ⟨o, ho⟩
  refine newEnv_block fun h' hn hk hce => ?_
  have I4 := inv_block (own := own) I3' B hcl hcl2 f3 hfo hn hk hce
  obtain ⟨hg, ht, he⟩ := hb cl s3 (upd H2 s2.heap.objs.size (.lst [])) fp
  have st4 : tn 0 h' := T.keep 0 _ _ st3 fun b _ o e => hk b o e
  have stat : ∀ {H' : Hp}, (∀ b ∈ fp, H' b = none) → ∀ b ∈ fp, FpOk (cxIn X (capN own fr) scope cl s3 (upd H2 s2.heap.objs.size (.lst [])) fp) [] H' b := fun {H'} hnn b hb =>
    ⟨hnn b hb, (I4.ok.exf b hb).1, I4.ok.exfs b hb, .inl hb, (I4.ok.exf b hb).2, fun p hp => absurd (show p ∈ ([] : List (Addr × Obj)) from hp) (by simp)⟩
  obtain ⟨W, ⟨m0, w0⟩, turn⟩ := q s2.heap.objs.size fr0
  have loop : codeAny (model X.prog X.w) X.A (.compLoop (.ListComp elt [⟨tg, iter, ifs, 0⟩] scope pos) 0 (.ref it) (.ref s2.heap.objs.size) (cxIn X (capN own fr) scope cl s3 (upd H2 s2.heap.objs.size (.lst [])) fp).env)
      (RR (.ref s2.heap.objs.size) s3.heap.objs.size) { s3 with heap := h' } := by
    refine compLoop_any (fun n s' => ∃ i σ' H', Inv (cxIn X (capN own fr) scope cl s3 (upd H2 s2.heap.objs.size (.lst [])) fp) [] σ' H' s' ∧ tn i s'.heap ∧ (∀ b ∈ fp, H' b = none) ∧ W i n σ' H') ?_ m0
      ⟨0, _, _, I4, st4, fun b hb => (f3 b hb).1, w0⟩
    rintro n s5 ⟨i, σ5, H5, I5, st5, fr5, w5⟩
    rcases turn i n σ5 H5 w5 with ⟨stop, qn⟩ | ⟨go, step⟩
    · refine thn (T.done (cxIn X (capN own fr) scope cl s3 (upd H2 s2.heap.objs.size (.lst [])) fp) rfl rfl rfl hc i [] s5 σ5 H5 _ I5 (stat fr5) st5 stop) fun r s6 ⟨hr, I6⟩ => ?_
      subst hr
      have I7 : Inv X pins σ H5 s6 := I3'.call' (ch := fp) I6.os I6.base I6.hok I6.bare fun b hb => ⟨(f3 b hb).2.2.2.1, (f3 b hb).2.1, (f3 b hb).2.2.2.2.1, (f3 b hb).2.2.2.2.2⟩
      obtain ⟨m6, hn6, _⟩ := I6.loc
      refine hRR _ _ s6 H5 I7 qn ⟨m6, hn6⟩ (Nat.ne_of_gt I3'.lt) (fun x c e => ?_) (fun p hp => ?_) I3'.sz I6.free
      · obtain ⟨v, z⟩ := I3'.cell x c e
        exact Nat.ne_of_lt z.lt
      · exact Nat.ne_of_lt (Heap.lt_size (I3'.pin p hp).1)
    · refine thn (T.item (cxIn X (capN own fr) scope cl s3 (upd H2 s2.heap.objs.size (.lst [])) fp) rfl rfl rfl hc i [] s5 σ5 H5 _ I5 (stat fr5) st5 go) fun r s6 ⟨u, hr, h6⟩ => ?_
      subst hr
      refine thn h6 fun _ s7 ⟨x, H7, I7, r7, y7, st7, fr7⟩ => ?_
      have I7' := I7.pinned (stat fr7) (T.obj _ _ st7)
      refine thn (hg _ s7 σ5 H7 x u _ I7' r7 (step x H7 y7)) fun _ s8 ⟨σ8, H8, I8, q8⟩ => ?_
      refine thn (ht _ s8 σ8 H8 _ I8 q8) fun b s9 ⟨H9, I9, q9⟩ => ?_
      have again : ∀ {sA : Shared} {σA : St} {HA : Hp} {m' : Nat}, Inv (cxIn X (capN own fr) scope cl s3 (upd H2 s2.heap.objs.size (.lst [])) fp) ([] ++ pinsAt fp s7.heap) σA HA sA → m' < n → W (i + 1) m' σA HA →
          ∃ m, m < n ∧ ∃ i σ' H', Inv (cxIn X (capN own fr) scope cl s3 (upd H2 s2.heap.objs.size (.lst [])) fp) [] σ' H' sA ∧ tn i sA.heap ∧ (∀ b ∈ fp, H' b = none) ∧ W i m σ' H' := fun {sA σA HA m'} IA hm wA => by
        refine ⟨m', hm, i + 1, σA, HA, IA.unpinned, T.keep _ _ _ st7 fun b hb o e => (IA.pin (b, o) (List.mem_append_right _ (List.mem_append_right _ (mem_pinsAt hb e)))).1, fun b hb => ?_, wA⟩
        obtain ⟨o, e, d⟩ := T.obj _ _ st7 b hb
        exact (IA.pin (b, o) (List.mem_append_right _ (List.mem_append_right _ (mem_pinsAt hb e)))).2.1
      cases b with
      | false =>
        obtain ⟨m', hm, w9⟩ := q9
        exact again I9 hm w9
      | true =>
        have q9 : te σ8 H9 _ := q9
        show wpAny _ _ _ _ _ _
        refine thn (he _ s9 σ8 H9 _ I9 q9) fun y sA ⟨vy, HA, IA, rA, vs, hvs, hlen, m', hm, wA⟩ => ?_
        refine thn (mt_append (X := cxIn X (capN own fr) scope cl s3 (upd H2 s2.heap.objs.size (.lst [])) fp) _ sA σ8 HA (.ref s2.heap.objs.size) [vy] (.ref s2.heap.objs.size) [y] (fun _ HB => W (i + 1) m' σ8 HB) IA rfl (.cons rA .nil) ⟨_, vs, vy, rfl, rfl, hvs, hlen, wA⟩) fun _ sB ⟨_, HB, IB, _, wB⟩ => ?_
        exact again IB hm wB
  exact codeAny_compStart_list loop (T.self _ 0 _ _ _ st4 loop)
theorem SameBut.get {a : Addr} {h h' : Heap} (x : Heap.SameBut a h h') : ∀ b o, b ≠ a → h.get? b = some o → h'.get? b = some o := fun b o n e => (x.2 b n).trans e
theorem pe_comp (hc : X.calm = true) (B : BlScope X scope own fr) (hi : PI X tg iter wi)
    (hb : ∀ cl s H fp, PG (cxIn X (capN own fr) scope cl s H fp) tg g ∧ PTs (cxIn X (capN own fr) scope cl s H fp) ifs tt ∧ PE (cxIn X (capN own fr) scope cl s H fp) elt te)
    (hs : ∀ x, foldedSetIterable iter X.env x = pure x := by intro _; rfl) :
    PE X (.ListComp elt [⟨tg, iter, ifs, 0⟩] scope pos) (tComp own.length fr wi g tt te) := by
  intro pins s σ H Q I h
  obtain ⟨cl, hclos, hcl, hcl2⟩ := clos_ok (scope := scope) (env := X.env) fun y hy hf => I.ok.has y.1 (B.free y hy hf)
  rw [eval_ListComp]
  refine wpAny_comprehension_free (use := none) rfl hs hclos B.kind B.loc (thn (hi pins s σ H _ I h) fun v s1 h1 => thn h1 fun itv s2 h2 => ?_)
  obtain ⟨it, fp, tn, J, H2, e, I2, T, st2, f2, q⟩ := h2
  subst e
  refine comp_run (RR := fun acc C => compPost (model X.prog X.w) X.A X.xe none (EP X pins σ Q) acc C) (Q := Q) hc B hb hcl hcl2 I2 T st2 f2 q ?_
  intro D C s' H' I' hq hn n1 n2 n3 n4 n5
  obtain ⟨m, hn⟩ := hn
  refine ⟨m, hn, fun h' hs' => ⟨.ref D, H', I'.turned (it := C) (t' := s'.toks) (fun b o hb e => SameBut.get hs' b o hb e) n5 (Ne.symm (Ne.symm n1)) (.inr n4) n2 n3, rfl, hq⟩⟩
theorem ps_comp {i : Nat} {x : Str} {pos' spos : Pos} (hc : X.calm = true) (B : BlScope X scope own fr) (hi : PI X tg iter wi)
    (hb : ∀ cl s H fp, PG (cxIn X (capN own fr) scope cl s H fp) tg g ∧ PTs (cxIn X (capN own fr) scope cl s H fp) ifs tt ∧ PE (cxIn X (capN own fr) scope cl s H fp) elt te)
    (hN : X.N.Nodup) (hix : X.N[i]? = some x) (hx : X.env.scope.names.lookup x = some .local)
    (hsw : swapsWith (.ListComp elt [⟨tg, iter, ifs, 0⟩] scope pos) (some (.Name x pos')) spos.line X.env = pure true)
    (hs : ∀ x, foldedSetIterable iter X.env x = pure x := by intro _; rfl) :
    PS X (.Assign [.Name x pos'] (.ListComp elt [⟨tg, iter, ifs, 0⟩] scope pos) spos) (tAsg (tComp own.length fr wi g tt te) (gName i)) := by
  intro pins s σ H D I h
  obtain ⟨cl, hclos, hcl, hcl2⟩ := clos_ok (scope := scope) (env := X.env) fun y hy hf => I.ok.has y.1 (B.free y hy hf)
  rw [exec_Assign_Name_used _ _ _ _ hsw]
  refine wpAny_bind (wpAny_standAt (wpAny_bind ?_))
  show wpAny _ _ (do let _ ← comprehension (.ListComp elt [⟨tg, iter, ifs, 0⟩] scope pos) scope X.env _ (newList []) false (eval iter X.env) (some (assign (.Name x pos') X.env))) _ _ s
  refine wpAny_bind (wpAny_mono (wpAny_comprehension_free (use := some (assign (.Name x pos') X.env)) (Q := fun _ s' => SP X pins D .next s') rfl hs hclos B.kind B.loc (thn (hi pins s σ H _ I h) fun v s1 h1 => thn h1 fun itv s2 h2 => ?_))
    (fun _ s' hq => wpAny_pure (wpAny_pure hq)) fun _ _ e => e)
  obtain ⟨it, fp, tn, J, H2, e, I2, T, st2, f2, q⟩ := h2
  subst e
  refine comp_run (RR := fun acc C => compPost (model X.prog X.w) X.A X.xe (some (assign (.Name x pos') X.env)) (fun _ s' => SP X pins D .next s') acc C) (Q := fun v H' => gName i v σ H' D.nx) hc B hb hcl hcl2 I2 T st2 f2 q ?_
  intro DD C s' H' I' hq hn n1 n2 n3 n4 n5
  obtain ⟨m, hn⟩ := hn
  show wpAny _ _ (assign (.Name x pos') X.env (.ref DD)) _ _ s'
  refine wpAny_assign_Name (store_ok2 I' hN hix (.inl hx) (v := .ref DD) rfl (fun s3 I3 ⟨a, hsa, ha⟩ => ?_) (.inr hx))
  have hCa : C ≠ a := by
    rcases ha with z | z
    · rw [z]; exact n1
    · exact (n2 x a z).symm
  refine ⟨m, hn.sameBut hsa hCa, fun h' hs' => ⟨σ.set i (some (.ref DD)), H', I3.turned (it := C) (t' := s3.toks) (fun b o hb e => SameBut.get hs' b o hb e) n5 n1 (.inr n4) n2 n3, hq⟩⟩
end
end L2
namespace L2
open PySem PySem.Spec PyProof.Rows
section
variable {X : Cx}
theorem op_mulG : OpR X (binaryOp .Mult) (rI IntMulOk fun i j => .int (i * j)) :=
  opI fun i j t u s Q E c h => PyProof.Rows.mul_int h c
def cV : V → Option Value
  | .ty n => some (.type n)
  | .ref a => some (.ref a)
  | _ => none
theorem call_isinst : CallR X (.builtin "isinstance") (fun xs H Q => ∃ x y c t b, xs = [x, y] ∧ cV y = some c ∧ TyOf X.K H x t ∧ PySem.W.kitOne X.K t c = some b ∧ Q (.bl b) H) := by
  intro pins s σ H xs us Q I r h
  obtain ⟨x, y, c, t, b, rfl, hc, ty, e, q⟩ := h
  obtain ⟨u, v, rfl, rx, ry⟩ := vals2 r
  have hv : v = c := by
    cases y <;> first | (cases hc; done) | (cases hc; cases ry; rfl)
  subst hv
  exact isinst_ok I rx ty e fun tk => ⟨.bl b, H, I.tok _, rfl, q⟩
theorem all_range (bs : List Bool) : (List.range bs.length).all (fun i => (bs[i]?).getD true) = bs.all id := by
  rw [Bool.eq_iff_iff, List.all_eq_true, List.all_eq_true]
  constructor
  · intro h b hb
    obtain ⟨i, hi, rfl⟩ := List.mem_iff_getElem.mp hb
    have := h i (List.mem_range.mpr hi)
    rw [List.getElem?_eq_getElem hi] at this
    exact this
  · intro h i hi
    have hi := List.mem_range.mp hi
    rw [List.getElem?_eq_getElem hi]
    exact h _ (List.getElem_mem hi)
theorem any_range (bs : List Bool) : (List.range bs.length).any (fun i => (bs[i]?).getD true) = bs.any id := by
  rw [Bool.eq_iff_iff, List.any_eq_true, List.any_eq_true]
  constructor
  · rintro ⟨i, hi, h⟩
    have hi := List.mem_range.mp hi
    rw [List.getElem?_eq_getElem hi] at h
    exact ⟨_, List.getElem_mem hi, h⟩
  · rintro ⟨b, hb, h⟩
    obtain ⟨i, hi, rfl⟩ := List.mem_iff_getElem.mp hb
    exact ⟨i, List.mem_range.mpr hi, by rw [List.getElem?_eq_getElem hi]; exact h⟩
theorem bools_truth {A : Around} {prog : Program} {w : World} {bs : List Bool} {its : List Value} (r : Vals (bs.map V.bl) its) : TruthOf prog w A (fun i v => its.toArray[i]? = some v) (fun i => (bs[i]?).getD true) := by
  intro i v s Q E hP hQ
  have hP : its[i]? = some v := by simpa using hP
  have hl := r.length
  rw [List.length_map] at hl
  have hi : i < bs.length := by rw [hl]; exact (List.getElem?_eq_some_iff.mp hP).1
  obtain ⟨u, hu, rv⟩ := r.get (i := i) (x := .bl bs[i]) (by rw [List.getElem?_map, List.getElem?_eq_getElem hi]; rfl)
  rw [hP] at hu
  cases hu
  cases rv
  have hQ : Q ((bs[i]?).getD true) s := hQ
  rw [List.getElem?_eq_getElem hi] at hQ
  exact wpAny_truthy_bool hQ
theorem call_all (hc : X.calm = true) : CallR X (.builtin "all") (fun xs H Q => ∃ (p : Addr) (bs : List Bool), xs = [.ref p] ∧ SqL X.K H p (bs.map V.bl) ∧ Q (.bl (bs.all id)) H) := by
  intro pins s σ H xs us Q I r h
  obtain ⟨p, bs, rfl, hq, q⟩ := h
  obtain ⟨u, rfl, rx⟩ := vals1 r
  cases rx
  obtain ⟨its, rv, pl, hz⟩ := I.list hq
  have hl := rv.length
  rw [List.length_map] at hl
  refine call_all_walk (wpAny_pyIter_list pl.isList ?_)
  have hne : p ≠ s.heap.objs.size := fun e => by
    obtain ⟨o, n, ho, _⟩ := pl
    exact absurd (Heap.lt_size ho) (by rw [e]; exact Nat.lt_irrefl _)
  refine ⟨s.heap.objs.size, _, _, _, _, _, fun i => (bs[i]?).getD true, rfl, Walks.list (A := X.A.in1) (I.ok.hd hc) _ p hne its.toArray, ⟨⟨_, Heap.get?_push_size _ rfl, rfl, rfl⟩, pl.isList.at fun o e => Heap.get?_push_of_some _ e⟩, bools_truth rv, fun h' tk kp => ?_⟩
  have e : (List.range its.toArray.size).all (fun i => (bs[i]?).getD true) = bs.all id := by
    rw [List.size_toArray, ← hl]; exact all_range bs
  rw [e]
  have f := I.fpOk (H' := H) (Nat.le_refl s.heap.objs.size) (I.hok.fresh (Nat.le_refl _))
  exact ⟨.bl _, H, (I.kept (h' := s.heap.push { cls := .type "list_iterator", data := .fields #[.ref p, .int 0 0] }) (t' := s.toks) fun b o e => Heap.get?_push_of_some _ e).turned (it := s.heap.objs.size) (t' := tk) (fun b o hb e => kp b o (by simpa using hb) e) f.1 f.2.1 f.2.2.2.1 f.2.2.2.2.1 f.2.2.2.2.2, rfl, q⟩
theorem call_any (hc : X.calm = true) : CallR X (.builtin "any") (fun xs H Q => ∃ (p : Addr) (bs : List Bool), xs = [.ref p] ∧ SqL X.K H p (bs.map V.bl) ∧ Q (.bl (bs.any id)) H) := by
  intro pins s σ H xs us Q I r h
  obtain ⟨p, bs, rfl, hq, q⟩ := h
  obtain ⟨u, rfl, rx⟩ := vals1 r
  cases rx
  obtain ⟨its, rv, pl, hz⟩ := I.list hq
  have hl := rv.length
  rw [List.length_map] at hl
  refine call_any_walk (wpAny_pyIter_list pl.isList ?_)
  have hne : p ≠ s.heap.objs.size := fun e => by
    obtain ⟨o, n, ho, _⟩ := pl
    exact absurd (Heap.lt_size ho) (by rw [e]; exact Nat.lt_irrefl _)
  refine ⟨s.heap.objs.size, _, _, _, _, _, fun i => (bs[i]?).getD true, rfl, Walks.list (A := X.A.in1) (I.ok.hd hc) _ p hne its.toArray, ⟨⟨_, Heap.get?_push_size _ rfl, rfl, rfl⟩, pl.isList.at fun o e => Heap.get?_push_of_some _ e⟩, bools_truth rv, fun h' tk kp => ?_⟩
  have e : (List.range its.toArray.size).any (fun i => (bs[i]?).getD true) = bs.any id := by
    rw [List.size_toArray, ← hl]; exact any_range bs
  rw [e]
  have f := I.fpOk (H' := H) (Nat.le_refl s.heap.objs.size) (I.hok.fresh (Nat.le_refl _))
  exact ⟨.bl _, H, (I.kept (h' := s.heap.push { cls := .type "list_iterator", data := .fields #[.ref p, .int 0 0] }) (t' := s.toks) fun b o e => Heap.get?_push_of_some _ e).turned (it := s.heap.objs.size) (t' := tk) (fun b o hb e => kp b o (by simpa using hb) e) f.1 f.2.1 f.2.2.2.1 f.2.2.2.2.1 f.2.2.2.2.2, rfl, q⟩
def rngV (lo hi : Int) : List V := (List.range (hi - lo).toNat).map fun i => V.int (lo + (i : Nat))
end
inductive EqD (K : PySem.W.Frag) (H : Hp) : Nat → V → V → Bool → Prop where
  | flat {n : Nat} {x y : V} (hx : flatV x = true) (hy : flatV y = true) : EqD K H n x y (eqV x y)
  | same {n : Nat} {a : Addr} : EqD K H n (.ref a) (.ref a) true
  | list {n : Nat} {a c : Addr} {xs ys : List V} {bs : List Bool} (ne : a ≠ c) (ha : SqL K H a xs) (hc : SqL K H c ys) (hl : xs.length = ys.length) (hb : bs.length = xs.length)
      (he : ∀ (j : Nat) x y b, xs[j]? = some x → ys[j]? = some y → bs[j]? = some b → EqD K H n x y b) : EqD K H (n + 1) (.ref a) (.ref c) (bs.all id)
  | listL {n : Nat} {a c : Addr} {xs ys : List V} (ne : a ≠ c) (ha : SqL K H a xs) (hc : SqL K H c ys) (hl : xs.length ≠ ys.length) : EqD K H (n + 1) (.ref a) (.ref c) false
  | tuple {n : Nat} {a c : Addr} {xs ys : List V} {bs : List Bool} (ne : a ≠ c) (ha : SqT K H a xs) (hc : SqT K H c ys) (hl : xs.length = ys.length) (hb : bs.length = xs.length)
      (he : ∀ (j : Nat) x y b, xs[j]? = some x → ys[j]? = some y → bs[j]? = some b → EqD K H n x y b) : EqD K H (n + 1) (.ref a) (.ref c) (bs.all id)
def ItemsEq (K : PySem.W.Frag) (H : Hp) (n : Nat) (xs ys : List V) (bs : List Bool) : Prop :=
  xs.length = ys.length ∧ bs.length = xs.length ∧ ∀ (j : Nat) x y b, xs[j]? = some x → ys[j]? = some y → bs[j]? = some b → EqD K H n x y b
section
variable {X : Cx} {pins : List (Addr × Obj)} {σ : St} {H : Hp} {s : Shared}
theorem items_at {A : Around} {xs ys : List V} {us vs : List Value} {bs : List Bool} (rx : Vals xs us) (ry : Vals ys vs) (hl : xs.length = ys.length) (hb : bs.length = xs.length)
    (ih : ∀ (j : Nat) x y b, xs[j]? = some x → ys[j]? = some y → bs[j]? = some b → ∀ u v, RelV x u → RelV y v → SeqAt.EqAt A s u v b) :
    ∀ j (h1 : j < us.toArray.size) (h2 : j < vs.toArray.size), SeqAt.EqAt A s us.toArray[j] vs.toArray[j] ((bs[j]?).getD true) := by
  intro j h1 h2
  have e1 := rx.length
  have e2 := ry.length
  have h1' : j < us.length := by simpa using h1
  have h2' : j < vs.length := by simpa using h2
  have g1 : xs[j]? = some (xs[j]'(by omega)) := List.getElem?_eq_getElem _
  have g2 : ys[j]? = some (ys[j]'(by omega)) := List.getElem?_eq_getElem _
  have g3 : bs[j]? = some (bs[j]'(by omega)) := List.getElem?_eq_getElem _
  obtain ⟨u, hu, ru⟩ := rx.get g1
  obtain ⟨v, hv, rv⟩ := ry.get g2
  have eu : us.toArray[j] = u := by
    rw [List.getElem?_eq_getElem h1'] at hu; simpa using hu
  have ev : vs.toArray[j] = v := by
    rw [List.getElem?_eq_getElem h2'] at hv; simpa using hv
  rw [eu, ev, g3]
  exact ih j _ _ _ g1 g2 g3 u v ru rv
theorem EqD.at {n : Nat} {x y : V} {b : Bool} (I : Inv X pins σ H s) (e : EqD X.K H n x y b) : ∀ {A : Around} {u v : Value}, A.units + n < cLine → RelV x u → RelV y v → SeqAt.EqAt A s u v b := by
  induction e with
  | flat hx hy => intro A u v _ ru rv; exact eqAt_V ru rv hx hy
  | same => intro A u v _ ru rv; cases ru; cases rv; exact SeqAt.EqAt.same _
  | @list n a c xs ys bs ne ha hc hl hb he ih =>
    intro A u v hA ru rv
    cases ru
    cases rv
    obtain ⟨its, r1, p1, _⟩ := I.list ha
    obtain ⟨its', r2, p2, _⟩ := I.list hc
    have e1 := r1.length
    have e2 := r2.length
    have q := SeqAt.RcAt.lists (e := fun j => (bs[j]?).getD true) p1.isList p2.isList (by simp; omega) (by omega) (items_at (A := A.in1) r1 r2 hl hb fun j x y b h1 h2 h3 u v ru rv => ih j x y b h1 h2 h3 (show A.units + 1 + n < cLine by omega) ru rv)
    rw [show its.toArray.size = bs.length by simp; omega, all_range] at q
    exact SeqAt.EqAt.of_refs ne q
  | @listL n a c xs ys ne ha hc hl =>
    intro A u v hA ru rv
    cases ru
    cases rv
    obtain ⟨its, r1, p1, _⟩ := I.list ha
    obtain ⟨its', r2, p2, _⟩ := I.list hc
    have e1 := r1.length
    have e2 := r2.length
    exact SeqAt.EqAt.of_refs ne (SeqAt.RcAt.lists_lengths p1.isList p2.isList (by simp; omega) (by omega))
  | @tuple n a c xs ys bs ne ha hc hl hb he ih =>
    intro A u v hA ru rv
    cases ru
    cases rv
    obtain ⟨its, r1, p1, _⟩ := I.tuple ha
    obtain ⟨its', r2, p2, _⟩ := I.tuple hc
    have e1 := r1.length
    have e2 := r2.length
    have q := SeqAt.RcAt.tuples (e := fun j => (bs[j]?).getD true) p1 p2 (by omega) (items_at (A := A.in1) r1 r2 hl hb fun j x y b h1 h2 h3 u v ru rv => ih j x y b h1 h2 h3 (show A.units + 1 + n < cLine by omega) ru rv)
    rw [show min its.toArray.size its'.toArray.size = bs.length by simp; omega, all_range, show (its.toArray.size == its'.toArray.size) = true by simp; omega, Bool.and_true] at q
    exact SeqAt.EqAt.of_refs ne q
def rEqL (K : PySem.W.Frag) (neg : Bool) : R2 := fun x y H Q => ∃ a c xs ys, x = .ref a ∧ y = .ref c ∧ SqL K H a xs ∧ SqL K H c ys ∧
  ((xs.length ≠ ys.length ∧ Q (.bl neg) H) ∨ ∃ bs, ItemsEq K H 6 xs ys bs ∧ Q (.bl (if neg then !bs.all id else bs.all id)) H)
def rEqT (K : PySem.W.Frag) (neg : Bool) : R2 := fun x y H Q => ∃ a c xs ys bs, x = .ref a ∧ y = .ref c ∧ SqT K H a xs ∧ SqT K H c ys ∧ ItemsEq K H 6 xs ys bs ∧ Q (.bl (if neg then !bs.all id else bs.all id)) H
theorem op_eqL (hu : X.A.units + 8 < cLine) : OpR X (compareOp .Eq) (rEqL X.K false) := by
  intro pins s σ H x y v u Q I rx ry h
  obtain ⟨a, c, xs, ys, rfl, rfl, ha, hc, h⟩ := h
  cases rx
  cases ry
  obtain ⟨its, r1, p1, _⟩ := I.list ha
  obtain ⟨its', r2, p2, _⟩ := I.list hc
  have e1 := r1.length
  have e2 := r2.length
  rcases h with ⟨hne, q⟩ | ⟨bs, ⟨hl, hb, he⟩, q⟩
  · exact SeqAt.eq_list_lengthsAt p1.isList p2.isList (by simp; omega) (by omega) ⟨.bl false, H, I, rfl, q⟩
  · refine SeqAt.eq_listAt (e := fun j => (bs[j]?).getD true) p1.isList p2.isList (by simp; omega) (by omega) (items_at (A := X.A.in1) r1 r2 hl hb fun j x y b h1 h2 h3 u v ru rv => (he j x y b h1 h2 h3).at I (show X.A.units + 1 + 6 < cLine by omega) ru rv) ?_
    rw [show its.toArray.size = bs.length by simp; omega, all_range]
    exact ⟨.bl (bs.all id), H, I, rfl, q⟩
theorem op_neL (hu : X.A.units + 8 < cLine) : OpR X (compareOp .NotEq) (rEqL X.K true) := by
  intro pins s σ H x y v u Q I rx ry h
  obtain ⟨a, c, xs, ys, rfl, rfl, ha, hc, h⟩ := h
  cases rx
  cases ry
  obtain ⟨its, r1, p1, _⟩ := I.list ha
  obtain ⟨its', r2, p2, _⟩ := I.list hc
  have e1 := r1.length
  have e2 := r2.length
  rcases h with ⟨hne, q⟩ | ⟨bs, ⟨hl, hb, he⟩, q⟩
  · exact SeqAt.RcNeAt.lists_lengths p1.isList p2.isList (by simp; omega) (by omega) _ _ _ _ ⟨.bl true, H, I, rfl, q⟩
  · refine SeqAt.RcNeAt.lists (e := fun j => (bs[j]?).getD true) p1.isList p2.isList (by simp; omega) (by omega) (items_at (A := X.A.in1) r1 r2 hl hb fun j x y b h1 h2 h3 u v ru rv => (he j x y b h1 h2 h3).at I (show X.A.units + 1 + 6 < cLine by omega) ru rv) _ _ _ _ ?_
    rw [show its.toArray.size = bs.length by simp; omega, all_range]
    exact ⟨.bl (!bs.all id), H, I, rfl, q⟩
theorem op_eqT (hu : X.A.units + 8 < cLine) : OpR X (compareOp .Eq) (rEqT X.K false) := by
  intro pins s σ H x y v u Q I rx ry h
  obtain ⟨a, c, xs, ys, bs, rfl, rfl, ha, hc, ⟨hl, hb, he⟩, q⟩ := h
  cases rx
  cases ry
  obtain ⟨its, r1, p1, _⟩ := I.tuple ha
  obtain ⟨its', r2, p2, _⟩ := I.tuple hc
  have e1 := r1.length
  have e2 := r2.length
  refine SeqAt.eq_tupleAt (e := fun j => (bs[j]?).getD true) p1 p2 (by omega) (items_at (A := X.A.in1) r1 r2 hl hb fun j x y b h1 h2 h3 u v ru rv => (he j x y b h1 h2 h3).at I (show X.A.units + 1 + 6 < cLine by omega) ru rv) ?_
  rw [show min its.toArray.size its'.toArray.size = bs.length by simp; omega, all_range, show (its.toArray.size == its'.toArray.size) = true by simp; omega, Bool.and_true]
  exact ⟨.bl (bs.all id), H, I, rfl, q⟩
theorem op_neT (hu : X.A.units + 8 < cLine) : OpR X (compareOp .NotEq) (rEqT X.K true) := by
  intro pins s σ H x y v u Q I rx ry h
  obtain ⟨a, c, xs, ys, bs, rfl, rfl, ha, hc, ⟨hl, hb, he⟩, q⟩ := h
  cases rx
  cases ry
  obtain ⟨its, r1, p1, _⟩ := I.tuple ha
  obtain ⟨its', r2, p2, _⟩ := I.tuple hc
  have e1 := r1.length
  have e2 := r2.length
  refine SeqAt.RcNeAt.tuples (e := fun j => (bs[j]?).getD true) p1 p2 (by omega) (items_at (A := X.A.in1) r1 r2 hl hb fun j x y b h1 h2 h3 u v ru rv => (he j x y b h1 h2 h3).at I (show X.A.units + 1 + 6 < cLine by omega) ru rv) _ _ _ _ ?_
  rw [show min its.toArray.size its'.toArray.size = bs.length by simp; omega, all_range, show (its.toArray.size == its'.toArray.size) = true by simp; omega, Bool.and_true]
  exact ⟨.bl (!bs.all id), H, I, rfl, q⟩
end
theorem k_int_int (K : PySem.W.Frag) : PySem.W.kitOne K (.type "int") (.type "int") = some true := by rfl
theorem k_int_bool (K : PySem.W.Frag) : PySem.W.kitOne K (.type "int") (.type "bool") = some false := by kernel_rfl
theorem k_bool_bool (K : PySem.W.Frag) : PySem.W.kitOne K (.type "bool") (.type "bool") = some true := by rfl
theorem k_bool_int (K : PySem.W.Frag) : PySem.W.kitOne K (.type "bool") (.type "int") = some true := by kernel_rfl
theorem k_tup_tup (K : PySem.W.Frag) : PySem.W.kitOne K (.type "tuple") (.type "tuple") = some true := by rfl
theorem k_list_list (K : PySem.W.Frag) : PySem.W.kitOne K (.type "list") (.type "list") = some true := by rfl
end L2
namespace L2
open PySem PySem.Spec PyProof.Rows
structure Cal (P : Program) (w : World) (K : PySem.W.Frag) (mg : Str → Option Value) (base : Heap) (x : Str) (k : Nat) (sp : Sp) : Prop where
  ex : ∃ (f : Addr) (fd : FuncData) (ps : List Str), FnOk P w K mg base CX0 k f fd ps sp ∧ mg x = some (.ref f) ∧ PySem.W.keepIn K (.ref f) = true ∧ Binds K fd ps []
theorem pe_cal {X : Cx} {x : Str} {k : Nat} {sp : Sp} {e : Expr} {es : List Expr} {t : TA} {p pos : Pos} (C : Cal X.prog X.w X.K X.mg X.base x k sp) (hr : Room k X.A) (hg : Gl X x) (ha : PA X (e :: es) t)
    (hdb : (x == ("__debug__" : Str)) = false := by decide) (he : starEach (e :: es) X.env = (false, eval e X.env) :: starEach es X.env := by rfl) (hpl : (backTo pos (starEach es X.env)).any (·.1) = false := by rfl) :
    PE X (.Call (.Name x p) (e :: es) [] pos) (tCall sp [] E0 t) := by
  obtain ⟨f, fd, ps, F, hm, hk, hb⟩ := C.ex
  exact pe_call F hr hg hm hk hb .nil pass0 ha hdb he hpl
structure CalM (P : Program) (w : World) (K : PySem.W.Frag) (mg : Str → Option Value) (base : Heap) (C : Addr) (m : Str) (k : Nat) (sp : Sp) : Prop where
  ex : ∃ (f : Addr) (fd : FuncData) (ps : List Str), FnOk P w K mg base CX0 k f fd ps sp ∧ Meth K C m f ∧ Binds K fd ps []
structure CalI (P : Program) (w : World) (K : PySem.W.Frag) (mg : Str → Option Value) (base : Heap) (x : Str) (C : Addr) (k : Nat) (sp : Sp) : Prop where
  ex : ∃ (f : Addr) (fd : FuncData) (ps : List Str), FnOk P w K mg base CX0 k f fd ps sp ∧ Mk K C f ∧ mg x = some (.ref C) ∧ Binds K fd ps []
theorem pe_new {X : Cx} {x : Str} {C : Addr} {k : Nat} {sp : Sp} {e : Expr} {es : List Expr} {t : TA} {p pos : Pos} (M : CalI X.prog X.w X.K X.mg X.base x C k sp) (hr : Room (k + 1) X.A) (hg : Gl X x) (ha : PA X (e :: es) t)
    (hdb : (x == ("__debug__" : Str)) = false := by decide) (he : starEach (e :: es) X.env = (false, eval e X.env) :: starEach es X.env := by rfl) (hpl : (backTo pos (starEach es X.env)).any (·.1) = false := by rfl) :
    PE X (.Call (.Name x p) (e :: es) [] pos) (tMake C sp [] E0 t) := by
  obtain ⟨f, fd, ps, F, hm, hk, hb⟩ := M.ex
  exact pe_make hm F hr hg hk hb .nil pass0 ha hdb he hpl
theorem pe_mth {X : Cx} {m : Str} {C : Addr} {k : Nat} {sp : Sp} {o e : Expr} {es : List Expr} {ta : TE} {t : TA} {apos pos : Pos} {pl : Sem Bool} (c : Cls X.K C) (M : CalM X.prog X.w X.K X.mg X.base C m k sp) (hr : Room k X.A) (ho : PE X o ta) (ha : PA X (e :: es) t)
    (hst : starEach (e :: es) X.env = (false, eval e X.env) :: starEach es X.env := by rfl) (hpl : (backTo pos (starEach es X.env)).any (·.1) = false := by rfl)
    (ht : eval (.Call (.Attribute o m apos) (e :: es) [] pos) X.env = (do
      let ov ← eval o X.env
      standAt apos.atName
      let (f, first) ← holding [ov] (getMethod ov m pl)
      callWith pos f first (backTo pos (starEach (e :: es) X.env)) (backToKw pos (keywordEach [] X.env))) := by rfl) :
    PE X (.Call (.Attribute o m apos) (e :: es) [] pos) (tMeth C m sp [] E0 ta t) := by
  obtain ⟨f, fd, ps, F, hm, hb⟩ := M.ex
  exact pe_meth ho c hm F hr hb .nil pass0 ha hst hpl ht
def blOk (outer : List (Str × NameKind)) (N : List Str) (scope : Scope) (fr : List (Str × Nat)) : Bool :=
  scope.kind == .function && scope.names.all (fun y => y.2 != .free || outer.lookup y.1 == some .cell || outer.lookup y.1 == some .free) && scope.names.all (fun y => scope.names.lookup y.1 == some y.2) &&
  fr.all fun y => scope.names.lookup y.1 == some .free && N[y.2]? == some y.1
theorem bl_of {X : Cx} {scope : Scope} {own : List Str} {fr : List (Str × Nat)} (h : blOk X.env.scope.names X.N scope fr = true) : BlScope X scope own fr := by
  unfold blOk at h
  simp only [Bool.and_eq_true, List.all_eq_true] at h
  obtain ⟨⟨⟨h1, h2⟩, h3⟩, h4⟩ := h
  refine ⟨?_, fun y hy hf => ?_, fun y hy hl => ?_, fun y hy => ?_, fun y hy => ?_⟩
  · cases e : scope.kind <;> rw [e] at h1 <;> first | rfl | (exact absurd h1 (by decide))
  · have := h2 y hy
    rw [hf] at this
    simp only [Bool.or_eq_true, beq_iff_eq] at this
    rcases this with (q | q) | q
    · exact absurd q (by decide)
    · exact .inl q
    · exact .inr q
  · have := h3 y hy
    rw [hl] at this
    exact beq_iff_eq.mp this
  · exact beq_iff_eq.mp (h3 y hy)
  · have := h4 y hy
    exact ⟨beq_iff_eq.mp this.1, beq_iff_eq.mp this.2⟩
def Sh (k : Nat) (cap σ : St) : Prop := ∃ o, o.length = k ∧ σ = o ++ cap
theorem Sh.mk1 {cap : St} {a : Option V} : Sh 1 cap (a :: cap) := ⟨[a], rfl, rfl⟩
theorem Sh.mk2 {cap : St} {a b : Option V} : Sh 2 cap (a :: b :: cap) := ⟨[a, b], rfl, rfl⟩
theorem Sh.one {cap σ : St} (h : Sh 1 cap σ) : ∃ a, σ = a :: cap := by
  obtain ⟨o, h1, rfl⟩ := h
  match o, h1 with
  | [a], _ => exact ⟨a, rfl⟩
theorem Sh.two {cap σ : St} (h : Sh 2 cap σ) : ∃ a b, σ = a :: b :: cap := by
  obtain ⟨o, h1, rfl⟩ := h
  match o, h1 with
  | [a, b], _ => exact ⟨a, b, rfl⟩
def capOf (fr : List (Str × Nat)) (σ : St) : St := fr.map fun y => (σ[y.2]?).getD none
def Wv (n k : Nat) (cap : St) (Pv : Nat → List V → Hp → Prop) : Nat → Nat → St → Hp → Prop := fun i m σ H => m = n - i ∧ i ≤ n ∧ Sh k cap σ ∧ ∃ vs, Pv i vs H
def Lf (D : Addr) (n k : Nat) (cap : St) (Pv : Nat → List V → Hp → Prop) (i : Nat) (σ4 : St) (y : V) (H6 : Hp) : Prop :=
  ∃ vs, H6 D = some (.lst vs) ∧ vs.length < sizeLine ∧ ∃ m', m' < n - i ∧ Wv n k cap Pv (i + 1) m' σ4 (upd H6 D (.lst (vs ++ [y])))
def Lf0 (n k : Nat) (cap : St) (Pv : Nat → List V → Hp → Prop) (i : Nat) (σ4 : St) (H5 : Hp) : Prop := ∃ m', m' < n - i ∧ Wv n k cap Pv (i + 1) m' σ4 H5
theorem leaf {D : Addr} {n k : Nat} {cap : St} {Pv : Nat → List V → Hp → Prop} {i : Nat} {σ4 : St} {y : V} {H6 : Hp} {vs ws : List V} (hi : i < n) (sh : Sh k cap σ4) (hD : H6 D = some (.lst vs)) (hl : vs.length < sizeLine)
    (p : Pv (i + 1) ws (upd H6 D (.lst (vs ++ [y])))) : Lf D n k cap Pv i σ4 y H6 := ⟨vs, hD, hl, n - (i + 1), by omega, rfl, hi, sh, ws, p⟩
def tTurn (g : TG) (tt : TT) (te : TE) (D : Addr) (n k : Nat) (cap : St) (Pv : Nat → List V → Hp → Prop) (i : Nat) (x : V) (σ' : St) (H : Hp) : Prop :=
  g x σ' H fun σ4 H4 => tt σ4 H4 fun b H5 => if b = true then te σ4 H5 fun y H6 => Lf D n k cap Pv i σ4 y H6 else Lf0 n k cap Pv i σ4 H5
section
variable {K : PySem.W.Frag} {a D : Addr} {xs : List V} {g : TG} {tt : TT} {te : TE} {k : Nat} {fr : List (Str × Nat)} {σ : St} {H1 : Hp} {Q : VK}
theorem sh0 : Sh k (capOf fr σ) (capS k fr σ) := ⟨List.replicate k none, List.length_replicate, rfl⟩
theorem comp_any {J : It} {n : Nat} (it : Nat → V → Prop) (Pv : Nat → List V → Hp → Prop) (h0 : Pv 0 [] (upd H1 D (.lst [])))
    (go : ∀ i vs H, i < n → Pv i vs H → J.go i H ∧ ∀ x H', J.yld i H x H' → H' = H ∧ it i x) (stop : ∀ vs H, Pv n vs H → J.stop n H)
    (hs : ∀ i x vs σ' H, i < n → it i x → Sh k (capOf fr σ) σ' → Pv i vs H → tTurn g tt te D n k (capOf fr σ) Pv i x σ' H) (hd : ∀ vs H, Pv n vs H → Q (.ref D) H) : tBlock g tt te J D (capS k fr σ) H1 Q := by
  refine ⟨Wv n k (capOf fr σ) Pv, ⟨n, by simp, Nat.zero_le _, sh0, [], h0⟩, ?_⟩
  rintro i m σ' H2 ⟨rfl, hi, sh, vs, p⟩
  by_cases hlt : i < n
  · obtain ⟨g1, g2⟩ := go i vs H2 hlt p
    refine .inr ⟨g1, fun x H3 y => ?_⟩
    obtain ⟨rfl, hx⟩ := g2 x H3 y
    exact hs i x vs σ' _ hlt hx sh p
  · have e : i = n := by omega
    subst e
    exact .inl ⟨stop vs H2 p, hd vs H2 p⟩
theorem comp_itl (Pv : Nat → List V → Hp → Prop) (h0 : Pv 0 [] (upd H1 D (.lst []))) (hl : ∀ i vs H, i ≤ xs.length → Pv i vs H → SqL K H a xs)
    (hs : ∀ i x vs σ' H, i < xs.length → xs[i]? = some x → Sh k (capOf fr σ) σ' → Pv i vs H → tTurn g tt te D xs.length k (capOf fr σ) Pv i x σ' H) (hd : ∀ vs H, Pv xs.length vs H → Q (.ref D) H) : tBlock g tt te (Itl K a) D (capS k fr σ) H1 Q :=
  comp_any (fun i x => xs[i]? = some x) Pv h0 (fun i vs H hi p => ⟨⟨xs, xs[i], hl i vs H (Nat.le_of_lt hi) p, by simp [hi]⟩, fun x H' y => ⟨y.1, y.2 xs (hl i vs H (Nat.le_of_lt hi) p)⟩⟩)
    (fun vs H p => ⟨xs, hl _ vs H (Nat.le_refl _) p, Nat.le_refl _⟩) hs hd
theorem comp_itt (Pv : Nat → List V → Hp → Prop) (h0 : Pv 0 [] (upd H1 D (.lst []))) (hl : ∀ i vs H, i ≤ xs.length → Pv i vs H → SqT K H a xs)
    (hs : ∀ i x vs σ' H, i < xs.length → xs[i]? = some x → Sh k (capOf fr σ) σ' → Pv i vs H → tTurn g tt te D xs.length k (capOf fr σ) Pv i x σ' H) (hd : ∀ vs H, Pv xs.length vs H → Q (.ref D) H) : tBlock g tt te (Itt K a) D (capS k fr σ) H1 Q :=
  comp_any (fun i x => xs[i]? = some x) Pv h0 (fun i vs H hi p => ⟨⟨xs, xs[i], hl i vs H (Nat.le_of_lt hi) p, by simp [hi]⟩, fun x H' y => ⟨y.1, y.2 xs (hl i vs H (Nat.le_of_lt hi) p)⟩⟩)
    (fun vs H p => ⟨xs, hl _ vs H (Nat.le_refl _) p, Nat.le_refl _⟩) hs hd
theorem comp_itr {lo : Int} {n : Nat} (Pv : Nat → List V → Hp → Prop) (h0 : Pv 0 [] (upd H1 D (.lst [])))
    (hs : ∀ i x vs σ' H, i < n → x = .int (lo + i) → Sh k (capOf fr σ) σ' → Pv i vs H → tTurn g tt te D n k (capOf fr σ) Pv i x σ' H) (hd : ∀ vs H, Pv n vs H → Q (.ref D) H) : tBlock g tt te (Itr lo n) D (capS k fr σ) H1 Q :=
  comp_any (fun i x => x = .int (lo + i)) Pv h0 (fun i vs H hi p => ⟨hi, fun x H' y => y⟩) (fun vs H p => Nat.le_refl _) hs hd
end
def Ext (l : Addr) (H H' : Hp) : Prop := ∀ b o, b ≠ l → H b = some o → H' b = some o
theorem Ext.refl (l : Addr) (H : Hp) : Ext l H H := fun _ _ _ e => e
theorem Ext.trans {l : Addr} {H H1 H2 : Hp} (a : Ext l H H1) (b : Ext l H1 H2) : Ext l H H2 := fun c o n e => b c o n (a c o n e)
theorem Ext.new {l p : Addr} {H : Hp} {o : HO} (h : H p = none) : Ext l H (upd H p o) := fun c u _ e => by rw [upd_ne (ne_of_none e h)]; exact e
theorem Ext.set {l : Addr} {H : Hp} {o : HO} : Ext l H (upd H l o) := fun c u n e => by rw [upd_ne n]; exact e
theorem Same.ext {l : Addr} {H H' : Hp} (s : Same H H') : Ext l H H' := fun c o _ e => s c o e
theorem Same.new {p : Addr} {H : Hp} {o : HO} (h : H p = none) : Same H (upd H p o) := fun c u e => by rw [upd_ne (ne_of_none e h)]; exact e
theorem Same.upd {p : Addr} {H H' : Hp} {o : HO} (s : Same H H') (h : H p = none) : Same H (upd H' p o) := fun c u e => by rw [upd_ne (ne_of_none e h)]; exact s c u e
theorem Ext.upd {l p : Addr} {H H' : Hp} {o : HO} (s : Ext l H H') (h : H p = none) : Ext l H (upd H' p o) := fun c u n e => by rw [upd_ne (ne_of_none e h)]; exact s c u n e
theorem Ext.free {l p : Addr} {H H' : Hp} (s : Ext l H H') (n : p ≠ l) (h : H' p = none) : H p = none := by
  cases e : H p with
  | none => rfl
  | some o => rw [s p o n e] at h; cases h
theorem cx_K {CX : CXT} {P : Program} {w : World} {K : PySem.W.Frag} {mg : Str → Option Value} {base : Heap} {N : List Str} {qual : Str} {scope : Scope} {f : Addr} {cd : Value} {A : Around} {outer : List Env} {s : Shared} {H : Hp} {E : XK} : (cxOf CX P w K mg base N qual scope f cd A outer s H E).K = K := rfl
theorem in_K {X : Cx} {N : List Str} {scope : Scope} {cl : List (Str × Addr)} {s : Shared} {H : Hp} {fp : List Addr} : (cxIn X N scope cl s H fp).K = X.K := rfl
theorem wish_K {X : Cx} {E : Value → Shared → Prop} : (X.wish E).K = X.K := rfl
theorem pe_globI {X : Cx} {x : Str} {i : Int} {pos : Pos} (hg : Gl X x) (hm : ∃ t, X.mg x = some (.int i t)) (hd : (x == ("__debug__" : Str)) = false := by decide) : PE X (.Name x pos) (tC (.int i)) := by
  obtain ⟨t, e⟩ := hm
  exact pe_glob hg e ⟨t, rfl⟩ hd
theorem atI_at {α : Type} {xs : List α} {i : Int} {v : α} (h0 : 0 ≤ i) (h : xs[i.toNat]? = some v) : atI xs i = some v := by
  have e : ((i.toNat : Nat) : Int) = i := Int.toNat_of_nonneg h0
  rw [← e]
  exact atI_nat h
def isStar : Expr → Bool
  | .Starred _ _ => true
  | _ => false
theorem star_cons {e : Expr} {es : List Expr} {env : Env} (h : isStar e = false) : starEach (e :: es) env = (false, eval e env) :: starEach es env := by
  cases e <;> first | rfl | cases h
theorem star_any {pos : Pos} {env : Env} : ∀ {es : List Expr}, es.all (fun x => !isStar x) = true → (backTo pos (starEach es env)).any (·.1) = false
  | [], _ => rfl
  | e :: es, h => by
    rw [List.all_cons, Bool.and_eq_true] at h
    have h1 : isStar e = false := by simpa using h.1
    rw [star_cons h1]
    show ((false, _).1 || (backTo pos (starEach es env)).any (·.1)) = false
    rw [star_any h.2]
    rfl
section
variable {X : Cx} {x : Str} {p pos : Pos} {e : Expr} {es : List Expr} {te : TE} {t : TA} {id T : String} {r : List V → Hp → VK → Prop}
theorem pa_c (ha : PE X e te) (hr : PA X es t) (h : isStar e = false := by rfl) : PA X (e :: es) (tCons te t) := pa_cons ha hr (star_cons h)
theorem pe_cB (hc : CallR X (.builtin id) r) (hg : Gl X x) (hm : X.mg x = none) (hv : bootBuiltins x = some (.builtin id)) (ha : PA X (e :: es) t) (h : isStar e = false := by rfl) (h2 : es.all (fun x => !isStar x) = true := by rfl)
    (hn : x ≠ "__name__" := by decide) (hdb : (x == ("__debug__" : Str)) = false := by decide) : PE X (.Call (.Name x p) (e :: es) [] pos) (tCB r t) := pe_callB hc hg hm hv ha hn hdb (star_cons h) (star_any h2)
theorem pe_cT (hc : CallR X (.type T) r) (hg : Gl X x) (hm : X.mg x = none) (hv : bootBuiltins x = some (.type T)) (ha : PA X (e :: es) t) (h : isStar e = false := by rfl) (h2 : es.all (fun x => !isStar x) = true := by rfl)
    (hn : x ≠ "__name__" := by decide) (hdb : (x == ("__debug__" : Str)) = false := by decide) : PE X (.Call (.Name x p) (e :: es) [] pos) (tCB r t) := pe_callTy hc hg hm hv ha hn hdb (star_cons h) (star_any h2)
theorem pe_c {k : Nat} {sp : Sp} (C : Cal X.prog X.w X.K X.mg X.base x k sp) (hr : Room k X.A) (hg : Gl X x) (ha : PA X (e :: es) t) (h : isStar e = false := by rfl) (h2 : es.all (fun x => !isStar x) = true := by rfl)
    (hdb : (x == ("__debug__" : Str)) = false := by decide) : PE X (.Call (.Name x p) (e :: es) [] pos) (tCall sp [] E0 t) := pe_cal C hr hg ha hdb (star_cons h) (star_any h2)
theorem pe_n {C : Addr} {k : Nat} {sp : Sp} (M : CalI X.prog X.w X.K X.mg X.base x C k sp) (hr : Room (k + 1) X.A) (hg : Gl X x) (ha : PA X (e :: es) t) (h : isStar e = false := by rfl) (h2 : es.all (fun x => !isStar x) = true := by rfl)
    (hdb : (x == ("__debug__" : Str)) = false := by decide) : PE X (.Call (.Name x p) (e :: es) [] pos) (tMake C sp [] E0 t) := pe_new M hr hg ha hdb (star_cons h) (star_any h2)
theorem pi_r1 {tg a : Expr} {ta : TA} (hg : Gl X "range") (hm : X.mg "range" = none) (ha : PA X [a] ta) (h : isStar a = false := by rfl) : PI X tg (.Call (.Name "range" p) [a] [] pos) (iRng1 ta) := pi_range1 hg hm ha (star_cons h)
theorem pi_r2 {tg a b : Expr} {ta : TA} (hg : Gl X "range") (hm : X.mg "range" = none) (ha : PA X [a, b] ta) (h : isStar a = false := by rfl) (h2 : isStar b = false := by rfl) : PI X tg (.Call (.Name "range" p) [a, b] [] pos) (iRng2 ta) :=
  pi_range2 hg hm ha (by rw [star_cons h, star_cons h2]; rfl) (star_cons h2)
end
theorem scal_ii {i j : Int} : scal (.int i) (.int j) = true := rfl
theorem scal_bb {i j : Bool} : scal (.bl i) (.bl j) = true := rfl
theorem scal_ss {i j : Str} : scal (.str i) (.str j) = true := rfl
theorem pe_ty {X : Cx} {x : Str} {n : String} {pos : Pos} (hg : Gl X x) (hm : X.mg x = none) (hv : bootBuiltins x = some (.type n)) (hn : x ≠ "__name__" := by decide) (hd : (x == ("__debug__" : Str)) = false := by decide) : PE X (.Name x pos) (tC (.ty n)) := pe_bltn (v := .ty n) hg hm hv rfl hn hd
section
variable {X : Cx} (K : PySem.W.Frag) (hK : X.K = K)
include hK
theorem pg_tupK {pos : Pos} {es : List Expr} {k : Nat} {t : TGs} {n : Nat} (hc : X.calm = true) (h : PGs X es t) (hn : (assignEach es X.env).length = n) (hst : (assignEach es X.env).findIdx? (·.1) = none) : PG X (.Tuple es k pos) (gTup K n t) := by subst hK; exact pg_tup hc h hn hst
theorem call_len_seqK : CallR X (.builtin "len") (fun xs H Q => ∃ p ys, xs = [.ref p] ∧ (SqL K H p ys ∨ SqT K H p ys) ∧ Q (.int ys.length) H) := by subst hK; exact call_len_seq
theorem call_list_ofK : CallR X (.type "list") (fun xs H Q => ∃ p ys, xs = [.ref p] ∧ (SqL K H p ys ∨ SqT K H p ys) ∧ ∀ l, H l = none → Q (.ref l) (upd H l (.lst ys))) := by subst hK; exact call_list_of
theorem ix_listK : IxR X (rIxL K) := by subst hK; exact ix_list
theorem pe_fldK {e : Expr} {f : Str} {pos : Pos} {ta : TE} (he : PE X e ta) (hb : attributeBase e f X.env (eval e X.env) = eval e X.env) : PE X (.Attribute e f pos) (tFld K ta f) := by subst hK; exact pe_fld he hb
theorem pi_listK {tg l : Expr} {tl : TE} (hl : PE X l tl) : PI X tg l (iList K tl) := by subst hK; exact pi_list hl
end
end L2
set_option maxHeartbeats 1000000
namespace HT
open PySem PySem.Spec PyProof.Rows
section
variable {prog : Program} {w : World} {A : Around} {E : Value → Shared → Prop} {s : Shared}
end
end HT
namespace L2
open PySem PySem.Spec PyProof.Rows
def tRev (K : PySem.W.Frag) (te : TE) : TE := fun σ H Q => te σ H fun x H1 => ∃ a u v, x = .ref a ∧ SqT K H1 a [u, v] ∧ ∀ p, H1 p = none → Q (.ref p) (upd H1 p (.tup [v, u]))
section
variable {X : Cx} {e es : Expr} {te ts : TE} {pos p2 : Pos}
end
end L2
set_option maxHeartbeats 1000000
namespace L2
open PySem PySem.Spec PyProof.Rows
section
variable {X : Cx}
def rGetL (K : PySem.W.Frag) : V → V → Hp → VK → Prop := fun x y H Q => ∃ p xs i v, x = .ref p ∧ y = .int i ∧ 0 ≤ i ∧ SqL K H p xs ∧ xs[i.toNat]? = some v ∧ Q v H
end
def Big (x : Int) : Prop := -(100000000000000000000000000000000) < x ∧ x < 100000000000000000000000000000000
theorem Big.mul {x y : Int} (hx : Big x) (hy : Big y) : IntMulOk x y := by
  have e : (2 : Nat) ^ 200 > 100000000000000000000000000000000 := by decide +kernel
  have b : ∀ {z : Int}, Big z → Builtin.Int.intBits z ≤ 2 ^ 20 := fun {z} h => by
    have hz : z.natAbs < 2 ^ 200 := by have := h.1; have := h.2; omega
    unfold Builtin.Int.intBits
    split
    · exact Nat.zero_le _
    · rename_i h0
      have : z.natAbs.log2 < 200 := (Nat.log2_lt (by intro c; apply h0; simpa using c)).mpr hz
      have e2 : (2 : Nat) ^ 20 = 1048576 := by decide
      rw [e2]
      omega
  exact .of_bits (b hx) (b hy)
def atZ (ns : List Int) (i : Int) : Int := ns.getD i.toNat 0
theorem atZ_get {ns : List Int} {i : Int} (h : i.toNat < ns.length) : (ns.map V.int)[i.toNat]? = some (.int (atZ ns i)) := by
  rw [List.getElem?_map, List.getElem?_eq_getElem h]
  simp [atZ, h]
theorem atZ_mem {ns : List Int} {i : Int} (h : i.toNat < ns.length) : atZ ns i ∈ ns := by
  unfold atZ
  rw [List.getD_eq_getElem?_getD, List.getElem?_eq_getElem h]
  exact List.getElem_mem h
def arrZ (a b : List Int) : List (Int × Int) → Int
  | [] => 0
  | q :: ps => arrZ a b ps + atZ a q.1 * atZ b q.2
def arrZ' (a b : List Int) (ps : List (Int × Int)) : Int := arrZ a b ps.reverse
def dotZ (a b : List Int) : Nat → Int
  | 0 => 0
  | n + 1 => dotZ a b n + atZ a n * atZ b n
def formZ (ps : List (Int × Int)) (a b : List Int) : Int := dotZ a b a.length - arrZ' a b ps
def mirS (ns : List Int) (k : Int) : List (Int × Int) → Int
  | [] => 0
  | q :: ps => mirS ns k ps + (if q.1 = k then atZ ns q.2 else if q.2 = k then atZ ns q.1 else 0)
def mirT (ns : List Int) (k : Int) (ps : List (Int × Int)) : Int := mirS ns k ps.reverse
def mirZ (k : Int) (ns : List Int) (ps : List (Int × Int)) : List Int := ns.set k.toNat (mirT ns k ps - atZ ns k)
def NoLoop (ps : List (Int × Int)) : Prop := ∀ q ∈ ps, q.1 ≠ q.2
def NonNeg (ps : List (Int × Int)) : Prop := ∀ q ∈ ps, 0 ≤ q.1 ∧ 0 ≤ q.2
def Med (x : Int) : Prop := -(1000000000000000000000000000000) ≤ x ∧ x ≤ 1000000000000000000000000000000
theorem Med.big {x : Int} (h : Med x) : Big x := by unfold Med at h; unfold Big; omega
end L2
set_option maxHeartbeats 1000000
namespace L2
open PySem PySem.Spec PyProof.Rows
section
variable {X : Cx} {pins : List (Addr × Obj)} {σ : St} {H : Hp} {s : Shared} {h' : Heap}
theorem Inv.turnedL {t' : Nat} {fp : List Addr} (I : Inv X pins σ H s) (hf : ∀ b ∈ fp, FpOk X pins H b) (k : ∀ b o, b ∉ fp → s.heap.get? b = some o → h'.get? b = some o) : Inv X pins σ H { s with heap := h', toks := t' } := by
  have nit : ∀ b u, H b = some u → b ∉ fp := fun b u e z => by rw [(hf b z).1] at e; cases e
  refine I.step (g' := s.gens) (d' := s.drawn) (ch := fp) (fun b hb => ?_) (fun b o _ _ hc e _ => k b o hc e) (fun b o _ _ hc e _ => ⟨o.slots, k b o hc e⟩) (fun _ _ _ _ n => n)
    (fun b o hc e => ⟨o, k b o hc e⟩) (fun _ _ e => e) (fun _ _ _ e => e) (fun b ps e => ⟨#[], by rw [e]; simp⟩) (fun m hm => ?_) (fun b u e => ?_) I.bare
  · obtain ⟨f0, f1, f2, f3, f4, f5⟩ := hf b hb
    exact ⟨f3, f1, f4, f5⟩
  · obtain ⟨o, es, ep, ho, r⟩ := hm
    exact ⟨o, es, ep, k _ o (fun z => (hf _ z).2.1 rfl) ho, r⟩
  · refine (I.hok b u e).stay (fun c v hc q => k c v ?_ q) (fun _ q => q) fun _ _ q => q
    rcases hc with z | z
    · rw [z]; exact nit b u e
    · exact nit c _ z
theorem Inv.turnedT {t' : Nat} {fp : List Addr} {p : Addr} {o : HO} (I : Inv X pins σ H s) (hf : ∀ b ∈ fp, FpOk X pins H b) (k : ∀ b o, b ∉ fp → s.heap.get? b = some o → h'.get? b = some o) (hp : s.heap.objs.size ≤ p)
    (new : ObjOk X.prog X.w (upd H p o) h' p o) : Inv X pins σ (upd H p o) { s with heap := h', toks := t' } := by
  have hn : H p = none := I.hok.fresh hp
  have nit : ∀ b u, H b = some u → b ∉ fp := fun b u e z => by rw [(hf b z).1] at e; cases e
  have npp : ∀ b u, s.heap.get? b = some u → b ≠ p := fun b u e => Nat.ne_of_lt (Nat.lt_of_lt_of_le (Heap.lt_size e) hp)
  refine I.step (g' := s.gens) (d' := s.drawn) (ch := fp) (fun b hb => ?_) (fun b o _ _ hc e _ => k b o hc e) (fun b o _ _ hc e _ => ⟨o.slots, k b o hc e⟩) (fun b o _ e n => by rw [upd_ne (npp b o e)]; exact n)
    (fun b o hc e => ⟨o, k b o hc e⟩) (fun b xs e => by rw [upd_ne (ne_of_none e hn)]; exact e) (fun b u xs e => by rw [upd_ne (ne_of_none e hn)]; exact e) (fun b ps e => ⟨#[], by rw [upd_ne (ne_of_none e hn), e]; simp⟩) (fun m hm => ?_) (fun b u e => ?_) I.bare
  · obtain ⟨f0, f1, f2, f3, f4, f5⟩ := hf b hb
    exact ⟨f3, f1, f4, f5⟩
  · obtain ⟨o, es, ep, ho, r⟩ := hm
    exact ⟨o, es, ep, k _ o (fun z => (hf _ z).2.1 rfl) ho, r⟩
  · by_cases hb : b = p
    · subst hb; rw [upd_same] at e; cases e; exact new
    · rw [upd_ne hb] at e
      refine (I.hok b u e).stay (fun c v hc q => k c v ?_ q) (fun c q => by rw [upd_ne (ne_of_none q hn)]; exact q) fun c xs q => by rw [upd_ne (ne_of_none q hn)]; exact q
      rcases hc with z | z
      · rw [z]; exact nit b u e
      · exact nit c _ z
end
def Itz (K : PySem.W.Frag) (a b : Addr) : It :=
  ⟨fun i H => ∃ xs ys x y, SqL K H a xs ∧ SqL K H b ys ∧ xs[i]? = some x ∧ ys[i]? = some y,
   fun i H v H' => ∃ x y p, v = .ref p ∧ H p = none ∧ H' = upd H p (.tup [x, y]) ∧ (∀ xs, SqL K H a xs → xs[i]? = some x) ∧ ∀ ys, SqL K H b ys → ys[i]? = some y,
   fun i H => ∃ xs ys, SqL K H a xs ∧ SqL K H b ys ∧ (xs.length ≤ i ∨ ys.length ≤ i)⟩
theorem turn_zip {P : Program} {w : World} {K : PySem.W.Frag} {elts : List Expr} {x1 : Nat} {pos : Pos} {z TI TO i1 i2 a b : Addr} (D : ZipApart z TI TO i1 i2 a b) :
    Turn P w K (.Tuple elts x1 pos) (Itz K a b) [z, TI, TO, i1, i2] z (fun i h => IsZip h z TI TO .none ∧ IsPair h TI (.ref i1) (.ref i2) ∧ (∃ u v, IsPair h TO u v) ∧ h.IsListIter i1 a i ∧ h.IsListIter i2 b i) where
  mem := by simp
  obj := fun i h st c hc => by
    obtain ⟨hz, hTI, ⟨u, v, hTO⟩, ⟨o1, e1, c1, d1⟩, ⟨o2, e2, c2, d2⟩⟩ := st
    simp at hc
    rcases hc with rfl | rfl | rfl | rfl | rfl
    · exact ⟨_, hz, fun v z => by have z' : Data.fields _ = Data.cell v := z; cases z'⟩
    · exact ⟨_, hTI, fun v z => by have z' : Data.seq _ _ = Data.cell v := z; cases z'⟩
    · exact ⟨_, hTO, fun v z => by have z' : Data.seq _ _ = Data.cell v := z; cases z'⟩
    · exact ⟨o1, e1, fun v z => by rw [d1] at z; cases z⟩
    · exact ⟨o2, e2, fun v z => by rw [d2] at z; cases z⟩
  keep := fun i h h' st k => by
    obtain ⟨hz, hTI, ⟨u, v, hTO⟩, h1, h2⟩ := st
    exact ⟨k z (by simp) _ hz, k TI (by simp) _ hTI, ⟨u, v, k TO (by simp) _ hTO⟩, h1.at fun o e => k i1 (by simp) o e, h2.at fun o e => k i2 (by simp) o e⟩
  item := by
    intro X hP hw hK hc i pins s σ H E I hf st hg
    subst hP hw hK
    obtain ⟨xs, ys, x, y, hqa, hqb, hx, hy⟩ := hg
    obtain ⟨its, rv, p, hz1⟩ := I.list hqa
    obtain ⟨its2, rv2, p2, hz2⟩ := I.list hqb
    obtain ⟨u, hu, ru⟩ := rv.get hx
    obtain ⟨u2, hu2, ru2⟩ := rv2.get hy
    obtain ⟨hz, hTI, ⟨c, d, hTO⟩, h1, h2⟩ := st
    refine wpAny_pyNext_zip_item D hz hTI hTO h1 h2 p.isList p2.isList (by simpa using hu) (by simpa using hu2) fun h' a1 a2 a3 a4 a5 a6 a7 => ?_
    refine ⟨_, rfl, wpAny_letOwnedTupleGo_zip a1 fun h'' b1 b2 => ?_⟩
    have nz : s.heap.objs.size ≠ z := Nat.ne_of_gt (Heap.lt_size hz)
    have k2 : ∀ c o, c ∉ [z, TI, TO, i1, i2] → s.heap.get? c = some o → h''.get? c = some o := fun c o hc e => by
      simp at hc
      exact b2.extBut _ _ hc.1 (a7 c o hc.1 hc.2.2.1 hc.2.2.2.1 hc.2.2.2.2 e)
    have I2 : Inv X pins σ (upd H s.heap.objs.size (.tup [x, y])) { s with heap := h'' } := I.turnedT (t' := s.toks) hf k2 (Nat.le_refl _)
      ⟨by show 2 ≤ sizeLine; decide, [u, u2], .cons ru (.cons ru2 .nil), _, b2.extBut _ _ nz a5, rfl, _, rfl⟩
    refine ⟨.ref s.heap.objs.size, _, I2, rfl, ⟨x, y, _, rfl, I.hok.fresh (Nat.le_refl _), rfl, fun xs' hq => by rw [I.list_inj hq hqa]; exact hx, fun ys' hq => by rw [I.list_inj hq hqb]; exact hy⟩,
      ⟨b1, b2.extBut _ _ D.TIz (a7 _ _ D.TIz D.TITO D.TIi1 D.TIi2 hTI), ⟨_, _, b2.extBut _ _ D.TOz a2⟩, a3.extBut b2.extBut D.i1z, a4.extBut b2.extBut D.i2z⟩, fun c hc => ?_⟩
    have hlt : ∀ c ∈ [z, TI, TO, i1, i2], c < s.heap.objs.size := fun c hc => by
      simp at hc
      obtain ⟨o1, e1, _⟩ := h1
      obtain ⟨o2, e2, _⟩ := h2
      rcases hc with rfl | rfl | rfl | rfl | rfl
      · exact Heap.lt_size hz
      · exact Heap.lt_size hTI
      · exact Heap.lt_size hTO
      · exact Heap.lt_size e1
      · exact Heap.lt_size e2
    rw [upd_ne (Nat.ne_of_lt (hlt c hc))]
    exact (hf c hc).1
  done := by
    intro X hP hw hK hc i pins s σ H E I hf st hg
    subst hP hw hK
    obtain ⟨xs, ys, hqa, hqb, hx⟩ := hg
    obtain ⟨its, rv, p, hz1⟩ := I.list hqa
    obtain ⟨its2, rv2, p2, hz2⟩ := I.list hqb
    obtain ⟨hz, hTI, ⟨c, d, hTO⟩, h1, h2⟩ := st
    have l1 := rv.length
    have l2 := rv2.length
    refine wpAny_pyNext_zip_end (I.ok.hd hc) D hz hTI hTO h1 h2 p.isList p2.isList ?_ fun h' kk => ⟨rfl, I.turnedL (t' := s.toks) hf fun c o hc e => ?_⟩
    · rcases hx with hx | hx
      · exact .inl (by simp; omega)
      · exact .inr (by simp; omega)
    · simp at hc
      exact kk c o hc.1 hc.2.2.1 hc.2.2.2.1 hc.2.2.2.2 e
  self := fun _ _ _ _ _ st h => wpAny_pyIter_zip st.1 h
section
variable {X : Cx}
def iZip (K : PySem.W.Frag) (ta : TA) : TI := fun σ H R => ta σ H fun vs H1 => ∃ a b, vs = [.ref a, .ref b] ∧ (∃ xs, SqL K H1 a xs) ∧ (∃ ys, SqL K H1 b ys) ∧ R (Itz K a b) H1
theorem pi_zip {elts : List Expr} {x1 : Nat} {pt p pos : Pos} {a b : Expr} {ta : TA} (hg : Gl X "zip") (hm : X.mg "zip" = none) (ha : PA X [a, b] ta) (h : isStar a = false := by rfl) (h2 : isStar b = false := by rfl) :
    PI X (.Tuple elts x1 pt) (.Call (.Name "zip" p) [a, b] [] pos) (iZip X.K ta) := by
  intro pins s σ H R I hh
  refine Call_ (ld_blt I hg hm boot_zip (PyProof.Rows.callWith_type1 (thn (ha pos pins s σ H _ I hh) fun us s1 ⟨vs, H1, I1, r1, q1⟩ => ?_) (by rw [star_cons h, star_cons h2]) (by rw [star_cons h2]; rfl)))
  obtain ⟨c, d, e, ⟨xs, hq1⟩, ⟨ys, hq2⟩, q⟩ := q1
  subst e
  cases r1 with
  | cons r rr =>
    cases rr with
    | cons r' rr =>
      cases rr
      cases r
      cases r'
      obtain ⟨its, rv, p1, hz1⟩ := I1.list hq1
      obtain ⟨its2, rv2, p2, hz2⟩ := I1.list hq2
      have lt1 : c < s1.heap.objs.size := by obtain ⟨o, ho, _⟩ := p1.isList; exact Heap.lt_size ho
      have lt2 : d < s1.heap.objs.size := by obtain ⟨o, ho, _⟩ := p2.isList; exact Heap.lt_size ho
      refine call_zip_2 p1.isList p2.isList fun h' a1 a2 a3 a4 a5 a6 a7 => wpAny_pyIter_zip (s := { s1 with heap := h' }) a1 ?_
      refine ⟨_, _, _, _, H1, rfl, I1.kept (t' := s1.toks) a7, turn_zip (zipApart_new lt1 lt2), ⟨a1, a2, ⟨_, _, a3⟩, a4, a5⟩, fun b hb => ?_, q⟩
      have hb' : s1.heap.objs.size ≤ b := by
        simp at hb
        rcases hb with rfl | rfl | rfl | rfl | rfl
        · exact Nat.le_add_right _ _
        · exact Nat.le_add_right _ _
        · exact Nat.le_add_right _ _
        · exact Nat.le_refl _
        · exact Nat.le_add_right _ _
      have := (I1.fpOk (H' := H1) hb' (I1.hok.fresh hb'))
      exact this
theorem call_sum (hc : X.calm = true) : CallR X (.builtin "sum") (fun xs H Q => ∃ (p : Addr) (ns : List Int), xs = [.ref p] ∧ SqL X.K H p (ns.map V.int) ∧ Q (.int (preSum (fun i => ns.getD i 0) ns.length)) H) := by
  intro pins s σ H xs us Q I r h
  obtain ⟨p, ns, rfl, hq, q⟩ := h
  obtain ⟨u, rfl, rx⟩ := vals1 r
  cases rx
  obtain ⟨its, rv, pl, hz⟩ := I.list hq
  have hl := rv.length
  rw [List.length_map] at hl
  refine call_sum_walkG (wpAny_pyIter_list pl.isList ?_)
  have hne : p ≠ s.heap.objs.size := fun e => by
    obtain ⟨o, n, ho, _⟩ := pl
    exact absurd (Heap.lt_size ho) (by rw [e]; exact Nat.lt_irrefl _)
  refine ⟨s.heap.objs.size, _, _, _, _, _, fun i => ns.getD i 0, rfl, Walks.list (A := X.A.in1) (I.ok.hd hc) _ p hne its.toArray, ⟨⟨_, Heap.get?_push_size _ rfl, rfl, rfl⟩, pl.isList.at fun o e => Heap.get?_push_of_some _ e⟩, ?_, ?_, fun h' tk t' kp => ?_⟩
  · intro b hb
    simp at hb
    rcases hb with rfl | rfl
    · rw [Heap.size_push]; exact Nat.lt_succ_self _
    · rw [Heap.size_push]
      obtain ⟨o, ho, _⟩ := pl.isList
      exact Nat.lt_succ_of_lt (Heap.lt_size ho)
  · intro i v hv
    have hv : its[i]? = some v := by simpa using hv
    have hi : i < ns.length := by rw [hl]; exact (List.getElem?_eq_some_iff.mp hv).1
    obtain ⟨u, hu, ru⟩ := rv.get (i := i) (x := .int ns[i]) (by rw [List.getElem?_map, List.getElem?_eq_getElem hi]; rfl)
    rw [hv] at hu
    cases hu
    obtain ⟨t, rfl⟩ := ru
    exact ⟨t, by simp [hi]⟩
  · rw [List.size_toArray, ← hl]
    have f := I.fpOk (H' := H) (Nat.le_refl s.heap.objs.size) (I.hok.fresh (Nat.le_refl _))
    exact ⟨.int _, H, (I.kept (h' := s.heap.push { cls := .type "list_iterator", data := .fields #[.ref p, .int 0 0] }) (t' := s.toks) fun b o e => Heap.get?_push_of_some _ e).turned (it := s.heap.objs.size) (t' := tk) (fun b o hb e => kp b o (by simpa using hb) e) f.1 f.2.1 f.2.2.2.1 f.2.2.2.2.1 f.2.2.2.2.2, ⟨t', rfl⟩, q⟩
end
section
variable {K : PySem.W.Frag} {a b D : Addr} {xs ys : List V} {g : TG} {tt : TT} {te : TE} {k : Nat} {fr : List (Str × Nat)} {σ : St} {H1 : Hp} {Q : VK}
theorem comp_itz (Pv : Nat → List V → Hp → Prop) (hlen : ys.length = xs.length) (h0 : Pv 0 [] (upd H1 D (.lst []))) (hl : ∀ i vs H, i ≤ xs.length → Pv i vs H → SqL K H a xs ∧ SqL K H b ys)
    (hs : ∀ i x y p vs σ' H, i < xs.length → xs[i]? = some x → ys[i]? = some y → H p = none → Sh k (capOf fr σ) σ' → Pv i vs H → tTurn g tt te D xs.length k (capOf fr σ) Pv i (.ref p) σ' (upd H p (.tup [x, y]))) (hd : ∀ vs H, Pv xs.length vs H → Q (.ref D) H) :
    tBlock g tt te (Itz K a b) D (capS k fr σ) H1 Q := by
  refine ⟨Wv xs.length k (capOf fr σ) Pv, ⟨xs.length, by simp, Nat.zero_le _, sh0, [], h0⟩, ?_⟩
  rintro i m σ' H2 ⟨rfl, hi, sh, vs, p⟩
  obtain ⟨q1, q2⟩ := hl i vs H2 hi p
  by_cases hlt : i < xs.length
  · refine .inr ⟨⟨xs, ys, xs[i], ys[i]'(by omega), q1, q2, by simp [hlt], by simp [hlen, hlt]⟩, fun x H3 y => ?_⟩
    obtain ⟨u, v, pp, rfl, hp, rfl, e1, e2⟩ := y
    exact hs i u v pp vs σ' _ hlt (e1 _ q1) (e2 _ q2) hp sh p
  · have e : i = xs.length := by omega
    subst e
    exact .inl ⟨⟨xs, ys, q1, q2, .inl (Nat.le_refl _)⟩, hd vs H2 p⟩
end
end L2
set_option maxHeartbeats 1000000
namespace L2
open PySem PySem.Spec PyProof.Rows
def nrm (a b : Int) : Int × Int := (a / (Int.gcd a b : Int), b / (Int.gcd a b : Int))
def Low (x : Int × Int) : Prop := 0 < x.2 ∧ Int.gcd x.1 x.2 = 1
theorem gcd_pos' {a b : Int} (hb : 0 < b) : 0 < (Int.gcd a b : Int) := by
  have : 0 < Int.gcd a b := Int.gcd_pos_of_ne_zero_right a (by omega)
  omega
theorem nrm_fst {a b : Int} : (nrm a b).1 * (Int.gcd a b : Int) = a := Int.ediv_mul_cancel (Int.gcd_dvd_left ..)
theorem nrm_snd {a b : Int} : (nrm a b).2 * (Int.gcd a b : Int) = b := Int.ediv_mul_cancel (Int.gcd_dvd_right ..)
theorem nrm_pos {a b : Int} (hb : 0 < b) : 0 < (nrm a b).2 := by
  have h2 := @nrm_snd a b
  have g0 := gcd_pos' (a := a) hb
  rcases Int.lt_trichotomy 0 (nrm a b).2 with h | h | h
  · exact h
  · rw [← h, Int.zero_mul] at h2; omega
  · have := Int.mul_neg_of_neg_of_pos h g0
    omega
theorem nrm_low {a b : Int} (hb : 0 < b) : Low (nrm a b) := by
  refine ⟨nrm_pos hb, ?_⟩
  have h := Int.gcd_mul_right (nrm a b).1 (Int.gcd a b : Int) (nrm a b).2
  rw [nrm_fst, nrm_snd] at h
  have g0 := gcd_pos' (a := a) hb
  have : Int.gcd a b = Int.gcd (nrm a b).1 (nrm a b).2 * Int.gcd a b := by simpa using h
  have g1 : 0 < Int.gcd a b := by omega
  exact (Nat.eq_of_mul_eq_mul_right g1 (by omega)).symm
theorem nrm_of_low {x : Int × Int} (h : Low x) : nrm x.1 x.2 = x := by
  have : (Int.gcd x.1 x.2 : Int) = 1 := by rw [h.2]; rfl
  unfold nrm
  rw [this, Int.ediv_one, Int.ediv_one]
theorem natAbs_ediv_le (a : Int) {g : Int} (hg : 0 < g) (hd : g ∣ a) : (a / g).natAbs ≤ a.natAbs := by
  obtain ⟨k, rfl⟩ := hd
  rw [Int.mul_ediv_cancel_left _ (by omega), Int.natAbs_mul]
  exact Nat.le_mul_of_pos_left _ (by omega)
def Bd (B : Nat) (x : Int × Int) : Prop := x.1.natAbs ≤ B ∧ x.2.natAbs ≤ B
theorem nrm_bd {a b : Int} {B : Nat} (hb : 0 < b) (h1 : a.natAbs ≤ B) (h2 : b.natAbs ≤ B) : Bd B (nrm a b) :=
  ⟨Nat.le_trans (natAbs_ediv_le a (gcd_pos' hb) (Int.gcd_dvd_left ..)) h1, Nat.le_trans (natAbs_ediv_le b (gcd_pos' hb) (Int.gcd_dvd_right ..)) h2⟩
def Isn (p : Int) (x : Int × Int) : Prop := (p = 0 ∧ Low x) ∨ (0 < p ∧ 0 ≤ x.1 ∧ x.1 < p ∧ x.2 = 1)
def plusN (p : Int) (x y : Int × Int) : Int × Int := if p = 0 then nrm (x.1 * y.2 + y.1 * x.2) (x.2 * y.2) else ((x.1 + y.1) % p, 1)
def minusN (p : Int) (x y : Int × Int) : Int × Int := if p = 0 then nrm (x.1 * y.2 - y.1 * x.2) (x.2 * y.2) else ((x.1 - y.1) % p, 1)
def timesN (p : Int) (x y : Int × Int) : Int × Int := if p = 0 then nrm (x.1 * y.1) (x.2 * y.2) else (x.1 * y.1 % p, 1)
def intN (p k : Int) : Int × Int := if p = 0 then (k, 1) else (k % p, 1)
theorem Isn.pos {p : Int} {x : Int × Int} (h : Isn p x) : 0 < x.2 := by
  rcases h with ⟨_, h⟩ | ⟨_, _, _, h⟩
  · exact h.1
  · omega
theorem isn_nrm {p a b : Int} (hp : p = 0) (hb : 0 < b) : Isn p (nrm a b) := .inl ⟨hp, nrm_low hb⟩
theorem isn_mod {p a : Int} (hp : 0 < p) : Isn p (a % p, 1) := .inr ⟨hp, Int.emod_nonneg _ (by omega), Int.emod_lt_of_pos _ hp, rfl⟩
theorem isn_plus {p : Int} {x y : Int × Int} (h0 : 0 ≤ p) (hx : Isn p x) (hy : Isn p y) : Isn p (plusN p x y) := by
  unfold plusN
  split
  · rename_i h; exact isn_nrm h (Int.mul_pos hx.pos hy.pos)
  · exact isn_mod (by omega)
theorem isn_int {p k : Int} (h0 : 0 ≤ p) : Isn p (intN p k) := by
  unfold intN
  split
  · rename_i h; exact .inl ⟨h, ⟨by show (0 : Int) < 1; decide, by simp⟩⟩
  · exact isn_mod (by omega)
theorem gcd_step (a b : Int) : Int.gcd b (a % b) = Int.gcd a b := by
  rw [Int.emod_def, Int.sub_eq_add_neg, ← Int.mul_neg, Int.gcd_add_mul_left_right, Int.gcd_comm]
def CDivG (i j : Int) : Prop := 0 < j ∧ j.natAbs ≤ 100000000000000000000000000000000
theorem op_fdivG {X : Cx} : OpR X (binaryOp .FloorDiv) (rI CDivG fun i j => .int (i / j)) := opI fun i j _ _ _ _ _ hc q => by
  have h1 : (0 : Int) < j := hc.1
  have h2 := hc.2
  refine floordiv_int (by omega) (by rw [Int.fdiv_eq_ediv_of_nonneg i (by omega)]; exact q) (.inl (PyProof.noPylong_of_log2 ?_))
  have : j.natAbs.log2 < 200 := (Nat.log2_lt (by omega)).mpr (Nat.lt_of_le_of_lt h2 (by decide +kernel))
  omega
theorem Bd.big {B : Nat} {x : Int × Int} (h : Bd B x) (hB : B < 100000000000000000000000000000000) : Big x.1 ∧ Big x.2 := by
  obtain ⟨h1, h2⟩ := h
  exact ⟨⟨by omega, by omega⟩, ⟨by omega, by omega⟩⟩
structure FunD (K : PySem.W.Frag) (x qual : Str) (st : Stmt) (f : Addr) (fd : FuncData) (T : Addr) : Prop where
  ex : ∃ (oc : Value) (od : Option Addr) (kV doc pm : Value) (an : Option Addr) (cdv ct : Value) (osl : Array (Option Value)),
    fd = PySem.W.fnOf x qual (defArgs st) (defBody st) (defScope st) (.ref T) kV doc pm an cdv ct ∧ K.lookup f = some ⟨oc, od, .func fd, osl⟩ ∧ PySem.W.codeIn K cdv qual = true
section
variable {P : Program} {w : World} {K : PySem.W.Frag} {mg : Str → Option Value} {base : Heap}
theorem FunD.ok {x qual : Str} {st : Stmt} {f T : Addr} {fd : FuncData} {N ps : List Str} {k : Nat} {sp : Sp} (F : FunD K x qual st f fd T) (S : FnScope N ps (defScope st)) (len : ∀ vs H Q E, sp vs H Q E → vs.length = ps.length)
    (hbody : ∀ (cdv : Value) (A : Around) (outer : List Env) (s : Shared) (H : Hp) (vs : List V) (Q : VK) (E : XK), Room k (A.deeper (envOfC qual (defScope st) s.heap.objs.size f cdv)) → sp vs H Q E →
      ∃ t, PSs (cxOf CX0 P w K mg base N qual (defScope st) f cdv A outer s H E).nox (defBody st) t ∧ t { nx := fun _ H' => Q .non H', rt := Q } (start N vs) H) : FnOk P w K mg base CX0 (k + 1) f fd ps sp := by
  obtain ⟨oc, od, kV, doc, pm, an, cdv, ct, osl, rfl, lk, hcd⟩ := F.ex
  refine fn_of lk hcd S len fun A outer s H vs Q E hr hsp => ?_
  obtain ⟨t, h, q⟩ := hbody cdv A outer s H vs Q E hr hsp
  exact ⟨t, h.nox, q⟩
end
structure CalD (P : Program) (w : World) (K : PySem.W.Frag) (mg : Str → Option Value) (base : Heap) (C : Addr) (m : Str) (k : Nat) (sp : Sp) (dvs : List V) : Prop where
  ex : ∃ (f : Addr) (fd : FuncData) (ps : List Str) (ds : List Value), FnOk P w K mg base CX0 k f fd ps sp ∧ Meth K C m f ∧ Binds K fd ps ds ∧ Vals dvs ds
theorem pe_mthD {X : Cx} {m : Str} {C : Addr} {k : Nat} {sp : Sp} {dvs : List V} {o e : Expr} {es : List Expr} {ta : TE} {t : TA} {apos pos : Pos} {pl : Sem Bool} (c : Cls X.K C) (M : CalD X.prog X.w X.K X.mg X.base C m k sp dvs) (hr : Room k X.A) (ho : PE X o ta) (ha : PA X (e :: es) t)
    (h : isStar e = false := by rfl) (h2 : es.all (fun x => !isStar x) = true := by rfl)
    (ht : eval (.Call (.Attribute o m apos) (e :: es) [] pos) X.env = (do
      let ov ← eval o X.env
      standAt apos.atName
      let (f, first) ← holding [ov] (getMethod ov m pl)
      callWith pos f first (backTo pos (starEach (e :: es) X.env)) (backToKw pos (keywordEach [] X.env))) := by rfl) :
    PE X (.Call (.Attribute o m apos) (e :: es) [] pos) (tMeth C m sp dvs E0 ta t) := by
  obtain ⟨f, fd, ps, ds, F, hm, hb, hd⟩ := M.ex
  exact pe_meth ho c hm F hr hb hd pass0 ha (star_cons h) (star_any h2) ht
theorem binds_default {K : PySem.W.Frag} {fd : FuncData} {ps : List Str} {T : Addr} {oc : Value} {od : Option Addr} {osl : Array (Option Value)} {items : Array Value} {n : Nat} {ds : List Value} (lk : K.lookup T = some ⟨oc, od, .seq items n, osl⟩) (hd : fd.defaults = .ref T)
    (h : ∀ us : List Value, (us ++ ds).length = ps.length → ∃ k, bindArgs fd ⟨us, []⟩ = seqItems? fd.defaults >>= k ∧ k (some items) = pure (ps.zip (us ++ ds))) : Binds K fd ps ds := fun s us KX hl => by
  obtain ⟨k, h1, h2⟩ := h us hl
  exact .of_defaults hd (KX T _ lk) rfl h1 h2
def rEqN (K : PySem.W.Frag) : R2 := fun x y H Q => rEq x y H Q ∨ rEqT K false x y H Q
def rNeN (K : PySem.W.Frag) : R2 := fun x y H Q => rNe x y H Q ∨ rEqT K true x y H Q
theorem op_eqN {X : Cx} (hu : X.A.units + 8 < cLine) : OpR X (compareOp .Eq) (rEqN X.K) := op_eq.or (op_eqT hu)
theorem pair_eq {K : PySem.W.Frag} {H : Hp} {t u : Addr} {a b : Int} (neg : Bool) {Q : VK} (ht : H t = some (.tup [.int a, .int b])) (hu : H u = some (.tup [.int a, .int b])) (q : Q (.bl !neg) H) : rEqT K neg (.ref t) (.ref u) H Q := by
  have e : ∀ i : Int, eqV (.int i) (.int i) = true := fun i => by simp [eqV]
  refine ⟨t, u, _, _, [true, true], rfl, rfl, SqT.of ht, SqT.of hu, ⟨rfl, rfl, fun j x y c e1 e2 e3 => ?_⟩, ?_⟩
  · match j, e1, e2, e3 with
    | 0, e1, e2, e3 =>
      cases e1; cases e2; cases e3
      have := EqD.flat (K := K) (H := H) (n := 6) (x := .int a) (y := .int a) rfl rfl
      rw [e] at this
      exact this
    | 1, e1, e2, e3 =>
      cases e1; cases e2; cases e3
      have := EqD.flat (K := K) (H := H) (n := 6) (x := .int b) (y := .int b) rfl rfl
      rw [e] at this
      exact this
    | j + 2, e1, _, _ => cases e1
  · cases neg <;> exact q
end L2
namespace L2
open PySem PySem.Spec PyProof.Rows
def rBits : V → List V → Hp → VK → Prop := fun x vs H Q => ∃ i : Int, x = .int i ∧ vs = [] ∧ Q (.int ((Builtin.Int.intBits i : Nat) : Int)) H
theorem mt_bits {X : Cx} : MtM X "int.bit_length" rBits := by
  intro pins s σ H x vs v us Q I rx rv h
  obtain ⟨i, rfl, rfl, q⟩ := h
  obtain ⟨t, rfl⟩ := rx
  have hus := rv.zero
  subst hus
  exact call_gives F.slot_int_bit_length (typeIs_int s i t) F.entry_int_bit_length (F.args_int_bit_length_1 _) (AutoIntG2.int_bit_length_int_0 i t) ⟨.int ((Builtin.Int.intBits i : Nat) : Int), H, I.tok _, ⟨_, rfl⟩, q⟩
theorem bits_le {i : Int} {n : Nat} (h : i.natAbs < 2 ^ n) : Builtin.Int.intBits i ≤ n := by
  unfold Builtin.Int.intBits
  split
  · exact Nat.zero_le _
  · rename_i h0
    have h1 : i.natAbs ≠ 0 := by
      intro e
      exact h0 (by simp [Int.natAbs_eq_zero.mp e])
    exact (Nat.log2_lt h1).mpr h
end L2
set_option maxHeartbeats 1000000
namespace L2
open PySem PySem.Spec PyProof.Rows
def Ite (K : PySem.W.Frag) (a : Addr) : It :=
  ⟨fun i H => ∃ xs x, SqL K H a xs ∧ xs[i]? = some x,
   fun i H v H' => ∃ x p, v = .ref p ∧ H p = none ∧ H' = upd H p (.tup [.int i, x]) ∧ (∀ xs, SqL K H a xs → xs[i]? = some x),
   fun i H => ∃ xs, SqL K H a xs ∧ xs.length ≤ i⟩
section
variable {X : Cx}
def iEnm (K : PySem.W.Frag) (ta : TA) : TI := fun σ H R => ta σ H fun vs H1 => ∃ a, vs = [.ref a] ∧ (∃ xs, SqL K H1 a xs) ∧ R (Ite K a) H1
end
section
variable {K : PySem.W.Frag} {a b D : Addr} {xs ys : List V} {g : TG} {tt : TT} {te : TE} {k : Nat} {fr : List (Str × Nat)} {σ : St} {H1 : Hp} {Q : VK}
end
end L2
set_option maxHeartbeats 1000000
namespace L2
open PySem PySem.Spec PyProof.Rows
theorem pick_rev (vs : List Value) : slicePick vs.toArray none none (some (-1)) = vs.reverse.toArray := by
  unfold slicePick
  have e : sliceRange (sliceBounds none none (some (-1)) vs.toArray.size).1 (sliceBounds none none (some (-1)) vs.toArray.size).2.1 (sliceBounds none none (some (-1)) vs.toArray.size).2.2 = (List.range vs.length).map fun k => vs.length - 1 - k := by
    have h1 : ¬ ((some (-1 : Int)).getD 1 > 0) := by decide
    have b : sliceBounds none none (some (-1)) vs.toArray.size = ((vs.length : Int) - 1, -1, -1) := by
      simp [sliceBounds]
    rw [b]
    unfold sliceRange
    have h0 : ¬ ((-1 : Int) > 0) := by decide
    simp only [h0, if_false]
    have hc : (if (vs.length : Int) - 1 > -1 then ((vs.length : Int) - 1 - -1 - -1 - 1) / (- -1) else 0).toNat = vs.length := by
      by_cases hn : (vs.length : Int) - 1 > -1
      · rw [if_pos hn]
        have : ((vs.length : Int) - 1 - -1 - -1 - 1) / (- -1) = vs.length := by
          have e : (- -1 : Int) = 1 := by decide
          rw [e, Int.ediv_one]; omega
        rw [this]; simp
      · rw [if_neg hn]; omega
    rw [hc]
    apply List.map_congr_left
    intro k hk
    have hk' : k < vs.length := List.mem_range.mp hk
    omega
  rw [e]
  congr 1
  apply List.ext_getElem?
  intro i
  have g : ∀ l : List Nat, (∀ j ∈ l, j < vs.length) → ∀ i : Nat, (l.filterMap (vs.toArray[·]?))[i]? = (l[i]?).bind (vs[·]?) := by
    intro l
    induction l with
    | nil => intro _ i; simp
    | cons a r ih =>
      intro h i
      have ha : a < vs.length := h a (List.mem_cons_self ..)
      have e : vs.toArray[a]? = some vs[a] := by simp [ha]
      rw [List.filterMap_cons, e]
      cases i with
      | zero => simp [ha]
      | succ i => simpa using ih (fun j hj => h j (List.mem_cons_of_mem _ hj)) i
  rw [g _ (fun j hj => by obtain ⟨k, hk, rfl⟩ := List.mem_map.mp hj; have := List.mem_range.mp hk; omega) i]
  by_cases hi : i < vs.length
  · rw [List.getElem?_map, List.getElem?_range hi, List.getElem?_reverse hi]
    rfl
  · rw [List.getElem?_eq_none (by simp; omega), List.getElem?_eq_none (by simp; omega)]
    rfl
def tRevL (K : PySem.W.Frag) (te : TE) : TE := fun σ H Q => te σ H fun x H1 => ∃ a xs, x = .ref a ∧ SqL K H1 a xs ∧ ∀ p, H1 p = none → Q (.ref p) (upd H1 p (.lst xs.reverse))
section
variable {X : Cx} {e es : Expr} {te ts : TE} {pos p2 : Pos}
theorem pe_revL (K : PySem.W.Frag) (hK : X.K = K) (he : PE X e te) (hs : PE X es ts) (hts : ∀ σ H Q, Q (.int (-1)) H → ts σ H Q) : PE X (.Subscript e (.Slice none none (some es) p2) pos) (tRevL K te) := by
  subst hK
  intro pins s σ H Q I h
  refine Subscript_ (thn (he pins s σ H _ I h) fun v s1 ⟨x, H1, I1, r1, q1⟩ => ?_)
  obtain ⟨a, ys, rfl, hx, q⟩ := q1
  cases r1
  refine wpAny_Slice ?_
  rw [evalPart_none]
  refine wpAny_pure ?_
  refine wpAny_pure ?_
  rw [evalPart_some]
  refine thn (hs pins s1 σ H1 (fun x H2 => x = .int (-1) ∧ H2 = H1) I1 (hts _ _ _ ⟨rfl, rfl⟩)) fun vu s3 ⟨u, H3, I3, pu, q3⟩ => ?_
  obtain ⟨rfl, rfl⟩ := q3
  obtain ⟨t, rfl⟩ := pu
  have I4 : Inv X pins σ H3 { s3 with heap := s3.heap.push { cls := .type "slice", data := .fields #[.none, .none, .int (-1) t] } } := I3.kept (t' := s3.toks) fun b ob q => Heap.get?_push_of_some _ q
  obtain ⟨its, r, ht, hz⟩ := I4.list hx
  have hlen := r.length
  show wpAny (model X.prog X.w) X.A (subscriptTail e (.Slice none none (some es) p2) (.ref a) (.ref s3.heap.objs.size)) (EP X pins σ Q) X.xe { s3 with heap := s3.heap.push { cls := .type "slice", data := .fields #[.none, .none, .int (-1) t] } }
  refine tail_any (ops := [.ref a, .ref s3.heap.objs.size]) ht.isList.typeIs slot_list_getitem.lookup (wpAny_getItem_list_slice ht.isList (Heap.IsSliceOf.new ..) .none .none (.int (-1) t) (by simp) ?_ (by rw [List.size_toArray] <;> omega)) (by with_unfolding_all rfl)
  rw [pick_rev]
  refine ⟨.ref (Heap.push _ _).objs.size, _, I4.laid (t' := s3.toks) (o := .lst ys.reverse) (fun b ob q => Heap.get?_push_of_some _ q) (Nat.le_refl _) ?_, rfl, q _ (I4.hok.fresh (Nat.le_refl _))⟩
  exact ⟨by rw [List.length_reverse]; exact hz, _, 0, Vals.reverse r, Heap.get?_push_size _ rfl⟩
end
end L2
namespace L2
open PySem PySem.Spec PyProof.Rows PySem.W
theorem ObjOk.there {P : Program} {w : World} {H : Hp} {h : Heap} {a : Addr} {o : HO} (x : ObjOk P w H h a o) : ∃ u, h.get? a = some u := by
  cases o with
  | lst xs => obtain ⟨_, _, _, _, e⟩ := x; exact ⟨_, e⟩
  | tup xs => obtain ⟨_, _, _, p⟩ := x; obtain ⟨o, e, _⟩ := p; exact ⟨_, e⟩
  | dK kvs => obtain ⟨_, _, _, _, o, _, _, e, _⟩ := x; exact ⟨_, e⟩
  | dT kvs => obtain ⟨_, _, _, _, o, _, _, e, _⟩ := x; exact ⟨_, e⟩
  | set S n => obtain ⟨o, _, _, _, e, _⟩ := x; exact ⟨_, e⟩
  | ins C dx fs => obtain ⟨_, _, _, e, _⟩ := x; exact ⟨_, e⟩
  | own y => obtain ⟨_, e⟩ := x; exact ⟨_, e⟩
  | xd fs => obtain ⟨_, ⟨_, _, _, e, _⟩, _⟩ := x; exact ⟨_, e⟩
  | rng lo hi => obtain ⟨_, _, _, e⟩ := x; exact ⟨_, e⟩
  | frz ob u => obtain ⟨e, _⟩ := x; exact ⟨_, e⟩
  | tbl ps => exact ⟨_, (show h.get? a = some _ from x)⟩
  | met f y => exact ⟨_, (show h.get? a = some _ from x)⟩
  | ext φ => obtain ⟨_, ⟨_, e⟩, _⟩ := x; exact ⟨_, e⟩
structure Fly (P : Program) (w : World) (outer : List Env) (H : Hp) (s : Shared) (a : Addr) (cls : Value) (H' : Hp) (s' : Shared) : Prop where
  os : s'.os = s.os
  bare : AllBare s'.gens
  hok : HOk P w H' s'.heap
  un : Un (frs outer) [] H H' s.heap s'.heap
  fly : ∃ B a0, Heap.FlyingW B outer a cls a0 s'.heap ∧ (∀ b o, s.heap.get? b = some o → b ∉ frs outer → ∃ o', B.get? b = some o') ∧ ∀ b u, H' b = some u → ∃ o', B.get? b = some o'
  new : ∀ o, s.heap.get? a ≠ some o
  free : H' a = none
def CXe (P : Program) (w : World) : CXT := fun outer H s E e s' => ∃ (a : Addr) (cls : Value) (H' : Hp), e = .ref a ∧ Fly P w outer H s a cls H' s' ∧ E cls none H'
section
variable {P : Program} {w : World} {K : PySem.W.Frag} {mg : Str → Option Value} {base : Heap} {N : List Str} {qual : Str} {scope : Scope} {f : Addr} {cd : Value} {A : Around} {outer : List Env} {s : Shared} {H : Hp} {E : XK} {pins : List (Addr × Obj)} {σ : St} {H1 : Hp} {s1 s2 : Shared} {e : Addr} {cls : Value}
end
end L2
namespace L2
open PySem PySem.Spec PyProof.Rows PySem.W
def tRaise (t : TA) (R : Hp → Prop) : TS := fun _ σ H => t σ H fun vs H1 => vs.length ≤ 1000 ∧ R H1
section
variable {X : Cx} {x : Str} {C : Addr} {bm bmN : List Value} {B Bn newId nid initId inN : String} {np cpos pos : Pos} {e₀ : Expr} {rest : List Expr} {t : TA} {R : Hp → Prop}
end
end L2
namespace L2
open PySem PySem.Spec PyProof.Rows PySem.W
section
variable {P : Program} {w : World} {K : PySem.W.Frag} {mg : Str → Option Value} {base : Heap}
end
section
variable {X : Cx} {pins : List (Addr × Obj)} {σ : St} {H H' : Hp} {s s' : Shared} {a : Addr} {cls : Value}
end
end L2
namespace L2
open PySem PySem.Spec PyProof.Rows PySem.W
section
variable {M : Model} {A : Around} {E : Value → Shared → Prop}
variable {nm q : Str} {C N : Addr} {bs bm : List Value} {hdct : Bool} {sn : List Str} {sub : List Value} {ab : Bool} {col : Option Bool} {dd : Option Addr} {k0 k1 k2 k3 k5 : Option Value} {newId : String}
variable {nm' q' : Str} {C' N' : Addr} {bs' bm' : List Value} {hdct' : Bool} {sn' : List Str} {sub' : List Value} {ab' : Bool} {col' : Option Bool} {dd' : Option Addr} {j0 j1 j2 j3 j5 : Option Value} {newId' : String}
end
end L2
namespace L2
open PySem PySem.Spec PyProof.Rows PySem.W
abbrev Cx.pnx (X : Cx) (pins : List (Addr × Obj)) : Cx := { X with pn := X.pn ++ pins }
abbrev Cx.hnd (X : Cx) (pins : List (Addr × Obj)) (a : Addr) : Cx := { X with pn := X.pn ++ pins, A := X.A.mark (some (.ref a)), calm := false, xe := fun _ _ => False }
section
variable {X : Cx} {pins pins' : List (Addr × Obj)} {σ : St} {H : Hp} {s : Shared} {a : Addr}
theorem Inv.pnx (I : Inv X pins σ H s) : Inv (X.pnx pins) [] σ H s :=
  ⟨⟨I.ok.mod, I.ok.kind, I.ok.glob, I.ok.blt, I.ok.above, I.ok.inj, I.ok.has, I.ok.cab, I.ok.hd, I.ok.frames, I.ok.stk, I.ok.exf, I.ok.bs, I.ok.bsz, I.ok.noex, I.ok.exfs, I.ok.funs, I.ok.frf⟩, I.os, I.bare, I.base, I.loc, I.cell, I.free, I.freeC, fun p hp => I.pin p (by simpa using hp), I.hok, I.len⟩
theorem Inv.unpnx (I : Inv (X.pnx pins) pins' σ H s) : Inv X pins σ H s :=
  ⟨⟨I.ok.mod, I.ok.kind, I.ok.glob, I.ok.blt, I.ok.above, I.ok.inj, I.ok.has, I.ok.cab, I.ok.hd, I.ok.frames, I.ok.stk, I.ok.exf, I.ok.bs, I.ok.bsz, I.ok.noex, I.ok.exfs, I.ok.funs, I.ok.frf⟩, I.os, I.bare, I.base, I.loc, I.cell, I.free, I.freeC, fun p hp => I.pin p (List.mem_append_left _ hp), I.hok, I.len⟩
theorem Inv.hnd (I : Inv X pins σ H s) (a : Addr) : Inv (X.hnd pins a) [] σ H s :=
  ⟨⟨I.ok.mod, I.ok.kind, I.ok.glob, I.ok.blt, I.ok.above, I.ok.inj, I.ok.has, I.ok.cab, (fun z => nomatch z), I.ok.frames, I.ok.stk, I.ok.exf, I.ok.bs, I.ok.bsz, I.ok.noex, I.ok.exfs, I.ok.funs, I.ok.frf⟩, I.os, I.bare, I.base, I.loc, I.cell, I.free, I.freeC, fun p hp => I.pin p (by simpa using hp), I.hok, I.len⟩
end
def isExc (a : Addr) (cls : Value) : HO := .ext fun h => ∃ ob, h.get? a = some ob ∧ ob.cls = cls
def hEnds (X : Cx) (D : Ends) : Ends := { nx := fun _ H => D.nx (List.replicate X.N.length none) H, rt := D.rt, bk := fun _ H => D.bk (List.replicate X.N.length none) H, ct := fun _ H => D.ct (List.replicate X.N.length none) H }
def tTry (X : Cx) (E' : XK) (tb : TS) (i : Nat) (th : TS) : TS := fun D σ H => tb D σ H ∧ ∀ (cls : Value) (H' : Hp) (a : Addr) (σ' : St), E' cls none H' → H' a = none → σ'.length = X.N.length → th (hEnds X D) (σ'.set i (some (.ref a))) (upd H' a (isExc a cls))
section
variable {X : Cx} {x n : Str} {np hpos pos : Pos} {body suite : List Stmt} {b₀ : Stmt} {E' : XK} {tb th : TS} {i : Nat} {D : Addr} {bmD : List Value} {newD : String}
end
end L2
namespace L2
open PySem PySem.Spec PySem.Calls PyProof.Rows PySem.W Builtin Builtin.ObjectAttr Builtin.Getset_descriptor
structure ExcCls (K : PySem.W.Frag) (C : Addr) : Prop where
  ga : findIn K (.ref C) "__getattribute__" = some (some (.builtin "BaseException.__getattribute__"))
  gt : findIn K (.ref C) "__getattr__" = some none
  cl : findIn K (.ref C) "__class__" = some (some (.builtin "object.__class__"))
  so : mroIn K C (.type "object") = some true
  sb : mroIn K C (.type "BaseException") = some true
section
variable {prog : Program} {w : World} {A : Around} {E : Value → Shared → Prop} {h : Heap} {g : Array GenState} {d : Drawn} {t : Nat} {os : OsState} {a C : Addr} {ox : Obj} {K : PySem.W.Frag}
def ExcAt (a C : Addr) (h : Heap) : Prop := ∃ ob, h.get? a = some ob ∧ ob.cls = .ref C
end
end L2
namespace L2
open PySem PySem.Spec PyProof.Rows PySem.W
section
variable {X : Cx}
end
end L2
namespace L2
open PySem PySem.Spec PyProof.Rows PySem.W
structure CalE (P : Program) (w : World) (K : PySem.W.Frag) (mg : Str → Option Value) (base : Heap) (x : Str) (k : Nat) (sp : Sp) : Prop where
  ex : ∃ (f : Addr) (fd : FuncData) (ps : List Str), FnOk P w K mg base (CXe P w) k f fd ps sp ∧ mg x = some (.ref f) ∧ PySem.W.keepIn K (.ref f) = true ∧ Binds K fd ps []
structure CalME (P : Program) (w : World) (K : PySem.W.Frag) (mg : Str → Option Value) (base : Heap) (C : Addr) (m : Str) (k : Nat) (sp : Sp) : Prop where
  ex : ∃ (f : Addr) (fd : FuncData) (ps : List Str), FnOk P w K mg base (CXe P w) k f fd ps sp ∧ Meth K C m f ∧ Binds K fd ps []
structure CalIE (P : Program) (w : World) (K : PySem.W.Frag) (mg : Str → Option Value) (base : Heap) (x : Str) (C : Addr) (k : Nat) (sp : Sp) : Prop where
  ex : ∃ (f : Addr) (fd : FuncData) (ps : List Str), FnOk P w K mg base (CXe P w) k f fd ps sp ∧ Mk K C f ∧ mg x = some (.ref C) ∧ Binds K fd ps []
section
variable {X : Cx} {x m : Str} {k : Nat} {sp : Sp} {e o : Expr} {es : List Expr} {ta : TE} {t : TA} {p pos apos : Pos} {E : XK} {C : Addr}
end
theorem hnd_K {X : Cx} {pins : List (Addr × Obj)} {a : Addr} : (X.hnd pins a).K = X.K := rfl
theorem pnx_K {X : Cx} {pins : List (Addr × Obj)} : (X.pnx pins).K = X.K := rfl
def CDivZ (i j : Int) : Prop := j ≠ 0 ∧ j.natAbs ≤ 100000000000000000000000000000000
structure CalDE (P : Program) (w : World) (K : PySem.W.Frag) (mg : Str → Option Value) (base : Heap) (C : Addr) (m : Str) (k : Nat) (sp : Sp) (dvs : List V) : Prop where
  ex : ∃ (f : Addr) (fd : FuncData) (ps : List Str) (ds : List Value), FnOk P w K mg base (CXe P w) k f fd ps sp ∧ Meth K C m f ∧ Binds K fd ps ds ∧ Vals dvs ds
abbrev bmV : List Value := [.type "ValueError", .type "Exception", .type "BaseException", .type "object"]
abbrev newV : String := "ValueError.__new__"
section
variable {P : Program} {w : World} {K : PySem.W.Frag} {mg : Str → Option Value} {base : Heap} {N : List Str} {qual : Str} {scope : Scope} {f : Addr} {cd : Value} {A : Around} {outer : List Env} {s : Shared} {H : Hp} {E : XK}
end
end L2
namespace L2
open PySem PySem.Spec PyProof.Rows
structure RoomH (k : Nat) (A : Around) : Prop where
  dp : A.depth + 3 * k + 5 < recursionLimit
  un : A.units + 16 * k + 200 < cLine
theorem Room.h {k : Nat} {A : Around} (r : Room k A) : RoomH k A := ⟨r.dp, r.un⟩
theorem Room.mark {k : Nat} {A : Around} (r : Room k A) (v : Option Value) : RoomH k (A.mark v) := ⟨r.dp, r.un⟩
theorem RoomH.mono {j k : Nat} {A : Around} (r : RoomH k A) (h : j ≤ k) : RoomH j A := ⟨by have := r.dp; omega, by have := r.un; omega⟩
theorem RoomH.depth {k : Nat} {A : Around} (r : RoomH k A) : A.depth < recursionLimit := by have := r.dp; omega
theorem RoomH.deeper {k : Nat} {A : Around} (r : RoomH (k + 1) A) (env : Env) : RoomH k (A.deeper env) := by
  have h1 := r.dp
  have h2 := r.un
  constructor
  · show A.depth + 1 + 3 * k + 5 < _
    omega
  · show A.units + 3 + 16 * k + 200 < _
    omega
structure FnOkH (P : Program) (w : World) (K : PySem.W.Frag) (mg : Str → Option Value) (base : Heap) (CX : CXT) (k : Nat) (f : Addr) (fd : FuncData) (ps : List Str) (sp : Sp) : Prop where
  len : ∀ vs H Q E, sp vs H Q E → vs.length = ps.length
  run : ∀ (A : Around) (outer : List Env) (s : Shared) (H : Hp) (args : Args) (us : List Value) (vs : List V) (Q : VK) (E : XK), RoomH k A → Env0 P w K mg base A outer s H → BindsTo s fd args (ps.zip us) → Vals vs us → sp vs H Q E →
    codeAny (model P w) A (.call (.ref f) args) (CR CX outer P w H s Q E) s
abbrev cxOfH (CX : CXT) (P : Program) (w : World) (K : PySem.W.Frag) (mg : Str → Option Value) (base : Heap) (N : List Str) (qual : Str) (scope : Scope) (f : Addr) (cd : Value) (A : Around) (outer : List Env) (s : Shared) (H : Hp) (E : XK) : Cx := { cxOf CX P w K mg base N qual scope f cd A outer s H E with calm := false }
section
variable {P : Program} {w : World} {K : PySem.W.Frag} {mg : Str → Option Value} {base : Heap}
structure CalH (P : Program) (w : World) (K : PySem.W.Frag) (mg : Str → Option Value) (base : Heap) (x : Str) (k : Nat) (sp : Sp) : Prop where
  ex : ∃ (f : Addr) (fd : FuncData) (ps : List Str), FnOkH P w K mg base CX0 k f fd ps sp ∧ mg x = some (.ref f) ∧ PySem.W.keepIn K (.ref f) = true ∧ Binds K fd ps []
end
section
variable {X : Cx} {CX : CXT} {k : Nat} {f C : Addr} {fd : FuncData} {ps : List Str} {sp : Sp} {dvs : List V} {ds : List Value} {E : XK} {x m : Str} {p pos apos : Pos} {e o : Expr} {es : List Expr} {ta : TE} {t : TA}
end
end L2
namespace L2
open PySem PySem.Spec PyProof.Rows
section
variable {X : Cx}
def rEqTs (K : PySem.W.Frag) : R2 := fun x y H Q => rEq x y H Q ∨ ∃ a xs z, x = .ref a ∧ y = .str z ∧ SqT K H a xs ∧ Q (.bl false) H
def rNeTs (K : PySem.W.Frag) : R2 := fun x y H Q => rNe x y H Q ∨ rEqT K true x y H Q
theorem op_neTs (hu : X.A.units + 8 < cLine) : OpR X (compareOp .NotEq) (rNeTs X.K) := op_ne.or (op_neT hu)
end
end L2
set_option maxHeartbeats 1000000
namespace L2
open PySem PySem.Spec PyProof.Rows
def LIM : Nat := 2 ^ 4000
def CDivL (i j : Int) : Prop := 0 < j ∧ j.natAbs < LIM
end L2
set_option maxHeartbeats 1000000
namespace L2
open PySem PySem.Spec PyProof.Rows
abbrev sg (x : Str) : List Nat := x.cps.toList
def mkS (l : List Nat) : Str := ⟨l.toArray⟩
theorem sg_mk (l : List Nat) : sg (mkS l) = l := rfl
theorem mk_sg (x : Str) : mkS (sg x) = x := rfl
theorem sg_len (x : Str) : (sg x).length = x.length := by simp [Str.length]
def Its (z : Str) : It := ⟨fun i _ => i < z.length, fun i H x H' => H' = H ∧ ∃ c, z.cps[i]? = some c ∧ x = .str ⟨#[c]⟩, fun i _ => z.length ≤ i⟩
theorem turn_str {P : Program} {w : World} {K : PySem.W.Frag} {tg : Expr} (z : Str) (t : Tok) (it : Addr) : Turn P w K tg (Its z) [it] it (fun i h => h.IsStrIter it "str_ascii_iterator" z t i) where
  mem := by simp
  obj := fun i h st b hb => by
    have e : b = it := by simpa using hb
    subst e
    obtain ⟨o, e, c, d⟩ := st
    exact ⟨o, e, fun v z => by rw [d] at z; cases z⟩
  keep := fun i h h' st k => by
    obtain ⟨o, e, c, d⟩ := st
    exact ⟨o, k it (by simp) o e, c, d⟩
  item := by
    intro X hP hw hK hc i pins s σ H E I hf st hg
    subst hP hw hK
    have hg : i < z.length := hg
    obtain ⟨f0, f1, f2, f3, f4, f5⟩ := hf it (by simp)
    have hx : z.cps[i]? = some (z.cps[i]'hg) := Array.getElem?_eq_getElem hg
    refine wpAny_pyNext_ascii_item st hx fun h' st' sb => ?_
    have I1 : Inv X pins σ H { s with heap := h', toks := s.toks + 1 } := I.turned (fun b o hb e => (sb.2 b hb).trans e) f0 f1 f3 f4 f5
    obtain ⟨o, e, c, d⟩ := id st'
    exact ⟨_, rfl, go_of (s := { s with heap := h', toks := s.toks + 1 }) e c d (by decide) ⟨.str ⟨#[z.cps[i]'hg]⟩, H, I1, ⟨_, rfl⟩, ⟨rfl, _, hx, rfl⟩, st', fun b hb => (hf b hb).1⟩⟩
  done := by
    intro X hP hw hK hc i pins s σ H E I hf st hg
    subst hP hw hK
    have hg : z.length ≤ i := hg
    obtain ⟨f0, f1, f2, f3, f4, f5⟩ := hf it (by simp)
    exact wpAny_pyNext_ascii_end (I.ok.hd hc) st (Array.getElem?_eq_none hg) fun h' eb => ⟨rfl, I.turned (t' := s.toks) (fun b o hb e => eb b o hb e) f0 f1 f3 f4 f5⟩
  self := fun A i s Q E st h => by
    refine wpAny_pyIter_slot st.typeIs F.slot_str_ascii_iterator_iter (wpAny_call_entry F.slot_str_ascii_iterator_iter st.typeIs F.entry_str_ascii_iterator_iter ?_ (F.args_str_ascii_iterator_iter_1 _))
    show wpAny _ _ (ret (.ref it)) _ _ s
    exact wpAny_pure ⟨_, rfl, "str_ascii_iterator", _, st.typeIs, F.slot_str_ascii_iterator_next.lookup, h⟩
section
variable {X : Cx} {tg : Expr}
def Ascii (x : Str) : Prop := x.cps.all (· < 128) = true
def iStr (tl : TE) : TI := fun σ H R => tl σ H fun x H1 => ∃ z, x = .str z ∧ Ascii z ∧ R (Its z) H1
theorem pi_str {l : Expr} {tl : TE} (hl : PE X l tl) : PI X tg l (iStr tl) := by
  intro pins s σ H R I h
  refine thn (hl pins s σ H _ I h) fun v s1 ⟨x, H1, I1, r1, q1⟩ => ?_
  obtain ⟨z, rfl, ha, q⟩ := q1
  obtain ⟨t, rfl⟩ := r1
  refine wpAny_pyIter_ascii ha ?_
  refine ⟨s1.heap.objs.size, [s1.heap.objs.size], _, _, H1, rfl, I1.kept (t' := s1.toks) fun b o e => Heap.get?_push_of_some _ e, turn_str z t _, ⟨_, Heap.get?_push_size _ rfl, rfl, rfl⟩, fun b hb => ?_, q⟩
  have e : b = s1.heap.objs.size := by simpa using hb
  subst e
  exact I1.fpOk (Nat.le_refl _) (I1.hok.fresh (Nat.le_refl _))
theorem comp_its {z : Str} {g : TG} {tt : TT} {te : TE} {k : Nat} {fr : List (Str × Nat)} {D : Addr} {σ : St} {H1 : Hp} {Q : VK} (Pv : Nat → List V → Hp → Prop) (h0 : Pv 0 [] (upd H1 D (.lst [])))
    (hs : ∀ i c vs σ' H, i < z.length → (sg z)[i]? = some c → Sh k (capOf fr σ) σ' → Pv i vs H → tTurn g tt te D z.length k (capOf fr σ) Pv i (.str (mkS [c])) σ' H) (hd : ∀ vs H, Pv z.length vs H → Q (.ref D) H) : tBlock g tt te (Its z) D (capS k fr σ) H1 Q :=
  comp_any (fun i x => ∃ c, (sg z)[i]? = some c ∧ x = .str (mkS [c])) Pv h0 (fun i vs H hi p => ⟨hi, fun x H' y => by obtain ⟨e, c, hc, ex⟩ := y; exact ⟨e, c, by simpa using hc, ex⟩⟩) (fun vs H p => Nat.le_refl _)
    (fun i x vs σ' H hi hx sh p => by obtain ⟨c, hc, rfl⟩ := hx; exact hs i c vs σ' H hi hc sh p) hd
end
def cutT (z : Str) (lo hi : Option Int) : Str := mkS (((sg z).drop (HT.sIx z.length 0 lo)).take (HT.sIx z.length z.length hi - HT.sIx z.length 0 lo))
theorem str_slice_one (lo hi : Option Int) (n : Nat) : Builtin.Str.strSliceIndices lo hi 1 n = sliceRange ((HT.sIx n 0 lo : Nat) : Int) ((HT.sIx n n hi : Nat) : Int) 1 := by
  unfold Builtin.Str.strSliceIndices
  simp only [show (1 : Int) > 0 by decide, if_true]
  have e1 : (match lo with | none => (0 : Int) | some i => max 0 (min (if i < 0 then i + (n : Int) else i) (n : Int))) = ((HT.sIx n 0 lo : Nat) : Int) := by
    cases lo with
    | none => rfl
    | some i =>
      simp only [HT.sIx]
      by_cases h : i < 0
      · simp only [h, if_true]; omega
      · simp only [h, if_false]; omega
  have e2 : (match hi with | none => (n : Int) | some i => max 0 (min (if i < 0 then i + (n : Int) else i) (n : Int))) = ((HT.sIx n n hi : Nat) : Int) := by
    cases hi with
    | none => rfl
    | some i =>
      simp only [HT.sIx]
      by_cases h : i < 0
      · simp only [h, if_true]; omega
      · simp only [h, if_false]; omega
  rw [← e1, ← e2]
  cases lo <;> cases hi <;> rfl
def rSlS : V → Option Int → Option Int → Hp → VK → Prop := fun x lo hi H Q => ∃ z, x = .str z ∧ z.length ≤ sizeLine ∧ Q (.str (cutT z lo hi)) H
theorem sl_str {X : Cx} : SlR X rSlS := by
  intro pins s σ H x v vl vu lo hi sl Q I rx hs pl pu h
  obtain ⟨z, rfl, hz, q⟩ := h
  obtain ⟨t, rfl⟩ := rx
  refine ⟨"str", _, F.slot_str_getitem.lookup, typeIs_str s z t, ?_⟩
  obtain ⟨l, hl1, hl2⟩ : ∃ l : Option (Int × Tok), vl = partValue l ∧ l.map (·.1) = lo := by cases pl with | none => exact ⟨none, rfl, rfl⟩ | int i t => exact ⟨some (i, t), rfl, rfl⟩
  obtain ⟨u, hu1, hu2⟩ : ∃ l : Option (Int × Tok), vu = partValue l ∧ l.map (·.1) = hi := by cases pu with | none => exact ⟨none, rfl, rfl⟩ | int i t => exact ⟨some (i, t), rfl, rfl⟩
  subst hl1 hu1 hl2 hu2
  have hp : (slicePicked z l u none) = sliceRange ((HT.sIx z.length 0 (l.map (·.1)) : Nat) : Int) ((HT.sIx z.length z.length (u.map (·.1)) : Nat) : Int) 1 := str_slice_one _ _ _
  have hc : (⟨((slicePicked z l u none).filterMap (z.cps[·]?)).toArray⟩ : Str) = cutT z (l.map (·.1)) (u.map (·.1)) := by
    unfold cutT mkS
    rw [hp, sliceRange_one, pick_run]
  refine wpAny_getItem_str_slice (l := l) (u := u) (st := none) hs rfl ?_
  unfold sliceMade
  have hlen : (slicePicked z l u none).length = ((((sg z).drop (HT.sIx z.length 0 (l.map (·.1)))).take (HT.sIx z.length z.length (u.map (·.1)) - HT.sIx z.length 0 (l.map (·.1)))).length) ∨ True := .inr trivial
  split
  · rename_i hb
    have hb2 : (slicePicked z l u none).length = z.length := by
      have := (Bool.and_eq_true _ _).mp hb
      simpa using this.2
    have e : cutT z (l.map (·.1)) (u.map (·.1)) = z := by
      rw [← hc, hp, sliceRange_one, pick_run]
      rw [hp, sliceRange_one, List.length_map, List.length_range] at hb2
      have := HT.sIx_le z.length z.length (Nat.le_refl _) (u.map (·.1))
      have e2 : (sg z).length = z.length := sg_len z
      have hd : ((z.cps.toList.drop (HT.sIx z.length 0 (l.map (·.1)))).take (HT.sIx z.length z.length (u.map (·.1)) - HT.sIx z.length 0 (l.map (·.1)))) = z.cps.toList := by
        by_cases h0 : HT.sIx z.length 0 (l.map (·.1)) = 0
        · rw [h0, List.drop_zero]
          exact List.take_of_length_le (by rw [show z.cps.toList.length = z.length from e2]; omega)
        · have hz0 : z.length = 0 := by omega
          have : z.cps.toList = [] := List.length_eq_zero_iff.mp (by rw [show z.cps.toList.length = z.length from e2]; exact hz0)
          rw [this]; simp
      rw [hd]
    rw [e] at q
    exact ⟨.str z, H, I, ⟨t, rfl⟩, q⟩
  · rw [hc]
    have hle : (cutT z (l.map (·.1)) (u.map (·.1))).length ≤ sizeLine := by
      rw [← sg_len]
      unfold cutT
      rw [sg_mk, List.length_take, List.length_drop, sg_len]
      omega
    exact ⟨hle, .str _, H, I.tok _, ⟨_, rfl⟩, q⟩
section
variable {X : Cx}
def rStarts : V → List V → Hp → VK → Prop := fun x vs H Q => ∃ z y, x = .str z ∧ vs = [.str y] ∧ Q (.bl (Txt.startswith z y)) H
theorem mt_starts : MtM X "str.startswith" rStarts := by
  intro pins s σ H x vs v us Q I rx rv h
  obtain ⟨z, y, rfl, rfl, q⟩ := h
  obtain ⟨t, rfl⟩ := rx
  obtain ⟨u, rfl, ⟨t', rfl⟩⟩ := rv.one
  exact SC.startswith ⟨.bl _, H, I, rfl, q⟩
def rIndexS : V → List V → Hp → VK → Prop := fun x vs H Q => ∃ z y i r, x = .str z ∧ vs = [.str y] ∧ Builtin.Str.occurrences z y 0 z.length 1 = i :: r ∧ Q (.int (i : Nat)) H
def partT (z y : Str) : Str × Str × Str := match Builtin.Str.occurrences z y 0 z.length 1 with
  | i :: _ => (Builtin.Str.strSub z 0 i, y, Builtin.Str.strSub z (i + y.length) z.length)
  | [] => (z, Str.empty, Str.empty)
def rPart : V → List V → Hp → VK → Prop := fun x vs H Q => ∃ z y, x = .str z ∧ vs = [.str y] ∧ 0 < y.length ∧ z.length ≤ sizeLine ∧ ∀ p, H p = none → Q (.ref p) (upd H p (.tup [.str (partT z y).1, .str (partT z y).2.1, .str (partT z y).2.2]))
theorem mt_part : MtM X "str.partition" rPart := by
  intro pins s σ H x vs v us Q I rx rv h
  obtain ⟨z, y, rfl, rfl, hy, hz, q⟩ := h
  obtain ⟨t, rfl⟩ := rx
  obtain ⟨u, rfl, ⟨t', rfl⟩⟩ := rv.one
  refine call_meets F.slot_str_partition (typeIs_str _ _ _) F.entry_str_partition (F.args_str_partition_2 _ _) (meets_str_partition z y t t' (by rw [beq_eq_false_iff_ne]; omega) hz) ?_
  have hn : H s.heap.objs.size = none := I.hok.fresh (Nat.le_refl _)
  have q' := q s.heap.objs.size hn
  unfold partT at q'
  revert q'
  cases Builtin.Str.occurrences z y 0 z.length 1 with
  | nil =>
    intro q'
    refine ⟨.ref s.heap.objs.size, _, ?_, rfl, q'⟩
    exact I.laid (fun b o e => Heap.get?_push_of_some _ e) (Nat.le_refl _) ⟨by simp only [List.length_cons, List.length_nil]; rw [sizeLine_eq]; decide, [.str z t, .str Str.empty s.toks, .str Str.empty s.toks], .cons ⟨_, rfl⟩ (.cons ⟨_, rfl⟩ (.cons ⟨_, rfl⟩ .nil)), ⟨_, Heap.get?_push_size s.heap rfl, rfl, 0, rfl⟩⟩
  | cons i r =>
    intro q'
    refine ⟨.ref s.heap.objs.size, _, ?_, rfl, q'⟩
    exact I.laid (fun b o e => Heap.get?_push_of_some _ e) (Nat.le_refl _) ⟨by simp only [List.length_cons, List.length_nil]; rw [sizeLine_eq]; decide, [.str (Builtin.Str.strSub z 0 i) s.toks, .str y t', .str (Builtin.Str.strSub z (i + y.length) z.length) (s.toks + 1)], .cons ⟨_, rfl⟩ (.cons ⟨_, rfl⟩ (.cons ⟨_, rfl⟩ .nil)), ⟨_, Heap.get?_push_size s.heap rfl, rfl, 0, rfl⟩⟩
theorem vals_strs : ∀ (tk : Nat) (xs : List Str), Vals (xs.map V.str) (strsFrom tk xs)
  | _, [] => .nil
  | tk, x :: r => .cons ⟨_, rfl⟩ (vals_strs (tk + 1) r)
def rSplit : V → List V → Hp → VK → Prop := fun x vs H Q => ∃ z y, x = .str z ∧ vs = [.str y] ∧ 0 < y.length ∧ z.length ≤ sizeLine ∧ (Txt.split z y).length ≤ sizeLine ∧ ∀ p, H p = none → Q (.ref p) (upd H p (.lst ((Txt.split z y).map V.str)))
theorem mt_split : MtM X "str.split" rSplit := by
  intro pins s σ H x vs v us Q I rx rv h
  obtain ⟨z, y, rfl, rfl, hy, hz, hn, q⟩ := h
  obtain ⟨t, rfl⟩ := rx
  obtain ⟨u, rfl, ⟨t', rfl⟩⟩ := rv.one
  have hy' : (y.length == 0) = false := by rw [beq_eq_false_iff_ne]; omega
  have hf : H s.heap.objs.size = none := I.hok.fresh (Nat.le_refl _)
  have q' := q s.heap.objs.size hf
  have self : (q2 : Q (.ref s.heap.objs.size) (upd H s.heap.objs.size (.lst [V.str z]))) → EP X pins σ Q (.ref s.heap.objs.size) { s with heap := s.heap.push { cls := .type "list", data := .seq [Value.str z t].toArray } } := fun q2 =>
    ⟨.ref s.heap.objs.size, _, I.laid (t' := s.toks) (o := .lst [V.str z]) (fun b o e => Heap.get?_push_of_some _ e) (Nat.le_refl _) ⟨by simp only [List.length_cons, List.length_nil]; rw [sizeLine_eq]; decide, [.str z t], 0, .cons ⟨_, rfl⟩ .nil, Heap.get?_push_size s.heap rfl⟩, rfl, q2⟩
  unfold Txt.split at q' hn
  cases h1 : (decide (z.length < y.length) || decide (Builtin.Str.strKind z < Builtin.Str.strKind y))
  · rw [h1] at q' hn
    cases h2 : (Builtin.Str.occurrences z y 0 z.length (z.length + 1)).isEmpty
    · rw [h2] at q' hn
      simp only [Bool.false_eq_true, if_false] at q' hn
      refine call_meets F.slot_str_split (typeIs_str _ _ _) F.entry_str_split (F.args_str_split_2 _ _) (meets_str_split_sep z y t t' h1 hy' h2 hz hn) ?_
      exact ⟨.ref s.heap.objs.size, _, I.laid (o := .lst ((Builtin.Str.partsBetween z (Builtin.Str.occurrences z y 0 z.length (z.length + 1)) y.length).map V.str)) (fun b o e => Heap.get?_push_of_some _ e) (Nat.le_refl _) ⟨by rw [List.length_map]; exact hn, _, 0, vals_strs _ _, Heap.get?_push_size s.heap rfl⟩, rfl, q'⟩
    · rw [h2] at q'
      simp only [Bool.false_eq_true, if_false, if_true, List.map] at q'
      exact call_meets F.slot_str_split (typeIs_str _ _ _) F.entry_str_split (F.args_str_split_2 _ _) (meets_str_split_not_found z y t t' h1 hy' h2) (self q')
  · rw [h1] at q'
    simp only [if_true, List.map] at q'
    exact call_meets F.slot_str_split (typeIs_str _ _ _) F.entry_str_split (F.args_str_split_2 _ _) (meets_str_split_cannot_occur z y t t' h1) (self q')
theorem call_int_txt : CallR X (.type "int") (fun xs H Q => ∃ z n, xs = [.str z] ∧ PySem.intText? z = some n ∧ z.length ≤ 640 ∧ Q (.int n) H) := by
  intro pins s σ H xs us Q I r h
  obtain ⟨z, n, rfl, e, hl, q⟩ := h
  obtain ⟨u, rfl, ⟨t, rfl⟩⟩ := r.one
  exact PySem.W.KIN.call_text e hl ⟨.int n, H, I.tok _, ⟨_, rfl⟩, q⟩
def repT (z : Str) (n : Int) : Str := ⟨(List.replicate n.toNat z.cps).foldl (· ++ ·) #[]⟩
end
theorem strs_of : ∀ {ts : List Str} {its : List Value}, Vals (ts.map V.str) its → ∃ l : List (Str × Tok), its = strValues l ∧ l.map (·.1) = ts
  | [], _, .nil => ⟨[], rfl, rfl⟩
  | t :: ts, _, .cons ⟨k, e⟩ r => by
    obtain ⟨l, e1, e2⟩ := strs_of r
    subst e
    exact ⟨(t, k) :: l, by rw [e1]; rfl, by rw [← e2]; rfl⟩
def rJoin (K : PySem.W.Frag) : V → List V → Hp → VK → Prop := fun x vs H Q => ∃ z a ts, x = .str z ∧ vs = [.ref a] ∧ SqL K H a (ts.map V.str) ∧ JoinOk z ts = true ∧ Q (.str (Txt.join z ts)) H
theorem mt_join {X : Cx} : MtM X "str.join" (rJoin X.K) := by
  intro pins s σ H x vs v us Q I rx rv h
  obtain ⟨z, a, ts, rfl, rfl, hq, ok, q⟩ := h
  obtain ⟨t, rfl⟩ := rx
  obtain ⟨u, rfl, e⟩ := rv.one
  cases e
  obtain ⟨its, r, p, hz⟩ := I.list hq
  obtain ⟨l, rfl, ht⟩ := strs_of r
  exact SC.join p.isList ht ok fun t' k => ⟨.str _, H, I.tok _, ⟨_, rfl⟩, q⟩
theorem mt_joinK {X : Cx} (K : PySem.W.Frag) (hK : X.K = K) : MtM X "str.join" (rJoin K) := by subst hK; exact mt_join
section
variable {X : Cx} {pos : Pos} {body : List Stmt} {h₀ : ExceptHandler} {hs : List ExceptHandler} {E' : XK} {tb : TS}
theorem ps_try0 (hb : ∀ pins xt, Passes (CXe X.prog X.w) ((X.pnx pins).wish xt) E' → PSs ((X.pnx pins).wish xt) body tb) (hE : ∀ c H, ¬ E' c none H) : PS X (.Try body (h₀ :: hs) [] [] pos) tb := by
  intro pins s σ H Dn I h
  rw [arm_exec_Try]
  refine wpAny_bind (wpAny_standAt (wpAny_tryStmt_except ?_))
  have hp : Passes (CXe X.prog X.w) ((X.pnx pins).wish fun e s' => ∃ pins' σ' H1 s1, Inv (X.pnx pins) pins' σ' H1 s1 ∧ CXe X.prog X.w X.stack H1 s1 E' e s') E' := fun pins' σ' H1 s1 e s' I1 h => ⟨pins', σ', H1, s1, I1.unwish, h⟩
  refine wpAny_mono (hb pins _ hp [] s σ H Dn (I.pnx.wish _) h) (fun f s₁ h₁ => ?_) (fun e s₁ h₁ => ?_)
  · cases f with
    | next => obtain ⟨σ', H', J, q⟩ := h₁; exact wpAny_execs_nil ⟨σ', H', J.unwish.unpnx, q⟩
    | brk => obtain ⟨σ', H', J, q⟩ := h₁; exact ⟨σ', H', J.unwish.unpnx, q⟩
    | cont => obtain ⟨σ', H', J, q⟩ := h₁; exact ⟨σ', H', J.unwish.unpnx, q⟩
    | ret u => obtain ⟨v, σ', H', J, r, q⟩ := h₁; exact ⟨v, σ', H', J.unwish.unpnx, r, q⟩
  · obtain ⟨pins', σ', H1, s1, I1, a, cls, H', rfl, F, hE'⟩ := h₁
    exact (hE cls H' hE').elim
end
section
variable {X : Cx} {o e : Expr} {es : List Expr} {to : TE} {t : TA} {name : Str} {apos cpos : Pos} {T id : String} {r : V → List V → Hp → VK → Prop}
theorem pe_bmK (K : PySem.W.Frag) (hK : X.K = K) (pa : PlainAttrs T) (slot : Slot T name id) (hty : typeOf (.builtin id) = pure (.type "method_descriptor")) (hm : MtR X id r) (ho : PE X o to) (ha : PA X (e :: es) t)
    (hbase : attributeBase o name X.env (eval o X.env) = eval o X.env := by rfl)
    (hfew : ((backTo cpos (starEach (e :: es) X.env)).all (fun x => !x.1) && (backToKw cpos (keywordEach [] X.env)).all (fun x => x.1.isSome)
      && decide ((e :: es).length + ([] : List Keyword).length + (if ([] : List Keyword).isEmpty then 0 else 1) < 30)) = true := by rfl)
    (hline : (apos.endLine == cpos.line) = true := by rfl) (hs : starEach (e :: es) X.env = (false, eval e X.env) :: starEach es X.env := by rfl) (hplain : (backTo cpos (starEach es X.env)).any (·.1) = false := by rfl) :
    PE X (.Call (.Attribute o name apos) (e :: es) [] cpos) (tBM K T r to t) := by
  subst hK
  exact pe_bm pa slot hty hm ho ha hbase hfew hline hs hplain
end
theorem pe_globS {X : Cx} {x : Str} {z : Str} {pos : Pos} (hg : Gl X x) (hm : ∃ t, X.mg x = some (.str z t)) (hd : (x == ("__debug__" : Str)) = false := by decide) : PE X (.Name x pos) (tC (.str z)) := by
  obtain ⟨t, hm⟩ := hm
  exact pe_glob hg hm ⟨t, rfl⟩ hd
end L2
set_option maxHeartbeats 1000000
namespace L2
open PySem PySem.Spec PyProof.Rows PySem.Builtin PySem.Builtin.Str PySem.StrLaws
def inter (s : List Nat) : List (List Nat) → List Nat
  | [] => []
  | [a] => a
  | a :: b :: r => a ++ s ++ inter s (b :: r)
theorem glue_fold (s : Array Nat) : ∀ (r : List Str) (a : Array Nat), (r.foldl (fun acc p => acc ++ s ++ p.cps) a).toList = a.toList ++ (r.map fun p => s.toList ++ sg p).flatten
  | [], a => by simp
  | p :: r, a => by
    rw [List.foldl_cons, glue_fold s r]
    simp
theorem inter_flat (s : List Nat) : ∀ (r : List (List Nat)) (a : List Nat), inter s (a :: r) = a ++ (r.map fun p => s ++ p).flatten
  | [], a => by simp [inter]
  | b :: r, a => by
    show a ++ s ++ inter s (b :: r) = _
    rw [inter_flat s r b]
    simp
theorem sg_join (sep : Str) : ∀ (ts : List Str), sg (Txt.join sep ts) = inter (sg sep) (ts.map sg)
  | [] => rfl
  | a :: r => by
    show ((⟨r.foldl (fun acc p => acc ++ sep.cps ++ p.cps) a.cps⟩ : Str)).cps.toList = _
    rw [glue_fold, List.map_cons, inter_flat, List.map_map]
    rfl
def Cl (t s : List Nat) : Nat → List (List Nat) → Prop
  | _, [] => False
  | o, [a] => ∀ i, o ≤ i → i + s.length ≤ t.length → (t.drop i).take s.length ≠ s
  | o, a :: b :: r => (∀ i, o ≤ i → i < o + a.length → (t.drop i).take s.length ≠ s) ∧ (t.drop (o + a.length)).take s.length = s ∧ o + a.length + s.length ≤ t.length ∧ Cl t s (o + a.length + s.length) (b :: r)
def bnd (w : Nat) : Nat → List (List Nat) → List Nat
  | _, [] => []
  | _, [a] => []
  | o, a :: b :: r => (o + a.length) :: bnd w (o + a.length + w) (b :: r)
theorem occ_skip (x y : Str) (hi limit : Nat) : ∀ (l : List Nat) (st : Array Nat × Nat), (∀ i ∈ l, st.2 ≤ i → i + y.length ≤ hi → subAt x y i = false) → (forIn l st (occBody x y hi limit)).run = st
  | [], st, _ => rfl
  | i :: l, st, h => by
    rw [List.forIn_cons]
    have : occBody x y hi limit i st = pure (ForInStep.yield (st.fst, st.snd)) := by
      unfold occBody
      rw [if_neg]
      rintro ⟨⟨⟨_, h1⟩, h2⟩, h3⟩
      rw [h i (List.mem_cons_self ..) h1 h2] at h3
      cases h3
    rw [this]
    exact occ_skip x y hi limit l (st.1, st.2) fun j hj => h j (List.mem_cons_of_mem _ hj)
theorem subAt_f {x y : Str} {i : Nat} (h : ((sg x).drop i).take y.length ≠ sg y) : subAt x y i = false := by
  rw [subAt_eq]
  exact beq_eq_false_iff_ne.mpr h
theorem subAt_t {x y : Str} {i : Nat} (h : ((sg x).drop i).take y.length = sg y) : subAt x y i = true := by
  rw [subAt_eq]
  exact beq_iff_eq.mpr h
theorem forIn_app {α β : Type} (f : α → β → Id (ForInStep β)) (hf : ∀ a b, ∃ b', f a b = pure (ForInStep.yield b')) : ∀ (l l' : List α) (b : β), (forIn (l ++ l') b f).run = (forIn l' (forIn l b f).run f).run
  | [], l', b => rfl
  | a :: l, l', b => by
    rw [List.cons_append, List.forIn_cons, List.forIn_cons]
    obtain ⟨b', e⟩ := hf a b
    rw [e]
    exact forIn_app f hf l l' b'
theorem occBody_yield (x y : Str) (hi limit : Nat) (i : Nat) (st : Array Nat × Nat) : ∃ b', occBody x y hi limit i st = pure (ForInStep.yield b') := by
  unfold occBody
  split
  · exact ⟨_, rfl⟩
  · exact ⟨_, rfl⟩
theorem occ_cl (x y : Str) (hy : 0 < y.length) : ∀ (ps : List (List Nat)) (o : Nat) (found : Array Nat), o ≤ x.length → Cl (sg x) (sg y) o ps → found.size + ps.length ≤ x.length + 2 →
    (forIn (List.range' o (x.length + 1 - o)) (found, o) (occBody x y x.length (x.length + 1))).run.fst.toList = found.toList ++ bnd y.length o ps
  | [], _, _, _, h, _ => h.elim
  | [a], o, found, ho, h, hl => by
    rw [occ_skip x y]
    · simp [bnd]
    · intro i hi h1 h2
      have h3 : i + (sg y).length ≤ (sg x).length := by rw [sg_len, sg_len]; exact h2
      refine subAt_f ?_
      have := h i (by simpa using h1) h3
      rwa [sg_len] at this
  | a :: b :: r, o, found, ho, h, hl => by
    obtain ⟨h1, h2, h3, h4⟩ := h
    rw [sg_len] at h2 h3 h4
    rw [sg_len] at h3
    have e : List.range' o (x.length + 1 - o) = List.range' o a.length ++ ((o + a.length) :: (List.range' (o + a.length + 1) (y.length - 1) ++ List.range' (o + a.length + y.length) (x.length + 1 - (o + a.length + y.length)))) := by
      have e1 : x.length + 1 - o = a.length + (1 + ((y.length - 1) + (x.length + 1 - (o + a.length + y.length)))) := by omega
      rw [e1, ← List.range'_append_1, ← List.range'_append_1, ← List.range'_append_1]
      simp only [List.range'_one, List.singleton_append]
      rw [show o + a.length + 1 + (y.length - 1) = o + a.length + y.length by omega]
    rw [e, forIn_app _ (occBody_yield x y _ _)]
    rw [occ_skip x y x.length (x.length + 1) (List.range' o a.length) (found, o)]
    · rw [List.forIn_cons]
      have eb : occBody x y x.length (x.length + 1) (o + a.length) (found, o) = pure (ForInStep.yield (found.push (o + a.length), o + a.length + y.length)) := by
        unfold occBody
        rw [if_pos]
        refine ⟨⟨⟨?_, ?_⟩, ?_⟩, subAt_t h2⟩
        · show found.size < x.length + 1
          simp at hl
          omega
        · show o ≤ o + a.length
          omega
        · omega
      rw [eb]
      show (forIn (List.range' (o + a.length + 1) (y.length - 1) ++ List.range' (o + a.length + y.length) (x.length + 1 - (o + a.length + y.length))) (found.push (o + a.length), o + a.length + y.length) (occBody x y x.length (x.length + 1))).run.fst.toList = _
      rw [forIn_app _ (occBody_yield x y _ _), occ_skip x y x.length (x.length + 1) (List.range' (o + a.length + 1) (y.length - 1))]
      · rw [occ_cl x y hy (b :: r) _ _ (by omega) h4 (by simp at hl ⊢; omega)]
        simp [bnd]
      · intro i hi h5
        have := List.mem_range'_1.mp hi
        have h5 : o + a.length + y.length ≤ i := h5
        omega
    · intro i hi _ _
      have := List.mem_range'_1.mp hi
      refine subAt_f ?_
      have := h1 i (by omega) (by omega)
      rwa [sg_len] at this
theorem sub_part (x : Str) (i j : Nat) : strSub x i j = mkS (((sg x).drop i).take (j - i)) := by
  have : (strSub x i j).cps.toList = ((sg x).drop i).take (j - i) := strSub_toList x i j
  calc strSub x i j = mkS (sg (strSub x i j)) := (mk_sg _).symm
    _ = _ := by rw [show sg (strSub x i j) = _ from this]
theorem parts_go (x : Str) (s : List Nat) : ∀ (ps : List (List Nat)) (o : Nat), ps ≠ [] → (sg x).drop o = inter s ps → o ≤ x.length →
    ((o :: (bnd s.length o ps).map (· + s.length)).zip (bnd s.length o ps ++ [x.length])).map (fun (i, j) => strSub x i j) = ps.map mkS
  | [], _, h, _, _ => absurd rfl h
  | [a], o, _, e, ho => by
    show [strSub x o x.length] = [mkS a]
    rw [sub_part]
    congr 2
    rw [e]
    have : (inter s [a]) = a := rfl
    rw [this]
    refine List.take_of_length_le ?_
    have hl : ((sg x).drop o).length = x.length - o := by rw [List.length_drop, sg_len]
    rw [e, this] at hl
    omega
  | a :: b :: r, o, _, e, ho => by
    have e2 : (sg x).drop (o + a.length + s.length) = inter s (b :: r) := by
      rw [Nat.add_assoc, ← List.drop_drop, e]
      show (a ++ s ++ inter s (b :: r)).drop (a.length + s.length) = _
      rw [List.drop_append_of_le_length (by simp)]
      rw [show a.length + s.length = (a ++ s).length by simp, List.drop_length]
      rfl
    have hlen : o + a.length + s.length ≤ x.length := by
      have hl : ((sg x).drop o).length = x.length - o := by rw [List.length_drop, sg_len]
      rw [e] at hl
      have : (inter s (a :: b :: r)).length = a.length + s.length + (inter s (b :: r)).length := by
        show (a ++ s ++ inter s (b :: r)).length = _
        rw [List.length_append, List.length_append]
      omega
    have ih := parts_go x s (b :: r) (o + a.length + s.length) (by simp) e2 hlen
    show strSub x o (o + a.length) :: _ = mkS a :: (b :: r).map mkS
    congr 1
    rw [sub_part]
    congr 1
    rw [e, show o + a.length - o = a.length by omega]
    show (a ++ s ++ inter s (b :: r)).take a.length = a
    rw [List.append_assoc, List.take_left]
theorem kind1 {x : Str} (h : Ascii x) : Builtin.Str.strKind x = 1 := by
  unfold Builtin.Str.strKind
  rw [if_pos]
  unfold Ascii at h
  rw [Array.all_eq_true] at h ⊢
  intro i hi
  have := h i hi
  simp at this ⊢
  omega
theorem split_inter {x y : Str} {ps : List (List Nat)} (ax : Ascii x) (ay : Ascii y) (hy : 0 < y.length) (e : sg x = inter (sg y) ps) (c : Cl (sg x) (sg y) 0 ps) : Txt.split x y = ps.map mkS := by
  have hp : ps ≠ [] := by
    intro z
    subst z
    exact c.elim
  have hl : ps.length ≤ x.length + 2 := by
    have : ∀ (ps : List (List Nat)), ps ≠ [] → ps.length ≤ (inter (sg y) ps).length + 1 := by
      intro ps
      induction ps with
      | nil => intro z; exact absurd rfl z
      | cons a r ih =>
        intro _
        cases r with
        | nil => simp
        | cons b r =>
          have := ih (by simp)
          show (a :: b :: r).length ≤ (a ++ sg y ++ inter (sg y) (b :: r)).length + 1
          have hyl := sg_len y
          simp only [List.length_append, List.length_cons] at this ⊢
          omega
    have h := this ps hp
    rw [← e, sg_len] at h
    omega
  have ho := occ_cl x y hy ps 0 #[] (Nat.zero_le _) c (by simpa using hl)
  have hocc : occurrences x y 0 x.length (x.length + 1) = bnd y.length 0 ps := by
    rw [occ_eq]
    simpa using ho
  have hgo := parts_go x (sg y) ps 0 hp (by simpa using e) (Nat.zero_le _)
  rw [sg_len] at hgo
  unfold Txt.split
  rw [kind1 ax, kind1 ay, hocc]
  by_cases hs : x.length < y.length
  · rw [if_pos (by simp [hs])]
    match ps, hp with
    | [a], _ =>
      have : sg x = a := e
      rw [← this]
      simp [mk_sg]
    | a :: b :: r, _ =>
      obtain ⟨_, _, h3, _⟩ := c
      rw [sg_len, sg_len] at h3
      omega
  · rw [if_neg (by simp [hs])]
    match ps, hp with
    | [a], _ =>
      have : sg x = a := e
      rw [if_pos (by simp [bnd]), ← this]
      simp [mk_sg]
    | a :: b :: r, _ =>
      rw [if_neg (by simp [bnd])]
      exact hgo
def Apart (s a : List Nat) : Prop := ∀ rest i, i < a.length → ((a ++ rest).drop i).take s.length ≠ s
theorem cl_of {s : List Nat} (hs : 0 < s.length) : ∀ (ps : List (List Nat)) (pre : List Nat), ps ≠ [] → (∀ a ∈ ps, Apart s a) → Cl (pre ++ inter s ps) s pre.length ps
  | [], _, h, _ => absurd rfl h
  | [a], pre, _, ha => by
    intro i hi hl
    show ((pre ++ a).drop i).take s.length ≠ s
    have hl : i + s.length ≤ (pre ++ a).length := hl
    rw [List.length_append] at hl
    have := ha a (by simp) [] (i - pre.length) (by omega)
    rw [List.append_nil] at this
    rw [List.drop_append, List.drop_of_length_le (by omega), List.nil_append]
    exact this
  | a :: b :: r, pre, _, ha => by
    have e : pre ++ inter s (a :: b :: r) = (pre ++ a ++ s) ++ inter s (b :: r) := by
      show pre ++ (a ++ s ++ inter s (b :: r)) = _
      simp
    refine ⟨fun i h1 h2 => ?_, ?_, ?_, ?_⟩
    · have := ha a (by simp) (s ++ inter s (b :: r)) (i - pre.length) (by omega)
      show ((pre ++ (a ++ s ++ inter s (b :: r))).drop i).take s.length ≠ s
      rw [List.drop_append, List.drop_of_length_le (by omega), List.nil_append, List.append_assoc]
      exact this
    · rw [e, show pre.length + a.length = (pre ++ a).length by simp, List.append_assoc, List.drop_left, List.take_left]
    · rw [e]
      simp only [List.length_append]
      omega
    · rw [e, show pre.length + a.length + s.length = (pre ++ a ++ s).length by rw [List.length_append, List.length_append]]
      exact cl_of hs (b :: r) (pre ++ a ++ s) (by simp) fun c hc => ha c (List.mem_cons_of_mem _ hc)
theorem apart_head {c : Nat} {s a : List Nat} (h : c ∉ a) : Apart (c :: s) a := fun rest i hi e => by
  have h1 : (((a ++ rest).drop i).take (c :: s).length)[0]? = some c := by rw [e]; rfl
  rw [List.getElem?_take_of_lt (by simp), List.getElem?_drop, List.getElem?_append_left (by simpa using hi)] at h1
  exact h (List.mem_of_getElem? h1)
def NoSl (a : List Nat) : Prop := ∀ i, a[i]? = some 32 → ∃ d, a[i + 1]? = some d ∧ d ≠ 47
theorem apart_slash {a : List Nat} (h : NoSl a) : Apart [32, 47, 32] a := fun rest i hi e => by
  have h1 : (((a ++ rest).drop i).take [32, 47, 32].length)[0]? = some 32 := by rw [e]; rfl
  have h2 : (((a ++ rest).drop i).take [32, 47, 32].length)[1]? = some 47 := by rw [e]; rfl
  rw [List.getElem?_take_of_lt (by simp), List.getElem?_drop, List.getElem?_append_left (by simpa using hi)] at h1
  obtain ⟨d, hd, nd⟩ := h i (by simpa using h1)
  have hi1 : i + 1 < a.length := (List.getElem?_eq_some_iff.mp hd).1
  rw [List.getElem?_take_of_lt (by simp), List.getElem?_drop, List.getElem?_append_left (by simpa using hi1)] at h2
  rw [hd] at h2
  exact nd (Option.some.inj h2)
theorem ascii_of {x : Str} (h : ∀ c ∈ sg x, c < 128) : Ascii x := by
  unfold Ascii
  rw [Array.all_eq_true]
  intro i hi
  have := h (x.cps[i]) (by simp)
  simpa using this
theorem Ascii.mem {x : Str} (h : Ascii x) : ∀ c ∈ sg x, c < 128 := by
  unfold Ascii at h
  rw [Array.all_eq_true] at h
  intro c hc
  obtain ⟨i, hi, rfl⟩ := List.mem_iff_getElem.mp hc
  have := h i (by simpa using hi)
  simpa using this
theorem split_join {x y : Str} {ps : List (List Nat)} (ax : Ascii x) (ay : Ascii y) (hy : 0 < y.length) (hp : ps ≠ []) (e : sg x = inter (sg y) ps) (ha : ∀ a ∈ ps, Apart (sg y) a) : Txt.split x y = ps.map mkS := by
  refine split_inter ax ay hy e ?_
  rw [e]
  exact cl_of (by rw [sg_len]; exact hy) ps [] hp ha
def tN (n : Nat) : List Nat := (Nat.toDigits 10 n).map Char.toNat
def tI (a : Int) : List Nat := if a < 0 then 45 :: tN a.natAbs else tN a.natAbs
theorem sg_nat (n : Nat) : sg (Str.ofString (toString ((n : Nat) : Int))) = tN n := PySem.W.KIN.signs_num n
theorem sg_toString (a : Int) : sg (Str.ofString (toString a)) = tI a := by
  unfold tI
  by_cases h : a < 0
  · rw [if_pos h]
    obtain ⟨n, rfl⟩ : ∃ n : Nat, a = Int.negSucc n := ⟨a.natAbs - 1, by omega⟩
    have e : toString (Int.negSucc n) = "-" ++ toString (n + 1) := rfl
    rw [e]
    show (Str.ofString ("-" ++ toString (n + 1))).cps.toList = _
    rw [PyProof.Rows.signs_ofString, String.toList_append, List.map_append]
    show 45 :: (Nat.repr (n + 1)).toList.map Char.toNat = 45 :: tN (n + 1)
    rw [Nat.toList_repr]
    rfl
  · rw [if_neg h]
    obtain ⟨n, rfl⟩ := Int.eq_ofNat_of_zero_le (show 0 ≤ a by omega)
    exact sg_nat n
open PySem.NumText in
theorem tN_digits (n : Nat) : AllDigits (tN n) := fun c hc => by
  obtain ⟨ch, hch, e⟩ := List.mem_map.mp hc
  rw [← e]
  exact PyProof.Rows.digit_range (Nat.isDigit_of_mem_toDigits (by decide) (by decide) hch)
open PySem.NumText in
theorem tN_val (n : Nat) : digitsVal (tN n) = n := PySem.W.KIN.val_back n
theorem tN_small {n : Nat} (h : n < 10) : tN n = [48 + n] := by
  unfold tN
  rw [Nat.toDigits_of_lt_base h]
  have : ∀ d : Nat, d < 10 → (Nat.digitChar d).toNat = 48 + d := by decide
  rw [List.map_cons, this n h]
  rfl
theorem tN_rec {n : Nat} (h : 10 ≤ n) : tN n = tN (n / 10) ++ tN (n % 10) := by
  have hm : n % 10 < 10 := Nat.mod_lt n (by decide)
  have t : Nat.toDigits 10 (n / 10) ++ Nat.toDigits 10 (n % 10) = Nat.toDigits 10 (10 * (n / 10) + n % 10) := Nat.toDigits_append_toDigits (by decide) (by omega) hm
  rw [Nat.div_add_mod] at t
  unfold tN
  rw [← t, List.map_append]
theorem tN_ne (n : Nat) : tN n ≠ [] := by
  by_cases h : n < 10
  · rw [tN_small h]; simp
  · rw [tN_rec (by omega), tN_small (Nat.mod_lt n (by decide))]; simp
theorem tN_len : ∀ (k : Nat) {n : Nat}, n < 10 ^ (k + 1) → (tN n).length ≤ k + 1
  | 0, n, h => by rw [tN_small (by simpa using h)]; simp
  | k + 1, n, h => by
    by_cases h10 : n < 10
    · rw [tN_small h10]; simp
    · rw [tN_rec (by omega), List.length_append, tN_small (Nat.mod_lt n (by decide))]
      have : n / 10 < 10 ^ (k + 1) := by
        rw [Nat.div_lt_iff_lt_mul (by decide), ← Nat.pow_succ]
        exact h
      have := tN_len k this
      simp
      omega
theorem tN_head (n : Nat) : n = 0 ∨ (tN n)[0]? ≠ some 48 := by
  induction n using Nat.strongRecOn with
  | _ n ih =>
    by_cases h : n < 10
    · by_cases h0 : n = 0
      · exact .inl h0
      · right
        rw [tN_small h]
        simp
        omega
    · right
      rw [tN_rec (by omega)]
      have hne := tN_ne (n / 10)
      rw [List.getElem?_append_left (by exact List.length_pos_iff.mpr hne)]
      rcases ih (n / 10) (by omega) with h1 | h1
      · omega
      · exact h1
end L2
set_option maxHeartbeats 4000000
open PySem L2 PyProof.Rows
local macro_rules | `(tactic| walk_at "wp") => `(tactic| simp only [tSeq, tIfS, tTest, tOp, tUn, tVar, tC, tCB, tCons, tNil, tRet, tRetN, tNext, tDrop, tAsg, tAug, ipI, gName, gTup, gCons, gNil, gSub, tTup, tLst, tSl, tNoPart, tPart, tChain, tCall, tBM, tBM0, tPar, tB, tAnd, tOr, tNot, tAndV, tOrV, tNotV, tIf, tYes, tMake, tMeth, tFld, sFld, tRevL, iEnm, iStr, rStarts, rPart, rSplit, rJoin, rSlS, rIxS, rIndexS, tAugS, rGetL, rI0, rI, rU, rIxL, rIxT, rSetL, rSlL, rAppend, rBits, tTry, hEnds, tRaise, hnd_K, pnx_K, rCat, rEq, rNe, rEqL, rEqT, rIn, scal_ii, scal_bb, scal_ss, iList, iTup, iRng1, iRng2, cV, cx_K, in_K, wish_K, E0, L2.start, List.map, List.length, List.replicate, List.cons_append, List.nil_append, List.append_nil, List.getElem?_cons_zero, List.getElem?_cons_succ, List.set_cons_zero, List.set_cons_succ, Option.some.injEq, exists_eq_left', exists_eq_left, exists_and_left, V.int.injEq, V.bl.injEq, V.ref.injEq, V.ty.injEq, List.cons.injEq, reduceCtorEq, false_and, and_false, exists_false, or_false, false_or, and_true, true_and, Nat.reduceSub, Nat.reduceAdd, Nat.reduceLT, if_true, if_false, Bool.false_eq_true])
namespace Pf
open PySem L2 PyProof.Rows
def top (i : Nat) : Stmt := PySem.Challenge.pw_limbtables_k72_standings_written_and_rea.main.body.getD i (.Pass ⟨0, 0, 0, 0⟩)
abbrev s_is_whole : Stmt := top 11
abbrev s_makes_drawing : Stmt := top 19
abbrev s_is_arrow : Stmt := top 20
abbrev s_Drawing_init : Stmt := inClass (top 22) 0
abbrev s_is_table : Stmt := top 24
abbrev s_is_row : Stmt := top 25
abbrev s_noughts : Stmt := top 26
abbrev s_are_sizes : Stmt := top 28
abbrev s_is_table_of : Stmt := top 29
abbrev s_are_tables : Stmt := top 30
abbrev s_Standing_init : Stmt := inClass (top 31) 0
abbrev s_show_whole : Stmt := top 36
abbrev s_show_number : Stmt := top 37
abbrev s_show_table : Stmt := top 38
abbrev s_show_standing : Stmt := top 39
abbrev s_is_written : Stmt := top 40
abbrev s_read_whole : Stmt := top 41
abbrev s_read_top : Stmt := top 42
abbrev s_read_number : Stmt := top 43
abbrev s_read_table : Stmt := top 44
abbrev s_read_standing : Stmt := top 45
abbrev s_common_divisor : Stmt := top 12
abbrev s_is_prime : Stmt := top 48
abbrev s_tells_ground : Stmt := top 49
abbrev s_fraction : Stmt := top 50
abbrev s_inverse : Stmt := top 51
abbrev s_rest_of : Stmt := top 52
abbrev s_is_fraction : Stmt := top 53
abbrev s_Ground_init : Stmt := inClass (top 54) 0
abbrev s_Ground_number : Stmt := inClass (top 54) 1
abbrev s_Ground_is_number : Stmt := inClass (top 54) 6
abbrev s_law_cell : Stmt := top 56
abbrev s_law_bag : Stmt := top 57
abbrev s_law_draw : Stmt := top 58
abbrev s_law_great : Stmt := top 59
abbrev s_law_signed : Stmt := top 60
abbrev s_law_gcd : Stmt := top 61
abbrev s_law_lowest : Stmt := top 62
abbrev s_law_whole : Stmt := top 63
abbrev s_law_prime : Stmt := top 64
abbrev s_law_number : Stmt := top 65
abbrev s_law_int : Stmt := top 66
abbrev s_law_same : Stmt := top 67
abbrev s_law_rows : Stmt := top 68
abbrev s_law_table : Stmt := top 69
abbrev s_law_copy : Stmt := top 70
abbrev s_law_good : Stmt := top 71
abbrev s_law_drawing : Stmt := top 72
abbrev s_law_standing : Stmt := top 73
abbrev s_law_shown : Stmt := top 74
abbrev s_law_table_shown : Stmt := top 75
abbrev s_law_standing_shown : Stmt := top 76
abbrev s_law_is : Stmt := top 77
abbrev s_law : Stmt := top 78
theorem sc_is_whole : FnScope ["thing"] ["thing"] (defScope s_is_whole) := ⟨rfl, rfl, rfl, by decide +kernel, rfl, by decide +kernel, by decide +kernel⟩
theorem sc_makes_drawing : FnScope ["many", "arrows"] ["many", "arrows"] (defScope s_makes_drawing) := ⟨rfl, rfl, rfl, by decide +kernel, rfl, by decide +kernel, by decide +kernel⟩
theorem sc_is_arrow : FnScope ["many", "thing"] ["many", "thing"] (defScope s_is_arrow) := ⟨rfl, rfl, rfl, by decide +kernel, rfl, by decide +kernel, by decide +kernel⟩
theorem sc_Drawing_init : FnScope ["self", "many", "arrows"] ["self", "many", "arrows"] (defScope s_Drawing_init) := ⟨rfl, rfl, rfl, by decide +kernel, rfl, by decide +kernel, by decide +kernel⟩
theorem sc_is_table : FnScope ["ground", "thing", "high", "wide", "rows"] ["ground", "thing"] (defScope s_is_table) := ⟨rfl, rfl, rfl, by decide +kernel, rfl, by decide +kernel, by decide +kernel⟩
theorem sc_is_row : FnScope ["ground", "wide", "thing"] ["ground", "wide", "thing"] (defScope s_is_row) := ⟨rfl, rfl, rfl, by decide +kernel, rfl, by decide +kernel, by decide +kernel⟩
theorem sc_noughts : FnScope ["ground", "high", "wide"] ["ground", "high", "wide"] (defScope s_noughts) := ⟨rfl, rfl, rfl, by decide +kernel, rfl, by decide +kernel, by decide +kernel⟩
theorem sc_are_sizes : FnScope ["drawing", "thing"] ["drawing", "thing"] (defScope s_are_sizes) := ⟨rfl, rfl, rfl, by decide +kernel, rfl, by decide +kernel, by decide +kernel⟩
theorem sc_is_table_of : FnScope ["ground", "high", "wide", "thing"] ["ground", "high", "wide", "thing"] (defScope s_is_table_of) := ⟨rfl, rfl, rfl, by decide +kernel, rfl, by decide +kernel, by decide +kernel⟩
theorem sc_are_tables : FnScope ["ground", "drawing", "sizes", "thing"] ["ground", "drawing", "sizes", "thing"] (defScope s_are_tables) := ⟨rfl, rfl, rfl, by decide +kernel, rfl, by decide +kernel, by decide +kernel⟩
theorem sc_Standing_init : FnScope ["self", "ground", "drawing", "sizes", "tables"] ["self", "ground", "drawing", "sizes", "tables"] (defScope s_Standing_init) := ⟨rfl, rfl, rfl, by decide +kernel, rfl, by decide +kernel, by decide +kernel⟩
theorem sc_show_whole : FnScope ["number", "ends", "end"] ["number"] (defScope s_show_whole) := ⟨rfl, rfl, rfl, by decide +kernel, rfl, by decide +kernel, by decide +kernel⟩
theorem sc_show_number : FnScope ["ground", "number", "top", "bottom"] ["ground", "number"] (defScope s_show_number) := ⟨rfl, rfl, rfl, by decide +kernel, rfl, by decide +kernel, by decide +kernel⟩
theorem sc_show_table : FnScope ["ground", "table", "high", "wide", "rows"] ["ground", "table"] (defScope s_show_table) := ⟨rfl, rfl, rfl, by decide +kernel, rfl, by decide +kernel, by decide +kernel⟩
theorem sc_show_standing : FnScope ["standing", "sizes"] ["standing"] (defScope s_show_standing) := ⟨rfl, rfl, rfl, by decide +kernel, rfl, by decide +kernel, by decide +kernel⟩
theorem sc_is_written : FnScope ["most", "text"] ["most", "text"] (defScope s_is_written) := ⟨rfl, rfl, rfl, by decide +kernel, rfl, by decide +kernel, by decide +kernel⟩
theorem sc_read_whole : FnScope ["text"] ["text"] (defScope s_read_whole) := ⟨rfl, rfl, rfl, by decide +kernel, rfl, by decide +kernel, by decide +kernel⟩
theorem sc_read_top : FnScope ["text", "number"] ["text"] (defScope s_read_top) := ⟨rfl, rfl, rfl, by decide +kernel, rfl, by decide +kernel, by decide +kernel⟩
theorem sc_read_number : FnScope ["ground", "text", "top", "slash", "bottom", "above", "below"] ["ground", "text"] (defScope s_read_number) := ⟨rfl, rfl, rfl, by decide +kernel, rfl, by decide +kernel, by decide +kernel⟩
theorem sc_read_table : FnScope ["ground", "high", "wide", "text", "rows"] ["ground", "high", "wide", "text"] (defScope s_read_table) := ⟨rfl, rfl, rfl, by decide +kernel, rfl, by decide +kernel, by decide +kernel⟩
theorem sc_read_standing : FnScope ["ground", "drawing", "text", "pieces", "sizes", "tables"] ["ground", "drawing", "text"] (defScope s_read_standing) := ⟨rfl, rfl, rfl, by decide +kernel, rfl, by decide +kernel, by decide +kernel⟩
theorem sc_common_divisor : FnScope ["one", "other"] ["one", "other"] (defScope s_common_divisor) := ⟨rfl, rfl, rfl, by decide +kernel, rfl, by decide +kernel, by decide +kernel⟩
theorem sc_is_prime : FnScope ["number"] ["number"] (defScope s_is_prime) := ⟨rfl, rfl, rfl, by decide +kernel, rfl, by decide +kernel, by decide +kernel⟩
theorem sc_tells_ground : FnScope ["thing"] ["thing"] (defScope s_tells_ground) := ⟨rfl, rfl, rfl, by decide +kernel, rfl, by decide +kernel, by decide +kernel⟩
theorem sc_fraction : FnScope ["top", "bottom", "divisor"] ["top", "bottom"] (defScope s_fraction) := ⟨rfl, rfl, rfl, by decide +kernel, rfl, by decide +kernel, by decide +kernel⟩
theorem sc_inverse : FnScope ["rest", "prime", "low", "high", "low_times", "high_times", "many"] ["rest", "prime"] (defScope s_inverse) := ⟨rfl, rfl, rfl, by decide +kernel, rfl, by decide +kernel, by decide +kernel⟩
theorem sc_rest_of : FnScope ["top", "bottom", "prime", "below"] ["top", "bottom", "prime"] (defScope s_rest_of) := ⟨rfl, rfl, rfl, by decide +kernel, rfl, by decide +kernel, by decide +kernel⟩
theorem sc_is_fraction : FnScope ["thing", "top", "bottom"] ["thing"] (defScope s_is_fraction) := ⟨rfl, rfl, rfl, by decide +kernel, rfl, by decide +kernel, by decide +kernel⟩
theorem sc_Ground_init : FnScope ["self", "prime"] ["self", "prime"] (defScope s_Ground_init) := ⟨rfl, rfl, rfl, by decide +kernel, rfl, by decide +kernel, by decide +kernel⟩
theorem sc_Ground_number : FnScope ["self", "top", "bottom"] ["self", "top", "bottom"] (defScope s_Ground_number) := ⟨rfl, rfl, rfl, by decide +kernel, rfl, by decide +kernel, by decide +kernel⟩
theorem sc_Ground_is_number : FnScope ["self", "thing"] ["self", "thing"] (defScope s_Ground_is_number) := ⟨rfl, rfl, rfl, by decide +kernel, rfl, by decide +kernel, by decide +kernel⟩
theorem sc_law_cell : FnScope ["_law_script", "_law_k"] ["_law_script", "_law_k"] (defScope s_law_cell) := ⟨rfl, rfl, rfl, by decide +kernel, rfl, by decide +kernel, by decide +kernel⟩
theorem sc_law_bag : FnScope ["_law_cell_here"] ["_law_cell_here"] (defScope s_law_bag) := ⟨rfl, rfl, rfl, by decide +kernel, rfl, by decide +kernel, by decide +kernel⟩
theorem sc_law_draw : FnScope ["_law_bag_here", "_law_many", "_law_found"] ["_law_bag_here", "_law_many"] (defScope s_law_draw) := ⟨rfl, rfl, rfl, by decide +kernel, rfl, by decide +kernel, by decide +kernel⟩
theorem sc_law_great : FnScope ["_law_bag_here", "_law_number_here", "_law_k"] ["_law_bag_here"] (defScope s_law_great) := ⟨rfl, rfl, rfl, by decide +kernel, rfl, by decide +kernel, by decide +kernel⟩
theorem sc_law_signed : FnScope ["_law_bag_here"] ["_law_bag_here"] (defScope s_law_signed) := ⟨rfl, rfl, rfl, by decide +kernel, rfl, by decide +kernel, by decide +kernel⟩
theorem sc_law_gcd : FnScope ["_law_one", "_law_two", "_law_rest"] ["_law_one", "_law_two"] (defScope s_law_gcd) := ⟨rfl, rfl, rfl, by decide +kernel, rfl, by decide +kernel, by decide +kernel⟩
theorem sc_law_lowest : FnScope ["_law_top", "_law_bottom", "_law_both"] ["_law_top", "_law_bottom"] (defScope s_law_lowest) := ⟨rfl, rfl, rfl, by decide +kernel, rfl, by decide +kernel, by decide +kernel⟩
theorem sc_law_whole : FnScope ["_law_found"] ["_law_found"] (defScope s_law_whole) := ⟨rfl, rfl, rfl, by decide +kernel, rfl, by decide +kernel, by decide +kernel⟩
theorem sc_law_prime : FnScope ["_law_bag_here", "_law_way"] ["_law_bag_here"] (defScope s_law_prime) := ⟨rfl, rfl, rfl, by decide +kernel, rfl, by decide +kernel, by decide +kernel⟩
theorem sc_law_number : FnScope ["_law_bag_here", "_law_p", "_law_way"] ["_law_bag_here", "_law_p"] (defScope s_law_number) := ⟨rfl, rfl, rfl, by decide +kernel, rfl, by decide +kernel, by decide +kernel⟩
theorem sc_law_int : FnScope ["_law_p", "_law_k"] ["_law_p", "_law_k"] (defScope s_law_int) := ⟨rfl, rfl, rfl, by decide +kernel, rfl, by decide +kernel, by decide +kernel⟩
theorem sc_law_same : FnScope ["_law_p", "_law_found", "_law_due"] ["_law_p", "_law_found", "_law_due"] (defScope s_law_same) := ⟨rfl, rfl, rfl, by decide +kernel, rfl, by decide +kernel, by decide +kernel⟩
theorem sc_law_rows : FnScope ["_law_bag_here", "_law_p", "_law_high", "_law_wide", "_law_thin", "_law_rows_here", "_law_i", "_law_row", "_law_j", "_law_number_here"] ["_law_bag_here", "_law_p", "_law_high", "_law_wide"] (defScope s_law_rows) := ⟨rfl, rfl, rfl, by decide +kernel, rfl, by decide +kernel, by decide +kernel⟩
theorem sc_law_table : FnScope ["_law_bag_here", "_law_p", "_law_high", "_law_wide", "_law_rows_here"] ["_law_bag_here", "_law_p", "_law_high", "_law_wide"] (defScope s_law_table) := ⟨rfl, rfl, rfl, by decide +kernel, rfl, by decide +kernel, by decide +kernel⟩
theorem sc_law_copy : FnScope ["_law_table_here"] ["_law_table_here"] (defScope s_law_copy) := ⟨rfl, rfl, rfl, by decide +kernel, rfl, by decide +kernel, by decide +kernel⟩
theorem sc_law_good : FnScope ["_law_p", "_law_found", "_law_due", "_law_row"] ["_law_p", "_law_found", "_law_due"] (defScope s_law_good) := ⟨rfl, rfl, rfl, by decide +kernel, rfl, by decide +kernel, by decide +kernel⟩
theorem sc_law_drawing : FnScope ["_law_bag_here", "_law_many", "_law_way", "_law_pairs", "_law_k", "_law_one", "_law_arrows", "_law_other", "_law_turn"] ["_law_bag_here"] (defScope s_law_drawing) := ⟨rfl, rfl, rfl, by decide +kernel, rfl, by decide +kernel, by decide +kernel⟩
theorem sc_law_standing : FnScope ["_law_bag_here", "_law_p", "_law_many", "_law_arrows", "_law_sizes", "_law_left", "_law_k", "_law_tables"] ["_law_bag_here", "_law_p", "_law_many", "_law_arrows"] (defScope s_law_standing) := ⟨rfl, rfl, rfl, by decide +kernel, rfl, by decide +kernel, by decide +kernel⟩
theorem sc_law_shown : FnScope ["_law_p", "_law_number_here"] ["_law_p", "_law_number_here"] (defScope s_law_shown) := ⟨rfl, rfl, rfl, by decide +kernel, rfl, by decide +kernel, by decide +kernel⟩
theorem sc_law_table_shown : FnScope ["_law_p", "_law_table_here"] ["_law_p", "_law_table_here"] (defScope s_law_table_shown) := ⟨rfl, rfl, rfl, by decide +kernel, rfl, by decide +kernel, by decide +kernel⟩
theorem sc_law_standing_shown : FnScope ["_law_p", "_law_standing_here", "_law_parts"] ["_law_p", "_law_standing_here"] (defScope s_law_standing_shown) := ⟨rfl, rfl, rfl, by decide +kernel, rfl, by decide +kernel, by decide +kernel⟩
theorem sc_law_is : FnScope ["_law_p", "_law_found", "_law_sizes", "_law_tables"] ["_law_p", "_law_found", "_law_sizes", "_law_tables"] (defScope s_law_is) := ⟨rfl, rfl, rfl, by decide +kernel, rfl, by decide +kernel, by decide +kernel⟩
theorem sc_law : FnScope ["_law_script", "_law_cell_here", "_law_bag_here", "_law_p", "_law_many", "_law_arrows", "_law_sizes", "_law_tables", "_law_handed", "_law_ground", "_law_drawing_here", "_law_one", "_law_text", "_law_table_here", "_law_found", "_law_again"] ["_law_script"] (defScope s_law) := ⟨rfl, rfl, rfl, by decide +kernel, rfl, by decide +kernel, by decide +kernel⟩
structure Txt (K : PySem.W.Frag) (mg : Str → Option Value) (C G S : Addr) : Prop where
  cl_Drawing : Cls K C
  nM : NoAttr K C "many"
  nA : NoAttr K C "arrows"
  cl_Ground : Cls K G
  nP : NoAttr K G "prime"
  cl_Standing : Cls K S
  nSg : NoAttr K S "ground"
  nSd : NoAttr K S "drawing"
  nSs : NoAttr K S "sizes"
  nSt : NoAttr K S "tables"
  n_len : mg "len" = none
  n_range : mg "range" = none
  n_list : mg "list" = none
  n_min : mg "min" = none
  n_int : mg "int" = none
  n_bool : mg "bool" = none
  n_tuple : mg "tuple" = none
  n_all : mg "all" = none
  n_isinstance : mg "isinstance" = none
  n_abs : mg "abs" = none
  n_zip : mg "zip" = none
  n_any : mg "any" = none
  n_str : mg "str" = none
  n_sum : mg "sum" = none
  n_max : mg "max" = none
  g_MOST_POINTS : ∃ t, mg "MOST_POINTS" = some (.int 8 t)
  g_MOST_ARROWS : ∃ t, mg "MOST_ARROWS" = some (.int 9 t)
  g_LARGEST_PRIME : ∃ t, mg "LARGEST_PRIME" = some (.int 97 t)
  g_LONG : ∃ t, mg "LONG" = some (.int 4000 t)
  g_MOST_FIGURES : ∃ t, mg "MOST_FIGURES" = some (.int 30 t)
  g_LARGEST_SUM : ∃ t, mg "LARGEST_SUM" = some (.int 40 t)
  g_FIGURES : ∃ t, mg "FIGURES" = some (.str "0123456789" t)
  ic1 : PySem.W.findIn K (.ref S) "__class__" = some (some (.builtin "object.__class__"))
  ic2 : PySem.W.specialIn K (.builtin "object.__class__") "__get__" = some (some (.builtin "getset_descriptor.__get__"))
  ic3 : PySem.W.takesIn K (.builtin "object.__class__") = some true
  ic4 : PySem.W.mroIn K S (.type "object") = some true
  ks : PySem.W.kitOne K (.ref S) (.type "str") = some false
def BagV (a b : Int) : HO := .lst [.int a, .int b]
def Bag (H : Hp) (l : Addr) : Prop := ∃ a b : Int, H l = some (BagV a b) ∧ 0 ≤ b ∧ b < 2147483647
def spCell (K : PySem.W.Frag) : Sp := fun vs H Q _ => ∃ (a : Addr) (ns : List Int) (k : Int), vs = [.ref a, .int k] ∧ SqL K H a (ns.map V.int) ∧ ns.length ≤ 63 ∧ 0 ≤ k ∧ ∀ c, Q (.int c) H
def spBag : Sp := fun vs H Q _ => ∃ c : Int, vs = [.int c] ∧ ∀ (l : Addr) (a b : Int), H l = none → 0 ≤ b → b < 2147483647 → Q (.ref l) (upd H l (BagV a b))
def spDraw : Sp := fun vs H Q _ => ∃ (l : Addr) (a b n : Int), vs = [.ref l, .int n] ∧ H l = some (BagV a b) ∧ 0 ≤ b ∧ b < 2147483647 ∧ 0 < n ∧ n < 1000000000 ∧
  ∀ (r a' b' : Int), 0 ≤ r → r < n → 0 ≤ b' → b' < 2147483647 → Q (.int r) (upd H l (BagV a' b'))
section
variable {P : Program} {w : World} {K : PySem.W.Frag} {mg : Str → Option Value} {base : Heap} {C G S : Addr}
theorem ok_cell {f : Addr} {fd : FuncData} (F : Fun K "_law_cell" "_law_cell" s_law_cell f fd) (T : Txt K mg C G S) : FnOk P w K mg base CX0 1 f fd ["_law_script", "_law_k"] (spCell K) := by
  have nd := sc_law_cell.nd
  refine F.ok sc_law_cell (fun vs H Q E h => ?_) (fun cdv A outer s H vs Q E hr h => ?_)
  · obtain ⟨a, ns, k, rfl, _⟩ := h
    rfl
  · obtain ⟨a, ns, k, rfl, hS, hl, h0, q⟩ := h
    refine ⟨_, (@pss_cons _ _ _ _ _ (@ps_if _ _ _ _ _ _ _ _ (pt_cmpR op_lt (pv 1) (pe_cB call_len_seq rfl T.n_len PySem.boot_len (@pa_c _ _ _ _ _ (pv 0) pa_nil (by rfl))) (nomark _)) (@pss_one _ _ _ (@ps_ret _ _ _ _ (@pe_ix _ _ _ _ _ _ _ ix_list (pv 0) (pv 1) (fun _ _ => rfl)))) pss_nil) (@pss_one _ _ _ (@ps_ret _ _ _ _ pe_int))), ?_⟩
    walk_at "wp"
    refine ⟨_, .inl hS, ite2 (fun hc => ?_) (fun _ => q 0)⟩
    have hc := of_decide_eq_true hc
    rw [List.length_map] at hc
    refine ⟨_, hS, V.int (ns[k.toNat]'(by omega)), atI_at h0 ?_, q _⟩
    rw [List.getElem?_map, List.getElem?_eq_getElem (by omega)]
    rfl
theorem cpow (k : Int) (h0 : 0 ≤ k) (h1 : k ≤ 1000) : CPow 10 k := ⟨h0, by omega, by decide⟩
theorem mod_lo (c n : Int) (h : 0 < n) : 0 ≤ c % n := Int.emod_nonneg _ (by omega)
theorem mod_hi (c n : Int) (h : 0 < n) : c % n < n := Int.emod_lt_of_pos _ h
end
end Pf
set_option maxHeartbeats 4000000
namespace Pf
open PySem L2 PyProof.Rows
section
variable {P : Program} {w : World} {K : PySem.W.Frag} {mg : Str → Option Value} {base : Heap} {C G S : Addr}
def InR (m : Int) (ys : List Int) : Prop := ∀ y ∈ ys, 0 ≤ y ∧ y < m
def spOrder : Sp := fun vs H Q _ => ∃ (l : Addr) (m : Int), vs = [.ref l, .int m] ∧ Bag H l ∧ 0 ≤ m ∧ m ≤ 8 ∧
  ∀ (p : Addr) (ys : List Int) (H' : Hp), Ext l H H' → Bag H' l → H p = none → H' p = some (.lst (ys.map V.int)) → (ys.length : Int) = m → InR m ys → Q (.ref p) H'
theorem Bag.ne {H : Hp} {l p : Addr} (h : Bag H l) (hp : H p = none) : p ≠ l := by
  obtain ⟨a, b, e, _⟩ := h
  exact (ne_of_none e hp).symm
theorem Bag.new {H : Hp} {l p : Addr} {o : HO} (h : Bag H l) (hp : p ≠ l) : Bag (upd H p o) l := by
  obtain ⟨a, b, e, h1, h2⟩ := h
  exact ⟨a, b, by rw [upd_ne hp.symm]; exact e, h1, h2⟩
theorem Bag.set {H : Hp} {l : Addr} {a b : Int} (h1 : 0 ≤ b) (h2 : b < 2147483647) : Bag (upd H l (BagV a b)) l := ⟨a, b, upd_same, h1, h2⟩
end
end Pf
set_option maxHeartbeats 1000000
namespace Pf
open PySem L2 PyProof.Rows
section
variable {P : Program} {w : World} {K : PySem.W.Frag} {mg : Str → Option Value} {base : Heap} {C G S : Addr}
def Edge (H : Hp) (m : Int) (x : V) : Prop := ∃ (t : Addr) (i j : Int), x = .ref t ∧ H t = some (.tup [.int i, .int j]) ∧ 0 ≤ i ∧ i < m ∧ 0 ≤ j ∧ j < m
def Edges (H : Hp) (m : Int) (xs : List V) : Prop := ∀ x ∈ xs, Edge H m x
theorem Edge.same {H H' : Hp} {m : Int} {x : V} (e : Edge H m x) (s : Same H H') : Edge H' m x := by
  obtain ⟨t, i, j, h1, h2, h3⟩ := e
  exact ⟨t, i, j, h1, s _ _ h2, h3⟩
theorem Edges.same {H H' : Hp} {m : Int} {xs : List V} (e : Edges H m xs) (s : Same H H') : Edges H' m xs := fun x hx => (e x hx).same s
theorem Edge.ext {H H' : Hp} {m : Int} {l : Addr} {x : V} {ys : List V} (e : Edge H m x) (s : Ext l H H') (hl : H l = some (.lst ys)) : Edge H' m x := by
  obtain ⟨t, i, j, h1, h2, h3⟩ := e
  exact ⟨t, i, j, h1, s _ _ (ne_of h2 hl (by intro z; cases z)) h2, h3⟩
theorem Edges.ext {H H' : Hp} {m : Int} {l : Addr} {xs ys : List V} (e : Edges H m xs) (s : Ext l H H') (hl : H l = some (.lst ys)) : Edges H' m xs := fun x hx => (e x hx).ext s hl
theorem Edges.nil {H : Hp} {m : Int} : Edges H m [] := fun _ h => nomatch h
theorem Edges.snoc {H : Hp} {m : Int} {xs : List V} {x : V} (e : Edges H m xs) (h : Edge H m x) : Edges H m (xs ++ [x]) := fun y hy => by
  rcases List.mem_append.mp hy with z | z
  · exact e y z
  · rw [List.mem_singleton.mp z]; exact h
theorem Edges.append {H : Hp} {m : Int} {xs ys : List V} (e : Edges H m xs) (h : Edges H m ys) : Edges H m (xs ++ ys) := fun y hy => by
  rcases List.mem_append.mp hy with z | z
  · exact e y z
  · exact h y z
theorem Edges.put {H : Hp} {m : Int} {xs ys : List V} {p : Addr} {o : HO} (e : Edges H m xs) (hp : H p = some (.lst ys)) : Edges (upd H p o) m xs := e.ext (l := p) Ext.set hp
structure Out (l : Addr) (H : Hp) (p e : Addr) (m : Int) (xs : List V) (H' : Hp) : Prop where
  ext : Ext l H H'
  bag : Bag H' l
  tup : H' p = some (.tup [.int m, .ref e])
  lst : H' e = some (.lst xs)
  new : H e = none
  lo : 1 ≤ m
  hi : m ≤ 8
  len : xs.length ≤ 9
  ed : Edges H' m xs
def spOut (K0 : List V → Prop) : Sp := fun vs H Q _ => ∃ (l : Addr) (r : List V), vs = .ref l :: r ∧ K0 r ∧ Bag H l ∧ ∀ p e m xs H', Out l H p e m xs H' → Q (.ref p) H'
def way1 (r : List V) : Prop := ∃ k : Int, r = [.int k]
def way0 (r : List V) : Prop := r = []
theorem Edge.mk {H : Hp} {p : Addr} {i j m : Int} (h1 : 0 ≤ i) (h2 : i < m) (h3 : 0 ≤ j) (h4 : j < m) : Edge (upd H p (.tup [.int i, .int j])) m (.ref p) := ⟨p, i, j, rfl, upd_same, h1, h2, h3, h4⟩
theorem Edges.add {H : Hp} {p : Addr} {i j m : Int} {xs : List V} (e : Edges H m xs) (hp : H p = none) (h1 : 0 ≤ i) (h2 : i < m) (h3 : 0 ≤ j) (h4 : j < m) : Edges (upd H p (.tup [.int i, .int j])) m (xs ++ [.ref p]) :=
  (e.same (Same.new hp)).snoc (Edge.mk h1 h2 h3 h4)
theorem comp_pairs {fr : List (Str × Nat)} {σ : L2.St} {t1 t2 : TE} {lo m : Int} {n : Nat} {D : Addr} {H1 : Hp} {Q : VK} (a b : Nat → Int) (hD : H1 D = none) (hn : n ≤ 9)
    (h1 : ∀ i H Q, i < n → Q (.int (a i)) H → t1 (some (.int (lo + (i : Nat))) :: capOf fr σ) H Q) (h2 : ∀ i H Q, i < n → Q (.int (b i)) H → t2 (some (.int (lo + (i : Nat))) :: capOf fr σ) H Q)
    (hr : ∀ i, i < n → 0 ≤ a i ∧ a i < m ∧ 0 ≤ b i ∧ b i < m) (hQ : ∀ xs H', Same H1 H' → H' D = some (.lst xs) → xs.length = n → Edges H' m xs → Q (.ref D) H') :
    tBlock (gName 0) tYes (tTup (tCons t1 (tCons t2 tNil))) (Itr lo n) D (capS 1 fr σ) H1 Q := by
  refine comp_itr (fun i vs H => Same H1 H ∧ H D = some (.lst vs) ∧ vs.length = i ∧ Edges H m vs) ⟨Same.new hD, upd_same, rfl, Edges.nil⟩ ?_ (fun vs H ⟨s, e, l, d⟩ => hQ vs H s e l d)
  rintro i x vs σ' H hi rfl sh ⟨s, e, hl, d⟩
  obtain ⟨z, rfl⟩ := sh.one
  simp only [tTurn, gName, tYes, List.set_cons_zero, if_true, tTup, tCons, tNil]
  refine h1 i H _ hi (h2 i H _ hi ⟨by show 2 ≤ sizeLine; decide, fun p hp => ?_⟩)
  obtain ⟨r1, r2, r3, r4⟩ := hr i hi
  have nD : D ≠ p := ne_of_none e hp
  have e' : (upd H p (.tup [.int (a i), .int (b i)])) D = some (.lst vs) := by rw [upd_ne nD]; exact e
  exact leaf (ws := vs ++ [.ref p]) hi Sh.mk1 e' (small1000 (by omega)) ⟨(s.trans (Same.new hp)).upd hD, upd_same, by rw [List.length_append, hl]; rfl, (d.add hp r1 r2 r3 r4).put e'⟩
theorem Out.fin {l p t : Addr} {m : Int} {xs : List V} {H H2 : Hp} (ex : Ext l H H2) (b : Bag H2 l) (hp : H2 p = some (.lst xs)) (new : H p = none) (lo : 1 ≤ m) (hi : m ≤ 8) (len : xs.length ≤ 9) (d : Edges H2 m xs) (ht : H2 t = none) :
    Out l H t p m xs (upd H2 t (.tup [.int m, .ref p])) :=
  ⟨ex.trans (Ext.new ht), b.new (b.ne ht), upd_same, by rw [upd_ne (ne_of_none hp ht)]; exact hp, new, lo, hi, len, d.same (Same.new ht)⟩
theorem Bag.draw {H : Hp} {l : Addr} {n : Int} {Q : VK} {E : XK} (b : Bag H l) (h0 : 0 < n) (h1 : n < 1000000000) (q : ∀ (r : Int) (H' : Hp), 0 ≤ r → r < n → Ext l H H' → Bag H' l → Q (.int r) H') : spDraw [.ref l, .int n] H Q E := by
  obtain ⟨x, y, e, y0, y1⟩ := b
  exact ⟨l, x, y, n, rfl, e, y0, y1, h0, h1, fun r a' b' r0 r1 c0 c1 => q r _ r0 r1 Ext.set (Bag.set c0 c1)⟩
theorem Bag.lst {H : Hp} {l : Addr} (b : Bag H l) : ∃ ys, H l = some (.lst ys) := by
  obtain ⟨x, y, e, _⟩ := b
  exact ⟨_, e⟩
theorem Edges.bag {H H' : Hp} {m : Int} {l : Addr} {xs : List V} (e : Edges H m xs) (s : Ext l H H') (b : Bag H l) : Edges H' m xs := by
  obtain ⟨ys, h⟩ := b.lst
  exact e.ext s h
theorem rng_draw {R : It → Hp → Prop} {l : Addr} {σ : L2.St} {H : Hp} {k : Int} (b : Bag H l) (h0 : 0 < k) (h1 : k < 1000000000) (q : ∀ (n : Int) (H3 : Hp), 0 ≤ n → n < k → Ext l H H3 → Bag H3 l → R (Itr 0 n.toNat) H3) :
    iRng1 (tCons (tCall spDraw [] E0 (tCons (tVar 0) (tCons (tC (.int k)) tNil))) tNil) (some (.ref l) :: σ) H R := by
  refine ⟨_, rfl, ?_⟩
  simp only [tCons, tC, tNil, List.append_nil]
  exact b.draw h0 h1 fun n H3 n0 n1 e3 b3 => ⟨n, rfl, by omega, by omega, q n H3 n0 n1 e3 b3⟩
end
end Pf
set_option maxHeartbeats 1000000
namespace Pf
open PySem L2 PyProof.Rows
section
variable {P : Program} {w : World} {K : PySem.W.Frag} {mg : Str → Option Value} {base : Heap} {C G S : Addr}
theorem Bag.same {H H' : Hp} {l : Addr} (b : Bag H l) (s : Same H H') : Bag H' l := by
  obtain ⟨x, y, e, h1, h2⟩ := b
  exact ⟨x, y, s _ _ e, h1, h2⟩
theorem Out.done {l p t : Addr} {m : Int} {xs : List V} {H H2 H5 : Hp} (ex : Ext l H H2) (b : Bag H2 l) (s : Same H2 H5) (hp : H5 p = none) (lo : 1 ≤ m) (hi : m ≤ 8) (len : xs.length ≤ 9) (d : Edges H5 m xs) (ht : (upd H5 p (.lst xs)) t = none) :
    Out l H t p m xs (upd (upd H5 p (.lst xs)) t (.tup [.int m, .ref p])) :=
  have b5 := b.same s
  have e5 : Ext l H H5 := ex.trans s.ext
  Out.fin (e5.trans (Ext.new hp)) (b5.new (b5.ne hp)) upd_same (e5.free (b5.ne hp) hp) lo hi len (d.same (Same.new hp)) ht
theorem Edges.sub {H : Hp} {m : Int} {xs ys : List V} (e : Edges H m xs) (h : ∀ y ∈ ys, y ∈ xs) : Edges H m ys := fun y hy => e y (h y hy)
end
end Pf
set_option maxHeartbeats 1000000
namespace Pf
open PySem L2 PyProof.Rows
section
variable {P : Program} {w : World} {K : PySem.W.Frag} {mg : Str → Option Value} {base : Heap} {C G S : Addr}
end
end Pf
set_option maxHeartbeats 1000000
namespace Pf
open PySem L2 PyProof.Rows
section
variable {P : Program} {w : World} {K : PySem.W.Frag} {mg : Str → Option Value} {base : Heap} {C G S : Addr}
theorem iteP {c A B : Prop} [Decidable c] (hc : c) (h : A) : if c then A else B := by rw [if_pos hc]; exact h
theorem iteN {c A B : Prop} [Decidable c] (hc : ¬ c) (h : B) : if c then A else B := by rw [if_neg hc]; exact h
theorem comp_bl_l {a D : Addr} {xs : List V} {fr : List (Str × Nat)} {σ : L2.St} {te : TE} {H1 : Hp} {Q : VK} (fb : Nat → Bool) (ha : H1 a = some (.lst xs)) (hD : H1 D = none) (hn : xs.length ≤ 1000)
    (h : ∀ (i : Nat) x H (Q : VK), xs[i]? = some x → Same H1 H → (∀ H', Same H H' → Q (.bl (fb i)) H') → te (some x :: capOf fr σ) H Q)
    (hQ : ∀ H', Same H1 H' → H' D = some (.lst (((List.range xs.length).map fb).map V.bl)) → Q (.ref D) H') : tBlock (gName 0) tYes te (Itl K a) D (capS 1 fr σ) H1 Q := by
  refine comp_itl (xs := xs) (fun i vs H => Same H1 H ∧ H D = some (.lst vs) ∧ vs = ((List.range i).map fb).map V.bl) ⟨Same.new hD, upd_same, rfl⟩ (fun i vs H _ p => SqL.of (p.1 _ _ ha)) ?_ (fun vs H ⟨s, e, hv⟩ => hQ H s (by rw [e, hv]))
  rintro i x vs σ' H hi hx sh ⟨s, e, rfl⟩
  obtain ⟨z, rfl⟩ := sh.one
  simp only [tTurn, gName, tYes, List.set_cons_zero, if_true]
  refine h i x H _ hx s fun H' s' => ?_
  exact leaf (ws := ((List.range (i + 1)).map fb).map V.bl) hi Sh.mk1 (s' _ _ e) (small1000 (by rw [List.length_map, List.length_map, List.length_range]; omega)) ⟨(s.trans s').upd hD, by rw [upd_same, List.range_succ, List.map_append, List.map_append]; rfl, rfl⟩
theorem comp_bl_t {a D : Addr} {xs : List V} {fr : List (Str × Nat)} {σ : L2.St} {te : TE} {H1 : Hp} {Q : VK} (fb : Nat → Bool) (ha : H1 a = some (.tup xs)) (hD : H1 D = none) (hn : xs.length ≤ 1000)
    (h : ∀ (i : Nat) x H (Q : VK), xs[i]? = some x → Same H1 H → (∀ H', Same H H' → Q (.bl (fb i)) H') → te (some x :: capOf fr σ) H Q)
    (hQ : ∀ H', Same H1 H' → H' D = some (.lst (((List.range xs.length).map fb).map V.bl)) → Q (.ref D) H') : tBlock (gName 0) tYes te (Itt K a) D (capS 1 fr σ) H1 Q := by
  refine comp_itt (xs := xs) (fun i vs H => Same H1 H ∧ H D = some (.lst vs) ∧ vs = ((List.range i).map fb).map V.bl) ⟨Same.new hD, upd_same, rfl⟩ (fun i vs H _ p => SqT.of (p.1 _ _ ha)) ?_ (fun vs H ⟨s, e, hv⟩ => hQ H s (by rw [e, hv]))
  rintro i x vs σ' H hi hx sh ⟨s, e, rfl⟩
  obtain ⟨z, rfl⟩ := sh.one
  simp only [tTurn, gName, tYes, List.set_cons_zero, if_true]
  refine h i x H _ hx s fun H' s' => ?_
  exact leaf (ws := ((List.range (i + 1)).map fb).map V.bl) hi Sh.mk1 (s' _ _ e) (small1000 (by rw [List.length_map, List.length_map, List.length_range]; omega)) ⟨(s.trans s').upd hD, by rw [upd_same, List.range_succ, List.map_append, List.map_append]; rfl, rfl⟩
theorem all_true (n : Nat) : ((List.range n).map fun _ => true).all id = true := by
  rw [List.all_eq_true]
  intro b hb
  obtain ⟨_, _, rfl⟩ := List.mem_map.mp hb
  rfl
def spWhole : Sp := fun vs H Q _ => ∃ i : Int, vs = [.int i] ∧ Q (.bl true) H
theorem ok_whole {f : Addr} {fd : FuncData} (F : Fun K "is_whole" "is_whole" s_is_whole f fd) (T : Txt K mg C G S) : FnOk P w K mg base CX0 1 f fd ["thing"] spWhole := by
  have nd := sc_is_whole.nd
  refine F.ok sc_is_whole (fun vs H Q E h => ?_) (fun cdv A outer s H vs Q E hr h => ?_)
  · obtain ⟨i, rfl, _⟩ := h
    rfl
  · obtain ⟨i, rfl, q⟩ := h
    refine ⟨_, (@pss_one _ _ _ (@ps_ret _ _ _ _ (pe_and (pe_cB call_isinst rfl T.n_isinstance boot_isinstance (@pa_c _ _ _ _ _ (pv 0) (@pa_c _ _ _ _ _ (pe_ty rfl T.n_int boot_int) pa_nil (by rfl)) (by rfl))) (pe_one (pe_not (pe_cB call_isinst rfl T.n_isinstance boot_isinstance (@pa_c _ _ _ _ _ (pv 0) (@pa_c _ _ _ _ _ (pe_ty rfl T.n_bool boot_bool) pa_nil (by rfl)) (by rfl)))))))), ?_⟩
    walk_at "wp"
    exact ⟨_, _, ⟨rfl, rfl⟩, _, rfl, _, .int i, _, k_int_int K, iteT ⟨_, _, ⟨rfl, rfl⟩, _, rfl, _, .int i, _, k_int_bool K, q⟩⟩
def spArrow : Sp := fun vs H Q _ => ∃ (m : Int) (x : V), vs = [.int m, x] ∧ Edge H m x ∧ ∀ H', Same H H' → Q (.bl true) H'
theorem ok_arrow {f : Addr} {fd : FuncData} (F : Fun K "is_arrow" "is_arrow" s_is_arrow f fd) (T : Txt K mg C G S) (C_is_whole : Cal P w K mg base "is_whole" 1 spWhole) : FnOk P w K mg base CX0 2 f fd ["many", "thing"] spArrow := by
  have nd := sc_is_arrow.nd
  refine F.ok sc_is_arrow (fun vs H Q E h => ?_) (fun cdv A outer s H vs Q E hr h => ?_)
  · obtain ⟨m, x, rfl, _⟩ := h
    rfl
  · obtain ⟨m, x, rfl, ⟨t, i, j, rfl, ht, i0, i1, j0, j1⟩, q⟩ := h
    refine ⟨_, (@pss_cons _ _ _ _ _ (@ps_if _ _ _ _ _ _ _ _ (PW.pt (pw_or (pt_not (pt_val (pe_cB call_isinst rfl T.n_isinstance boot_isinstance (@pa_c _ _ _ _ _ (pv 1) (@pa_c _ _ _ _ _ (pe_ty rfl T.n_tuple boot_tuple) pa_nil (by rfl)) (by rfl))))) (pw_or1 (pt_cmpR op_ne (pe_cB call_len_seq rfl T.n_len PySem.boot_len (@pa_c _ _ _ _ _ (pv 1) pa_nil (by rfl))) pe_int (nomark _))))) (@pss_one _ _ _ (@ps_ret _ _ _ _ pe_bl)) pss_nil) (@pss_one _ _ _ (@ps_ret _ _ _ _ (pe_cB (call_all rfl) rfl T.n_all boot_all (@pa_c _ _ _ _ _ (pe_comp (own := ["end"]) (fr := [("many", 0)]) rfl (bl_of (by kernel_rfl)) (pi_tup (pv 1)) (fun _ _ _ _ => ⟨(@pg_name _ _ 0 _ (show (["end", "many"] : List Str).Nodup by decide +kernel) rfl (Or.inl rfl) (Or.inr rfl)), pts_nil, (pe_and (pe_c C_is_whole (hr.mono (by decide)) rfl (@pa_c _ _ _ _ _ (pv 0) pa_nil (by rfl))) (pe_one (pe_chain op_le op_lt pe_int (pv 0) (pv 1))))⟩)) pa_nil (by rfl)))))), ?_⟩
    walk_at "wp"
    refine ⟨_, _, ⟨rfl, rfl⟩, _, rfl, _, .tup ht, _, k_tup_tup K, iteF ⟨_, .inr (SqT.of ht), iteF ?_⟩⟩
    refine ⟨_, rfl, t, rfl, ⟨_, SqT.of ht⟩, fun D hD => comp_bl_t (fun _ => true) ht hD (by show 2 ≤ 1000; decide) (fun k x H' Q' hx s' q' => ?_) fun H' s' e' => ⟨D, rfl, _, SqL.of e', ?_⟩⟩
    · have hx' : ∃ z : Int, x = .int z ∧ 0 ≤ z ∧ z < m := by
        match k, hx with
        | 0, hx => exact ⟨i, (Option.some.inj hx).symm, i0, i1⟩
        | 1, hx => exact ⟨j, (Option.some.inj hx).symm, j0, j1⟩
        | k + 2, hx => cases hx
      obtain ⟨z, rfl, z0, z1⟩ := hx'
      refine ⟨_, rfl, ⟨z, rfl, true, rfl, iteT ⟨_, rfl, _, _, rfl, rfl, _, rfl, ?_⟩⟩⟩
      refine iteP (decide_eq_true z0) ⟨_, rfl, _, _, rfl, rfl, ?_⟩
      show Q' (V.bl (decide (z < m))) H'
      rw [decide_eq_true z1]
      exact q' H' (Same.refl _)
    · rw [all_true]
      exact q H' s'
def spMakes : Sp := fun vs H Q _ => ∃ (m : Int) (a : Addr) (xs : List V), vs = [.int m, .ref a] ∧ 1 ≤ m ∧ m ≤ 8 ∧ H a = some (.lst xs) ∧ xs.length ≤ 9 ∧ Edges H m xs ∧ ∀ H', Same H H' → Q (.bl true) H'
theorem ok_makes {f : Addr} {fd : FuncData} (F : Fun K "makes_drawing" "makes_drawing" s_makes_drawing f fd) (T : Txt K mg C G S) (C_is_whole : Cal P w K mg base "is_whole" 1 spWhole) (C_is_arrow : Cal P w K mg base "is_arrow" 2 spArrow) : FnOk P w K mg base CX0 3 f fd ["many", "arrows"] spMakes := by
  have nd := sc_makes_drawing.nd
  refine F.ok sc_makes_drawing (fun vs H Q E h => ?_) (fun cdv A outer s H vs Q E hr h => ?_)
  · obtain ⟨m, a, xs, rfl, _⟩ := h
    rfl
  · obtain ⟨m, a, xs, rfl, m0, m8, ha, hl, d, q⟩ := h
    refine ⟨_, (@pss_cons _ _ _ _ _ (@ps_if _ _ _ _ _ _ _ _ (PW.pt (pw_or (pt_not (pt_val (pe_c C_is_whole (hr.mono (by decide)) rfl (@pa_c _ _ _ _ _ (pv 0) pa_nil (by rfl))))) (pw_or1 (pt_not (pt_chain op_le op_le pe_int (pv 0) (pe_globI rfl T.g_MOST_POINTS)))))) (@pss_one _ _ _ (@ps_ret _ _ _ _ pe_bl)) pss_nil) (@pss_cons _ _ _ _ _ (@ps_if _ _ _ _ _ _ _ _ (PW.pt (pw_or (pt_not (pt_val (pe_cB call_isinst rfl T.n_isinstance boot_isinstance (@pa_c _ _ _ _ _ (pv 1) (@pa_c _ _ _ _ _ (pe_ty rfl T.n_list boot_list) pa_nil (by rfl)) (by rfl))))) (pw_or1 (pt_cmpR op_gt (pe_cB call_len_seq rfl T.n_len PySem.boot_len (@pa_c _ _ _ _ _ (pv 1) pa_nil (by rfl))) (pe_globI rfl T.g_MOST_ARROWS) (nomark _))))) (@pss_one _ _ _ (@ps_ret _ _ _ _ pe_bl)) pss_nil) (@pss_one _ _ _ (@ps_ret _ _ _ _ (pe_cB (call_all rfl) rfl T.n_all boot_all (@pa_c _ _ _ _ _ (pe_comp (own := ["arrow"]) (fr := [("many", 0)]) rfl (bl_of (by kernel_rfl)) (pi_list (pv 1)) (fun _ _ _ _ => ⟨(@pg_name _ _ 0 _ (show (["arrow", "many"] : List Str).Nodup by decide +kernel) rfl (Or.inl rfl) (Or.inr rfl)), pts_nil, (pe_c C_is_arrow (hr.mono (by decide)) rfl (@pa_c _ _ _ _ _ (pv 1) (@pa_c _ _ _ _ _ (pv 0) pa_nil (by rfl)) (by rfl)))⟩)) pa_nil (by rfl))))))), ?_⟩
    walk_at "wp"
    refine ⟨m, rfl, true, rfl, iteF (iteP (decide_eq_true m0) (iteN (by rw [decide_eq_true m8]; decide) ⟨_, _, ⟨rfl, rfl⟩, _, rfl, _, .lst ha, _, k_list_list K, iteF ⟨_, .inl (SqL.of ha), iteN (by rw [decide_eq_false (by omega)]; decide) ?_⟩⟩))⟩
    refine ⟨_, rfl, a, rfl, ⟨_, SqL.of ha⟩, fun D hD => comp_bl_l (fun _ => true) ha hD (by omega) (fun k x H' Q' hx s' q' => ?_) fun H' s' e' => ⟨D, rfl, _, SqL.of e', ?_⟩⟩
    · exact ⟨_, rfl, _, rfl, m, x, rfl, (d x (List.mem_of_getElem? hx)).same s', q'⟩
    · rw [all_true]
      exact q H' s'
end
end Pf
set_option maxHeartbeats 1000000
namespace Pf
open PySem L2 PyProof.Rows
section
variable {P : Program} {w : World} {K : PySem.W.Frag} {mg : Str → Option Value} {base : Heap} {C G S : Addr}
def flds (m : Int) (lp : Addr) : List (Str × V) := putF "arrows" (.ref lp) (putF "many" (.int m) [])
theorem flds_arrows (m : Int) (lp : Addr) : (flds m lp).lookup ("arrows" : Str) = some (.ref lp) := by
  unfold flds
  rw [lookup_putF, if_pos rfl]
theorem flds_many (m : Int) (lp : Addr) : (flds m lp).lookup ("many" : Str) = some (.int m) := by
  unfold flds
  rw [lookup_putF, if_neg (by decide +kernel), lookup_putF, if_pos rfl]
theorem flds_len (m : Int) : (putF "many" (.int m) ([] : List (Str × V))).length < 1000 := by
  have := length_putF "many" (.int m) []
  simp at this
  omega
def spInit (C : Addr) : Sp := fun vs H Q _ => ∃ (p dx : Addr) (m : Int) (a : Addr) (xs : List V), vs = [.ref p, .int m, .ref a] ∧ H p = some (.ins C dx []) ∧ 1 ≤ m ∧ m ≤ 8 ∧ H a = some (.lst xs) ∧ xs.length ≤ 9 ∧ Edges H m xs ∧
  ∀ (lp : Addr) (H' : Hp), Ext p H H' → H' p = some (.ins C dx (flds m lp)) → H lp = none → H' lp = some (.lst xs) → Q .non H'
theorem ok_init {f : Addr} {fd : FuncData} (F : Fun K "__init__" "Drawing.__init__" s_Drawing_init f fd) (T : Txt K mg C G S) (C_makes_drawing : Cal P w K mg base "makes_drawing" 3 spMakes) : FnOk P w K mg base CX0 4 f fd ["self", "many", "arrows"] (spInit C) := by
  have nd := sc_Drawing_init.nd
  refine F.ok sc_Drawing_init (fun vs H Q E h => ?_) (fun cdv A outer s H vs Q E hr h => ?_)
  · obtain ⟨p, dx, m, a, xs, rfl, _⟩ := h
    rfl
  · obtain ⟨p, dx, m, a, xs, rfl, hp, m0, m8, ha, hl, d, q⟩ := h
    refine ⟨_, (@pss_cons _ _ _ _ _ (@ps_if _ _ _ _ _ _ _ _ (pt_not (pt_val (pe_c C_makes_drawing (hr.mono (by decide)) rfl (@pa_c _ _ _ _ _ (pv 1) (@pa_c _ _ _ _ _ (pv 2) pa_nil (by rfl)) (by rfl))))) (@pss_one _ _ _ ps_never) pss_nil) (@pss_cons _ _ _ _ _ (ps_fld (pv 0) (pv 1) rfl) (@pss_one _ _ _ (ps_fld (pv 0) (pe_cT call_list_of rfl T.n_list boot_list (@pa_c _ _ _ _ _ (pv 2) pa_nil (by rfl))) rfl)))), ?_⟩
    walk_at "wp"
    refine ⟨m, a, xs, rfl, m0, m8, ha, hl, d, fun H1 s1 => ⟨true, rfl, iteF ?_⟩⟩
    have nap : a ≠ p := ne_of ha hp (by intro z; cases z)
    refine ⟨C, dx, [], s1 _ _ hp, T.cl_Drawing, T.nM, by show 0 < 1000; decide, xs, .inl (SqL.of (by rw [upd_ne nap]; exact s1 _ _ ha)), fun l hl0 => ?_⟩
    have npl : p ≠ l := ne_of_none upd_same hl0
    refine ⟨C, dx, _, by rw [upd_ne npl]; exact upd_same, T.cl_Drawing, T.nA, flds_len m, ?_⟩
    have fl : H l = none := by
      rw [upd_ne npl.symm] at hl0
      exact s1.free hl0
    refine q l _ (fun b o nb e => ?_) upd_same fl (by rw [upd_ne npl.symm]; exact upd_same)
    rw [upd_ne nb, upd_ne (ne_of_none e fl), upd_ne nb]
    exact s1 _ _ e
def Prs (H : Hp) (xs : List V) (ps : List (Int × Int)) : Prop := xs.length = ps.length ∧ ∀ (i : Nat) (x : V) (q : Int × Int), xs[i]? = some x → ps[i]? = some q → ∃ t, x = .ref t ∧ H t = some (.tup [.int q.1, .int q.2])
theorem Prs.same {H H' : Hp} {xs : List V} {ps : List (Int × Int)} (h : Prs H xs ps) (s : Same H H') : Prs H' xs ps := ⟨h.1, fun i x q h1 h2 => let ⟨t, e1, e2⟩ := h.2 i x q h1 h2; ⟨t, e1, s _ _ e2⟩⟩
def DrawAt (C : Addr) (H : Hp) (p : Addr) (m : Int) (lp : Addr) (xs : List V) : Prop := ∃ dx, H p = some (.ins C dx (flds m lp)) ∧ H lp = some (.lst xs)
end
end Pf
set_option maxHeartbeats 1000000
namespace Pf
open PySem L2 PyProof.Rows
section
variable {P : Program} {w : World} {K : PySem.W.Frag} {mg : Str → Option Value} {base : Heap} {C G S : Addr}
def InP (m : Int) (ps : List (Int × Int)) : Prop := ∀ q ∈ ps, 0 ≤ q.1 ∧ q.1 < m ∧ 0 ≤ q.2 ∧ q.2 < m
theorem Prs.nil {H : Hp} : Prs H [] [] := ⟨rfl, fun i x q h => by simp at h⟩
theorem Prs.put {H : Hp} {D : Addr} {l : List V} {o : HO} {xs : List V} {ps : List (Int × Int)} (h : Prs H xs ps) (hD : H D = some (.lst l)) : Prs (upd H D o) xs ps :=
  ⟨h.1, fun i x q h1 h2 => let ⟨t, e1, e2⟩ := h.2 i x q h1 h2; ⟨t, e1, by rw [upd_ne (ne_of e2 hD (by intro z; cases z))]; exact e2⟩⟩
theorem Prs.add {H : Hp} {xs : List V} {ps : List (Int × Int)} {t : Addr} {q : Int × Int} (h : Prs H xs ps) (ht : H t = some (.tup [.int q.1, .int q.2])) : Prs H (xs ++ [.ref t]) (ps ++ [q]) := by
  refine ⟨by simp [h.1], fun i x r h1 h2 => ?_⟩
  by_cases hi : i < xs.length
  · rw [List.getElem?_append_left hi] at h1
    rw [List.getElem?_append_left (by rw [← h.1]; exact hi)] at h2
    exact h.2 i x r h1 h2
  · rw [List.getElem?_append_right (by omega)] at h1
    rw [List.getElem?_append_right (by rw [← h.1]; omega)] at h2
    have hl := h.1
    by_cases h0 : i - xs.length = 0
    · rw [h0] at h1
      rw [← hl, h0] at h2
      simp at h1 h2
      exact ⟨t, h1.symm, by rw [← h2]; exact ht⟩
    · rw [List.getElem?_eq_none (by simp; omega)] at h1
      cases h1
theorem prs_of' {H : Hp} {m : Int} : ∀ {xs : List V}, Edges H m xs → ∃ ps, Prs H xs ps ∧ InP m ps
  | [], _ => ⟨[], Prs.nil, fun q h => by simp at h⟩
  | x :: xs, d => by
    obtain ⟨ps, ⟨h1, h2⟩, h3⟩ := prs_of' (xs := xs) fun y hy => d y (List.mem_cons_of_mem _ hy)
    obtain ⟨t, i, j, rfl, ht, hb⟩ := d x List.mem_cons_self
    refine ⟨(i, j) :: ps, ⟨by simp [h1], fun k y q e1 e2 => ?_⟩, fun q hq => ?_⟩
    · cases k with
      | zero =>
        simp at e1 e2
        subst e1 e2
        exact ⟨t, rfl, ht⟩
      | succ k => exact h2 k y q (by simpa using e1) (by simpa using e2)
    · rcases List.mem_cons.mp hq with rfl | hq
      · exact hb
      · exact h3 q hq
theorem edges_of {H : Hp} {m : Int} {xs : List V} {ps : List (Int × Int)} (h : Prs H xs ps) (r : InP m ps) : Edges H m xs := by
  intro x hx
  obtain ⟨i, hi, rfl⟩ := List.mem_iff_getElem.mp hx
  have hl := h.1
  have hq : ps[i]? = some (ps[i]'(by omega)) := List.getElem?_eq_getElem _
  obtain ⟨t, e1, e2⟩ := h.2 i _ _ (List.getElem?_eq_getElem hi) hq
  exact ⟨t, _, _, e1, e2, r _ (List.mem_of_getElem? hq)⟩
def Drw (C : Addr) (H : Hp) (p : Addr) (m : Int) (ps : List (Int × Int)) : Prop := ∃ lp xs, DrawAt C H p m lp xs ∧ xs.length ≤ 9 ∧ Prs H xs ps
theorem Drw.same {H H' : Hp} {p : Addr} {m : Int} {ps : List (Int × Int)} (h : Drw C H p m ps) (s : Same H H') : Drw C H' p m ps := by
  obtain ⟨lp, xs, ⟨dx, h1, h2⟩, h3, h4⟩ := h
  exact ⟨lp, xs, ⟨dx, s _ _ h1, s _ _ h2⟩, h3, h4.same s⟩
theorem room8 {k : Nat} {A : Around} (hr : Room k A) : A.units + 8 < cLine := by have := hr.units; omega
theorem prs_eq {H : Hp} {xs ys : List V} {ps : List (Int × Int)} (h : Prs H xs ps) (h' : Prs H ys ps) : ItemsEq K H 6 xs ys (List.replicate xs.length true) := by
  refine ⟨h.1.trans h'.1.symm, List.length_replicate, fun n y z b h1 h2 h3 => ?_⟩
  have hn : n < xs.length := (List.getElem?_eq_some_iff.mp h1).1
  rw [List.getElem?_replicate, if_pos hn] at h3
  cases h3
  have hl := h.1
  have hq : ps[n]? = some (ps[n]'(by omega)) := List.getElem?_eq_getElem _
  obtain ⟨t, rfl, ht⟩ := h.2 n y _ h1 hq
  obtain ⟨u, rfl, hu⟩ := h'.2 n z _ h2 hq
  by_cases e : t = u
  · subst e
    exact .same
  · refine .tuple (bs := [true, true]) e (SqT.of ht) (SqT.of hu) rfl rfl fun j x y b e1 e2 e3 => ?_
    match j, e1, e2, e3 with
    | 0, e1, e2, e3 =>
      cases e1; cases e2; cases e3
      have := EqD.flat (K := K) (H := H) (n := 5) (x := .int (ps[n]'(by omega)).1) (y := .int (ps[n]'(by omega)).1) rfl rfl
      rw [show eqV (.int (ps[n]'(by omega)).1) (.int (ps[n]'(by omega)).1) = true from by simp [eqV]] at this
      exact this
    | 1, e1, e2, e3 =>
      cases e1; cases e2; cases e3
      have := EqD.flat (K := K) (H := H) (n := 5) (x := .int (ps[n]'(by omega)).2) (y := .int (ps[n]'(by omega)).2) rfl rfl
      rw [show eqV (.int (ps[n]'(by omega)).2) (.int (ps[n]'(by omega)).2) = true from by simp [eqV]] at this
      exact this
    | j + 2, e1, _, _ => cases e1
theorem Same.thru {l : Addr} {H H1 H2 : Hp} (s : Same H H1) (h : H l = none) (e : Ext l H1 H2) : Same H H2 := fun b o eb => e b o (ne_of_none eb h) (s b o eb)
end
end Pf
set_option maxHeartbeats 1000000
namespace Pf
open PySem L2 PyProof.Rows
section
variable {P : Program} {w : World} {K : PySem.W.Frag} {mg : Str → Option Value} {base : Heap} {C G S : Addr}
theorem comp_bl_r {lo : Int} {n : Nat} {D : Addr} {fr : List (Str × Nat)} {σ : L2.St} {te : TE} {H1 : Hp} {Q : VK} (fb : Nat → Bool) (hD : H1 D = none) (hn : n ≤ 1000)
    (h : ∀ (i : Nat) H (Q : VK), i < n → Same H1 H → (∀ H', Same H H' → Q (.bl (fb i)) H') → te (some (.int (lo + (i : Nat))) :: capOf fr σ) H Q)
    (hQ : ∀ H', Same H1 H' → H' D = some (.lst (((List.range n).map fb).map V.bl)) → Q (.ref D) H') : tBlock (gName 0) tYes te (Itr lo n) D (capS 1 fr σ) H1 Q := by
  refine comp_itr (fun i vs H => Same H1 H ∧ H D = some (.lst vs) ∧ vs = ((List.range i).map fb).map V.bl) ⟨Same.new hD, upd_same, rfl⟩ ?_ (fun vs H ⟨s, e, hv⟩ => hQ H s (by rw [e, hv]))
  rintro i x vs σ' H hi rfl sh ⟨s, e, rfl⟩
  obtain ⟨z, rfl⟩ := sh.one
  simp only [tTurn, gName, tYes, List.set_cons_zero, if_true]
  refine h i H _ hi s fun H' s' => ?_
  exact leaf (ws := ((List.range (i + 1)).map fb).map V.bl) hi Sh.mk1 (s' _ _ e) (small1000 (by rw [List.length_map, List.length_map, List.length_range]; omega)) ⟨(s.trans s').upd hD, by rw [upd_same, List.range_succ, List.map_append, List.map_append]; rfl, rfl⟩
def Top (a : Int) : Prop := a.natAbs < 2 ^ 4000
theorem Top.of {a : Int} (h : a.natAbs ≤ 100000000000000000000000000000000000000000000000000000000000000000000000000000000) : Top a := Nat.lt_of_le_of_lt h (by decide +kernel)
def spCd : Sp := fun vs H Q _ => ∃ a b : Int, vs = [.int a, .int b] ∧ Top a ∧ 0 ≤ b ∧ Q (.int (Int.gcd a b : Int)) H
theorem ok_cd {f : Addr} {fd : FuncData} (F : Fun K "common_divisor" "common_divisor" s_common_divisor f fd) (T : Txt K mg C G S) : FnOk P w K mg base CX0 1 f fd ["one", "other"] spCd := by
  have nd := sc_common_divisor.nd
  refine F.ok sc_common_divisor (fun vs H Q E h => ?_) (fun cdv A outer s H vs Q E hr h => ?_)
  · obtain ⟨a, b, rfl, _⟩ := h
    rfl
  · obtain ⟨a, b, rfl, ht, hb, q⟩ := h
    refine ⟨_, (@pss_cons _ _ _ _ _ (@ps_if _ _ _ _ _ _ _ _ (pt_cmpR op_gt (pe_bm0 PySem.F.plainAttrs_int PySem.F.slot_int_bit_length PySem.F.type_int_bit_length mt_bits (pv 0)) (pe_globI rfl T.g_LONG) (nomark _)) (@pss_one _ _ _ ps_never) pss_nil) (@pss_cons _ _ _ _ _ (ps_while PassesOwn.never (pt_cmpR op_ne (pv 1) pe_int (nomark _)) (@pss_one _ _ _ (ps_par (i := 0) (j := 1) rfl nd rfl rfl (by decide) rfl rfl (@pa_c _ _ _ _ _ (pv 1) (@pa_c _ _ _ _ _ (@pe_op _ _ _ _ _ _ _ _ op_mod (pv 0) (pv 1)) pa_nil (by rfl)) (by rfl)) rfl))) (@pss_one _ _ _ (@ps_ret _ _ _ _ (pe_cB call_abs rfl T.n_abs boot_abs (@pa_c _ _ _ _ _ (pv 0) pa_nil (by rfl))))))), ?_⟩
    have hbits := bits_le ht
    walk_at "wp"
    refine ⟨rfl, iteN (by rw [decide_eq_false (by omega)]; decide) ?_⟩
    refine ⟨fun n σ H2 => ∃ x y : Int, σ = [some (.int x), some (.int y)] ∧ H2 = H ∧ 0 ≤ y ∧ n = y.toNat ∧ Int.gcd x y = Int.gcd a b, ⟨_, a, b, rfl, rfl, hb, rfl, rfl⟩, ?_⟩
    rintro n σ H2 ⟨x, y, rfl, rfl, hy, rfl, hg⟩
    walk_at "wp"
    refine ite2 (fun hc => ?_) (fun hc => ?_)
    · have hy0 : ¬ y = 0 := by simpa using hc
      have y1 : 0 < y := by omega
      have l1 := Int.emod_nonneg x (show y ≠ 0 by omega)
      have l2 := Int.emod_lt_of_pos x y1
      exact ⟨_, fun _ _ h => h, y1, _, _, ⟨rfl, rfl⟩, (x % y).toNat, by omega, y, x % y, rfl, rfl, l1, rfl, by rw [gcd_step]; exact hg⟩
    · have hy0 : y = 0 := by simpa using hc
      subst hy0
      have e : (if x < 0 then -x else x) = (Int.gcd a b : Int) := by
        rw [← hg, Int.gcd_zero]
        split <;> omega
      rw [e]
      exact q
def PrimeP (p : Int) : Prop := 1 < p ∧ p ≤ 97 ∧ ∀ d : Int, 2 ≤ d → d < p → p % d ≠ 0
def spPrime : Sp := fun vs H Q _ => ∃ p : Int, vs = [.int p] ∧ PrimeP p ∧ ∀ H', Same H H' → Q (.bl true) H'
theorem ok_prime {f : Addr} {fd : FuncData} (F : Fun K "is_prime" "is_prime" s_is_prime f fd) (T : Txt K mg C G S) : FnOk P w K mg base CX0 1 f fd ["number"] spPrime := by
  have nd := sc_is_prime.nd
  refine F.ok sc_is_prime (fun vs H Q E h => ?_) (fun cdv A outer s H vs Q E hr h => ?_)
  · obtain ⟨p, rfl, _⟩ := h
    rfl
  · obtain ⟨p, rfl, ⟨p1, p2, p3⟩, q⟩ := h
    refine ⟨_, (@pss_one _ _ _ (@ps_ret _ _ _ _ (pe_and (pe_cmpR op_gt (pv 0) pe_int (nomark _)) (pe_one (pe_cB (call_all rfl) rfl T.n_all boot_all (@pa_c _ _ _ _ _ (pe_comp (own := ["divisor"]) (fr := [("number", 0)]) rfl (bl_of (by kernel_rfl)) (pi_r2 rfl T.n_range (@pa_c _ _ _ _ _ pe_int (@pa_c _ _ _ _ _ (pv 0) pa_nil (by rfl)) (by rfl))) (fun _ _ _ _ => ⟨(@pg_name _ _ 0 _ (show (["divisor", "number"] : List Str).Nodup by decide +kernel) rfl (Or.inl rfl) (Or.inr rfl)), pts_nil, (pe_cmpR op_ne (@pe_op _ _ _ _ _ _ _ _ op_mod (pv 1) (pv 0)) pe_int (nomark _))⟩)) pa_nil (by rfl))))))), ?_⟩
    walk_at "wp"
    refine iteP (decide_eq_true p1) ⟨_, rfl, 2, p, rfl, ⟨by decide, by decide, by omega, by omega⟩, fun D hD => comp_bl_r (fun _ => true) hD (by omega) (fun i H' Q' hi s' q' => ?_) fun H' s' e' => ⟨D, rfl, _, SqL.of e', ?_⟩⟩
    · have h0 : (0 : Int) < 2 + (i : Int) := by omega
      have hne := p3 (2 + (i : Int)) (by omega) (by omega)
      refine ⟨_, rfl, _, rfl, _, _, rfl, rfl, h0, rfl, ?_⟩
      have : (!decide (V.int (p % (2 + (i : Int))) = V.int 0)) = true := by simp only [V.int.injEq, decide_eq_false hne]; rfl
      rw [this]
      exact q' H' (Same.refl _)
    · rw [all_true]
      exact q H' s'
def GroundP (p : Int) : Prop := p = 0 ∨ PrimeP p
def spTells : Sp := fun vs H Q _ => ∃ p : Int, vs = [.int p] ∧ GroundP p ∧ ∀ H', Same H H' → Q (.bl true) H'
theorem ok_tells {f : Addr} {fd : FuncData} (F : Fun K "tells_ground" "tells_ground" s_tells_ground f fd) (T : Txt K mg C G S) (C_is_whole : Cal P w K mg base "is_whole" 1 spWhole) (C_is_prime : Cal P w K mg base "is_prime" 1 spPrime) : FnOk P w K mg base CX0 2 f fd ["thing"] spTells := by
  have nd := sc_tells_ground.nd
  refine F.ok sc_tells_ground (fun vs H Q E h => ?_) (fun cdv A outer s H vs Q E hr h => ?_)
  · obtain ⟨p, rfl, _⟩ := h
    rfl
  · obtain ⟨p, rfl, hp, q⟩ := h
    have p0 : 0 ≤ p := by rcases hp with rfl | ⟨h, _⟩ <;> omega
    have p97 : p ≤ 97 := by rcases hp with rfl | ⟨_, h, _⟩ <;> omega
    refine ⟨_, (@pss_cons _ _ _ _ _ (@ps_if _ _ _ _ _ _ _ _ (PW.pt (pw_or (pt_not (pt_val (pe_c C_is_whole (hr.mono (by decide)) rfl (@pa_c _ _ _ _ _ (pv 0) pa_nil (by rfl))))) (pw_or1 (pt_not (pt_chain op_le op_le pe_int (pv 0) (pe_globI rfl T.g_LARGEST_PRIME)))))) (@pss_one _ _ _ (@ps_ret _ _ _ _ pe_bl)) pss_nil) (@pss_one _ _ _ (@ps_ret _ _ _ _ (pe_or (pe_cmpR op_eq (pv 0) pe_int (nomark _)) (pe_one (pe_c C_is_prime (hr.mono (by decide)) rfl (@pa_c _ _ _ _ _ (pv 0) pa_nil (by rfl)))))))), ?_⟩
    walk_at "wp"
    refine ⟨p, rfl, true, rfl, iteF (iteP (decide_eq_true p0) (iteN (by rw [decide_eq_true p97]; decide) (ite2 (fun _ => q H (Same.refl _)) (fun hc => ?_))))⟩
    rcases hp with rfl | hp
    · exact absurd (decide_eq_true rfl) hc
    · exact ⟨p, rfl, hp, q⟩
def spFrac : Sp := fun vs H Q _ => ∃ a b : Int, vs = [.int a, .int b] ∧ Top a ∧ 0 < b ∧ b.natAbs ≤ 100000000000000000000000000000000 ∧ ∀ t, H t = none → Q (.ref t) (upd H t (.tup [.int (nrm a b).1, .int (nrm a b).2]))
theorem cdiv_gcd {x a b : Int} (hb : 0 < b) (h : b.natAbs ≤ 100000000000000000000000000000000) : CDivG x (Int.gcd a b : Int) := by
  have h1 := gcd_pos' (a := a) hb
  have h2 := Int.le_of_dvd hb (Int.gcd_dvd_right a b)
  exact ⟨h1, by omega⟩
theorem ok_frac {f : Addr} {fd : FuncData} (F : Fun K "fraction" "fraction" s_fraction f fd) (T : Txt K mg C G S) (C_common_divisor : Cal P w K mg base "common_divisor" 1 spCd) : FnOk P w K mg base CX0 2 f fd ["top", "bottom"] spFrac := by
  have nd := sc_fraction.nd
  refine F.ok sc_fraction (fun vs H Q E h => ?_) (fun cdv A outer s H vs Q E hr h => ?_)
  · obtain ⟨a, b, rfl, _⟩ := h
    rfl
  · obtain ⟨a, b, rfl, ht, hb, hB, q⟩ := h
    refine ⟨_, (@pss_cons _ _ _ _ _ (@ps_if _ _ _ _ _ _ _ _ (pt_cmpR op_eq (pv 1) pe_int (nomark _)) (@pss_one _ _ _ ps_never) pss_nil) (@pss_cons _ _ _ _ _ (ps_set (i := 2) nd rfl (Or.inl rfl) (pe_c C_common_divisor (hr.mono (by decide)) rfl (@pa_c _ _ _ _ _ (pv 0) (@pa_c _ _ _ _ _ (pv 1) pa_nil (by rfl)) (by rfl)))) (@pss_cons _ _ _ _ _ (@ps_if _ _ _ _ _ _ _ _ (pt_cmpR op_lt (pv 1) pe_int (nomark _)) (@pss_one _ _ _ (ps_set (i := 2) nd rfl (Or.inl rfl) (pe_un un_neg (pv 2)))) pss_nil) (@pss_one _ _ _ (@ps_ret _ _ _ _ (@pe_tup _ _ _ _ _ (@pa_c _ _ _ _ _ (@pe_op _ _ _ _ _ _ _ _ op_fdivG (pv 0) (pv 2)) (@pa_c _ _ _ _ _ (@pe_op _ _ _ _ _ _ _ _ op_fdivG (pv 1) (pv 2)) pa_nil (by rfl)) (by rfl)))))))), ?_⟩
    walk_at "wp"
    refine iteN (by rw [decide_eq_false (by omega)]; decide) ⟨a, b, rfl, ht, by omega, iteN (by rw [decide_eq_false (by omega)]; decide) ?_⟩
    exact ⟨_, rfl, cdiv_gcd hb hB, _, rfl, cdiv_gcd hb hB, by decide, fun t ht => q t ht⟩
def gflds (p : Int) : List (Str × V) := putF "prime" (.int p) []
theorem flds_prime (p : Int) : (gflds p).lookup ("prime" : Str) = some (.int p) := by
  unfold gflds
  rw [lookup_putF, if_pos rfl]
theorem gflds_no (p : Int) {x : Str} (h1 : ¬ x = "prime") : (gflds p).lookup x = none := by
  unfold gflds
  rw [lookup_putF, if_neg h1]
  rfl
def spGInit (G : Addr) : Sp := fun vs H Q _ => ∃ (g dx : Addr) (p : Int), vs = [.ref g, .int p] ∧ H g = some (.ins G dx []) ∧ GroundP p ∧ ∀ (H' : Hp), Ext g H H' → H' g = some (.ins G dx (gflds p)) → Q .non H'
theorem ok_ginit {f : Addr} {fd : FuncData} (F : Fun K "__init__" "Ground.__init__" s_Ground_init f fd) (T : Txt K mg C G S) (C_tells_ground : Cal P w K mg base "tells_ground" 2 spTells) : FnOk P w K mg base CX0 3 f fd ["self", "prime"] (spGInit G) := by
  have nd := sc_Ground_init.nd
  refine F.ok sc_Ground_init (fun vs H Q E h => ?_) (fun cdv A outer s H vs Q E hr h => ?_)
  · obtain ⟨g, dx, p, rfl, _⟩ := h
    rfl
  · obtain ⟨g, dx, p, rfl, hg, hp, q⟩ := h
    refine ⟨_, (@pss_cons _ _ _ _ _ (@ps_if _ _ _ _ _ _ _ _ (pt_not (pt_val (pe_c C_tells_ground (hr.mono (by decide)) rfl (@pa_c _ _ _ _ _ (pv 1) pa_nil (by rfl))))) (@pss_one _ _ _ ps_never) pss_nil) (@pss_one _ _ _ (ps_fld (pv 0) (pv 1) rfl))), ?_⟩
    walk_at "wp"
    refine ⟨p, rfl, hp, fun H1 s1 => ⟨true, rfl, iteF ⟨G, dx, [], s1 _ _ hg, T.cl_Ground, T.nP, by show 0 < 1000; decide, ?_⟩⟩⟩
    exact q _ (fun b o nb e => by rw [upd_ne nb]; exact s1 _ _ e) upd_same
end
end Pf
set_option maxHeartbeats 1000000
namespace Pf
open PySem L2 PyProof.Rows
section
variable {P : Program} {w : World} {K : PySem.W.Frag} {mg : Str → Option Value} {base : Heap} {C G S : Addr}
def goodB (p : Int) : Bool := p == 0 || (decide (1 < p) && decide (p ≤ 97) && (List.range 98).all fun d => decide ((d : Int) < 2) || decide (p ≤ (d : Int)) || decide (p % (d : Int) ≠ 0))
theorem goodB_ok {p : Int} (h : goodB p = true) : GroundP p := by
  unfold goodB at h
  simp only [Bool.or_eq_true, Bool.and_eq_true, beq_iff_eq, decide_eq_true_eq, List.all_eq_true, List.mem_range] at h
  rcases h with h | ⟨⟨h1, h2⟩, h3⟩
  · exact .inl h
  · refine .inr ⟨h1, h2, fun d d2 dp => ?_⟩
    have := h3 d.toNat (by omega)
    rw [show ((d.toNat : Nat) : Int) = d by omega] at this
    rcases this with (h | h) | h
    · omega
    · omega
    · exact h
theorem pick_good {L : List Int} (h : L.all goodB = true) {i : Int} (i0 : 0 ≤ i) (i1 : i < L.length) : ∃ p, atI (L.map V.int) i = some (.int p) ∧ GroundP p := by
  have hi : i.toNat < L.length := by omega
  exact ⟨_, atI_at i0 (atZ_get hi), goodB_ok (List.all_eq_true.mp h _ (atZ_mem hi))⟩
def NumV (H : Hp) (p : Int) (v : V) (x : Int × Int) : Prop := if p = 0 then ∃ t, v = .ref t ∧ H t = some (.tup [.int x.1, .int x.2]) else v = .int x.1
theorem NumV.same {H H' : Hp} {p : Int} {v : V} {x : Int × Int} (h : NumV H p v x) (s : Same H H') : NumV H' p v x := by
  unfold NumV at *
  split
  · rename_i hp
    rw [if_pos hp] at h
    obtain ⟨t, e, ht⟩ := h
    exact ⟨t, e, s _ _ ht⟩
  · rename_i hp
    rw [if_neg hp] at h
    exact h
theorem NumV.tup {H : Hp} {p : Int} {t : Addr} {x : Int × Int} (hp : p = 0) (h : H t = some (.tup [.int x.1, .int x.2])) : NumV H p (.ref t) x := by
  unfold NumV
  rw [if_pos hp]
  exact ⟨t, rfl, h⟩
theorem NumV.of {H : Hp} {p : Int} {x : Int × Int} (hp : ¬ p = 0) : NumV H p (.int x.1) x := by
  unfold NumV
  rw [if_neg hp]
theorem NumV.ref {H : Hp} {p : Int} {v : V} {x : Int × Int} (h : NumV H p v x) (hp : p = 0) : ∃ t, v = .ref t ∧ H t = some (.tup [.int x.1, .int x.2]) := by
  unfold NumV at h
  rw [if_pos hp] at h
  exact h
theorem NumV.int {H : Hp} {p : Int} {v : V} {x : Int × Int} (h : NumV H p v x) (hp : ¬ p = 0) : v = .int x.1 := by
  unfold NumV at h
  rw [if_neg hp] at h
  exact h
theorem GroundP.lo {p : Int} (h : GroundP p) : 0 ≤ p := by rcases h with rfl | ⟨h, _⟩ <;> omega
theorem GroundP.hi {p : Int} (h : GroundP p) : p ≤ 97 := by rcases h with rfl | ⟨_, h, _⟩ <;> omega
def GAt (G : Addr) (H : Hp) (g : Addr) (p : Int) : Prop := ∃ dx, H g = some (.ins G dx (gflds p))
theorem GAt.same {H H' : Hp} {g : Addr} {p : Int} (h : GAt G H g p) (s : Same H H') : GAt G H' g p := let ⟨dx, e⟩ := h; ⟨dx, s _ _ e⟩
end
end Pf
set_option maxHeartbeats 1000000
namespace Pf
open PySem L2 PyProof.Rows
section
variable {P : Program} {w : World} {K : PySem.W.Frag} {mg : Str → Option Value} {base : Heap} {C G S : Addr}
def Kn (H : Hp) (v : V) : Prop := v = .non ∨ (∃ b, v = .bl b) ∨ (∃ i, v = .int i) ∨ (∃ s, v = .str s) ∨ (∃ a xs, v = .ref a ∧ H a = some (.lst xs) ∧ xs.length ≤ 1000) ∨ ∃ a xs, v = .ref a ∧ H a = some (.tup xs) ∧ xs.length ≤ 1000
theorem Kn.same {H H' : Hp} {v : V} (h : Kn H v) (s : Same H H') : Kn H' v := by
  rcases h with h | h | h | h | ⟨a, xs, h1, h2, h3⟩ | ⟨a, xs, h1, h2, h3⟩
  · exact .inl h
  · exact .inr (.inl h)
  · exact .inr (.inr (.inl h))
  · exact .inr (.inr (.inr (.inl h)))
  · exact .inr (.inr (.inr (.inr (.inl ⟨a, xs, h1, s _ _ h2, h3⟩))))
  · exact .inr (.inr (.inr (.inr (.inr ⟨a, xs, h1, s _ _ h2, h3⟩))))
theorem Kn.int {H : Hp} {i : Int} : Kn H (.int i) := .inr (.inr (.inl ⟨i, rfl⟩))
theorem Kn.bl {H : Hp} {i : Bool} : Kn H (.bl i) := .inr (.inl ⟨i, rfl⟩)
theorem Kn.str {H : Hp} {i : Str} : Kn H (.str i) := .inr (.inr (.inr (.inl ⟨i, rfl⟩)))
theorem Kn.lst {H : Hp} {a : Addr} {xs : List V} (h : H a = some (.lst xs)) (hl : xs.length ≤ 1000) : Kn H (.ref a) := .inr (.inr (.inr (.inr (.inl ⟨a, xs, rfl, h, hl⟩))))
theorem Kn.tup {H : Hp} {a : Addr} {xs : List V} (h : H a = some (.tup xs)) (hl : xs.length ≤ 1000) : Kn H (.ref a) := .inr (.inr (.inr (.inr (.inr ⟨a, xs, rfl, h, hl⟩))))
def isI : V → Bool
  | .int _ => true
  | .bl _ => true
  | _ => false
def isBl : V → Bool
  | .bl _ => true
  | _ => false
def isTu (H : Hp) : V → Bool
  | .ref a => match H a with
    | some (.tup _) => true
    | _ => false
  | _ => false
def isLi (H : Hp) : V → Bool
  | .ref a => match H a with
    | some (.lst _) => true
    | _ => false
  | _ => false
def whB : V → Bool
  | .int _ => true
  | _ => false
theorem kn_int {H : Hp} {v : V} (h : Kn H v) : ∃ t, TyOf K H v t ∧ PySem.W.kitOne K t (.type "int") = some (isI v) := by
  rcases h with rfl | ⟨b, rfl⟩ | ⟨i, rfl⟩ | ⟨z, rfl⟩ | ⟨a, xs, rfl, h2, _⟩ | ⟨a, xs, rfl, h2, _⟩
  · exact ⟨_, .non, by kernel_rfl⟩
  · exact ⟨_, .bl b, k_bool_int K⟩
  · exact ⟨_, .int i, k_int_int K⟩
  · exact ⟨_, .str z, by kernel_rfl⟩
  · exact ⟨_, .lst h2, by kernel_rfl⟩
  · exact ⟨_, .tup h2, by kernel_rfl⟩
theorem kn_bool {H : Hp} {v : V} (h : Kn H v) : ∃ t, TyOf K H v t ∧ PySem.W.kitOne K t (.type "bool") = some (isBl v) := by
  rcases h with rfl | ⟨b, rfl⟩ | ⟨i, rfl⟩ | ⟨z, rfl⟩ | ⟨a, xs, rfl, h2, _⟩ | ⟨a, xs, rfl, h2, _⟩
  · exact ⟨_, .non, by kernel_rfl⟩
  · exact ⟨_, .bl b, k_bool_bool K⟩
  · exact ⟨_, .int i, k_int_bool K⟩
  · exact ⟨_, .str z, by kernel_rfl⟩
  · exact ⟨_, .lst h2, by kernel_rfl⟩
  · exact ⟨_, .tup h2, by kernel_rfl⟩
theorem kn_tup {H : Hp} {v : V} (h : Kn H v) : ∃ t, TyOf K H v t ∧ PySem.W.kitOne K t (.type "tuple") = some (isTu H v) := by
  rcases h with rfl | ⟨b, rfl⟩ | ⟨i, rfl⟩ | ⟨z, rfl⟩ | ⟨a, xs, rfl, h2, _⟩ | ⟨a, xs, rfl, h2, _⟩
  · exact ⟨_, .non, by kernel_rfl⟩
  · exact ⟨_, .bl b, by kernel_rfl⟩
  · exact ⟨_, .int i, by kernel_rfl⟩
  · exact ⟨_, .str z, by kernel_rfl⟩
  · refine ⟨_, .lst h2, ?_⟩
    simp only [isTu, h2]
    kernel_rfl
  · refine ⟨_, .tup h2, ?_⟩
    simp only [isTu, h2]
    exact k_tup_tup K
theorem kn_list {H : Hp} {v : V} (h : Kn H v) : ∃ t, TyOf K H v t ∧ PySem.W.kitOne K t (.type "list") = some (isLi H v) := by
  rcases h with rfl | ⟨b, rfl⟩ | ⟨i, rfl⟩ | ⟨z, rfl⟩ | ⟨a, xs, rfl, h2, _⟩ | ⟨a, xs, rfl, h2, _⟩
  · exact ⟨_, .non, by kernel_rfl⟩
  · exact ⟨_, .bl b, by kernel_rfl⟩
  · exact ⟨_, .int i, by kernel_rfl⟩
  · exact ⟨_, .str z, by kernel_rfl⟩
  · refine ⟨_, .lst h2, ?_⟩
    simp only [isLi, h2]
    exact k_list_list K
  · refine ⟨_, .tup h2, ?_⟩
    simp only [isLi, h2]
    kernel_rfl
def spWholeA : Sp := fun vs H Q _ => ∃ v : V, vs = [v] ∧ Kn H v ∧ Q (.bl (whB v)) H
theorem ok_wholeA {f : Addr} {fd : FuncData} (F : Fun K "is_whole" "is_whole" s_is_whole f fd) (T : Txt K mg C G S) : FnOk P w K mg base CX0 1 f fd ["thing"] spWholeA := by
  have nd := sc_is_whole.nd
  refine F.ok sc_is_whole (fun vs H Q E h => ?_) (fun cdv A outer s H vs Q E hr h => ?_)
  · obtain ⟨i, rfl, _⟩ := h
    rfl
  · obtain ⟨v, rfl, hk, q⟩ := h
    refine ⟨_, (@pss_one _ _ _ (@ps_ret _ _ _ _ (pe_and (pe_cB call_isinst rfl T.n_isinstance boot_isinstance (@pa_c _ _ _ _ _ (pv 0) (@pa_c _ _ _ _ _ (pe_ty rfl T.n_int boot_int) pa_nil (by rfl)) (by rfl))) (pe_one (pe_not (pe_cB call_isinst rfl T.n_isinstance boot_isinstance (@pa_c _ _ _ _ _ (pv 0) (@pa_c _ _ _ _ _ (pe_ty rfl T.n_bool boot_bool) pa_nil (by rfl)) (by rfl)))))))), ?_⟩
    walk_at "wp"
    obtain ⟨t1, h1, h2⟩ := kn_int (K := K) hk
    obtain ⟨t2, h3, h4⟩ := kn_bool (K := K) hk
    refine ⟨_, _, ⟨rfl, rfl⟩, _, rfl, _, h1, _, h2, ite2 (fun hc => ⟨_, _, ⟨rfl, rfl⟩, _, rfl, _, h3, _, h4, ?_⟩) (fun hc => ?_)⟩
    · cases v <;> first | exact q | cases hc
    · cases v <;> first | exact q | exact absurd rfl hc
def frB (H : Hp) : V → Bool
  | .ref a => match H a with
    | some (.tup [.int x, .int y]) => decide (1 ≤ y) && decide (Int.gcd x y = 1)
    | _ => false
  | _ => false
def numB (p : Int) (H : Hp) (v : V) : Bool := if p = 0 then frB H v else match v with
  | .int i => decide (0 ≤ i) && decide (i < p)
  | _ => false
def rowB (p wd : Int) (H : Hp) : V → Bool
  | .ref a => match H a with
    | some (.lst xs) => decide ((xs.length : Int) = wd) && xs.all (numB p H)
    | _ => false
  | _ => false
def tabB (p : Int) (H : Hp) : V → Bool
  | .ref a => match H a with
    | some (.tup [.int h, .int wd, .ref r]) => match H r with
      | some (.lst rows) => decide (0 ≤ h) && decide (0 ≤ wd) && decide ((rows.length : Int) = h) && rows.all (rowB p wd H)
      | _ => false
    | _ => false
  | _ => false
def TopV (y : V) : Prop := ∀ i, y = .int i → Top i
def WfN (H : Hp) (v : V) : Prop := Kn H v ∧ ∀ a xs, v = .ref a → H a = some (.tup xs) → ∀ y ∈ xs, Kn H y ∧ TopV y
def WfR (H : Hp) (v : V) : Prop := Kn H v ∧ ∀ a xs, v = .ref a → H a = some (.lst xs) → ∀ y ∈ xs, WfN H y
def WfT (H : Hp) (v : V) : Prop := Kn H v ∧ ∀ a xs, v = .ref a → H a = some (.tup xs) → ∀ y ∈ xs, Kn H y ∧ ∀ r rows, y = .ref r → H r = some (.lst rows) → ∀ z ∈ rows, WfR H z
theorem Kn.back {H H' : Hp} {a : Addr} {o : HO} (h : Kn H (.ref a)) (s : Same H H') (e : H' a = some o) : H a = some o := by
  rcases h with h | ⟨_, h⟩ | ⟨_, h⟩ | ⟨_, h⟩ | ⟨b, xs, h1, h2, _⟩ | ⟨b, xs, h1, h2, _⟩
  · cases h
  · cases h
  · cases h
  · cases h
  · cases h1
    rw [s _ _ h2] at e
    rw [h2, e]
  · cases h1
    rw [s _ _ h2] at e
    rw [h2, e]
theorem Kn.at {H H' : Hp} {a : Addr} (h : Kn H (.ref a)) (s : Same H H') : H' a = H a := by
  rcases h with h | ⟨_, h⟩ | ⟨_, h⟩ | ⟨_, h⟩ | ⟨b, xs, h1, h2, _⟩ | ⟨b, xs, h1, h2, _⟩
  · cases h
  · cases h
  · cases h
  · cases h
  · cases h1
    rw [s _ _ h2, h2]
  · cases h1
    rw [s _ _ h2, h2]
theorem WfN.same {H H' : Hp} {v : V} (h : WfN H v) (s : Same H H') : WfN H' v :=
  ⟨h.1.same s, fun a xs e1 e2 y hy => by subst e1; exact ⟨(h.2 a xs rfl (h.1.back s e2) y hy).1.same s, (h.2 a xs rfl (h.1.back s e2) y hy).2⟩⟩
theorem WfR.same {H H' : Hp} {v : V} (h : WfR H v) (s : Same H H') : WfR H' v :=
  ⟨h.1.same s, fun a xs e1 e2 y hy => by subst e1; exact (h.2 a xs rfl (h.1.back s e2) y hy).same s⟩
theorem WfT.same {H H' : Hp} {v : V} (h : WfT H v) (s : Same H H') : WfT H' v :=
  ⟨h.1.same s, fun a xs e1 e2 y hy => by
    subst e1
    obtain ⟨k, hz⟩ := h.2 a xs rfl (h.1.back s e2) y hy
    exact ⟨k.same s, fun r rows e3 e4 z zz => by subst e3; exact (hz r rows rfl (k.back s e4) z zz).same s⟩⟩
theorem numB_same {H H' : Hp} {p : Int} {v : V} (h : WfN H v) (s : Same H H') : numB p H' v = numB p H v := by
  unfold numB
  split
  · cases v <;> try rfl
    simp only [frB, h.1.at s]
  · rfl
theorem all_congr' {α : Type} {f g : α → Bool} : ∀ {xs : List α}, (∀ x ∈ xs, f x = g x) → xs.all f = xs.all g
  | [], _ => rfl
  | x :: xs, h => by
    rw [List.all_cons, List.all_cons, h x List.mem_cons_self, all_congr' fun y hy => h y (List.mem_cons_of_mem _ hy)]
theorem rowB_same {H H' : Hp} {p wd : Int} {v : V} (h : WfR H v) (s : Same H H') : rowB p wd H' v = rowB p wd H v := by
  cases v <;> try rfl
  rename_i a
  simp only [rowB, h.1.at s]
  split
  · rename_i xs e
    rw [all_congr' fun y hy => numB_same (h.2 a xs rfl e y hy) s]
  · rfl
end
end Pf
set_option maxHeartbeats 1000000
namespace Pf
open PySem L2 PyProof.Rows
section
variable {P : Program} {w : World} {K : PySem.W.Frag} {mg : Str → Option Value} {base : Heap} {C G S : Addr}
theorem tu_of {H : Hp} {v : V} (h : Kn H v) (ht : isTu H v = true) : ∃ a xs, v = .ref a ∧ H a = some (.tup xs) ∧ xs.length ≤ 1000 := by
  rcases h with rfl | ⟨b, rfl⟩ | ⟨i, rfl⟩ | ⟨z, rfl⟩ | ⟨a, xs, rfl, h2, _⟩ | h
  · cases ht
  · cases ht
  · cases ht
  · cases ht
  · simp only [isTu, h2] at ht; cases ht
  · exact h
theorem li_of {H : Hp} {v : V} (h : Kn H v) (ht : isLi H v = true) : ∃ a xs, v = .ref a ∧ H a = some (.lst xs) ∧ xs.length ≤ 1000 := by
  rcases h with rfl | ⟨b, rfl⟩ | ⟨i, rfl⟩ | ⟨z, rfl⟩ | h | ⟨a, xs, rfl, h2, _⟩
  · cases ht
  · cases ht
  · cases ht
  · cases ht
  · exact h
  · simp only [isLi, h2] at ht; cases ht
theorem wh_of {v : V} (h : whB v = true) : ∃ i, v = .int i := by
  cases v <;> first | exact ⟨_, rfl⟩ | cases h
theorem frB_noT {H : Hp} {v : V} (h : isTu H v = false) : frB H v = false := by
  cases v <;> try rfl
  simp only [isTu] at h
  simp only [frB]
  split
  · rename_i e; rw [e] at h; cases h
  · rfl
theorem frB_len {H : Hp} {a : Addr} {xs : List V} (h : H a = some (.tup xs)) (hl : xs.length ≠ 2) : frB H (.ref a) = false := by
  simp only [frB, h]
  split
  · rename_i e; cases e; exact absurd rfl hl
  · rfl
theorem frB_two {H : Hp} {a : Addr} {x y : V} (h : H a = some (.tup [x, y])) (hw : whB x = false ∨ whB y = false) : frB H (.ref a) = false := by
  simp only [frB, h]
  split
  · rename_i e
    cases e
    rcases hw with hw | hw <;> cases hw
  · rfl
theorem frB_ints {H : Hp} {a : Addr} {x y : Int} (h : H a = some (.tup [.int x, .int y])) : frB H (.ref a) = (decide (1 ≤ y) && decide (Int.gcd x y = 1)) := by
  simp only [frB, h]
def spFr : Sp := fun vs H Q _ => ∃ v : V, vs = [v] ∧ WfN H v ∧ Q (.bl (frB H v)) H
theorem ok_fr {f : Addr} {fd : FuncData} (F : Fun K "is_fraction" "is_fraction" s_is_fraction f fd) (T : Txt K mg C G S) (C_is_whole : Cal P w K mg base "is_whole" 1 spWholeA) (C_common_divisor : Cal P w K mg base "common_divisor" 1 spCd) : FnOk P w K mg base CX0 2 f fd ["thing"] spFr := by
  have nd := sc_is_fraction.nd
  refine F.ok sc_is_fraction (fun vs H Q E h => ?_) (fun cdv A outer s H vs Q E hr h => ?_)
  · obtain ⟨v, rfl, _⟩ := h
    rfl
  · obtain ⟨v, rfl, ⟨hk, hx⟩, q⟩ := h
    refine ⟨_, (@pss_cons _ _ _ _ _ (@ps_if _ _ _ _ _ _ _ _ (PW.pt (pw_or (pt_not (pt_val (pe_cB call_isinst rfl T.n_isinstance boot_isinstance (@pa_c _ _ _ _ _ (pv 0) (@pa_c _ _ _ _ _ (pe_ty rfl T.n_tuple boot_tuple) pa_nil (by rfl)) (by rfl))))) (pw_or1 (pt_cmpR op_ne (pe_cB call_len_seq rfl T.n_len PySem.boot_len (@pa_c _ _ _ _ _ (pv 0) pa_nil (by rfl))) pe_int (nomark _))))) (@pss_one _ _ _ (@ps_ret _ _ _ _ pe_bl)) pss_nil) (@pss_cons _ _ _ _ _ (ps_asg (pv 0) (@pg_tup _ _ _ _ _ 2 rfl (@pgs_cons _ _ _ _ _ (@pg_name _ _ 1 _ nd rfl (Or.inl rfl) (Or.inl rfl)) (@pgs_cons _ _ _ _ _ (@pg_name _ _ 2 _ nd rfl (Or.inl rfl) (Or.inl rfl)) (@pgs_nil _) (by rfl)) (by rfl)) (by rfl) (by rfl))) (@pss_cons _ _ _ _ _ (@ps_if _ _ _ _ _ _ _ _ (PW.pt (pw_or (pt_not (pt_val (pe_c C_is_whole (hr.mono (by decide)) rfl (@pa_c _ _ _ _ _ (pv 1) pa_nil (by rfl))))) (pw_or (pt_not (pt_val (pe_c C_is_whole (hr.mono (by decide)) rfl (@pa_c _ _ _ _ _ (pv 2) pa_nil (by rfl))))) (pw_or1 (pt_cmpR op_lt (pv 2) pe_int (nomark _)))))) (@pss_one _ _ _ (@ps_ret _ _ _ _ pe_bl)) pss_nil) (@pss_one _ _ _ (@ps_ret _ _ _ _ (pe_cmpR op_eq (pe_c C_common_divisor (hr.mono (by decide)) rfl (@pa_c _ _ _ _ _ (pv 1) (@pa_c _ _ _ _ _ (pv 2) pa_nil (by rfl)) (by rfl))) pe_int (nomark _))))))), ?_⟩
    walk_at "wp"
    obtain ⟨t1, h1, h2⟩ := kn_tup (K := K) hk
    refine ⟨_, _, ⟨rfl, rfl⟩, _, rfl, _, h1, _, h2, ?_⟩
    refine ite2 (fun hc => ?_) (fun hc => ?_)
    · have hc : isTu H v = false := by simpa using hc
      rw [frB_noT hc] at q
      exact q
    · have hc : isTu H v = true := by simpa using hc
      obtain ⟨a, xs, rfl, ha, hl⟩ := tu_of hk hc
      refine ⟨a, rfl, xs, .inr (SqT.of ha), ite2 (fun hn => ?_) (fun hn => ?_)⟩
      · have hn : ¬ xs.length = 2 := by intro z; rw [z] at hn; exact absurd hn (by decide)
        rw [frB_len ha hn] at q
        exact q
      · have hn : xs.length = 2 := by
          have : ((xs.length : Nat) : Int) = 2 := by simpa using hn
          omega
        obtain ⟨x, y, rfl⟩ : ∃ x y, xs = [x, y] := by
          match xs, hn with
          | [x, y], _ => exact ⟨x, y, rfl⟩
        refine ⟨a, rfl, _, SqT.of ha, rfl, _, _, rfl, _, _, rfl, rfl, x, rfl, (hx a _ rfl ha x (by simp)).1, _, rfl, ite2 (fun h1 => ?_) (fun h1 => ?_)⟩
        · rw [frB_two ha (.inl (by simpa using h1))] at q
          exact q
        · obtain ⟨i, rfl⟩ := wh_of (v := x) (by simpa using h1)
          refine ⟨y, rfl, (hx a _ rfl ha y (by simp)).1, _, rfl, ite2 (fun h2 => ?_) (fun h2 => ?_)⟩
          · rw [frB_two ha (.inr (by simpa using h2))] at q
            exact q
          · obtain ⟨j, rfl⟩ := wh_of (v := y) (by simpa using h2)
            rw [frB_ints ha] at q
            refine ⟨j, rfl, ite2 (fun h3 => ?_) (fun h3 => ?_)⟩
            · have h3 := of_decide_eq_true h3
              rw [decide_eq_false (show ¬ 1 ≤ j by omega)] at q
              exact q
            · have h3 : ¬ j < 1 := fun z => h3 (decide_eq_true z)
              refine ⟨i, j, rfl, (hx a _ rfl ha _ (by simp)).2 i rfl, by omega, rfl, ?_⟩
              rw [decide_eq_true (show 1 ≤ j by omega)] at q
              have : decide (V.int (Int.gcd i j : Int) = V.int 1) = decide (Int.gcd i j = 1) := by
                simp only [V.int.injEq]
                by_cases e : Int.gcd i j = 1
                · rw [decide_eq_true e, decide_eq_true (by omega)]
                · rw [decide_eq_false e, decide_eq_false (by omega)]
              rw [this]
              exact q
def spIsN (G : Addr) : Sp := fun vs H Q _ => ∃ (g : Addr) (p : Int) (v : V), vs = [.ref g, v] ∧ GAt G H g p ∧ GroundP p ∧ WfN H v ∧ Q (.bl (numB p H v)) H
theorem numB_pr {p : Int} {H : Hp} {v : V} (hp : ¬ p = 0) (h : whB v = false) : numB p H v = false := by
  unfold numB
  rw [if_neg hp]
  cases v <;> first | rfl | cases h
theorem numB_int {p i : Int} {H : Hp} (hp : ¬ p = 0) : numB p H (.int i) = (decide (0 ≤ i) && decide (i < p)) := by
  unfold numB
  rw [if_neg hp]
theorem numB_fr {p : Int} {H : Hp} {v : V} (hp : p = 0) : numB p H v = frB H v := by
  unfold numB
  rw [if_pos hp]
theorem ok_isn {f : Addr} {fd : FuncData} (F : Fun K "is_number" "Ground.is_number" s_Ground_is_number f fd) (T : Txt K mg C G S) (C_is_whole : Cal P w K mg base "is_whole" 1 spWholeA) (C_is_fraction : Cal P w K mg base "is_fraction" 2 spFr) : FnOk P w K mg base CX0 3 f fd ["self", "thing"] (spIsN G) := by
  have nd := sc_Ground_is_number.nd
  refine F.ok sc_Ground_is_number (fun vs H Q E h => ?_) (fun cdv A outer s H vs Q E hr h => ?_)
  · obtain ⟨g, p, v, rfl, _⟩ := h
    rfl
  · obtain ⟨g, p, v, rfl, ⟨dx, hg⟩, hp, hw, q⟩ := h
    refine ⟨_, (@pss_cons _ _ _ _ _ (@ps_if _ _ _ _ _ _ _ _ (pt_cmpR op_eq (pe_fld (pv 0) rfl) pe_int (nomark _)) (@pss_one _ _ _ (@ps_ret _ _ _ _ (pe_c C_is_fraction (hr.mono (by decide)) rfl (@pa_c _ _ _ _ _ (pv 1) pa_nil (by rfl))))) pss_nil) (@pss_one _ _ _ (@ps_ret _ _ _ _ (pe_and (pe_c C_is_whole (hr.mono (by decide)) rfl (@pa_c _ _ _ _ _ (pv 1) pa_nil (by rfl))) (pe_one (pe_chain op_le op_lt pe_int (pv 1) (pe_fld (pv 0) rfl))))))), ?_⟩
    walk_at "wp"
    refine ⟨G, dx, _, hg, T.cl_Ground, T.nP, _, flds_prime p, rfl, ite2 (fun hc => ?_) (fun hc => ?_)⟩
    · have hp0 : p = 0 := by simpa using hc
      rw [numB_fr hp0] at q
      exact ⟨v, rfl, hw, q⟩
    · have hp0 : ¬ p = 0 := by simpa using hc
      refine ⟨v, rfl, hw.1, _, rfl, ite2 (fun h1 => ?_) (fun h1 => ?_)⟩
      · obtain ⟨i, rfl⟩ := wh_of h1
        rw [numB_int hp0] at q
        refine ⟨i, rfl, ite2 (fun h2 => ⟨G, dx, _, hg, T.cl_Ground, T.nP, _, flds_prime p, i, rfl, p, rfl, ?_⟩) (fun h2 => ?_)⟩
        · rw [h2, Bool.true_and] at q
          exact q
        · rw [show decide (0 ≤ i) = false by simpa using h2, Bool.false_and] at q
          exact q
      · rw [numB_pr hp0 (by simpa using h1)] at q
        exact q
theorem all_at {f : V → Bool} (xs : List V) : ((List.range xs.length).map fun i => f (xs.getD i .non)).all id = xs.all f := by
  rw [Bool.eq_iff_iff, List.all_eq_true, List.all_eq_true]
  constructor
  · intro h x hx
    obtain ⟨i, hi, rfl⟩ := List.mem_iff_getElem.mp hx
    have := h (f (xs.getD i .non)) (List.mem_map.mpr ⟨i, List.mem_range.mpr hi, rfl⟩)
    simpa [hi] using this
  · intro h b hb
    obtain ⟨i, hi, rfl⟩ := List.mem_map.mp hb
    have hi := List.mem_range.mp hi
    simpa [hi] using h _ (List.getElem_mem hi)
theorem getD_of {xs : List V} {i : Nat} {x : V} (h : xs[i]? = some x) : xs.getD i .non = x := by rw [List.getD_eq_getElem?_getD, h]; rfl
def spRowI (G : Addr) : Sp := fun vs H Q _ => ∃ (g : Addr) (p wd : Int) (v : V), vs = [.ref g, .int wd, v] ∧ GAt G H g p ∧ GroundP p ∧ WfR H v ∧ ∀ H', Same H H' → Q (.bl (rowB p wd H v)) H'
theorem rowB_noL {p wd : Int} {H : Hp} {v : V} (h : isLi H v = false) : rowB p wd H v = false := by
  cases v <;> try rfl
  simp only [isLi] at h
  simp only [rowB]
  split
  · rename_i e; rw [e] at h; cases h
  · rfl
theorem rowB_li {p wd : Int} {H : Hp} {a : Addr} {xs : List V} (h : H a = some (.lst xs)) : rowB p wd H (.ref a) = (decide ((xs.length : Int) = wd) && xs.all (numB p H)) := by
  simp only [rowB, h]
theorem ok_isrow {f : Addr} {fd : FuncData} (F : Fun K "is_row" "is_row" s_is_row f fd) (T : Txt K mg C G S) (C_Ground_is_number : CalM P w K mg base G "is_number" 3 (spIsN G)) : FnOk P w K mg base CX0 4 f fd ["ground", "wide", "thing"] (spRowI G) := by
  have nd := sc_is_row.nd
  refine F.ok sc_is_row (fun vs H Q E h => ?_) (fun cdv A outer s H vs Q E hr h => ?_)
  · obtain ⟨g, p, wd, v, rfl, _⟩ := h
    rfl
  · obtain ⟨g, p, wd, v, rfl, ⟨dx, hg⟩, hp, ⟨hk, hx⟩, q⟩ := h
    refine ⟨_, (@pss_cons _ _ _ _ _ (@ps_if _ _ _ _ _ _ _ _ (PW.pt (pw_or (pt_not (pt_val (pe_cB call_isinst rfl T.n_isinstance boot_isinstance (@pa_c _ _ _ _ _ (pv 2) (@pa_c _ _ _ _ _ (pe_ty rfl T.n_list boot_list) pa_nil (by rfl)) (by rfl))))) (pw_or1 (pt_cmpR op_ne (pe_cB call_len_seq rfl T.n_len PySem.boot_len (@pa_c _ _ _ _ _ (pv 2) pa_nil (by rfl))) (pv 1) (nomark _))))) (@pss_one _ _ _ (@ps_ret _ _ _ _ pe_bl)) pss_nil) (@pss_one _ _ _ (@ps_ret _ _ _ _ (pe_cB (call_all rfl) rfl T.n_all boot_all (@pa_c _ _ _ _ _ (pe_comp (own := ["number"]) (fr := [("ground", 0)]) rfl (bl_of (by kernel_rfl)) (pi_list (pv 2)) (fun _ _ _ _ => ⟨(@pg_name _ _ 0 _ (show (["number", "ground"] : List Str).Nodup by decide +kernel) rfl (Or.inl rfl) (Or.inr rfl)), pts_nil, (pe_mth T.cl_Ground C_Ground_is_number (hr.mono (by decide)) (pv 1) (@pa_c _ _ _ _ _ (pv 0) pa_nil (by rfl)))⟩)) pa_nil (by rfl)))))), ?_⟩
    walk_at "wp"
    obtain ⟨t1, h1, h2⟩ := kn_list (K := K) hk
    refine ⟨_, _, ⟨rfl, rfl⟩, _, rfl, _, h1, _, h2, ite2 (fun hc => ?_) (fun hc => ?_)⟩
    · rw [rowB_noL (by simpa using hc)] at q
      exact q H (Same.refl _)
    · obtain ⟨a, xs, rfl, ha, hl⟩ := li_of hk (by simpa using hc)
      rw [rowB_li ha] at q
      refine ⟨a, rfl, xs, .inl (SqL.of ha), ite2 (fun hn => ?_) (fun hn => ?_)⟩
      · rw [show decide ((xs.length : Int) = wd) = false by simpa using hn, Bool.false_and] at q
        exact q H (Same.refl _)
      · rw [show decide ((xs.length : Int) = wd) = true by simpa using hn, Bool.true_and] at q
        refine ⟨_, rfl, a, rfl, ⟨_, SqL.of ha⟩, fun D hD => comp_bl_l (fun i => numB p H (xs.getD i .non)) ha hD (by omega) (fun i y H' Q' hy s' q' => ?_) fun H' s' e' => ⟨D, rfl, _, SqL.of e', ?_⟩⟩
        · have wy := hx a xs rfl ha y (List.mem_of_getElem? hy)
          refine ⟨_, rfl, g, dx, _, rfl, s' _ _ hg, gflds_no _ (by decide +kernel), _, rfl, g, p, y, rfl, ⟨dx, s' _ _ hg⟩, hp, wy.same s', ?_⟩
          rw [numB_same wy s', ← getD_of hy]
          exact q' H' (Same.refl _)
        · rw [all_at]
          exact q H' s'
def spTabI (G : Addr) : Sp := fun vs H Q _ => ∃ (g : Addr) (p : Int) (v : V), vs = [.ref g, v] ∧ GAt G H g p ∧ GroundP p ∧ WfT H v ∧ ∀ H', Same H H' → Q (.bl (tabB p H v)) H'
theorem tabB_noT {p : Int} {H : Hp} {v : V} (h : isTu H v = false) : tabB p H v = false := by
  cases v <;> try rfl
  simp only [isTu] at h
  simp only [tabB]
  split
  · rename_i e; rw [e] at h; cases h
  · rfl
theorem tabB_len {p : Int} {H : Hp} {a : Addr} {xs : List V} (h : H a = some (.tup xs)) (hl : xs.length ≠ 3) : tabB p H (.ref a) = false := by
  simp only [tabB, h]
  split
  · rename_i e; cases e; exact absurd rfl hl
  · rfl
theorem tabB_three {p : Int} {H : Hp} {a : Addr} {x y z : V} (h : H a = some (.tup [x, y, z])) (hw : whB x = false ∨ whB y = false) : tabB p H (.ref a) = false := by
  simp only [tabB, h]
  split
  · rename_i e
    cases e
    rcases hw with hw | hw <;> cases hw
  · rfl
theorem tabB_ints {p : Int} {H : Hp} {a : Addr} {i j : Int} {z : V} (h : H a = some (.tup [.int i, .int j, z])) (hw : (i < 0 ∨ j < 0) ∨ isLi H z = false) : tabB p H (.ref a) = false := by
  simp only [tabB, h]
  split
  · rename_i e
    cases e
    split
    · rename_i rows e2
      rcases hw with (hw | hw) | hw
      · rw [decide_eq_false (show ¬ 0 ≤ i by omega)]; simp
      · rw [decide_eq_false (show ¬ 0 ≤ j by omega)]; simp
      · simp only [isLi, e2] at hw; cases hw
    · rfl
  · rfl
theorem tabB_rows {p : Int} {H : Hp} {a r : Addr} {i j : Int} {rows : List V} (h : H a = some (.tup [.int i, .int j, .ref r])) (hr : H r = some (.lst rows)) (h0 : ¬ i < 0) (h1 : ¬ j < 0) : tabB p H (.ref a) = (decide ((rows.length : Int) = i) && rows.all (rowB p j H)) := by
  simp only [tabB, h, hr]
  rw [decide_eq_true (show 0 ≤ i by omega), decide_eq_true (show 0 ≤ j by omega)]
  rfl
theorem ok_istab {f : Addr} {fd : FuncData} (F : Fun K "is_table" "is_table" s_is_table f fd) (T : Txt K mg C G S) (C_is_whole : Cal P w K mg base "is_whole" 1 spWholeA) (C_is_row : Cal P w K mg base "is_row" 4 (spRowI G)) : FnOk P w K mg base CX0 5 f fd ["ground", "thing"] (spTabI G) := by
  have nd := sc_is_table.nd
  refine F.ok sc_is_table (fun vs H Q E h => ?_) (fun cdv A outer s H vs Q E hr h => ?_)
  · obtain ⟨g, p, v, rfl, _⟩ := h
    rfl
  · obtain ⟨g, p, v, rfl, ⟨dx, hg⟩, hp, ⟨hk, hx⟩, q⟩ := h
    refine ⟨_, (@pss_cons _ _ _ _ _ (@ps_if _ _ _ _ _ _ _ _ (PW.pt (pw_or (pt_not (pt_val (pe_cB call_isinst rfl T.n_isinstance boot_isinstance (@pa_c _ _ _ _ _ (pv 1) (@pa_c _ _ _ _ _ (pe_ty rfl T.n_tuple boot_tuple) pa_nil (by rfl)) (by rfl))))) (pw_or1 (pt_cmpR op_ne (pe_cB call_len_seq rfl T.n_len PySem.boot_len (@pa_c _ _ _ _ _ (pv 1) pa_nil (by rfl))) pe_int (nomark _))))) (@pss_one _ _ _ (@ps_ret _ _ _ _ pe_bl)) pss_nil) (@pss_cons _ _ _ _ _ (ps_asg (pv 1) (@pg_tup _ _ _ _ _ 3 rfl (@pgs_cons _ _ _ _ _ (@pg_name _ _ 2 _ nd rfl (Or.inl rfl) (Or.inl rfl)) (@pgs_cons _ _ _ _ _ (@pg_name _ _ 3 _ nd rfl (Or.inr rfl) (Or.inl rfl)) (@pgs_cons _ _ _ _ _ (@pg_name _ _ 4 _ nd rfl (Or.inl rfl) (Or.inl rfl)) (@pgs_nil _) (by rfl)) (by rfl)) (by rfl)) (by rfl) (by rfl))) (@pss_cons _ _ _ _ _ (@ps_if _ _ _ _ _ _ _ _ (PW.pt (pw_or (pt_not (pt_val (pe_c C_is_whole (hr.mono (by decide)) rfl (@pa_c _ _ _ _ _ (pv 2) pa_nil (by rfl))))) (pw_or (pt_not (pt_val (pe_c C_is_whole (hr.mono (by decide)) rfl (@pa_c _ _ _ _ _ (pv 3) pa_nil (by rfl))))) (pw_or (pt_cmpR op_lt (pv 2) pe_int (nomark _)) (pw_or1 (pt_cmpR op_lt (pv 3) pe_int (nomark _))))))) (@pss_one _ _ _ (@ps_ret _ _ _ _ pe_bl)) pss_nil) (@pss_cons _ _ _ _ _ (@ps_if _ _ _ _ _ _ _ _ (PW.pt (pw_or (pt_not (pt_val (pe_cB call_isinst rfl T.n_isinstance boot_isinstance (@pa_c _ _ _ _ _ (pv 4) (@pa_c _ _ _ _ _ (pe_ty rfl T.n_list boot_list) pa_nil (by rfl)) (by rfl))))) (pw_or1 (pt_cmpR op_ne (pe_cB call_len_seq rfl T.n_len PySem.boot_len (@pa_c _ _ _ _ _ (pv 4) pa_nil (by rfl))) (pv 2) (nomark _))))) (@pss_one _ _ _ (@ps_ret _ _ _ _ pe_bl)) pss_nil) (@pss_one _ _ _ (@ps_ret _ _ _ _ (pe_cB (call_all rfl) rfl T.n_all boot_all (@pa_c _ _ _ _ _ (pe_comp (own := ["row"]) (fr := [("ground", 0), ("wide", 3)]) rfl (bl_of (by kernel_rfl)) (pi_list (pv 4)) (fun _ _ _ _ => ⟨(@pg_name _ _ 0 _ (show (["row", "ground", "wide"] : List Str).Nodup by decide +kernel) rfl (Or.inl rfl) (Or.inr rfl)), pts_nil, (pe_c C_is_row (hr.mono (by decide)) rfl (@pa_c _ _ _ _ _ (pv 1) (@pa_c _ _ _ _ _ (pv 2) (@pa_c _ _ _ _ _ (pv 0) pa_nil (by rfl)) (by rfl)) (by rfl)))⟩)) pa_nil (by rfl))))))))), ?_⟩
    walk_at "wp"
    obtain ⟨t1, h1, h2⟩ := kn_tup (K := K) hk
    refine ⟨_, _, ⟨rfl, rfl⟩, _, rfl, _, h1, _, h2, ite2 (fun hc => ?_) (fun hc => ?_)⟩
    · rw [tabB_noT (by simpa using hc)] at q
      exact q H (Same.refl _)
    · obtain ⟨a, xs, rfl, ha, hl⟩ := tu_of hk (by simpa using hc)
      refine ⟨a, rfl, xs, .inr (SqT.of ha), ite2 (fun hn => ?_) (fun hn => ?_)⟩
      · have hn : ¬ xs.length = 3 := by intro z; rw [z] at hn; exact absurd hn (by decide)
        rw [tabB_len ha hn] at q
        exact q H (Same.refl _)
      · have hn : xs.length = 3 := by
          have : ((xs.length : Nat) : Int) = 3 := by simpa using hn
          omega
        obtain ⟨x, y, z, rfl⟩ : ∃ x y z, xs = [x, y, z] := by
          match xs, hn with
          | [x, y, z], _ => exact ⟨x, y, z, rfl⟩
        have kx := (hx a _ rfl ha x (by simp)).1
        have ky := (hx a _ rfl ha y (by simp)).1
        obtain ⟨kz, hz⟩ := hx a _ rfl ha z (by simp)
        refine ⟨a, rfl, _, SqT.of ha, rfl, _, _, rfl, _, _, rfl, _, _, rfl, rfl, x, rfl, kx, _, rfl, ite2 (fun h1 => ?_) (fun h1 => ?_)⟩
        · rw [tabB_three ha (.inl (by simpa using h1))] at q
          exact q H (Same.refl _)
        · obtain ⟨i, rfl⟩ := wh_of (v := x) (by simpa using h1)
          refine ⟨y, rfl, ky, _, rfl, ite2 (fun h2 => ?_) (fun h2 => ?_)⟩
          · rw [tabB_three ha (.inr (by simpa using h2))] at q
            exact q H (Same.refl _)
          · obtain ⟨j, rfl⟩ := wh_of (v := y) (by simpa using h2)
            refine ⟨i, rfl, ite2 (fun h3 => ?_) (fun h3 => ⟨j, rfl, ite2 (fun h4 => ?_) (fun h4 => ?_)⟩)⟩
            · rw [tabB_ints ha (.inl (.inl (of_decide_eq_true h3)))] at q
              exact q H (Same.refl _)
            · rw [tabB_ints ha (.inl (.inr (of_decide_eq_true h4)))] at q
              exact q H (Same.refl _)
            · have h3 : ¬ i < 0 := fun z => h3 (decide_eq_true z)
              have h4 : ¬ j < 0 := fun z => h4 (decide_eq_true z)
              obtain ⟨t3, h5, h6⟩ := kn_list (K := K) kz
              refine ⟨_, _, ⟨rfl, rfl⟩, _, rfl, _, h5, _, h6, ite2 (fun hc2 => ?_) (fun hc2 => ?_)⟩
              · rw [tabB_ints ha (.inr (by simpa using hc2))] at q
                exact q H (Same.refl _)
              · obtain ⟨r, rows, rfl, hr1, hrl⟩ := li_of kz (by simpa using hc2)
                rw [tabB_rows ha hr1 h3 h4] at q
                have ed : decide (V.int ((rows.length : Nat) : Int) = V.int i) = decide ((rows.length : Int) = i) := by simp only [V.int.injEq]
                refine ⟨r, rfl, rows, .inl (SqL.of hr1), rfl, ite2 (fun hn2 => ?_) (fun hn2 => ?_)⟩
                · rw [ed] at hn2
                  rw [show decide ((rows.length : Int) = i) = false by simpa using hn2, Bool.false_and] at q
                  exact q H (Same.refl _)
                · rw [ed] at hn2
                  rw [show decide ((rows.length : Int) = i) = true by simpa using hn2, Bool.true_and] at q
                  refine ⟨_, rfl, r, rfl, ⟨_, SqL.of hr1⟩, fun D hD => comp_bl_l (fun k => rowB p j H (rows.getD k .non)) hr1 hD (by omega) (fun k y H' Q' hy s' q' => ?_) fun H' s' e' => ⟨D, rfl, _, SqL.of e', ?_⟩⟩
                  · have wy := hz r rows rfl hr1 y (List.mem_of_getElem? hy)
                    refine ⟨_, rfl, _, rfl, _, rfl, g, p, j, y, rfl, ⟨dx, s' _ _ hg⟩, hp, wy.same s', fun H2 s2 => ?_⟩
                    rw [rowB_same wy s', ← getD_of hy]
                    exact q' H2 s2
                  · rw [all_at]
                    exact q H' s'
end
end Pf
set_option maxHeartbeats 1000000
namespace Pf
open PySem L2 PyProof.Rows
section
variable {P : Program} {w : World} {K : PySem.W.Frag} {mg : Str → Option Value} {base : Heap} {C G S : Addr}
def NumO (H : Hp) (p : Int) (B : Nat) (v : V) : Prop := ∃ x, NumV H p v x ∧ Isn p x ∧ Bd B x
theorem NumO.same {H H' : Hp} {p : Int} {B : Nat} {v : V} (h : NumO H p B v) (s : Same H H') : NumO H' p B v := let ⟨x, a, b, c⟩ := h; ⟨x, a.same s, b, c⟩
theorem NumO.weak {H : Hp} {p : Int} {B B' : Nat} {v : V} (h : NumO H p B v) (hB : B ≤ B') : NumO H p B' v := let ⟨x, a, b, c⟩ := h; ⟨x, a, b, Nat.le_trans c.1 hB, Nat.le_trans c.2 hB⟩
theorem NumO.put {H : Hp} {D : Addr} {l : List V} {o : HO} {p : Int} {B : Nat} {v : V} (h : NumO H p B v) (hD : H D = some (.lst l)) : NumO (upd H D o) p B v := by
  obtain ⟨x, a, b, c⟩ := h
  refine ⟨x, ?_, b, c⟩
  by_cases hp : p = 0
  · obtain ⟨t, rfl, ht⟩ := a.ref hp
    exact NumV.tup hp (by rw [upd_ne (ne_of ht hD (by intro z; cases z))]; exact ht)
  · obtain rfl := a.int hp
    exact NumV.of hp
theorem NumV.ext {l : Addr} {H H' : Hp} {p : Int} {v : V} {x : Int × Int} (h : NumV H p v x) (b : Bag H l) (e : Ext l H H') : NumV H' p v x := by
  by_cases hp : p = 0
  · obtain ⟨t, rfl, ht⟩ := h.ref hp
    obtain ⟨a, c, hb, _⟩ := b
    exact NumV.tup hp (e _ _ (ne_of ht hb (by intro z; cases z)) ht)
  · obtain rfl := h.int hp
    exact NumV.of hp
theorem NumO.ext {l : Addr} {H H' : Hp} {p : Int} {B : Nat} {v : V} (h : NumO H p B v) (b : Bag H l) (e : Ext l H H') : NumO H' p B v := let ⟨x, a, c, d⟩ := h; ⟨x, a.ext b e, c, d⟩
def RowO (H : Hp) (p : Int) (B : Nat) (wd : Int) (a : Addr) : Prop := ∃ xs, H a = some (.lst xs) ∧ (xs.length : Int) = wd ∧ ∀ x ∈ xs, NumO H p B x
theorem RowO.same {H H' : Hp} {p wd : Int} {B : Nat} {a : Addr} (h : RowO H p B wd a) (s : Same H H') : RowO H' p B wd a := let ⟨xs, h1, h2, h3⟩ := h; ⟨xs, s _ _ h1, h2, fun x hx => (h3 x hx).same s⟩
theorem RowO.weak {H : Hp} {p wd : Int} {B B' : Nat} {a : Addr} (h : RowO H p B wd a) (hB : B ≤ B') : RowO H p B' wd a := let ⟨xs, h1, h2, h3⟩ := h; ⟨xs, h1, h2, fun x hx => (h3 x hx).weak hB⟩
theorem RowO.ext {l : Addr} {H H' : Hp} {p wd : Int} {B : Nat} {a : Addr} (h : RowO H p B wd a) (b : Bag H l) (e : Ext l H H') (n : a ≠ l) : RowO H' p B wd a := let ⟨xs, h1, h2, h3⟩ := h; ⟨xs, e _ _ n h1, h2, fun x hx => (h3 x hx).ext b e⟩
theorem RowO.put {H : Hp} {D : Addr} {l : List V} {o : HO} {p wd : Int} {B : Nat} {a : Addr} (h : RowO H p B wd a) (hD : H D = some (.lst l)) (n : a ≠ D) : RowO (upd H D o) p B wd a := let ⟨xs, h1, h2, h3⟩ := h; ⟨xs, by rw [upd_ne n]; exact h1, h2, fun x hx => (h3 x hx).put hD⟩
theorem map_ref_snoc (rs : List Addr) (a : Addr) : rs.map V.ref ++ [.ref a] = (rs ++ [a]).map V.ref := by rw [List.map_append]; rfl
abbrev BB : Nat := 999999999999999999999999999999
theorem ixN_last {n : Nat} (h : 0 < n) : ixN n (-1) = some (n - 1) := by
  unfold ixN
  rw [if_neg (by omega), if_pos (by omega)]
  congr 1
  omega
theorem set_refs (rs : List Addr) (j : Nat) (a : Addr) : (rs.map V.ref).set j (.ref a) = (rs.set j a).map V.ref := (List.map_set).symm
theorem get_refs {rs : List Addr} {j : Nat} (h : j < rs.length) : (rs.map V.ref)[j]? = some (.ref rs[j]) := by rw [List.getElem?_map, List.getElem?_eq_getElem h]; rfl
structure Tab (H : Hp) (p : Int) (hh wd : Int) (t r : Addr) (rs : List Addr) : Prop where
  tup : H t = some (.tup [.int hh, .int wd, .ref r])
  lst : H r = some (.lst (rs.map V.ref))
  len : (rs.length : Int) = hh
  row : ∀ a ∈ rs, RowO H p BB wd a
  nin : r ∉ rs
theorem Tab.same {H H' : Hp} {p hh wd : Int} {t r : Addr} {rs : List Addr} (h : Tab H p hh wd t r rs) (s : Same H H') : Tab H' p hh wd t r rs := ⟨s _ _ h.tup, s _ _ h.lst, h.len, fun a ha => (h.row a ha).same s, h.nin⟩
def Fl (v : V) : Prop := v = .non ∨ (∃ b, v = .bl b) ∨ (∃ i, v = .int i) ∨ ∃ s, v = .str s
theorem Fl.kn {H : Hp} {v : V} (h : Fl v) : Kn H v := by
  rcases h with h | h | h | h
  · exact .inl h
  · exact .inr (.inl h)
  · exact .inr (.inr (.inl h))
  · exact .inr (.inr (.inr (.inl h)))
theorem wfn_flat {H : Hp} {v : V} (h : Kn H v) (hn : ∀ a, v ≠ .ref a) : WfN H v := ⟨h, fun a xs e => absurd e (hn a)⟩
theorem wfn_tup {H : Hp} {a : Addr} {xs : List V} (h : H a = some (.tup xs)) (hl : xs.length ≤ 1000) (hk : ∀ y ∈ xs, Kn H y ∧ TopV y) : WfN H (.ref a) := ⟨.tup h hl, fun b ys e1 e2 y hy => by cases e1; rw [h] at e2; cases e2; exact hk y hy⟩
def WfRows (H : Hp) (v : V) : Prop := Kn H v ∧ ∀ r rows, v = .ref r → H r = some (.lst rows) → ∀ z ∈ rows, WfR H z
theorem NumO.wf {H : Hp} {p : Int} {B : Nat} {v : V} (h : NumO H p B v) (hB : B ≤ 100000000000000000000000000000000 := by decide) : WfN H v := by
  obtain ⟨x, nv, _, bd⟩ := h
  by_cases hp : p = 0
  · obtain ⟨t, rfl, ht⟩ := nv.ref hp
    refine wfn_tup ht (by show 2 ≤ 1000; decide) fun u hu => ?_
    simp only [List.mem_cons, List.not_mem_nil, or_false] at hu
    rcases hu with rfl | rfl
    · exact ⟨Kn.int, fun j e => by cases e; exact Top.of (Nat.le_trans bd.1 (by omega))⟩
    · exact ⟨Kn.int, fun j e => by cases e; exact Top.of (Nat.le_trans bd.2 (by omega))⟩
  · obtain rfl := nv.int hp
    exact wfn_flat Kn.int (by intro a z; cases z)
theorem RowO.wf {H : Hp} {p wd : Int} {B : Nat} {a : Addr} (h : RowO H p B wd a) (w24 : wd ≤ 24) (hB : B ≤ 100000000000000000000000000000000 := by decide) : WfR H (.ref a) := by
  obtain ⟨xs, h1, h2, h3⟩ := h
  exact ⟨.lst h1 (by omega), fun b ys e1 e2 y hy => by cases e1; rw [h1] at e2; cases e2; exact (h3 y hy).wf hB⟩
theorem wfs_lst {H : Hp} {a : Addr} {xs : List V} (h : H a = some (.lst xs)) (hl : xs.length ≤ 1000) (hk : ∀ y ∈ xs, WfR H y) : WfRows H (.ref a) := ⟨.lst h hl, fun b ys e1 e2 y hy => by cases e1; rw [h] at e2; cases e2; exact hk y hy⟩
theorem wft_tup {H : Hp} {a : Addr} {xs : List V} (h : H a = some (.tup xs)) (hl : xs.length ≤ 1000) (hk : ∀ y ∈ xs, WfRows H y) : WfT H (.ref a) := ⟨.tup h hl, fun b ys e1 e2 y hy => by cases e1; rw [h] at e2; cases e2; exact hk y hy⟩
theorem wfs_flat {H : Hp} {v : V} (h : Fl v) : WfRows H v := ⟨h.kn, fun a xs e => by subst e; rcases h with h | ⟨_, h⟩ | ⟨_, h⟩ | ⟨_, h⟩ <;> cases h⟩
theorem fi {i : Int} : Fl (.int i) := .inr (.inr (.inl ⟨_, rfl⟩))
theorem fb {i : Bool} : Fl (.bl i) := .inr (.inl ⟨_, rfl⟩)
theorem Tab.wfs {H : Hp} {p hh wd : Int} {t r : Addr} {rs : List Addr} (h : Tab H p hh wd t r rs) (h24 : hh ≤ 24) (w24 : wd ≤ 24) : WfRows H (.ref r) := by
  have := h.len
  exact wfs_lst h.lst (by rw [List.length_map]; omega) fun y hy => by obtain ⟨a, ha, rfl⟩ := List.mem_map.mp hy; exact (h.row a ha).wf w24
theorem three {H : Hp} {x y z : V} (hx : WfRows H x) (hy : WfRows H y) (hz : WfRows H z) : ∀ u ∈ [x, y, z], WfRows H u := fun u hu => by
  simp only [List.mem_cons, List.not_mem_nil, or_false] at hu
  rcases hu with rfl | rfl | rfl
  · exact hx
  · exact hy
  · exact hz
theorem WfRows.same {H H' : Hp} {v : V} (h : WfRows H v) (s : Same H H') : WfRows H' v :=
  ⟨h.1.same s, fun a xs e1 e2 y hy => by subst e1; exact (h.2 a xs rfl (h.1.back s e2) y hy).same s⟩
theorem Tab.ext {l : Addr} {H H' : Hp} {p hh wd : Int} {t r : Addr} {rs : List Addr} (h : Tab H p hh wd t r rs) (b : Bag H l) (e : Ext l H H') (nt : t ≠ l) (nr : r ≠ l) (ns : l ∉ rs) : Tab H' p hh wd t r rs :=
  ⟨e _ _ nt h.tup, e _ _ nr h.lst, h.len, fun a ha => (h.row a ha).ext b e (fun z => ns (z ▸ ha)), h.nin⟩
theorem Tab.wft {H : Hp} {p hh wd : Int} {t r : Addr} {rs : List Addr} (h : Tab H p hh wd t r rs) (h24 : hh ≤ 24) (w24 : wd ≤ 24) : WfT H (.ref t) :=
  wft_tup h.tup (by show 3 ≤ 1000; decide) (three (wfs_flat fi) (wfs_flat fi) (h.wfs h24 w24))
theorem NumO.is {H : Hp} {p : Int} {B : Nat} {v : V} (h : NumO H p B v) : numB p H v = true := by
  obtain ⟨x, nv, ix, _⟩ := h
  by_cases hp : p = 0
  · obtain ⟨t, rfl, ht⟩ := nv.ref hp
    rw [numB_fr hp, frB_ints ht]
    rcases ix with ⟨_, lo⟩ | ⟨h, _⟩
    · have := lo.1
      rw [decide_eq_true (show 1 ≤ x.2 by omega), decide_eq_true lo.2]
      rfl
    · omega
  · obtain rfl := nv.int hp
    rw [numB_int hp]
    rcases ix with ⟨h, _⟩ | ⟨_, h1, h2, _⟩
    · exact absurd h hp
    · rw [decide_eq_true h1, decide_eq_true h2]
      rfl
theorem RowO.is {H : Hp} {p wd : Int} {B : Nat} {a : Addr} (h : RowO H p B wd a) : rowB p wd H (.ref a) = true := by
  obtain ⟨xs, h1, h2, h3⟩ := h
  rw [rowB_li h1, decide_eq_true h2, Bool.true_and]
  exact List.all_eq_true.mpr fun x hx => (h3 x hx).is
theorem Tab.is {H : Hp} {p hh wd : Int} {t r : Addr} {rs : List Addr} (h : Tab H p hh wd t r rs) (h0 : 0 ≤ hh) (w0 : 0 ≤ wd) : tabB p H (.ref t) = true := by
  rw [tabB_rows h.tup h.lst (by omega) (by omega), List.length_map, decide_eq_true h.len, Bool.true_and]
  exact List.all_eq_true.mpr fun y hy => by obtain ⟨a, ha, rfl⟩ := List.mem_map.mp hy; exact (h.row a ha).is
end
end Pf
set_option maxHeartbeats 1000000
namespace Pf
open PySem L2 PyProof.Rows
section
variable {P : Program} {w : World} {K : PySem.W.Frag} {mg : Str → Option Value} {base : Heap} {C G S : Addr}
theorem num_eq {H : Hp} {p : Int} {v u : V} {x : Int × Int} {Q : VK} (h : NumV H p v x) (h' : NumV H p u x) (q : Q (.bl true) H) : rEqN K v u H Q := by
  by_cases hp : p = 0
  · obtain ⟨t, rfl, ht⟩ := h.ref hp
    obtain ⟨t', rfl, ht'⟩ := h'.ref hp
    exact .inr (pair_eq false ht ht' q)
  · obtain rfl := h.int hp
    obtain rfl := h'.int hp
    exact .inl ⟨rfl, by rw [decide_eq_true rfl]; exact q⟩
def spInv1 : Sp := fun vs H Q _ => ∃ p : Int, vs = [.int 1, .int p] ∧ 1 < p ∧ ∀ H', Same H H' → Q (.int 1) H'
theorem ok_inv {f : Addr} {fd : FuncData} (F : Fun K "inverse" "inverse" s_inverse f fd) (T : Txt K mg C G S) : FnOk P w K mg base CX0 1 f fd ["rest", "prime"] spInv1 := by
  have nd := sc_inverse.nd
  refine F.ok sc_inverse (fun vs H Q E h => ?_) (fun cdv A outer s H vs Q E hr h => ?_)
  · obtain ⟨p, rfl, _⟩ := h
    rfl
  · obtain ⟨p, rfl, hp, q⟩ := h
    refine ⟨_, (@pss_cons _ _ _ _ _ (ps_par (i := 2) (j := 3) rfl nd rfl rfl (by decide) rfl rfl (@pa_c _ _ _ _ _ (pv 0) (@pa_c _ _ _ _ _ (pv 1) pa_nil (by rfl)) (by rfl)) rfl) (@pss_cons _ _ _ _ _ (ps_asg (@pe_tup _ _ _ _ _ (@pa_c _ _ _ _ _ pe_int (@pa_c _ _ _ _ _ pe_int pa_nil (by rfl)) (by rfl))) (@pg_tup _ _ _ _ _ 2 rfl (@pgs_cons _ _ _ _ _ (@pg_name _ _ 4 _ nd rfl (Or.inl rfl) (Or.inl rfl)) (@pgs_cons _ _ _ _ _ (@pg_name _ _ 5 _ nd rfl (Or.inl rfl) (Or.inl rfl)) (@pgs_nil _) (by rfl)) (by rfl)) (by rfl) (by rfl))) (@pss_cons _ _ _ _ _ (ps_while PassesOwn.never (pt_cmpR op_gt (pv 2) pe_int (nomark _)) (@pss_cons _ _ _ _ _ (ps_set (i := 6) nd rfl (Or.inl rfl) (@pe_op _ _ _ _ _ _ _ _ op_fdiv (pv 3) (pv 2))) (@pss_cons _ _ _ _ _ (ps_par (i := 2) (j := 3) rfl nd rfl rfl (by decide) rfl rfl (@pa_c _ _ _ _ _ (@pe_op _ _ _ _ _ _ _ _ op_sub (pv 3) (@pe_op _ _ _ _ _ _ _ _ op_mul (pv 6) (pv 2))) (@pa_c _ _ _ _ _ (pv 2) pa_nil (by rfl)) (by rfl)) rfl) (@pss_one _ _ _ (ps_par (i := 4) (j := 5) rfl nd rfl rfl (by decide) rfl rfl (@pa_c _ _ _ _ _ (@pe_op _ _ _ _ _ _ _ _ op_sub (pv 5) (@pe_op _ _ _ _ _ _ _ _ op_mul (pv 6) (pv 4))) (@pa_c _ _ _ _ _ (pv 4) pa_nil (by rfl)) (by rfl)) rfl))))) (@pss_one _ _ _ (@ps_ret _ _ _ _ (@pe_op _ _ _ _ _ _ _ _ op_mod (pv 4) (pv 1))))))), ?_⟩
    walk_at "wp"
    refine ⟨_, _, ⟨rfl, rfl⟩, by decide, fun t ht => ⟨_, SqT.of upd_same, rfl, _, _, rfl, _, _, rfl, rfl, ?_⟩⟩
    refine ⟨fun n σ H2 => σ = [some (V.int 1), some (V.int p), some (V.int 1), some (V.int p), some (V.int 1), some (V.int 0), none] ∧ H2 = upd H t (.tup [V.int 1, V.int 0]), ⟨0, rfl, rfl⟩, ?_⟩
    rintro n σ H2 ⟨rfl, rfl⟩
    walk_at "wp"
    have e : (1 : Int) % p = 1 := Int.emod_eq_of_lt (by decide) hp
    refine iteN (by decide) ⟨by omega, ?_⟩
    rw [e]
    exact q _ (Same.new ht)
end
end Pf
set_option maxHeartbeats 1000000
namespace Pf
open PySem L2 PyProof.Rows
section
variable {P : Program} {w : World} {K : PySem.W.Frag} {mg : Str → Option Value} {base : Heap} {C G S : Addr}
theorem num_self {H : Hp} {p : Int} {B n : Nat} {v : V} (h : NumO H p B v) : EqD K H n v v true := by
  obtain ⟨x, nv, _⟩ := h
  by_cases hp : p = 0
  · obtain ⟨t, rfl, _⟩ := nv.ref hp
    exact EqD.same
  · obtain rfl := nv.int hp
    have := EqD.flat (K := K) (H := H) (n := n) (x := .int x.1) (y := .int x.1) rfl rfl
    rwa [show eqV (.int x.1) (.int x.1) = true by simp [eqV]] at this
theorem int_self {H : Hp} {n : Nat} {i : Int} : EqD K H n (.int i) (.int i) true := by
  have := EqD.flat (K := K) (H := H) (n := n) (x := .int i) (y := .int i) rfl rfl
  rwa [show eqV (.int i) (.int i) = true by simp [eqV]] at this
theorem rep_all (n : Nat) : (List.replicate n true).all id = true := by simp
theorem list_eq {H : Hp} {n : Nat} {a c : Addr} {xs ys : List V} (ha : H a = some (.lst xs)) (hc : H c = some (.lst ys)) (hl : xs.length = ys.length) (he : ∀ (j : Nat) x y, xs[j]? = some x → ys[j]? = some y → EqD K H n x y true) : EqD K H (n + 1) (.ref a) (.ref c) true := by
  by_cases h : a = c
  · subst h; exact EqD.same
  · have := EqD.list (bs := List.replicate xs.length true) h (SqL.of ha) (SqL.of hc) hl List.length_replicate (fun j x y b e1 e2 e3 => by
      rw [List.getElem?_replicate] at e3
      split at e3
      · cases e3; exact he j x y e1 e2
      · cases e3)
    rwa [rep_all] at this
theorem tup_eq {H : Hp} {n : Nat} {a c : Addr} {xs ys : List V} (ha : H a = some (.tup xs)) (hc : H c = some (.tup ys)) (hl : xs.length = ys.length) (he : ∀ (j : Nat) x y, xs[j]? = some x → ys[j]? = some y → EqD K H n x y true) : EqD K H (n + 1) (.ref a) (.ref c) true := by
  by_cases h : a = c
  · subst h; exact EqD.same
  · have := EqD.tuple (bs := List.replicate xs.length true) h (SqT.of ha) (SqT.of hc) hl List.length_replicate (fun j x y b e1 e2 e3 => by
      rw [List.getElem?_replicate] at e3
      split at e3
      · cases e3; exact he j x y e1 e2
      · cases e3)
    rwa [rep_all] at this
structure TabC (H : Hp) (p hh wd : Int) (t r : Addr) (rs : List Addr) (M : List (List V)) : Prop where
  tab : Tab H p hh wd t r rs
  con : ∀ (i : Nat) (a : Addr), rs[i]? = some a → H a = some (.lst (M.getD i []))
theorem TabC.same {H H' : Hp} {p hh wd : Int} {t r : Addr} {rs : List Addr} {M : List (List V)} (h : TabC H p hh wd t r rs M) (s : Same H H') : TabC H' p hh wd t r rs M := ⟨h.tab.same s, fun i a e => s _ _ (h.con i a e)⟩
theorem TabC.eq {H : Hp} {p hh wd : Int} {t r t' r' : Addr} {rs rs' : List Addr} {M : List (List V)} {n : Nat} (h : TabC H p hh wd t r rs M) (h' : TabC H p hh wd t' r' rs' M) : EqD K H (n + 3) (.ref t) (.ref t') true := by
  have l1 := h.tab.len
  have l2 := h'.tab.len
  refine tup_eq h.tab.tup h'.tab.tup rfl fun j x y e1 e2 => ?_
  match j, e1, e2 with
  | 0, e1, e2 => cases e1; cases e2; exact int_self
  | 1, e1, e2 => cases e1; cases e2; exact int_self
  | 2, e1, e2 =>
    cases e1; cases e2
    refine list_eq h.tab.lst h'.tab.lst (by rw [List.length_map, List.length_map]; omega) fun k x y e1 e2 => ?_
    rw [List.getElem?_map] at e1 e2
    cases f1 : rs[k]? with
    | none => rw [f1] at e1; cases e1
    | some a =>
      cases f2 : rs'[k]? with
      | none => rw [f2] at e2; cases e2
      | some c =>
        rw [f1] at e1; cases e1
        rw [f2] at e2; cases e2
        refine list_eq (h.con k a f1) (h'.con k c f2) rfl fun j x y e1 e2 => ?_
        rw [e1] at e2
        cases e2
        obtain ⟨xs, hx, _, hn⟩ := h.tab.row a (List.mem_of_getElem? f1)
        rw [h.con k a f1] at hx
        cases hx
        exact num_self (hn x (List.mem_of_getElem? e1))
  | j + 3, e1, e2 => cases e1
def Sizes (H : Hp) (z : Addr) (ns : List Int) : Prop := H z = some (.lst (ns.map V.int)) ∧ ns.length ≤ 8 ∧ ∀ n ∈ ns, 0 ≤ n ∧ n ≤ 24
theorem Sizes.same {H H' : Hp} {z : Addr} {ns : List Int} (h : Sizes H z ns) (s : Same H H') : Sizes H' z ns := ⟨s _ _ h.1, h.2⟩
def spSz (C : Addr) : Sp := fun vs H Q _ => ∃ (d z lp : Addr) (m : Int) (xs : List V) (ns : List Int), vs = [.ref d, .ref z] ∧ DrawAt C H d m lp xs ∧ Sizes H z ns ∧ (ns.length : Int) = m ∧ ∀ H', Same H H' → Q (.bl true) H'
theorem ok_sz {f : Addr} {fd : FuncData} (F : Fun K "are_sizes" "are_sizes" s_are_sizes f fd) (T : Txt K mg C G S) (C_is_whole : Cal P w K mg base "is_whole" 1 spWhole) : FnOk P w K mg base CX0 2 f fd ["drawing", "thing"] (spSz C) := by
  have nd := sc_are_sizes.nd
  refine F.ok sc_are_sizes (fun vs H Q E h => ?_) (fun cdv A outer s H vs Q E hr h => ?_)
  · obtain ⟨d, z, lp, m, xs, ns, rfl, _⟩ := h
    rfl
  · obtain ⟨d, z, lp, m, xs, ns, rfl, ⟨dx, hd, hlp⟩, ⟨hz, h8, hn⟩, hm, q⟩ := h
    refine ⟨_, (@pss_cons _ _ _ _ _ (@ps_if _ _ _ _ _ _ _ _ (PW.pt (pw_or (pt_not (pt_val (pe_cB call_isinst rfl T.n_isinstance boot_isinstance (@pa_c _ _ _ _ _ (pv 1) (@pa_c _ _ _ _ _ (pe_ty rfl T.n_list boot_list) pa_nil (by rfl)) (by rfl))))) (pw_or1 (pt_cmpR op_ne (pe_cB call_len_seq rfl T.n_len PySem.boot_len (@pa_c _ _ _ _ _ (pv 1) pa_nil (by rfl))) (pe_fld (pv 0) rfl) (nomark _))))) (@pss_one _ _ _ (@ps_ret _ _ _ _ pe_bl)) pss_nil) (@pss_one _ _ _ (@ps_ret _ _ _ _ (pe_cB (call_all rfl) rfl T.n_all boot_all (@pa_c _ _ _ _ _ (pe_comp (own := ["size"]) (fr := []) rfl (bl_of (by kernel_rfl)) (pi_list (pv 1)) (fun _ _ _ _ => ⟨(@pg_name _ _ 0 _ (show (["size"] : List Str).Nodup by decide +kernel) rfl (Or.inl rfl) (Or.inr rfl)), pts_nil, (pe_and (pe_c C_is_whole (hr.mono (by decide)) rfl (@pa_c _ _ _ _ _ (pv 0) pa_nil (by rfl))) (pe_one (pe_cmpR op_ge (pv 0) pe_int (nomark _))))⟩)) pa_nil (by rfl)))))), ?_⟩
    walk_at "wp"
    refine ⟨_, _, ⟨rfl, rfl⟩, _, rfl, _, .lst hz, true, k_list_list K, iteN (by decide) ⟨_, .inl (SqL.of hz), C, dx, _, hd, T.cl_Drawing, T.nM, _, flds_many m lp, rfl, iteN ?_ ⟨_, rfl, z, rfl, ⟨_, SqL.of hz⟩, fun D hD => comp_bl_l (fun _ => true) hz hD (by rw [List.length_map]; omega) (fun k x H' Q' hx s' q' => ?_) fun H' s' e' => ⟨D, rfl, _, SqL.of e', ?_⟩⟩⟩⟩
    · rw [decide_eq_true (by rw [List.length_map, hm])]; decide
    · rw [List.getElem?_map] at hx
      cases e : ns[k]? with
      | none => rw [e] at hx; cases hx
      | some n =>
        rw [e] at hx
        cases hx
        have n0 := (hn n (List.mem_of_getElem? e)).1
        refine ⟨_, rfl, n, rfl, true, rfl, iteT ⟨_, rfl, _, _, rfl, rfl, ?_⟩⟩
        show Q' (V.bl (decide (0 ≤ n))) H'
        rw [decide_eq_true n0]
        exact q' H' (Same.refl _)
    · rw [all_true]
      exact q H' s'
def spTo (G : Addr) : Sp := fun vs H Q _ => ∃ (g t r : Addr) (p hh wd : Int) (rs : List Addr), vs = [.ref g, .int hh, .int wd, .ref t] ∧ GAt G H g p ∧ GroundP p ∧ Tab H p hh wd t r rs ∧ 0 ≤ hh ∧ hh ≤ 24 ∧ 0 ≤ wd ∧ wd ≤ 24 ∧ ∀ H', Same H H' → Q (.bl true) H'
theorem ok_to {f : Addr} {fd : FuncData} (F : Fun K "is_table_of" "is_table_of" s_is_table_of f fd) (T : Txt K mg C G S) (C_is_table : Cal P w K mg base "is_table" 5 (spTabI G)) : FnOk P w K mg base CX0 6 f fd ["ground", "high", "wide", "thing"] (spTo G) := by
  have nd := sc_is_table_of.nd
  refine F.ok sc_is_table_of (fun vs H Q E h => ?_) (fun cdv A outer s H vs Q E hr h => ?_)
  · obtain ⟨g, t, r, p, hh, wd, rs, rfl, _⟩ := h
    rfl
  · obtain ⟨g, t, r, p, hh, wd, rs, rfl, hg, hp, tb, h0, h24, w0, w24, q⟩ := h
    refine ⟨_, (@pss_one _ _ _ (@ps_ret _ _ _ _ (pe_and (pe_c C_is_table (hr.mono (by decide)) rfl (@pa_c _ _ _ _ _ (pv 0) (@pa_c _ _ _ _ _ (pv 3) pa_nil (by rfl)) (by rfl))) (pe_and (pe_cmpR op_eq (@pe_ix _ _ _ _ _ _ _ ix_tup (pv 3) pe_int (fun _ _ => rfl)) (pv 1) (nomark _)) (pe_one (pe_cmpR op_eq (@pe_ix _ _ _ _ _ _ _ ix_tup (pv 3) pe_int (fun _ _ => rfl)) (pv 2) (nomark _))))))), ?_⟩
    walk_at "wp"
    exact ⟨g, p, .ref t, rfl, hg, hp, tb.wft h24 w24, fun H1 s1 => ⟨_, rfl, iteP (tb.is h0 w0) ⟨_, SqT.of (s1 _ _ tb.tup), _, rfl, rfl, iteP (decide_eq_true rfl) ⟨_, SqT.of (s1 _ _ tb.tup), _, rfl, rfl, by rw [decide_eq_true rfl]; exact q H1 s1⟩⟩⟩⟩
theorem sh_mk3 {cap : L2.St} {a b c : Option V} : Sh 3 cap (a :: b :: c :: cap) := ⟨[a, b, c], rfl, rfl⟩
theorem sh_three {cap σ : L2.St} (h : Sh 3 cap σ) : ∃ a b c, σ = a :: b :: c :: cap := by
  obtain ⟨o, h1, rfl⟩ := h
  match o, h1 with
  | [a, b, c], _ => exact ⟨a, b, c, rfl⟩
theorem at_int {ns : List Int} {i : Int} (h0 : 0 ≤ i) (h1 : i < ns.length) : atI (ns.map V.int) i = some (.int (ns.getD i.toNat 0)) := by
  refine atI_at h0 ?_
  rw [List.getElem?_map, List.getD_eq_getElem?_getD, List.getElem?_eq_getElem (show i.toNat < ns.length by omega)]
  rfl
def spTs (C G : Addr) : Sp := fun vs H Q _ => ∃ (g d z l lp : Addr) (p m : Int) (xs : List V) (ps : List (Int × Int)) (ns : List Int) (ts : List Addr), vs = [.ref g, .ref d, .ref z, .ref l] ∧ GAt G H g p ∧ GroundP p ∧ DrawAt C H d m lp xs ∧ Prs H xs ps ∧ InP m ps ∧ ps.length ≤ 9 ∧ Sizes H z ns ∧ (ns.length : Int) = m ∧
  H l = some (.lst (ts.map V.ref)) ∧ ts.length = ps.length ∧ (∀ (i : Nat) t q, ts[i]? = some t → ps[i]? = some q → ∃ r rs, Tab H p (ns.getD q.2.toNat 0) (ns.getD q.1.toNat 0) t r rs) ∧ ∀ H', Same H H' → Q (.bl true) H'
theorem ok_ts {f : Addr} {fd : FuncData} (F : Fun K "are_tables" "are_tables" s_are_tables f fd) (T : Txt K mg C G S) (C_is_table_of : Cal P w K mg base "is_table_of" 6 (spTo G)) : FnOk P w K mg base CX0 7 f fd ["ground", "drawing", "sizes", "thing"] (spTs C G) := by
  have nd := sc_are_tables.nd
  refine F.ok sc_are_tables (fun vs H Q E h => ?_) (fun cdv A outer s H vs Q E hr h => ?_)
  · obtain ⟨g, d, z, l, lp, p, m, xs, ps, ns, ts, rfl, _⟩ := h
    rfl
  · obtain ⟨g, d, z, l, lp, p, m, xs, ps, ns, ts, rfl, hg, hp, ⟨dx, hd, hlp⟩, pr, ip, p9, hz, hm, hl, hlen, tb, q⟩ := h
    refine ⟨_, (@pss_cons _ _ _ _ _ (@ps_if _ _ _ _ _ _ _ _ (PW.pt (pw_or (pt_not (pt_val (pe_cB call_isinst rfl T.n_isinstance boot_isinstance (@pa_c _ _ _ _ _ (pv 3) (@pa_c _ _ _ _ _ (pe_ty rfl T.n_list boot_list) pa_nil (by rfl)) (by rfl))))) (pw_or1 (pt_cmpR op_ne (pe_cB call_len_seq rfl T.n_len PySem.boot_len (@pa_c _ _ _ _ _ (pv 3) pa_nil (by rfl))) (pe_cB call_len_seq rfl T.n_len PySem.boot_len (@pa_c _ _ _ _ _ (pe_fld (pv 1) rfl) pa_nil (by rfl))) (nomark _))))) (@pss_one _ _ _ (@ps_ret _ _ _ _ pe_bl)) pss_nil) (@pss_one _ _ _ (@ps_ret _ _ _ _ (pe_cB (call_all rfl) rfl T.n_all boot_all (@pa_c _ _ _ _ _ (pe_comp (own := ["tail", "head", "table"]) (fr := [("ground", 0), ("sizes", 2)]) rfl (bl_of (by kernel_rfl)) (pi_zip rfl T.n_zip (@pa_c _ _ _ _ _ (pe_fld (pv 1) rfl) (@pa_c _ _ _ _ _ (pv 3) pa_nil (by rfl)) (by rfl))) (fun _ _ _ _ => ⟨(@pg_tupK _ K rfl _ _ _ _ 2 rfl (@pgs_cons _ _ _ _ _ (@pg_tupK _ K rfl _ _ _ _ 2 rfl (@pgs_cons _ _ _ _ _ (@pg_name _ _ 0 _ (show (["tail", "head", "table", "ground", "sizes"] : List Str).Nodup by decide +kernel) rfl (Or.inl rfl) (Or.inr rfl)) (@pgs_cons _ _ _ _ _ (@pg_name _ _ 1 _ (show (["tail", "head", "table", "ground", "sizes"] : List Str).Nodup by decide +kernel) rfl (Or.inl rfl) (Or.inr rfl)) (@pgs_nil _) (by rfl)) (by rfl)) (by rfl) (by rfl)) (@pgs_cons _ _ _ _ _ (@pg_name _ _ 2 _ (show (["tail", "head", "table", "ground", "sizes"] : List Str).Nodup by decide +kernel) rfl (Or.inl rfl) (Or.inr rfl)) (@pgs_nil _) (by rfl)) (by rfl)) (by rfl) (by rfl)), pts_nil, (pe_c C_is_table_of (hr.mono (by decide)) rfl (@pa_c _ _ _ _ _ (pv 3) (@pa_c _ _ _ _ _ (@pe_ix _ _ _ _ _ _ _ (ix_listK K rfl) (pv 4) (pv 1) (fun _ _ => rfl)) (@pa_c _ _ _ _ _ (@pe_ix _ _ _ _ _ _ _ (ix_listK K rfl) (pv 4) (pv 0) (fun _ _ => rfl)) (@pa_c _ _ _ _ _ (pv 2) pa_nil (by rfl)) (by rfl)) (by rfl)) (by rfl)))⟩)) pa_nil (by rfl)))))), ?_⟩
    walk_at "wp"
    have hxl := pr.1
    refine ⟨_, _, ⟨rfl, rfl⟩, _, rfl, _, .lst hl, true, k_list_list K, iteN (by decide) ⟨_, .inl (SqL.of hl), C, dx, _, hd, T.cl_Drawing, T.nA, _, flds_arrows m lp, lp, rfl, _, .inl (SqL.of hlp), iteN ?_ ?_⟩⟩
    · rw [decide_eq_true (by rw [List.length_map]; omega)]; decide
    · refine ⟨_, rfl, d, C, dx, _, _, rfl, hd, T.cl_Drawing, T.nA, flds_arrows m lp, _, rfl, lp, l, rfl, ⟨_, SqL.of hlp⟩, ⟨_, SqL.of hl⟩, fun D hD => ?_⟩
      refine comp_itz (k := 3) (xs := xs) (ys := ts.map V.ref) (fun i vs H' => Same H H' ∧ H' D = some (.lst vs) ∧ vs = ((List.range i).map fun _ => true).map V.bl) (by rw [List.length_map]; omega) ⟨Same.new hD, upd_same, rfl⟩ (fun i vs H' _ pv => ⟨SqL.of (pv.1 _ _ hlp), SqL.of (pv.1 _ _ hl)⟩) ?_ ?_
      · rintro i x y pz vs σ' H' hi hx hy hpz sh ⟨s', e', rfl⟩
        obtain ⟨z1, z2, z3, rfl⟩ := sh_three sh
        have hi' : i < ps.length := by omega
        have hq : ps[i]? = some ps[i] := List.getElem?_eq_getElem hi'
        obtain ⟨ta, rfl, hta⟩ := pr.2 i x _ hx hq
        have hti : ts[i]? = some (ts[i]'(by omega)) := List.getElem?_eq_getElem (by omega)
        rw [List.getElem?_map, hti] at hy
        cases hy
        obtain ⟨r, rs, tb1⟩ := tb i _ _ hti hq
        obtain ⟨i0, i1, j0, j1⟩ := ip _ (List.mem_of_getElem? hq)
        have s0 := s'.trans (Same.new (o := .tup [V.ref ta, V.ref (ts[i]'(by omega))]) hpz)
        have hz0 := hz.same s0
        have a1 := at_int (ns := ns) i0 (by omega)
        have a2 := at_int (ns := ns) j0 (by omega)
        have b1 := hz.2.2 (ns.getD ps[i].1.toNat 0) (by rw [List.getD_eq_getElem?_getD, List.getElem?_eq_getElem (show ps[i].1.toNat < ns.length by omega)]; exact List.getElem_mem _)
        have b2 := hz.2.2 (ns.getD ps[i].2.toNat 0) (by rw [List.getD_eq_getElem?_getD, List.getElem?_eq_getElem (show ps[i].2.toNat < ns.length by omega)]; exact List.getElem_mem _)
        refine ⟨pz, _, rfl, SqT.of upd_same, rfl, _, _, rfl, ta, _, rfl, SqT.of (s0 _ _ hta), rfl, _, _, rfl, _, _, rfl, rfl, _, _, rfl, rfl, ?_⟩
        simp only [tYes, List.set_cons_zero, List.set_cons_succ, if_true]
        refine ⟨_, rfl, _, rfl, _, rfl, z, _, _, _, rfl, rfl, SqL.of hz0.1, a2, _, rfl, _, rfl, z, _, _, _, rfl, rfl, SqL.of hz0.1, a1, _, rfl, g, _, r, p, _, _, rs, rfl, hg.same s0, hp, tb1.same s0, b2.1, b2.2, b1.1, b1.2, fun H'' s'' => ?_⟩
        have s1 := (Same.new (o := .tup [V.ref ta, V.ref (ts[i]'(by omega))]) hpz).trans s''
        exact leaf (ws := ((List.range (i + 1)).map fun _ => true).map V.bl) hi sh_mk3 (s1 _ _ e') (small1000 (by rw [List.length_map, List.length_map, List.length_range]; omega)) ⟨(s'.trans s1).upd hD, by rw [upd_same, List.range_succ, List.map_append, List.map_append]; rfl, rfl⟩
      · rintro vs H' ⟨s', e', rfl⟩
        exact ⟨D, rfl, _, SqL.of e', by rw [all_true]; exact q H' s'⟩
end
end Pf
set_option maxHeartbeats 1000000
namespace Pf
open PySem L2 PyProof.Rows
section
variable {P : Program} {w : World} {K : PySem.W.Frag} {mg : Str → Option Value} {base : Heap} {C G S : Addr}
def TabF (H0 H : Hp) (p hh wd : Int) (t : Addr) (M : List (List V)) : Prop := ∃ r rs, TabC H p hh wd t r rs M ∧ H0 t = none ∧ H0 r = none ∧ ∀ a ∈ rs, H0 a = none
theorem TabF.same {H0 H H' : Hp} {p hh wd : Int} {t : Addr} {M : List (List V)} (h : TabF H0 H p hh wd t M) (s : Same H H') : TabF H0 H' p hh wd t M := let ⟨r, rs, a, b, c, d⟩ := h; ⟨r, rs, a.same s, b, c, d⟩
def Tbs (H : Hp) (p : Int) (l : Addr) (ts : List Addr) (cs : List (Int × Int × List (List V))) : Prop := H l = some (.lst (ts.map V.ref)) ∧ ts.length = cs.length ∧ cs.length ≤ 9 ∧ ∀ (i : Nat) t c, ts[i]? = some t → cs[i]? = some c → (∃ r rs, TabC H p c.1 c.2.1 t r rs c.2.2) ∧ 0 ≤ c.1 ∧ c.1 ≤ 24 ∧ 0 ≤ c.2.1 ∧ c.2.1 ≤ 24
theorem TabC.put {H : Hp} {p hh wd : Int} {t r D : Addr} {rs : List Addr} {M : List (List V)} {l : List V} {o : HO} (h : TabC H p hh wd t r rs M) (hD : H D = some (.lst l)) (nr : r ≠ D) (ns : D ∉ rs) : TabC (upd H D o) p hh wd t r rs M := by
  have nt : t ≠ D := ne_of h.tab.tup hD (by intro z; cases z)
  have na : ∀ a ∈ rs, a ≠ D := fun a ha z => ns (z ▸ ha)
  exact ⟨⟨by rw [upd_ne nt]; exact h.tab.tup, by rw [upd_ne nr]; exact h.tab.lst, h.tab.len, fun a ha => (h.tab.row a ha).put hD (na a ha), h.tab.nin⟩, fun i a e => by rw [upd_ne (na a (List.mem_of_getElem? e))]; exact h.con i a e⟩
abbrev teRow (K : PySem.W.Frag) : TE := tCB (fun xs H Q => ∃ p, xs = [V.ref p] ∧ ∃ x, (SqL K H p x ∨ SqT K H p x) ∧ ∀ (l : Addr), H l = none → Q (V.ref l) (upd H l (HO.lst x))) (tCons (tVar 0) tNil)
abbrev teTab (K : PySem.W.Frag) : TE := tTup (tCons (tVar 0) (tCons (tVar 1) (tCons (tComp 1 [] (iList K (tVar 2)) (gName 0) tYes (teRow K)) tNil)))
theorem copy_rows {r D : Addr} {rs : List Addr} {M : List (List V)} {fr : List (Str × Nat)} {σ : L2.St} {H1 : Hp} {Q : VK} (hr : H1 r = some (.lst (rs.map V.ref))) (hc : ∀ (i : Nat) (a : Addr), rs[i]? = some a → H1 a = some (.lst (M.getD i []))) (hn : rs.length ≤ 100) (hD : H1 D = none)
    (hQ : ∀ (rs' : List Addr) H', Same H1 H' → H' D = some (.lst (rs'.map V.ref)) → rs'.length = rs.length → (∀ (i : Nat) (a : Addr), rs'[i]? = some a → H' a = some (.lst (M.getD i []))) → (∀ a ∈ rs', H1 a = none ∧ a ≠ D) → Q (.ref D) H') :
    tBlock (gName 0) tYes (teRow K) (Itl K r) D (capS 1 fr σ) H1 Q := by
  refine comp_itl (xs := rs.map V.ref) (fun i vs H => ∃ rs' : List Addr, vs = rs'.map V.ref ∧ Same H1 H ∧ H D = some (.lst vs) ∧ rs'.length = i ∧ (∀ (j : Nat) (a : Addr), rs'[j]? = some a → H a = some (.lst (M.getD j []))) ∧ ∀ a ∈ rs', H1 a = none ∧ a ≠ D)
    ⟨[], rfl, Same.new hD, upd_same, rfl, fun j a e => by simp at e, fun a ha => by simp at ha⟩ (fun i vs H _ ⟨_, _, s, _⟩ => SqL.of (s _ _ hr)) ?_ (fun vs H ⟨rs', hv, s, e, hl, hc', fr'⟩ => hQ rs' H s (hv ▸ e) (by rw [hl, List.length_map]) hc' fr')
  rintro i x vs σ' H hi hx sh ⟨rs', rfl, s, e, hl, hc', fr'⟩
  obtain ⟨z, rfl⟩ := sh.one
  rw [List.length_map] at hi
  rw [get_refs hi] at hx
  cases hx
  have ha := s _ _ (hc i _ (List.getElem?_eq_getElem hi))
  simp only [tTurn, gName, tYes, List.set_cons_zero, if_true]
  refine ⟨_, rfl, _, rfl, _, .inl (SqL.of ha), fun c hc0 => ?_⟩
  have nDc : D ≠ c := ne_of_none e hc0
  have hDc : (upd H c (.lst (M.getD i []))) D = some (.lst (rs'.map V.ref)) := by rw [upd_ne nDc]; exact e
  have sc := s.trans (Same.new (o := .lst (M.getD i [])) hc0)
  refine leaf (ws := rs'.map V.ref ++ [.ref c]) (by rw [List.length_map]; exact hi) Sh.mk1 hDc (small1000 (by rw [List.length_map]; omega)) ⟨rs' ++ [c], map_ref_snoc _ _, sc.upd hD, by rw [upd_same, map_ref_snoc], by rw [List.length_append, hl]; rfl, fun j a ej => ?_, fun a ha => ?_⟩
  · by_cases hj : j < rs'.length
    · rw [List.getElem?_append_left hj] at ej
      have := hc' j a ej
      have naD := (fr' a (List.mem_of_getElem? ej)).2
      rw [upd_ne naD, upd_ne (ne_of_none this hc0)]
      exact this
    · rw [List.getElem?_append_right (by omega)] at ej
      have hj0 : j - rs'.length = 0 := by
        by_cases z : j - rs'.length = 0
        · exact z
        · rw [List.getElem?_eq_none (by simp; omega)] at ej; cases ej
      rw [hj0] at ej
      cases ej
      rw [upd_ne nDc.symm, upd_same, show j = i by omega]
  · rcases List.mem_append.mp ha with ha | ha
    · exact fr' a ha
    · rw [List.mem_singleton.mp ha]
      exact ⟨s.free hc0, nDc.symm⟩
def Sep (H : Hp) (D : Addr) (ts : List Addr) : Prop := ∃ rr : List (Addr × List Addr), rr.length = ts.length ∧ (∀ (i : Nat) t x, ts[i]? = some t → rr[i]? = some x → (∃ h w : V, H t = some (.tup [h, w, .ref x.1])) ∧ H x.1 = some (.lst (x.2.map V.ref))) ∧ (∀ x ∈ rr, x.1 ≠ D ∧ D ∉ x.2) ∧ ∀ x ∈ rr, ∀ y ∈ rr, x.1 ∉ y.2
theorem copy_tabs {l D : Addr} {p : Int} {ts : List Addr} {cs : List (Int × Int × List (List V))} {fr : List (Str × Nat)} {σ : L2.St} {H1 : Hp} {Q : VK} (hT : Tbs H1 p l ts cs) (hD : H1 D = none)
    (hQ : ∀ (ts' : List Addr) H', Same H1 H' → H' D = some (.lst (ts'.map V.ref)) → ts'.length = cs.length → (∀ (i : Nat) t c, ts'[i]? = some t → cs[i]? = some c → TabF H1 H' p c.1 c.2.1 t c.2.2) → Sep H' D ts' → Q (.ref D) H') :
    tBlock (gTup K 3 (gCons (gName 0) (gCons (gName 1) (gCons (gName 2) gNil)))) tYes (teTab K) (Itl K l) D (capS 3 fr σ) H1 Q := by
  obtain ⟨hl, hlen, h9, hc⟩ := hT
  refine comp_itl (k := 3) (xs := ts.map V.ref) (fun i vs H => ∃ (ts' : List Addr) (rr : List (Addr × List Addr)), vs = ts'.map V.ref ∧ Same H1 H ∧ H D = some (.lst vs) ∧ ts'.length = i ∧ rr.length = i ∧ (∀ x ∈ rr, ∀ y ∈ rr, x.1 ∉ y.2) ∧ (∀ x ∈ rr, x.1 ≠ D ∧ D ∉ x.2 ∧ (∃ o, H x.1 = some o) ∧ ∀ a ∈ x.2, ∃ o, H a = some o) ∧ ∀ (j : Nat) t c x, ts'[j]? = some t → cs[j]? = some c → rr[j]? = some x → TabC H p c.1 c.2.1 t x.1 x.2 c.2.2 ∧ H1 t = none ∧ H1 x.1 = none ∧ ∀ a ∈ x.2, H1 a = none)
    ⟨[], [], rfl, Same.new hD, upd_same, rfl, rfl, by simp, by simp, fun j t c x e => by simp at e⟩ (fun i vs H _ ⟨_, _, _, s, _⟩ => SqL.of (s _ _ hl)) ?_ (fun vs H ⟨ts', rr, hv, s, e, hl', hrr, sp, sD, hc'⟩ => ?_)
  rotate_left
  · have hrl : rr.length = ts'.length := by omega
    have htl : ts'.length = cs.length := by rw [hl', List.length_map, hlen]
    refine hQ ts' H s (hv ▸ e) htl (fun i t c e1 e2 => ?_) ⟨rr, hrl, fun i t x e1 e2 => ?_, fun x hx => ⟨(sD x hx).1, (sD x hx).2.1⟩, sp⟩
    · have hi : i < rr.length := by have := (List.getElem?_eq_some_iff.mp e1).1; omega
      obtain ⟨a1, a2, a3, a4⟩ := hc' i t c _ e1 e2 (List.getElem?_eq_getElem hi)
      exact ⟨_, _, a1, a2, a3, a4⟩
    · have hi : i < cs.length := by have := (List.getElem?_eq_some_iff.mp e1).1; omega
      obtain ⟨a1, _⟩ := hc' i t _ x e1 (List.getElem?_eq_getElem hi) e2
      exact ⟨⟨_, _, a1.tab.tup⟩, a1.tab.lst⟩
  rintro i x vs σ' H hi hx sh ⟨ts', rr, rfl, s, e, hl', hrr, sp, sD, hc'⟩
  obtain ⟨z1, z2, z3, rfl⟩ := sh_three sh
  rw [List.length_map] at hi
  rw [get_refs hi] at hx
  cases hx
  have hci : cs[i]? = some (cs[i]'(by omega)) := List.getElem?_eq_getElem (by omega)
  obtain ⟨⟨r, rs, tc⟩, c0, c24, w0, w24⟩ := hc i _ _ (List.getElem?_eq_getElem hi) hci
  have tcH := tc.same s
  have hrl := tc.tab.len
  refine ⟨_, _, rfl, SqT.of tcH.tab.tup, rfl, _, _, rfl, _, _, rfl, _, _, rfl, rfl, ?_⟩
  simp only [tYes, List.set_cons_zero, List.set_cons_succ, if_true]
  refine ⟨_, rfl, _, rfl, _, rfl, r, rfl, ⟨_, SqL.of tcH.tab.lst⟩, fun D2 hD2 => copy_rows (M := (cs[i]'(by omega)).2.2) tcH.tab.lst tcH.con (by omega) hD2 fun rs' H' s' hD2' hl2 hc2 fr2 => ?_⟩
  refine ⟨by show 3 ≤ sizeLine; decide, fun pt hpt => ?_⟩
  have s0 := Same.new (o := .tup [V.int (cs[i]'(by omega)).1, V.int (cs[i]'(by omega)).2.1, V.ref D2]) hpt
  have s1 := s'.trans s0
  have sA := s.trans s1
  have hDpt := s1 _ _ e
  have nDp : D ≠ pt := ne_of_none (s' _ _ e) hpt
  have nD2 : D2 ≠ D := fun z => by rw [z, e] at hD2; cases hD2
  have nDr : D ∉ rs' := fun z => by have := (fr2 D z).1; rw [e] at this; cases this
  have tcN : TabC (upd H' pt (.tup [V.int (cs[i]'(by omega)).1, V.int (cs[i]'(by omega)).2.1, V.ref D2])) p (cs[i]'(by omega)).1 (cs[i]'(by omega)).2.1 pt D2 rs' (cs[i]'(by omega)).2.2 := by
    refine ⟨⟨upd_same, s0 _ _ hD2', by omega, fun a ha => ?_, fun z => (fr2 D2 z).2 rfl⟩, fun j a ej => s0 _ _ (hc2 j a ej)⟩
    obtain ⟨j, hj, rfl⟩ := List.mem_iff_getElem.mp ha
    have hj' : j < rs.length := by omega
    obtain ⟨ys, hy, hyl, hyn⟩ := tcH.tab.row rs[j] (List.getElem_mem hj')
    rw [tcH.con j _ (List.getElem?_eq_getElem hj')] at hy
    cases hy
    exact ⟨_, s0 _ _ (hc2 j _ (List.getElem?_eq_getElem hj)), hyl, fun y hy => (hyn y hy).same s1⟩
  have sep' : ∀ x ∈ rr ++ [(D2, rs')], ∀ y ∈ rr ++ [(D2, rs')], x.1 ∉ y.2 := fun x hx y hy z => by
    rcases List.mem_append.mp hx with hx | hx <;> rcases List.mem_append.mp hy with hy | hy
    · exact sp x hx y hy z
    · rw [List.mem_singleton.mp hy] at z
      obtain ⟨o, ho⟩ := (sD x hx).2.2.1
      have := (fr2 x.1 z).1
      rw [ho] at this
      cases this
    · rw [List.mem_singleton.mp hx] at z
      obtain ⟨o, ho⟩ := (sD y hy).2.2.2 _ z
      rw [hD2] at ho
      cases ho
    · rw [List.mem_singleton.mp hx, List.mem_singleton.mp hy] at z
      exact (fr2 D2 z).2 rfl
  refine leaf (ws := ts'.map V.ref ++ [.ref pt]) (by rw [List.length_map]; exact hi) sh_mk3 hDpt (small1000 (by rw [List.length_map]; omega)) ⟨ts' ++ [pt], rr ++ [(D2, rs')], map_ref_snoc _ _, sA.upd hD, by rw [upd_same, map_ref_snoc], by rw [List.length_append, hl']; rfl, by rw [List.length_append, hrr]; rfl, sep', fun x hx => ?_, fun j t c x e1 e2 e3 => ?_⟩
  · have keep : ∀ b o, b ≠ D → (upd H' pt (.tup [V.int (cs[i]'(by omega)).1, V.int (cs[i]'(by omega)).2.1, V.ref D2])) b = some o → ∀ o', (upd (upd H' pt (.tup [V.int (cs[i]'(by omega)).1, V.int (cs[i]'(by omega)).2.1, V.ref D2])) D o') b = some o := fun b o nb h o' => by rw [upd_ne nb]; exact h
    rcases List.mem_append.mp hx with hx | hx
    · obtain ⟨x1, x2, ⟨o, ho⟩, x4⟩ := sD x hx
      refine ⟨x1, x2, ⟨o, keep _ _ x1 (s1 _ _ ho) _⟩, fun a ha => ?_⟩
      obtain ⟨o, ho⟩ := x4 a ha
      exact ⟨o, keep _ _ (fun z => x2 (z ▸ ha)) (s1 _ _ ho) _⟩
    · rw [List.mem_singleton.mp hx]
      refine ⟨nD2, nDr, ⟨_, keep _ _ nD2 tcN.tab.lst _⟩, fun a ha => ?_⟩
      obtain ⟨ys, hy, _⟩ := tcN.tab.row a ha
      exact ⟨_, keep _ _ (fun z => nDr (z ▸ ha)) hy _⟩
  by_cases hj : j < ts'.length
  · rw [List.getElem?_append_left hj] at e1
    rw [List.getElem?_append_left (by omega)] at e3
    obtain ⟨a1, a2, a3, a4⟩ := hc' j t c x e1 e2 e3
    obtain ⟨a5, a6, _⟩ := sD x (List.mem_of_getElem? e3)
    exact ⟨(a1.same s1).put hDpt a5 a6, a2, a3, a4⟩
  · rw [List.getElem?_append_right (by omega)] at e1
    rw [List.getElem?_append_right (by omega)] at e3
    have hj0 : j - ts'.length = 0 := by
      by_cases z : j - ts'.length = 0
      · exact z
      · rw [List.getElem?_eq_none (by simp; omega)] at e1; cases e1
    rw [show j - rr.length = 0 by omega] at e3
    rw [hj0] at e1
    cases e1
    cases e3
    have hji : j = i := by omega
    subst hji
    rw [hci] at e2
    cases e2
    exact ⟨tcN.put hDpt nD2 nDr, (s.trans s').free hpt, s.free hD2, fun a ha => s.free (fr2 a ha).1⟩
def spLent : Sp := fun vs H Q _ => ∃ (l : Addr) (p : Int) (ts : List Addr) (cs : List (Int × Int × List (List V))), vs = [.ref l] ∧ Tbs H p l ts cs ∧ ∀ (l' : Addr) (ts' : List Addr) (H' : Hp), Same H H' → H l' = none → H' l' = some (.lst (ts'.map V.ref)) → ts'.length = cs.length → (∀ (i : Nat) t c, ts'[i]? = some t → cs[i]? = some c → TabF H H' p c.1 c.2.1 t c.2.2) → Sep H' l' ts' → Q (.ref l') H'
theorem NumO.extI {x C0 dx : Addr} {fs : List (Str × V)} {H H' : Hp} {p : Int} {B : Nat} {v : V} (h : NumO H p B v) (hx : H x = some (.ins C0 dx fs)) (e : Ext x H H') : NumO H' p B v := by
  obtain ⟨y, nv, b, c⟩ := h
  refine ⟨y, ?_, b, c⟩
  by_cases hp : p = 0
  · obtain ⟨t, rfl, ht⟩ := nv.ref hp
    exact NumV.tup hp (e _ _ (ne_of ht hx (by intro z; cases z)) ht)
  · obtain rfl := nv.int hp
    exact NumV.of hp
theorem TabC.extI {x C0 dx : Addr} {fs : List (Str × V)} {H H' : Hp} {p hh wd : Int} {t r : Addr} {rs : List Addr} {M : List (List V)} (h : TabC H p hh wd t r rs M) (hx : H x = some (.ins C0 dx fs)) (e : Ext x H H') : TabC H' p hh wd t r rs M := by
  refine ⟨⟨e _ _ (ne_of h.tab.tup hx (by intro z; cases z)) h.tab.tup, e _ _ (ne_of h.tab.lst hx (by intro z; cases z)) h.tab.lst, h.tab.len, fun a ha => ?_, h.tab.nin⟩, fun i a ei => e _ _ (ne_of (h.con i a ei) hx (by intro z; cases z)) (h.con i a ei)⟩
  obtain ⟨ys, h1, h2, h3⟩ := h.tab.row a ha
  exact ⟨ys, e _ _ (ne_of h1 hx (by intro z; cases z)) h1, h2, fun y hy => (h3 y hy).extI hx e⟩
theorem Tbs.extI {x C0 dx : Addr} {fs : List (Str × V)} {H H' : Hp} {p : Int} {l : Addr} {ts : List Addr} {cs : List (Int × Int × List (List V))} (h : Tbs H p l ts cs) (hx : H x = some (.ins C0 dx fs)) (e : Ext x H H') : Tbs H' p l ts cs :=
  ⟨e _ _ (ne_of h.1 hx (by intro z; cases z)) h.1, h.2.1, h.2.2.1, fun i t c e1 e2 => let ⟨⟨r, rs, a⟩, b⟩ := h.2.2.2 i t c e1 e2; ⟨⟨r, rs, a.extI hx e⟩, b⟩⟩
theorem Tbs.same {H H' : Hp} {p : Int} {l : Addr} {ts : List Addr} {cs : List (Int × Int × List (List V))} (h : Tbs H p l ts cs) (s : Same H H') : Tbs H' p l ts cs :=
  ⟨s _ _ h.1, h.2.1, h.2.2.1, fun i t c e1 e2 => let ⟨⟨r, rs, a⟩, b⟩ := h.2.2.2 i t c e1 e2; ⟨⟨r, rs, a.same s⟩, b⟩⟩
def sflds (g d z l : Addr) : List (Str × V) := putF "tables" (.ref l) (putF "sizes" (.ref z) (putF "drawing" (.ref d) (putF "ground" (.ref g) [])))
theorem sf_tables (g d z l : Addr) : (sflds g d z l).lookup ("tables" : Str) = some (.ref l) := by unfold sflds; rw [lookup_putF, if_pos rfl]
theorem sf_sizes (g d z l : Addr) : (sflds g d z l).lookup ("sizes" : Str) = some (.ref z) := by unfold sflds; rw [lookup_putF, if_neg (by decide +kernel), lookup_putF, if_pos rfl]
theorem sf_drawing (g d z l : Addr) : (sflds g d z l).lookup ("drawing" : Str) = some (.ref d) := by unfold sflds; rw [lookup_putF, if_neg (by decide +kernel), lookup_putF, if_neg (by decide +kernel), lookup_putF, if_pos rfl]
theorem sf_ground (g d z l : Addr) : (sflds g d z l).lookup ("ground" : Str) = some (.ref g) := by unfold sflds; rw [lookup_putF, if_neg (by decide +kernel), lookup_putF, if_neg (by decide +kernel), lookup_putF, if_neg (by decide +kernel), lookup_putF, if_pos rfl]
def Fits (ns : List Int) (cs : List (Int × Int × List (List V))) (ps : List (Int × Int)) : Prop := cs.length = ps.length ∧ ∀ (i : Nat) c q, cs[i]? = some c → ps[i]? = some q → c.1 = ns.getD q.2.toNat 0 ∧ c.2.1 = ns.getD q.1.toNat 0
def spSI (S C G : Addr) : Sp := fun vs H Q _ => ∃ (x dx g d z l lp : Addr) (p m : Int) (xs : List V) (ps : List (Int × Int)) (ns : List Int) (ts : List Addr) (cs : List (Int × Int × List (List V))), vs = [.ref x, .ref g, .ref d, .ref z, .ref l] ∧ H x = some (.ins S dx []) ∧ GAt G H g p ∧ GroundP p ∧
  DrawAt C H d m lp xs ∧ Prs H xs ps ∧ InP m ps ∧ ps.length ≤ 9 ∧ Sizes H z ns ∧ (ns.length : Int) = m ∧ Tbs H p l ts cs ∧ Fits ns cs ps ∧
  ∀ (z' l' : Addr) (ts' : List Addr) (H' : Hp), Ext x H H' → H' x = some (.ins S dx (sflds g d z' l')) → H z' = none → H l' = none → Sizes H' z' ns → H' l' = some (.lst (ts'.map V.ref)) → ts'.length = cs.length → (∀ (i : Nat) t c, ts'[i]? = some t → cs[i]? = some c → TabF H H' p c.1 c.2.1 t c.2.2) → Q .non H'
theorem ok_sinit {f : Addr} {fd : FuncData} (F : Fun K "__init__" "Standing.__init__" s_Standing_init f fd) (T : Txt K mg C G S) (C_are_sizes : Cal P w K mg base "are_sizes" 2 (spSz C)) (C_are_tables : Cal P w K mg base "are_tables" 7 (spTs C G)) : FnOk P w K mg base CX0 8 f fd ["self", "ground", "drawing", "sizes", "tables"] (spSI S C G) := by
  have nd := sc_Standing_init.nd
  refine F.ok sc_Standing_init (fun vs H Q E h => ?_) (fun cdv A outer s H vs Q E hr h => ?_)
  · obtain ⟨x, dx, g, d, z, l, lp, p, m, xs, ps, ns, ts, cs, rfl, _⟩ := h
    rfl
  · obtain ⟨x, dx, g, d, z, l, lp, p, m, xs, ps, ns, ts, cs, rfl, hx, hg, hp, hd, pr, ip, p9, hz, hm, hT, ft, q⟩ := h
    refine ⟨_, (@pss_cons _ _ _ _ _ (@ps_if _ _ _ _ _ _ _ _ (PW.pt (pw_or (pt_not (pt_val (pe_c C_are_sizes (hr.mono (by decide)) rfl (@pa_c _ _ _ _ _ (pv 2) (@pa_c _ _ _ _ _ (pv 3) pa_nil (by rfl)) (by rfl))))) (pw_or1 (pt_not (pt_val (pe_c C_are_tables (hr.mono (by decide)) rfl (@pa_c _ _ _ _ _ (pv 1) (@pa_c _ _ _ _ _ (pv 2) (@pa_c _ _ _ _ _ (pv 3) (@pa_c _ _ _ _ _ (pv 4) pa_nil (by rfl)) (by rfl)) (by rfl)) (by rfl)))))))) (@pss_one _ _ _ ps_never) pss_nil) (@pss_cons _ _ _ _ _ (ps_fld (pv 0) (pv 1) rfl) (@pss_cons _ _ _ _ _ (ps_fld (pv 0) (pv 2) rfl) (@pss_cons _ _ _ _ _ (ps_fld (pv 0) (pe_cT call_list_of rfl T.n_list boot_list (@pa_c _ _ _ _ _ (pv 3) pa_nil (by rfl))) rfl) (@pss_one _ _ _ (ps_fld (pv 0) (pe_comp (own := ["high", "wide", "rows"]) (fr := []) rfl (bl_of (by kernel_rfl)) (pi_list (pv 4)) (fun _ _ _ _ => ⟨(@pg_tupK _ K rfl _ _ _ _ 3 rfl (@pgs_cons _ _ _ _ _ (@pg_name _ _ 0 _ (show (["high", "wide", "rows"] : List Str).Nodup by decide +kernel) rfl (Or.inl rfl) (Or.inr rfl)) (@pgs_cons _ _ _ _ _ (@pg_name _ _ 1 _ (show (["high", "wide", "rows"] : List Str).Nodup by decide +kernel) rfl (Or.inl rfl) (Or.inr rfl)) (@pgs_cons _ _ _ _ _ (@pg_name _ _ 2 _ (show (["high", "wide", "rows"] : List Str).Nodup by decide +kernel) rfl (Or.inl rfl) (Or.inr rfl)) (@pgs_nil _) (by rfl)) (by rfl)) (by rfl)) (by rfl) (by rfl)), pts_nil, (@pe_tup _ _ _ _ _ (@pa_c _ _ _ _ _ (pv 0) (@pa_c _ _ _ _ _ (pv 1) (@pa_c _ _ _ _ _ (pe_comp (own := ["row"]) (fr := []) rfl (bl_of (by kernel_rfl)) (pi_listK K rfl (pv 2)) (fun _ _ _ _ => ⟨(@pg_name _ _ 0 _ (show (["row"] : List Str).Nodup by decide +kernel) rfl (Or.inl rfl) (Or.inr rfl)), pts_nil, (pe_cT (call_list_ofK K rfl) rfl T.n_list boot_list (@pa_c _ _ _ _ _ (pv 0) pa_nil (by rfl)))⟩)) pa_nil (by rfl)) (by rfl)) (by rfl)))⟩)) rfl)))))), ?_⟩
    walk_at "wp"
    refine ⟨d, z, lp, m, xs, ns, rfl, hd, hz, hm, fun H1 s1 => ⟨true, rfl, iteN (by decide) ?_⟩⟩
    have hT1 := hT
    obtain ⟨hl, hlen, h9, hc⟩ := hT
    obtain ⟨dxd, hd1, hd2⟩ := hd
    refine ⟨g, d, z, l, lp, p, m, xs, ps, ns, ts, rfl, hg.same s1, hp, ⟨dxd, s1 _ _ hd1, s1 _ _ hd2⟩, pr.same s1, ip, p9, hz.same s1, hm, s1 _ _ hl, by rw [hlen, ft.1], fun i t q' e1 e2 => ?_, fun H2 s2 => ⟨true, rfl, iteN (by decide) ?_⟩⟩
    · have hi : i < ps.length := (List.getElem?_eq_some_iff.mp e2).1
      have hci : cs[i]? = some (cs[i]'(by have := ft.1; omega)) := List.getElem?_eq_getElem _
      obtain ⟨⟨r, rs, tc⟩, _⟩ := hc i t _ e1 hci
      obtain ⟨f1, f2⟩ := ft.2 i _ _ hci e2
      rw [← f1, ← f2]
      exact ⟨r, rs, tc.tab.same s1⟩
    · have s12 := s1.trans s2
      have hx2 := s12 _ _ hx
      have nzx : z ≠ x := ne_of hz.1 hx (by intro w; cases w)
      refine ⟨S, dx, [], hx2, T.cl_Standing, T.nSg, by show 0 < 1000; decide, S, dx, _, upd_same, T.cl_Standing, T.nSd, by have l1 := length_putF "ground" (.ref g) []; simp at l1; omega, _, .inl (SqL.of (by rw [upd_ne nzx, upd_ne nzx]; exact s12 _ _ hz.1)), fun l1 hl1 => ?_⟩
      have nxl : x ≠ l1 := ne_of_none upd_same hl1
      have f1 : H l1 = none := by
        rw [upd_ne nxl.symm, upd_ne nxl.symm] at hl1
        exact s12.free hl1
      have g1 := length_putF "ground" (.ref g) []
      have g2 := length_putF "drawing" (.ref d) (putF "ground" (.ref g) [])
      have g3 := length_putF "sizes" (.ref l1) (putF "drawing" (.ref d) (putF "ground" (.ref g) []))
      simp only [List.length_nil] at g1
      refine ⟨S, dx, _, by rw [upd_ne nxl]; exact upd_same, T.cl_Standing, T.nSs, by omega, ?_⟩
      have e6 : Ext x H (upd (upd (upd (upd H2 x (.ins S dx (putF "ground" (.ref g) []))) x (.ins S dx (putF "drawing" (.ref d) (putF "ground" (.ref g) [])))) l1 (.lst (ns.map V.int))) x (.ins S dx (putF "sizes" (.ref l1) (putF "drawing" (.ref d) (putF "ground" (.ref g) []))))) := fun b o nb eb => by
        rw [upd_ne nb, upd_ne (ne_of_none eb f1), upd_ne nb, upd_ne nb]
        exact s12 _ _ eb
      have hx6 : (upd (upd (upd (upd H2 x (.ins S dx (putF "ground" (.ref g) []))) x (.ins S dx (putF "drawing" (.ref d) (putF "ground" (.ref g) [])))) l1 (.lst (ns.map V.int))) x (.ins S dx (putF "sizes" (.ref l1) (putF "drawing" (.ref d) (putF "ground" (.ref g) []))))) x = some (.ins S dx (putF "sizes" (.ref l1) (putF "drawing" (.ref d) (putF "ground" (.ref g) [])))) := upd_same
      have hl6 : (upd (upd (upd (upd H2 x (.ins S dx (putF "ground" (.ref g) []))) x (.ins S dx (putF "drawing" (.ref d) (putF "ground" (.ref g) [])))) l1 (.lst (ns.map V.int))) x (.ins S dx (putF "sizes" (.ref l1) (putF "drawing" (.ref d) (putF "ground" (.ref g) []))))) l1 = some (.lst (ns.map V.int)) := by rw [upd_ne nxl.symm]; exact upd_same
      generalize upd (upd (upd (upd H2 x (.ins S dx (putF "ground" (.ref g) []))) x (.ins S dx (putF "drawing" (.ref d) (putF "ground" (.ref g) [])))) l1 (.lst (ns.map V.int))) x (.ins S dx (putF "sizes" (.ref l1) (putF "drawing" (.ref d) (putF "ground" (.ref g) [])))) = H6 at *
      have fr6 : ∀ b, H6 b = none → H b = none := fun b hb => by
        cases eb : H b with
        | none => rfl
        | some o =>
          by_cases nb : b = x
          · rw [nb, hx6] at hb; cases hb
          · rw [e6 b o nb eb] at hb; cases hb
      have hT6 := hT1.extI hx e6
      refine ⟨_, rfl, l, rfl, ⟨_, SqL.of hT6.1⟩, fun D hD => copy_tabs hT6 hD fun ts' H7 s7 hD7 hl7 ht7 _ => ?_⟩
      have hx7 := s7 _ _ hx6
      have nDx : D ≠ x := fun w => by rw [w, hx6] at hD; cases hD
      refine ⟨S, dx, _, hx7, T.cl_Standing, T.nSt, by omega, ?_⟩
      refine q l1 D ts' _ (fun b o nb eb => by rw [upd_ne nb]; exact s7 _ _ (e6 b o nb eb)) upd_same f1 (fr6 D hD) ⟨by rw [upd_ne nxl.symm]; exact s7 _ _ hl6, hz.2⟩ (by rw [upd_ne nDx]; exact hD7) hl7 fun i t c e1 e2 => ?_
      obtain ⟨r, rs, a1, a2, a3, a4⟩ := ht7 i t c e1 e2
      exact ⟨r, rs, a1.extI hx7 (fun b o nb eb => by rw [upd_ne nb]; exact eb), fr6 t a2, fr6 r a3, fun a ha => fr6 a (a4 a ha)⟩
end
end Pf
set_option maxHeartbeats 1000000
namespace Pf
open PySem L2 PyProof.Rows
section
variable {P : Program} {w : World} {K : PySem.W.Frag} {mg : Str → Option Value} {base : Heap} {C G S : Addr}
abbrev Nv := Int × Int
abbrev Mv := List (List Nv)
def All2 {α β : Type} (P : α → β → Prop) (xs : List α) (ys : List β) : Prop := xs.length = ys.length ∧ ∀ (i : Nat) x y, xs[i]? = some x → ys[i]? = some y → P x y
theorem All2.nil {α β : Type} {P : α → β → Prop} : All2 P [] [] := ⟨rfl, fun i x y e => by simp at e⟩
theorem All2.take {α β : Type} {P : α → β → Prop} {xs : List α} {ys : List β} (h : All2 P xs ys) (n : Nat) : All2 P (xs.take n) (ys.take n) := ⟨by rw [List.length_take, List.length_take, h.1], fun i x y e1 e2 => by
  by_cases hi : i < n
  · rw [List.getElem?_take_of_lt hi] at e1 e2
    exact h.2 i x y e1 e2
  · rw [List.getElem?_eq_none (by rw [List.length_take]; omega)] at e1
    cases e1⟩
theorem All2.drop {α β : Type} {P : α → β → Prop} {xs : List α} {ys : List β} (h : All2 P xs ys) (n : Nat) : All2 P (xs.drop n) (ys.drop n) := ⟨by rw [List.length_drop, List.length_drop, h.1], fun i x y e1 e2 => by
  rw [List.getElem?_drop] at e1 e2
  exact h.2 _ x y e1 e2⟩
theorem All2.app {α β : Type} {P : α → β → Prop} {xs xs' : List α} {ys ys' : List β} (h : All2 P xs ys) (h' : All2 P xs' ys') : All2 P (xs ++ xs') (ys ++ ys') := ⟨by rw [List.length_append, List.length_append, h.1, h'.1], fun i x y e1 e2 => by
  have hl := h.1
  by_cases hi : i < xs.length
  · rw [List.getElem?_append_left hi] at e1
    rw [List.getElem?_append_left (by omega)] at e2
    exact h.2 i x y e1 e2
  · rw [List.getElem?_append_right (by omega)] at e1 e2
    rw [← hl] at e2
    exact h'.2 _ x y e1 e2⟩
theorem All2.one {α β : Type} {P : α → β → Prop} {x : α} {y : β} (h : P x y) : All2 P [x] [y] := ⟨rfl, fun i a b e1 e2 => by
  cases i with
  | zero => cases e1; cases e2; exact h
  | succ i => simp at e1⟩
theorem All2.mono {α β : Type} {P P' : α → β → Prop} {xs : List α} {ys : List β} (h : All2 P xs ys) (k : ∀ x y, P x y → P' x y) : All2 P' xs ys := ⟨h.1, fun i x y e1 e2 => k x y (h.2 i x y e1 e2)⟩
theorem All2.monoM {α β : Type} {P P' : α → β → Prop} {xs : List α} {ys : List β} (h : All2 P xs ys) (k : ∀ x y, x ∈ xs → P x y → P' x y) : All2 P' xs ys := ⟨h.1, fun i x y e1 e2 => k x y (List.mem_of_getElem? e1) (h.2 i x y e1 e2)⟩
theorem All2.set {α β : Type} {P : α → β → Prop} {xs : List α} {ys : List β} (h : All2 P xs ys) (n : Nat) {x : α} {y : β} (hp : P x y) : All2 P (xs.set n x) (ys.set n y) := ⟨by rw [List.length_set, List.length_set, h.1], fun i a b e1 e2 => by
  rw [List.getElem?_set] at e1 e2
  by_cases hi : n = i
  · rw [if_pos hi] at e1 e2
    split at e1
    · split at e2
      · cases e1; cases e2; exact hp
      · cases e2
    · cases e1
  · rw [if_neg hi] at e1 e2
    exact h.2 i a b e1 e2⟩
theorem All2.rep {α β : Type} {P : α → β → Prop} {x : α} {y : β} (h : P x y) (n : Nat) : All2 P (List.replicate n x) (List.replicate n y) := ⟨by simp, fun i a b e1 e2 => by
  rw [List.getElem?_replicate] at e1 e2
  split at e1
  · rename_i hi
    rw [if_pos hi] at e2
    cases e1; cases e2; exact h
  · cases e1⟩
theorem All2.at {α β : Type} {P : α → β → Prop} {xs : List α} {ys : List β} (h : All2 P xs ys) {i : Nat} {y : β} (e : ys[i]? = some y) : ∃ x, xs[i]? = some x ∧ P x y := by
  have hi : i < ys.length := (List.getElem?_eq_some_iff.mp e).1
  have hx : xs[i]? = some (xs[i]'(by have := h.1; omega)) := List.getElem?_eq_getElem _
  exact ⟨_, hx, h.2 i _ y hx e⟩
theorem All2.at' {α β : Type} {P : α → β → Prop} {xs : List α} {ys : List β} (h : All2 P xs ys) {i : Nat} {x : α} (e : xs[i]? = some x) : ∃ y, ys[i]? = some y ∧ P x y := by
  have hi : i < xs.length := (List.getElem?_eq_some_iff.mp e).1
  have hy : ys[i]? = some (ys[i]'(by have := h.1; omega)) := List.getElem?_eq_getElem _
  exact ⟨_, hy, h.2 i x _ e hy⟩
theorem All2.pick {α β : Type} {P : α → β → Prop} : ∀ {xs : List α}, (∀ x ∈ xs, ∃ y, P x y) → ∃ ys, All2 P xs ys
  | [], _ => ⟨[], All2.nil⟩
  | x :: xs, h => by
    obtain ⟨y, hy⟩ := h x (by simp)
    obtain ⟨ys, hys⟩ := All2.pick (xs := xs) fun z hz => h z (by simp [hz])
    exact ⟨y :: ys, (All2.one hy).app hys⟩
def RowV (H : Hp) (p : Int) (a : Addr) (xs : List Nv) : Prop := ∃ vs, H a = some (.lst vs) ∧ All2 (NumV H p) vs xs
theorem RowV.same {H H' : Hp} {p : Int} {a : Addr} {xs : List Nv} (h : RowV H p a xs) (s : Same H H') : RowV H' p a xs := let ⟨vs, h1, h2⟩ := h; ⟨vs, s _ _ h1, h2.mono fun _ _ k => k.same s⟩
theorem NumV.put {H : Hp} {D : Addr} {l : List V} {o : HO} {p : Int} {v : V} {x : Nv} (h : NumV H p v x) (hD : H D = some (.lst l)) : NumV (upd H D o) p v x := by
  by_cases hp : p = 0
  · obtain ⟨t, rfl, ht⟩ := h.ref hp
    exact NumV.tup hp (by rw [upd_ne (ne_of ht hD (by intro z; cases z))]; exact ht)
  · obtain rfl := h.int hp
    exact NumV.of hp
theorem RowV.put {H : Hp} {D : Addr} {l : List V} {o : HO} {p : Int} {a : Addr} {xs : List Nv} (h : RowV H p a xs) (hD : H D = some (.lst l)) (n : a ≠ D) : RowV (upd H D o) p a xs := let ⟨vs, h1, h2⟩ := h; ⟨vs, by rw [upd_ne n]; exact h1, h2.mono fun _ _ k => k.put hD⟩
theorem RowV.ext {l : Addr} {H H' : Hp} {p : Int} {a : Addr} {xs : List Nv} (h : RowV H p a xs) (b : Bag H l) (e : Ext l H H') (n : a ≠ l) : RowV H' p a xs := let ⟨vs, h1, h2⟩ := h; ⟨vs, e _ _ n h1, h2.mono fun _ _ k => k.ext b e⟩
structure TabV (H : Hp) (p hh wd : Int) (t r : Addr) (rs : List Addr) (M : Mv) : Prop where
  tup : H t = some (.tup [.int hh, .int wd, .ref r])
  lst : H r = some (.lst (rs.map V.ref))
  row : All2 (RowV H p) rs M
  nin : r ∉ rs
theorem TabV.same {H H' : Hp} {p hh wd : Int} {t r : Addr} {rs : List Addr} {M : Mv} (h : TabV H p hh wd t r rs M) (s : Same H H') : TabV H' p hh wd t r rs M := ⟨s _ _ h.tup, s _ _ h.lst, h.row.mono fun _ _ k => k.same s, h.nin⟩
theorem TabV.put {H : Hp} {D : Addr} {l : List V} {o : HO} {p hh wd : Int} {t r : Addr} {rs : List Addr} {M : Mv} (h : TabV H p hh wd t r rs M) (hD : H D = some (.lst l)) (nr : r ≠ D) (ns : D ∉ rs) : TabV (upd H D o) p hh wd t r rs M :=
  ⟨by rw [upd_ne (ne_of h.tup hD (by intro z; cases z))]; exact h.tup, by rw [upd_ne nr]; exact h.lst, h.row.monoM fun a _ ha k => k.put hD (fun z => ns (z ▸ ha)), h.nin⟩
theorem TabV.ext {l : Addr} {H H' : Hp} {p hh wd : Int} {t r : Addr} {rs : List Addr} {M : Mv} (h : TabV H p hh wd t r rs M) (b : Bag H l) (e : Ext l H H') (nr : r ≠ l) (ns : l ∉ rs) : TabV H' p hh wd t r rs M :=
  ⟨e _ _ (fun z => by obtain ⟨x, y, hb, _⟩ := b; rw [← z, h.tup] at hb; cases hb) h.tup, e _ _ nr h.lst, h.row.monoM fun a _ ha k => k.ext b e (fun z => ns (z ▸ ha)), h.nin⟩
def Shp (hh wd : Int) (M : Mv) : Prop := (M.length : Int) = hh ∧ ∀ row ∈ M, (row.length : Int) = wd
def GoodM (p : Int) (B : Nat) (M : Mv) : Prop := ∀ row ∈ M, ∀ x ∈ row, Isn p x ∧ Bd B x
theorem Tab.byV {H : Hp} {p hh wd : Int} {t r : Addr} {rs : List Addr} (h : Tab H p hh wd t r rs) : ∃ M, TabV H p hh wd t r rs M ∧ Shp hh wd M ∧ GoodM p BB M := by
  obtain ⟨M, hM⟩ := All2.pick (P := fun a xs => RowV H p a xs ∧ (xs.length : Int) = wd ∧ ∀ x ∈ xs, Isn p x ∧ Bd BB x) (xs := rs) fun a ha => by
    obtain ⟨vs, h1, h2, h3⟩ := h.row a ha
    obtain ⟨xs, hxs⟩ := All2.pick (P := fun v x => NumV H p v x ∧ Isn p x ∧ Bd BB x) (xs := vs) fun v hv => h3 v hv
    refine ⟨xs, ⟨vs, h1, hxs.mono fun _ _ k => k.1⟩, by rw [← hxs.1]; exact h2, fun x hx => ?_⟩
    obtain ⟨j, hj, rfl⟩ := List.mem_iff_getElem.mp hx
    obtain ⟨v, _, hv⟩ := hxs.at (List.getElem?_eq_getElem hj)
    exact hv.2
  have at' : ∀ row ∈ M, ∃ a, RowV H p a row ∧ (row.length : Int) = wd ∧ ∀ x ∈ row, Isn p x ∧ Bd BB x := fun row hr => by
    obtain ⟨j, hj, rfl⟩ := List.mem_iff_getElem.mp hr
    obtain ⟨a, _, ha⟩ := hM.at (List.getElem?_eq_getElem hj)
    exact ⟨a, ha⟩
  exact ⟨M, ⟨h.tup, h.lst, hM.mono fun _ _ k => k.1, h.nin⟩, ⟨by rw [← hM.1]; exact h.len, fun row hr => let ⟨_, _, b, _⟩ := at' row hr; b⟩, fun row hr => let ⟨_, _, _, c⟩ := at' row hr; c⟩
theorem items_of {H : Hp} {n : Nat} {xs ys : List V} (hl : xs.length = ys.length) (he : ∀ (j : Nat) x y, xs[j]? = some x → ys[j]? = some y → EqD K H n x y true) : ItemsEq K H n xs ys (List.replicate xs.length true) :=
  ⟨hl, List.length_replicate, fun j x y b e1 e2 e3 => by
    rw [List.getElem?_replicate] at e3
    split at e3
    · cases e3; exact he j x y e1 e2
    · cases e3⟩
theorem num_eqD {H : Hp} {n : Nat} {p : Int} {v u : V} {x : Nv} (h : NumV H p v x) (h' : NumV H p u x) : EqD K H (n + 1) v u true := by
  by_cases hp : p = 0
  · obtain ⟨t, rfl, ht⟩ := h.ref hp
    obtain ⟨t', rfl, ht'⟩ := h'.ref hp
    refine tup_eq ht ht' rfl fun j x y e1 e2 => ?_
    rw [e1] at e2
    cases e2
    match j, e1 with
    | 0, e1 => cases e1; exact int_self
    | 1, e1 => cases e1; exact int_self
    | j + 2, e1 => cases e1
  · obtain rfl := h.int hp
    obtain rfl := h'.int hp
    exact int_self
theorem all2_eq {α : Type} {H : Hp} {n : Nat} {R R' : V → α → Prop} {vs us : List V} {xs : List α} (h : All2 R vs xs) (h' : All2 R' us xs) (k : ∀ v u x, R v x → R' u x → EqD K H n v u true) : vs.length = us.length ∧ ∀ (j : Nat) v u, vs[j]? = some v → us[j]? = some u → EqD K H n v u true :=
  ⟨h.1.trans h'.1.symm, fun j v u e1 e2 => by
    obtain ⟨x, ex, hx⟩ := h.at' e1
    exact k v u x hx (h'.2 j u x e2 ex)⟩
theorem all2_refs {α : Type} {R : Addr → α → Prop} {rs : List Addr} {xs : List α} (h : All2 R rs xs) : All2 (fun v x => ∃ a, v = .ref a ∧ R a x) (rs.map V.ref) xs := ⟨by rw [List.length_map]; exact h.1, fun i v x e1 e2 => by
  rw [List.getElem?_map] at e1
  cases e : rs[i]? with
  | none => rw [e] at e1; cases e1
  | some a => rw [e] at e1; cases e1; exact ⟨a, rfl, h.2 i a x e e2⟩⟩
theorem RowV.eq {H : Hp} {n : Nat} {p : Int} {a c : Addr} {xs : List Nv} (h : RowV H p a xs) (h' : RowV H p c xs) : EqD K H (n + 2) (.ref a) (.ref c) true := by
  obtain ⟨vs, h1, h2⟩ := h
  obtain ⟨us, h3, h4⟩ := h'
  obtain ⟨e1, e2⟩ := all2_eq (K := K) (H := H) (n := n + 1) h2 h4 fun v u x a b => num_eqD a b
  exact list_eq h1 h3 e1 e2
theorem TabV.eq {H : Hp} {n : Nat} {p hh wd : Int} {t r t' r' : Addr} {rs rs' : List Addr} {M : Mv} (h : TabV H p hh wd t r rs M) (h' : TabV H p hh wd t' r' rs' M) : EqD K H (n + 4) (.ref t) (.ref t') true := by
  refine tup_eq h.tup h'.tup rfl fun j x y e1 e2 => ?_
  match j, e1, e2 with
  | 0, e1, e2 => cases e1; cases e2; exact int_self
  | 1, e1, e2 => cases e1; cases e2; exact int_self
  | 2, e1, e2 =>
    cases e1; cases e2
    obtain ⟨f1, f2⟩ := all2_eq (K := K) (H := H) (n := n + 2) (all2_refs h.row) (all2_refs h'.row) fun v u x ⟨a, ea, ha⟩ ⟨b, eb, hb⟩ => by subst ea; subst eb; exact ha.eq hb
    exact list_eq h.lst h'.lst f1 f2
  | j + 3, e1, e2 => cases e1
theorem comp_ord {a D : Addr} {xs : List V} {fr : List (Str × Nat)} {σ : L2.St} {te : TE} {H1 : Hp} {Q : VK} (R : Nat → Hp → V → Prop) (hS : ∀ {i H H' y}, R i H y → Same H H' → R i H' y) (hP : ∀ {i H y l o}, R i H y → H D = some (.lst l) → R i (upd H D o) y)
    (ha : H1 a = some (.lst xs)) (hD : H1 D = none) (hn : xs.length ≤ 1000)
    (h : ∀ (i : Nat) x H (Q : VK), xs[i]? = some x → Same H1 H → (∃ l, H D = some (.lst l)) → (∀ y H', Same H H' → R i H' y → Q y H') → te (some x :: capOf fr σ) H Q)
    (hQ : ∀ ys H', Same H1 H' → H' D = some (.lst ys) → ys.length = xs.length → (∀ (i : Nat) y, ys[i]? = some y → R i H' y) → Q (.ref D) H') : tBlock (gName 0) tYes te (Itl K a) D (capS 1 fr σ) H1 Q := by
  refine comp_itl (xs := xs) (fun i vs H => Same H1 H ∧ H D = some (.lst vs) ∧ vs.length = i ∧ ∀ (j : Nat) y, vs[j]? = some y → R j H y) ⟨Same.new hD, upd_same, rfl, fun j y e => by simp at e⟩ (fun i vs H _ p => SqL.of (p.1 _ _ ha)) ?_ (fun vs H ⟨s, e, hl, hr⟩ => hQ vs H s e hl hr)
  rintro i x vs σ' H hi hx sh ⟨s, e, hl, hr⟩
  obtain ⟨z, rfl⟩ := sh.one
  simp only [tTurn, gName, tYes, List.set_cons_zero, if_true]
  refine h i x H _ hx s ⟨_, e⟩ fun y H' s' ry => ?_
  refine leaf (ws := vs ++ [y]) hi Sh.mk1 (s' _ _ e) (small1000 (by omega)) ⟨(s.trans s').upd hD, upd_same, by rw [List.length_append, hl]; rfl, fun j u hu => ?_⟩
  by_cases hj : j < vs.length
  · rw [List.getElem?_append_left hj] at hu
    exact hP (hS (hr j u hu) s') (s' _ _ e)
  · rw [List.getElem?_append_right (by omega)] at hu
    have hj0 : j - vs.length = 0 := by
      by_cases z : j - vs.length = 0
      · exact z
      · rw [List.getElem?_eq_none (by simp; omega)] at hu; cases hu
    rw [hj0] at hu
    cases hu
    rw [show j = i by omega]
    exact hP ry (s' _ _ e)
theorem ints_of {ys : List V} {g : Nat → Int} {n : Nat} (hl : ys.length = n) (h : ∀ (i : Nat) y, ys[i]? = some y → y = .int (g i)) : ys = ((List.range n).map g).map V.int := by
  apply List.ext_getElem?
  intro i
  by_cases hi : i < n
  · rw [List.getElem?_eq_getElem (by omega), h i _ (List.getElem?_eq_getElem (by omega)), List.getElem?_map, List.getElem?_map, List.getElem?_range hi]
    rfl
  · rw [List.getElem?_eq_none (by omega), List.getElem?_eq_none (by simp; omega)]
theorem refs_of {P : Nat → Addr → Prop} : ∀ {ys : List V}, (∀ (i : Nat) y, ys[i]? = some y → ∃ b, y = .ref b ∧ P i b) → ∃ bs : List Addr, ys = bs.map V.ref ∧ ∀ (i : Nat) b, bs[i]? = some b → P i b := by
  intro ys
  induction ys generalizing P with
  | nil => exact fun _ => ⟨[], rfl, fun i b e => by simp at e⟩
  | cons y ys ih =>
    intro h
    obtain ⟨b, rfl, hb⟩ := h 0 y rfl
    obtain ⟨bs, rfl, hbs⟩ := ih (P := fun i b => P (i + 1) b) fun i u e => h (i + 1) u (by simpa using e)
    exact ⟨b :: bs, rfl, fun i u e => by
      cases i with
      | zero => cases e; exact hb
      | succ i => exact hbs i u (by simpa using e)⟩
theorem rows_of {D : Addr} {H1 H' : Hp} {p : Int} {M : Mv} {ys : List V} (hl : ys.length = M.length) (h : ∀ (i : Nat) y, ys[i]? = some y → ∃ a, y = .ref a ∧ RowV H' p a (M.getD i []) ∧ a ≠ D ∧ H1 a = none) : ∃ rs : List Addr, ys = rs.map V.ref ∧ All2 (RowV H' p) rs M ∧ D ∉ rs ∧ ∀ a ∈ rs, H1 a = none := by
  obtain ⟨rs, rfl, hr⟩ := refs_of (P := fun i a => RowV H' p a (M.getD i []) ∧ a ≠ D ∧ H1 a = none) h
  rw [List.length_map] at hl
  refine ⟨rs, rfl, ⟨hl, fun i a xs e1 e2 => ?_⟩, fun z => ?_, fun a ha => ?_⟩
  · have := (hr i a e1).1
    rwa [List.getD_eq_getElem?_getD, e2] at this
  · obtain ⟨j, hj, e⟩ := List.mem_iff_getElem.mp z
    exact (hr j D (by rw [List.getElem?_eq_getElem hj, e])).2.1 rfl
  · obtain ⟨j, hj, rfl⟩ := List.mem_iff_getElem.mp ha
    exact (hr j _ (List.getElem?_eq_getElem hj)).2.2
end
end Pf
set_option maxHeartbeats 1000000
namespace Pf
open PySem L2 PyProof.Rows
section
variable {P : Program} {w : World} {K : PySem.W.Frag} {mg : Str → Option Value} {base : Heap} {C G S : Addr}
theorem ok_bag {f : Addr} {fd : FuncData} (F : Fun K "_law_bag" "_law_bag" s_law_bag f fd) (T : Txt K mg C G S) : FnOk P w K mg base CX0 1 f fd ["_law_cell_here"] spBag := by
  have nd := sc_law_bag.nd
  refine F.ok sc_law_bag (fun vs H Q E h => ?_) (fun cdv A outer s H vs Q E hr h => ?_)
  · obtain ⟨c, rfl, _⟩ := h
    rfl
  · obtain ⟨c, rfl, q⟩ := h
    refine ⟨_, (@pss_cons _ _ _ _ _ (@ps_if _ _ _ _ _ _ _ _ (pt_cmpR op_ge (pv 0) (@pe_op _ _ _ _ _ _ _ _ op_pow pe_int pe_int) (nomark _)) (@pss_one _ _ _ (@ps_ret _ _ _ _ (@pe_lst _ _ _ _ (@pa_c _ _ _ _ _ (pv 0) (@pa_c _ _ _ _ _ (@pe_op _ _ _ _ _ _ _ _ op_mod (pv 0) pe_int) pa_nil (by rfl)) (by rfl))))) pss_nil) (@pss_one _ _ _ (@ps_ret _ _ _ _ (@pe_lst _ _ _ _ (@pa_c _ _ _ _ _ pe_int (@pa_c _ _ _ _ _ (@pe_op _ _ _ _ _ _ _ _ op_mod (@pe_op _ _ _ _ _ _ _ _ op_add (@pe_op _ _ _ _ _ _ _ _ op_mul (@pe_op _ _ _ _ _ _ _ _ op_mod (pv 0) pe_int) pe_int) pe_int) pe_int) pa_nil (by rfl)) (by rfl)))))), ?_⟩
    walk_at "wp"
    refine ⟨cpow _ (by decide) (by decide), ite2 (fun _ => ?_) (fun _ => ?_)⟩
    · exact ⟨by decide, by decide, fun p hp => q p _ _ hp (mod_lo _ _ (by decide)) (mod_hi _ _ (by decide))⟩
    · exact ⟨by decide, .inr ⟨by decide, by decide⟩, by decide, by decide, fun p hp => q p _ _ hp (mod_lo _ _ (by decide)) (mod_hi _ _ (by decide))⟩
theorem ok_draw {f : Addr} {fd : FuncData} (F : Fun K "_law_draw" "_law_draw" s_law_draw f fd) (T : Txt K mg C G S) : FnOk P w K mg base CX0 1 f fd ["_law_bag_here", "_law_many"] spDraw := by
  have nd := sc_law_draw.nd
  refine F.ok sc_law_draw (fun vs H Q E h => ?_) (fun cdv A outer s H vs Q E hr h => ?_)
  · obtain ⟨l, a, b, n, rfl, _⟩ := h
    rfl
  · obtain ⟨l, a, b, n, rfl, hl, b0, b1, n0, n1, q⟩ := h
    refine ⟨_, (@pss_cons _ _ _ _ _ (@ps_if _ _ _ _ _ _ _ _ (pt_cmpR op_gt (@pe_ix _ _ _ _ _ _ _ ix_list (pv 0) pe_int (fun _ _ => rfl)) pe_int (nomark _)) (@pss_cons _ _ _ _ _ (ps_set (i := 2) nd rfl (Or.inl rfl) (@pe_op _ _ _ _ _ _ _ _ op_mod (@pe_ix _ _ _ _ _ _ _ ix_list (pv 0) pe_int (fun _ _ => rfl)) (pv 1))) (@pss_cons _ _ _ _ _ (ps_asg (@pe_op _ _ _ _ _ _ _ _ op_fdiv (@pe_ix _ _ _ _ _ _ _ ix_list (pv 0) pe_int (fun _ _ => rfl)) (pv 1)) (pg_sub (pv 0) pe_int set_list)) (@pss_one _ _ _ (@ps_ret _ _ _ _ (pv 2))))) pss_nil) (@pss_cons _ _ _ _ _ (ps_asg (@pe_op _ _ _ _ _ _ _ _ op_mod (@pe_op _ _ _ _ _ _ _ _ op_add (@pe_op _ _ _ _ _ _ _ _ op_mul (@pe_ix _ _ _ _ _ _ _ ix_list (pv 0) pe_int (fun _ _ => rfl)) pe_int) pe_int) pe_int) (pg_sub (pv 0) pe_int set_list)) (@pss_one _ _ _ (@ps_ret _ _ _ _ (@pe_op _ _ _ _ _ _ _ _ op_mod (@pe_op _ _ _ _ _ _ _ _ op_fdiv (@pe_op _ _ _ _ _ _ _ _ op_mod (@pe_op _ _ _ _ _ _ _ _ op_mul (@pe_ix _ _ _ _ _ _ _ ix_list (pv 0) pe_int (fun _ _ => rfl)) (@pe_op _ _ _ _ _ _ _ _ op_add (@pe_op _ _ _ _ _ _ _ _ op_fdiv (@pe_ix _ _ _ _ _ _ _ ix_list (pv 0) pe_int (fun _ _ => rfl)) pe_int) pe_int)) pe_int) pe_int) (pv 1)))))), ?_⟩
    walk_at "wp"
    refine ⟨_, SqL.of hl, _, rfl, _, rfl, ite2 (fun hc => ?_) (fun hc => ?_)⟩
    · refine ⟨_, SqL.of hl, _, rfl, _, rfl, n0, _, SqL.of hl, _, rfl, _, rfl, ⟨n0, by omega⟩, _, hl, _, rfl, ?_⟩
      exact q _ _ _ (mod_lo _ _ n0) (mod_hi _ _ n0) b0 b1
    · refine ⟨_, SqL.of hl, _, rfl, _, rfl, .inr ⟨by decide, by decide⟩, by decide, _, hl, _, rfl, _, SqL.of upd_same, _, rfl, _, SqL.of upd_same, _, rfl, _, rfl, ⟨by decide, by decide⟩, _, rfl, ?_⟩
      have h1 := mod_lo (b * 48271 + 4099) 2147483647 (by decide)
      have h2 := mod_hi (b * 48271 + 4099) 2147483647 (by decide)
      refine ⟨.inl ⟨by omega, by omega⟩, by decide, ⟨by decide, by decide⟩, n0, ?_⟩
      exact q _ _ _ (mod_lo _ _ n0) (mod_hi _ _ n0) h1 h2
def spGcd : Sp := fun vs H Q _ => ∃ a b : Int, vs = [.int a, .int b] ∧ Q (.int (Int.gcd a b : Int)) H
theorem ok_gcd {f : Addr} {fd : FuncData} (F : Fun K "_law_gcd" "_law_gcd" s_law_gcd f fd) (T : Txt K mg C G S) : FnOk P w K mg base CX0 1 f fd ["_law_one", "_law_two"] spGcd := by
  have nd := sc_law_gcd.nd
  refine F.ok sc_law_gcd (fun vs H Q E h => ?_) (fun cdv A outer s H vs Q E hr h => ?_)
  · obtain ⟨a, b, rfl, _⟩ := h
    rfl
  · obtain ⟨a, b, rfl, q⟩ := h
    refine ⟨_, (@pss_cons _ _ _ _ _ (ps_set (i := 0) nd rfl (Or.inl rfl) (pe_cB call_abs rfl T.n_abs boot_abs (@pa_c _ _ _ _ _ (pv 0) pa_nil (by rfl)))) (@pss_cons _ _ _ _ _ (ps_set (i := 1) nd rfl (Or.inl rfl) (pe_cB call_abs rfl T.n_abs boot_abs (@pa_c _ _ _ _ _ (pv 1) pa_nil (by rfl)))) (@pss_cons _ _ _ _ _ (ps_while PassesOwn.never (pt_cmpR op_gt (pv 1) pe_int (nomark _)) (@pss_cons _ _ _ _ _ (ps_set (i := 2) nd rfl (Or.inl rfl) (@pe_op _ _ _ _ _ _ _ _ op_mod (pv 0) (pv 1))) (@pss_cons _ _ _ _ _ (ps_set (i := 0) nd rfl (Or.inl rfl) (pv 1)) (@pss_one _ _ _ (ps_set (i := 1) nd rfl (Or.inl rfl) (pv 2)))))) (@pss_one _ _ _ (@ps_ret _ _ _ _ (pv 0)))))), ?_⟩
    walk_at "wp"
    have ea : (if a < 0 then -a else a) = (a.natAbs : Int) := by split <;> omega
    have eb : (if b < 0 then -b else b) = (b.natAbs : Int) := by split <;> omega
    rw [ea, eb]
    refine ⟨fun n σ H2 => ∃ (x y : Int) (v : Option V), σ = [some (.int x), some (.int y), v] ∧ H2 = H ∧ 0 ≤ x ∧ 0 ≤ y ∧ n = y.toNat ∧ Int.gcd x y = Int.gcd a b, ⟨_, _, _, none, rfl, rfl, by omega, by omega, rfl, by unfold Int.gcd; rfl⟩, ?_⟩
    rintro n σ H2 ⟨x, y, v, rfl, rfl, hx, hy, rfl, hg⟩
    walk_at "wp"
    refine ite2 (fun hc => ?_) (fun hc => ?_)
    · have y1 : 0 < y := of_decide_eq_true hc
      have l1 := Int.emod_nonneg x (show y ≠ 0 by omega)
      have l2 := Int.emod_lt_of_pos x y1
      refine ⟨_, fun _ _ h => h, ?_⟩
      walk_at "wp"
      exact ⟨y1, _, by omega, y, x % y, _, ⟨rfl, rfl, rfl⟩, by omega, l1, rfl, by rw [gcd_step]; exact hg⟩
    · have hy0 : ¬ 0 < y := fun z => hc (decide_eq_true z)
      have hy0 : y = 0 := by omega
      subst hy0
      have e : x = (Int.gcd a b : Int) := by
        rw [← hg, Int.gcd_zero]
        omega
      rw [← e] at q
      exact q
theorem ok_lowest {f : Addr} {fd : FuncData} (F : Fun K "_law_lowest" "_law_lowest" s_law_lowest f fd) (T : Txt K mg C G S) (C_law_gcd : Cal P w K mg base "_law_gcd" 1 spGcd) : FnOk P w K mg base CX0 2 f fd ["_law_top", "_law_bottom"] spFrac := by
  have nd := sc_law_lowest.nd
  refine F.ok sc_law_lowest (fun vs H Q E h => ?_) (fun cdv A outer s H vs Q E hr h => ?_)
  · obtain ⟨a, b, rfl, _⟩ := h
    rfl
  · obtain ⟨a, b, rfl, _, hb, hB, q⟩ := h
    refine ⟨_, (@pss_cons _ _ _ _ _ (@ps_if _ _ _ _ _ _ _ _ (pt_cmpR op_lt (pv 1) pe_int (nomark _)) (@pss_one _ _ _ ps_never) pss_nil) (@pss_cons _ _ _ _ _ (ps_set (i := 2) nd rfl (Or.inl rfl) (pe_c C_law_gcd (hr.mono (by decide)) rfl (@pa_c _ _ _ _ _ (pv 0) (@pa_c _ _ _ _ _ (pv 1) pa_nil (by rfl)) (by rfl)))) (@pss_one _ _ _ (@ps_ret _ _ _ _ (@pe_tup _ _ _ _ _ (@pa_c _ _ _ _ _ (@pe_op _ _ _ _ _ _ _ _ op_fdivG (pv 0) (pv 2)) (@pa_c _ _ _ _ _ (@pe_op _ _ _ _ _ _ _ _ op_fdivG (pv 1) (pv 2)) pa_nil (by rfl)) (by rfl))))))), ?_⟩
    walk_at "wp"
    exact iteN (by rw [decide_eq_false (by omega)]; decide) ⟨a, b, rfl, _, rfl, cdiv_gcd hb hB, _, rfl, cdiv_gcd hb hB, by decide, fun t ht => q t ht⟩
theorem ok_lwhole {f : Addr} {fd : FuncData} (F : Fun K "_law_whole" "_law_whole" s_law_whole f fd) (T : Txt K mg C G S) : FnOk P w K mg base CX0 1 f fd ["_law_found"] spWhole := by
  have nd := sc_law_whole.nd
  refine F.ok sc_law_whole (fun vs H Q E h => ?_) (fun cdv A outer s H vs Q E hr h => ?_)
  · obtain ⟨i, rfl, _⟩ := h
    rfl
  · obtain ⟨i, rfl, q⟩ := h
    refine ⟨_, (@pss_one _ _ _ (@ps_ret _ _ _ _ (pe_and (pe_cB call_isinst rfl T.n_isinstance boot_isinstance (@pa_c _ _ _ _ _ (pv 0) (@pa_c _ _ _ _ _ (pe_ty rfl T.n_int boot_int) pa_nil (by rfl)) (by rfl))) (pe_one (pe_not (pe_cB call_isinst rfl T.n_isinstance boot_isinstance (@pa_c _ _ _ _ _ (pv 0) (@pa_c _ _ _ _ _ (pe_ty rfl T.n_bool boot_bool) pa_nil (by rfl)) (by rfl)))))))), ?_⟩
    walk_at "wp"
    exact ⟨_, _, ⟨rfl, rfl⟩, _, rfl, _, .int i, _, k_int_int K, iteT ⟨_, _, ⟨rfl, rfl⟩, _, rfl, _, .int i, _, k_int_bool K, q⟩⟩
def spPr : Sp := fun vs H Q _ => ∃ l : Addr, vs = [.ref l] ∧ Bag H l ∧ ∀ (p : Int) (H' : Hp), Ext l H H' → Bag H' l → GroundP p → Q (.int p) H'
theorem ok_lprime {f : Addr} {fd : FuncData} (F : Fun K "_law_prime" "_law_prime" s_law_prime f fd) (T : Txt K mg C G S) (C_law_draw : Cal P w K mg base "_law_draw" 1 spDraw) : FnOk P w K mg base CX0 2 f fd ["_law_bag_here"] spPr := by
  have nd := sc_law_prime.nd
  refine F.ok sc_law_prime (fun vs H Q E h => ?_) (fun cdv A outer s H vs Q E hr h => ?_)
  · obtain ⟨l, rfl, _⟩ := h
    rfl
  · obtain ⟨l, rfl, hb, q⟩ := h
    refine ⟨_, (@pss_cons _ _ _ _ _ (ps_set (i := 1) nd rfl (Or.inl rfl) (pe_c C_law_draw (hr.mono (by decide)) rfl (@pa_c _ _ _ _ _ (pv 0) (@pa_c _ _ _ _ _ pe_int pa_nil (by rfl)) (by rfl)))) (@pss_cons _ _ _ _ _ (@ps_if _ _ _ _ _ _ _ _ (pt_cmpR op_lt (pv 1) pe_int (nomark _)) (@pss_one _ _ _ (@ps_ret _ _ _ _ (@pe_ix _ _ _ _ _ _ _ ix_list (@pe_lst _ _ _ _ (@pa_c _ _ _ _ _ pe_int (@pa_c _ _ _ _ _ pe_int (@pa_c _ _ _ _ _ pe_int (@pa_c _ _ _ _ _ pe_int (@pa_c _ _ _ _ _ pe_int pa_nil (by rfl)) (by rfl)) (by rfl)) (by rfl)) (by rfl))) (pv 1) (fun _ _ => rfl)))) pss_nil) (@pss_one _ _ _ (@ps_ret _ _ _ _ (@pe_ix _ _ _ _ _ _ _ ix_list (@pe_lst _ _ _ _ (@pa_c _ _ _ _ _ pe_int (@pa_c _ _ _ _ _ pe_int (@pa_c _ _ _ _ _ pe_int (@pa_c _ _ _ _ _ pe_int (@pa_c _ _ _ _ _ pe_int (@pa_c _ _ _ _ _ pe_int (@pa_c _ _ _ _ _ pe_int (@pa_c _ _ _ _ _ pe_int (@pa_c _ _ _ _ _ pe_int (@pa_c _ _ _ _ _ pe_int (@pa_c _ _ _ _ _ pe_int (@pa_c _ _ _ _ _ pe_int (@pa_c _ _ _ _ _ pe_int (@pa_c _ _ _ _ _ pe_int (@pa_c _ _ _ _ _ pe_int (@pa_c _ _ _ _ _ pe_int (@pa_c _ _ _ _ _ pe_int (@pa_c _ _ _ _ _ pe_int (@pa_c _ _ _ _ _ pe_int (@pa_c _ _ _ _ _ pe_int (@pa_c _ _ _ _ _ pe_int (@pa_c _ _ _ _ _ pe_int pa_nil (by rfl)) (by rfl)) (by rfl)) (by rfl)) (by rfl)) (by rfl)) (by rfl)) (by rfl)) (by rfl)) (by rfl)) (by rfl)) (by rfl)) (by rfl)) (by rfl)) (by rfl)) (by rfl)) (by rfl)) (by rfl)) (by rfl)) (by rfl)) (by rfl)) (by rfl))) (pe_c C_law_draw (hr.mono (by decide)) rfl (@pa_c _ _ _ _ _ (pv 0) (@pa_c _ _ _ _ _ pe_int pa_nil (by rfl)) (by rfl))) (fun _ _ => rfl)))))), ?_⟩
    walk_at "wp"
    refine hb.draw (by decide) (by decide) fun z H2 z0 z1 e2 b2 => ⟨z, rfl, ite2 (fun hz => ?_) (fun hz => ?_)⟩
    · have hz := of_decide_eq_true hz
      refine ⟨by decide, fun p1 hp1 => ?_⟩
      obtain ⟨p, hp, gp⟩ := pick_good (L := [0, 2, 3, 5, 97]) (by decide +kernel) z0 (show z < (5 : Nat) by omega)
      have n1 : p1 ≠ l := b2.ne hp1
      exact ⟨_, z, rfl, SqL.of upd_same, _, hp, q p _ (e2.trans (Ext.new hp1)) (b2.new n1) gp⟩
    · refine ⟨by decide, fun p1 hp1 => ?_⟩
      have n1 : p1 ≠ l := b2.ne hp1
      refine (b2.new n1).draw (by decide) (by decide) fun y H3 y0 y1 e3 b3 => ?_
      obtain ⟨p, hp, gp⟩ := pick_good (L := [0, 7, 11, 13, 17, 19, 23, 29, 31, 37, 41, 43, 47, 53, 59, 61, 67, 71, 73, 79, 83, 89]) (by decide +kernel) y0 (show y < (22 : Nat) by omega)
      exact ⟨_, y, rfl, SqL.of (e3 _ _ n1 upd_same), _, hp, q p _ ((e2.trans (Ext.new hp1)).trans e3) b3 gp⟩
def spInt : Sp := fun vs H Q _ => ∃ p k : Int, vs = [.int p, .int k] ∧ GroundP p ∧ ∀ v H', Same H H' → NumV H' p v (intN p k) → Q v H'
theorem ok_int {f : Addr} {fd : FuncData} (F : Fun K "_law_int" "_law_int" s_law_int f fd) (T : Txt K mg C G S) : FnOk P w K mg base CX0 1 f fd ["_law_p", "_law_k"] spInt := by
  have nd := sc_law_int.nd
  refine F.ok sc_law_int (fun vs H Q E h => ?_) (fun cdv A outer s H vs Q E hr h => ?_)
  · obtain ⟨p, k, rfl, _⟩ := h
    rfl
  · obtain ⟨p, k, rfl, hp, q⟩ := h
    have p0 := hp.lo
    refine ⟨_, (@pss_cons _ _ _ _ _ (@ps_if _ _ _ _ _ _ _ _ (pt_cmpR op_gt (pv 0) pe_int (nomark _)) (@pss_one _ _ _ (@ps_ret _ _ _ _ (@pe_op _ _ _ _ _ _ _ _ op_mod (pv 1) (pv 0)))) pss_nil) (@pss_one _ _ _ (@ps_ret _ _ _ _ (@pe_tup _ _ _ _ _ (@pa_c _ _ _ _ _ (pv 1) (@pa_c _ _ _ _ _ pe_int pa_nil (by rfl)) (by rfl)))))), ?_⟩
    walk_at "wp"
    refine ite2 (fun hc => ?_) (fun hc => ?_)
    · have hc := of_decide_eq_true hc
      refine ⟨hc, q _ H (Same.refl _) ?_⟩
      have := NumV.of (H := H) (x := intN p k) (show ¬ p = 0 by omega)
      rw [intN, if_neg (by omega)] at this ⊢
      exact this
    · have hc : ¬ 0 < p := fun z => hc (decide_eq_true z)
      have hp0 : p = 0 := by omega
      refine ⟨by decide, fun t ht => q _ _ (Same.new ht) ?_⟩
      rw [intN, if_pos hp0]
      exact NumV.tup hp0 upd_same
def spSame : Sp := fun vs H Q _ => ∃ (p : Int) (v u : V) (x : Int × Int), vs = [.int p, v, u] ∧ GroundP p ∧ NumV H p v x ∧ NumV H p u x ∧ Q (.bl true) H
theorem ok_same {f : Addr} {fd : FuncData} (F : Fun K "_law_same" "_law_same" s_law_same f fd) (T : Txt K mg C G S) (C_law_whole : Cal P w K mg base "_law_whole" 1 spWhole) : FnOk P w K mg base CX0 2 f fd ["_law_p", "_law_found", "_law_due"] spSame := by
  have nd := sc_law_same.nd
  refine F.ok sc_law_same (fun vs H Q E h => ?_) (fun cdv A outer s H vs Q E hr h => ?_)
  · obtain ⟨p, v, u, x, rfl, _⟩ := h
    rfl
  · obtain ⟨p, v, u, x, rfl, hp, h1, h2, q⟩ := h
    have hu8 := room8 hr
    have p0 := hp.lo
    refine ⟨_, (@pss_cons _ _ _ _ _ (@ps_if _ _ _ _ _ _ _ _ (pt_cmpR op_gt (pv 0) pe_int (nomark _)) (@pss_one _ _ _ (@ps_ret _ _ _ _ (pe_and (pe_c C_law_whole (hr.mono (by decide)) rfl (@pa_c _ _ _ _ _ (pv 1) pa_nil (by rfl))) (pe_one (pe_cmpR (op_eqN hu8) (pv 1) (pv 2) (nomark _)))))) pss_nil) (@pss_cons _ _ _ _ _ (@ps_if _ _ _ _ _ _ _ _ (PW.pt (pw_or (pt_not (pt_val (pe_cB call_isinst rfl T.n_isinstance boot_isinstance (@pa_c _ _ _ _ _ (pv 1) (@pa_c _ _ _ _ _ (pe_ty rfl T.n_tuple boot_tuple) pa_nil (by rfl)) (by rfl))))) (pw_or1 (pt_cmpR op_ne (pe_cB call_len_seq rfl T.n_len PySem.boot_len (@pa_c _ _ _ _ _ (pv 1) pa_nil (by rfl))) pe_int (nomark _))))) (@pss_one _ _ _ (@ps_ret _ _ _ _ pe_bl)) pss_nil) (@pss_one _ _ _ (@ps_ret _ _ _ _ (pe_and (pe_c C_law_whole (hr.mono (by decide)) rfl (@pa_c _ _ _ _ _ (@pe_ix _ _ _ _ _ _ _ ix_tup (pv 1) pe_int (fun _ _ => rfl)) pa_nil (by rfl))) (pe_and (pe_c C_law_whole (hr.mono (by decide)) rfl (@pa_c _ _ _ _ _ (@pe_ix _ _ _ _ _ _ _ ix_tup (pv 1) pe_int (fun _ _ => rfl)) pa_nil (by rfl))) (pe_one (pe_cmpR (op_eqN hu8) (pv 1) (pv 2) (nomark _))))))))), ?_⟩
    walk_at "wp"
    refine ite2 (fun hc => ?_) (fun hc => ?_)
    · have hc := of_decide_eq_true hc
      obtain rfl := h1.int (by omega)
      exact ⟨x.1, rfl, true, rfl, iteT (num_eq h1 h2 q)⟩
    · have hc : ¬ 0 < p := fun z => hc (decide_eq_true z)
      have hp0 : p = 0 := by omega
      obtain ⟨t, rfl, ht⟩ := h1.ref hp0
      walk_at "wp"
      exact ⟨_, _, ⟨rfl, rfl⟩, _, rfl, _, .tup ht, _, k_tup_tup K, iteF ⟨_, .inr (SqT.of ht), iteF ⟨_, SqT.of ht, _, rfl, _, rfl, true, rfl, iteT ⟨_, SqT.of ht, _, rfl, _, rfl, true, rfl, iteT (num_eq h1 h2 q)⟩⟩⟩⟩
abbrev B30 : Nat := 1000000000000000000000000000000
def spGreat : Sp := fun vs H Q _ => ∃ l : Addr, vs = [.ref l] ∧ Bag H l ∧ ∀ (n : Int) (H' : Hp), Ext l H H' → Bag H' l → 0 ≤ n → n < 1000000000000000000000000000000 → Q (.int n) H'
theorem ok_great {f : Addr} {fd : FuncData} (F : Fun K "_law_great" "_law_great" s_law_great f fd) (T : Txt K mg C G S) (C_law_draw : Cal P w K mg base "_law_draw" 1 spDraw) : FnOk P w K mg base CX0 2 f fd ["_law_bag_here"] spGreat := by
  have nd := sc_law_great.nd
  refine F.ok sc_law_great (fun vs H Q E h => ?_) (fun cdv A outer s H vs Q E hr h => ?_)
  · obtain ⟨l, rfl, _⟩ := h
    rfl
  · obtain ⟨l, rfl, hb, q⟩ := h
    refine ⟨_, (@pss_cons _ _ _ _ _ (ps_set (i := 1) nd rfl (Or.inl rfl) (pe_c C_law_draw (hr.mono (by decide)) rfl (@pa_c _ _ _ _ _ (pv 0) (@pa_c _ _ _ _ _ pe_int pa_nil (by rfl)) (by rfl)))) (@pss_cons _ _ _ _ _ (ps_for PassesOwn.never rfl (pi_r1 rfl T.n_range (@pa_c _ _ _ _ _ pe_int pa_nil (by rfl))) (@pg_name _ _ 2 _ nd rfl (Or.inl rfl) (Or.inl rfl)) (@pss_one _ _ _ (ps_set (i := 1) nd rfl (Or.inl rfl) (@pe_op _ _ _ _ _ _ _ _ op_add (@pe_op _ _ _ _ _ _ _ _ op_mulG (pv 1) (@pe_op _ _ _ _ _ _ _ _ op_pow pe_int pe_int)) (pe_c C_law_draw (hr.mono (by decide)) rfl (@pa_c _ _ _ _ _ (pv 0) (@pa_c _ _ _ _ _ (@pe_op _ _ _ _ _ _ _ _ op_pow pe_int pe_int) pa_nil (by rfl)) (by rfl))))))) (@pss_one _ _ _ (@ps_ret _ _ _ _ (pv 1))))), ?_⟩
    walk_at "wp"
    refine hb.draw (by decide) (by decide) fun n0 H1 a0 a1 e1 b1 => ?_
    refine ⟨4, rfl, by decide, by decide, for_range (fun k σ H2 => ∃ (v2 : Option V) (n : Int), σ = [some (.ref l), some (.int n), v2] ∧ Ext l H H2 ∧ Bag H2 l ∧ 0 ≤ n ∧ n < 100 * 10000000 ^ k) ⟨none, n0, rfl, e1, b1, a0, by simpa using a1⟩ ?_ ?_⟩
    · rintro k σ H2 hk ⟨v2, n, rfl, e2, b2, n0', n1⟩
      have hk : k < 4 := hk
      have kb : (10000000 : Int) ^ k ≤ 10000000 ^ 3 := by
        match k, hk with
        | 0, _ => decide
        | 1, _ => decide
        | 2, _ => decide
        | 3, _ => decide
      walk_at "wp"
      have e7 : (10 : Int) ^ Int.toNat 7 = 10000000 := by decide
      rw [e7]
      have ps : (100 : Int) * 10000000 ^ (k + 1) = 100 * 10000000 ^ k * 10000000 := by rw [Int.pow_succ, Int.mul_assoc]
      have nl : n < 100 * 1000000000000000000000 := by
        have : (10000000 : Int) ^ 3 = 1000000000000000000000 := by decide
        omega
      refine ⟨cpow _ (by decide) (by decide), Big.mul ⟨by omega, by omega⟩ ⟨by decide, by decide⟩, cpow _ (by decide) (by decide), b2.draw (by decide) (by decide) fun y H3 y0 y1 e3 b3 => ⟨y, rfl, _, _, ⟨rfl, rfl⟩, e2.trans e3, b3, by omega, ?_⟩⟩
      rw [ps]
      omega
    · rintro σ H2 ⟨v2, n, rfl, e2, b2, n0', n1⟩
      walk_at "wp"
      exact q n H2 e2 b2 n0' (by simpa using n1)
def spSigned : Sp := fun vs H Q _ => ∃ l : Addr, vs = [.ref l] ∧ Bag H l ∧ ∀ (n : Int) (H' : Hp), Ext l H H' → Bag H' l → -1000000000000000000000000000000 < n → n < 1000000000000000000000000000000 → Q (.int n) H'
theorem ok_signed {f : Addr} {fd : FuncData} (F : Fun K "_law_signed" "_law_signed" s_law_signed f fd) (T : Txt K mg C G S) (C_law_draw : Cal P w K mg base "_law_draw" 1 spDraw) (C_law_great : Cal P w K mg base "_law_great" 2 spGreat) : FnOk P w K mg base CX0 3 f fd ["_law_bag_here"] spSigned := by
  have nd := sc_law_signed.nd
  refine F.ok sc_law_signed (fun vs H Q E h => ?_) (fun cdv A outer s H vs Q E hr h => ?_)
  · obtain ⟨l, rfl, _⟩ := h
    rfl
  · obtain ⟨l, rfl, hb, q⟩ := h
    refine ⟨_, (@pss_cons _ _ _ _ _ (@ps_if _ _ _ _ _ _ _ _ (pt_cmpR op_eq (pe_c C_law_draw (hr.mono (by decide)) rfl (@pa_c _ _ _ _ _ (pv 0) (@pa_c _ _ _ _ _ pe_int pa_nil (by rfl)) (by rfl))) pe_int (nomark _)) (@pss_one _ _ _ (@ps_ret _ _ _ _ (pe_c C_law_great (hr.mono (by decide)) rfl (@pa_c _ _ _ _ _ (pv 0) pa_nil (by rfl))))) pss_nil) (@pss_one _ _ _ (@ps_ret _ _ _ _ (pe_un un_neg (pe_c C_law_great (hr.mono (by decide)) rfl (@pa_c _ _ _ _ _ (pv 0) pa_nil (by rfl))))))), ?_⟩
    walk_at "wp"
    refine hb.draw (by decide) (by decide) fun z H1 z0 z1 e1 b1 => ⟨rfl, ite2 (fun _ => ?_) (fun _ => ?_)⟩
    · exact ⟨l, rfl, b1, fun n H2 e2 b2 n0 n1 => q n H2 (e1.trans e2) b2 (by omega) n1⟩
    · exact ⟨l, rfl, b1, fun n H2 e2 b2 n0 n1 => ⟨n, rfl, q (-n) H2 (e1.trans e2) b2 (by omega) (by omega)⟩⟩
def spNum : Sp := fun vs H Q _ => ∃ (l : Addr) (p : Int), vs = [.ref l, .int p] ∧ Bag H l ∧ GroundP p ∧ ∀ (v : V) (x : Int × Int) (H' : Hp), Ext l H H' → Bag H' l → NumV H' p v x → Isn p x → Bd BB x → Q v H'
theorem ok_lnum {f : Addr} {fd : FuncData} (F : Fun K "_law_number" "_law_number" s_law_number f fd) (T : Txt K mg C G S) (C_law_draw : Cal P w K mg base "_law_draw" 1 spDraw) (C_law_lowest : Cal P w K mg base "_law_lowest" 2 spFrac) (C_law_signed : Cal P w K mg base "_law_signed" 3 spSigned) (C_law_great : Cal P w K mg base "_law_great" 2 spGreat) : FnOk P w K mg base CX0 4 f fd ["_law_bag_here", "_law_p"] spNum := by
  have nd := sc_law_number.nd
  refine F.ok sc_law_number (fun vs H Q E h => ?_) (fun cdv A outer s H vs Q E hr h => ?_)
  · obtain ⟨l, p, rfl, _⟩ := h
    rfl
  · obtain ⟨l, p, rfl, hb, hp, q⟩ := h
    have p0 := hp.lo
    have p97 := hp.hi
    refine ⟨_, (@pss_cons _ _ _ _ _ (@ps_if _ _ _ _ _ _ _ _ (pt_cmpR op_gt (pv 1) pe_int (nomark _)) (@pss_one _ _ _ (@ps_ret _ _ _ _ (pe_c C_law_draw (hr.mono (by decide)) rfl (@pa_c _ _ _ _ _ (pv 0) (@pa_c _ _ _ _ _ (pv 1) pa_nil (by rfl)) (by rfl))))) pss_nil) (@pss_cons _ _ _ _ _ (ps_set (i := 2) nd rfl (Or.inl rfl) (pe_c C_law_draw (hr.mono (by decide)) rfl (@pa_c _ _ _ _ _ (pv 0) (@pa_c _ _ _ _ _ pe_int pa_nil (by rfl)) (by rfl)))) (@pss_cons _ _ _ _ _ (@ps_if _ _ _ _ _ _ _ _ (pt_cmpR op_eq (pv 2) pe_int (nomark _)) (@pss_one _ _ _ (@ps_ret _ _ _ _ (pe_c C_law_lowest (hr.mono (by decide)) rfl (@pa_c _ _ _ _ _ (pe_c C_law_signed (hr.mono (by decide)) rfl (@pa_c _ _ _ _ _ (pv 0) pa_nil (by rfl))) (@pa_c _ _ _ _ _ (pe_cB (call_max2 rfl) rfl T.n_max boot_max (@pa_c _ _ _ _ _ pe_int (@pa_c _ _ _ _ _ (pe_c C_law_great (hr.mono (by decide)) rfl (@pa_c _ _ _ _ _ (pv 0) pa_nil (by rfl))) pa_nil (by rfl)) (by rfl))) pa_nil (by rfl)) (by rfl))))) pss_nil) (@pss_cons _ _ _ _ _ (@ps_if _ _ _ _ _ _ _ _ (pt_cmpR op_lt (pv 2) pe_int (nomark _)) (@pss_one _ _ _ (@ps_ret _ _ _ _ (pe_c C_law_lowest (hr.mono (by decide)) rfl (@pa_c _ _ _ _ _ (@pe_op _ _ _ _ _ _ _ _ op_sub (pe_c C_law_draw (hr.mono (by decide)) rfl (@pa_c _ _ _ _ _ (pv 0) (@pa_c _ _ _ _ _ pe_int pa_nil (by rfl)) (by rfl))) pe_int) (@pa_c _ _ _ _ _ (@pe_op _ _ _ _ _ _ _ _ op_add pe_int (pe_c C_law_draw (hr.mono (by decide)) rfl (@pa_c _ _ _ _ _ (pv 0) (@pa_c _ _ _ _ _ pe_int pa_nil (by rfl)) (by rfl)))) pa_nil (by rfl)) (by rfl))))) pss_nil) (@pss_one _ _ _ (@ps_ret _ _ _ _ (@pe_ix _ _ _ _ _ _ _ ix_list (@pe_lst _ _ _ _ (@pa_c _ _ _ _ _ (@pe_tup _ _ _ _ _ (@pa_c _ _ _ _ _ pe_int (@pa_c _ _ _ _ _ pe_int pa_nil (by rfl)) (by rfl))) (@pa_c _ _ _ _ _ (@pe_tup _ _ _ _ _ (@pa_c _ _ _ _ _ pe_int (@pa_c _ _ _ _ _ pe_int pa_nil (by rfl)) (by rfl))) (@pa_c _ _ _ _ _ (@pe_tup _ _ _ _ _ (@pa_c _ _ _ _ _ (pe_un un_neg pe_int) (@pa_c _ _ _ _ _ pe_int pa_nil (by rfl)) (by rfl))) (@pa_c _ _ _ _ _ (@pe_tup _ _ _ _ _ (@pa_c _ _ _ _ _ pe_int (@pa_c _ _ _ _ _ pe_int pa_nil (by rfl)) (by rfl))) pa_nil (by rfl)) (by rfl)) (by rfl)) (by rfl))) (@pe_op _ _ _ _ _ _ _ _ op_sub (pv 2) pe_int) (fun _ _ => rfl)))))))), ?_⟩
    walk_at "wp"
    refine ite2 (fun hc => ?_) (fun hc => ?_)
    · have hc := of_decide_eq_true hc
      refine hb.draw hc (by omega) fun z H2 z0 z1 e2 b2 => ?_
      exact q (.int z) (z, 1) H2 e2 b2 (NumV.of (x := (z, 1)) (by omega)) (.inr ⟨hc, z0, z1, rfl⟩) ⟨by show z.natAbs ≤ 999999999999999999999999999999; omega, by show Int.natAbs 1 ≤ 999999999999999999999999999999; decide⟩
    · have hc : ¬ 0 < p := fun z => hc (decide_eq_true z)
      have hp0 : p = 0 := by omega
      subst hp0
      have fin : ∀ (H3 : Hp) (a b : Int), Ext l H H3 → Bag H3 l → 0 < b → a.natAbs ≤ 999999999999999999999999999999 → b.natAbs ≤ 999999999999999999999999999999 → spFrac [.int a, .int b] H3 Q E0 := fun H3 a b e3 b3 hb0 h1 h2 => by
        refine ⟨a, b, rfl, Top.of (by omega), hb0, by omega, fun t ht => ?_⟩
        have nt := b3.ne ht
        exact q _ (nrm a b) _ (e3.trans (Ext.new ht)) (b3.new nt) (NumV.tup rfl upd_same) (isn_nrm rfl hb0) (nrm_bd hb0 h1 h2)
      refine hb.draw (by decide) (by decide) fun z H2 z0 z1 e2 b2 => ⟨rfl, ite2 (fun hz => ?_) (fun hz => ?_)⟩
      · refine ⟨l, rfl, b2, fun a H3 e3 b3 a0 a1 => ⟨l, rfl, b3, fun b H4 e4 b4 b0 b1 => ⟨1, b, ⟨rfl, rfl⟩, ?_⟩⟩⟩
        have hm : 0 < (if b > 1 then b else 1) ∧ (if b > 1 then b else 1) < 1000000000000000000000000000000 := by split <;> omega
        exact fin H4 a _ ((e2.trans e3).trans e4) b4 hm.1 (by omega) (by omega)
      · refine ⟨z, rfl, ite2 (fun hz2 => ?_) (fun hz2 => ?_)⟩
        · exact b2.draw (by decide) (by decide) fun a H3 a0 a1 e3 b3 => ⟨a, rfl, b3.draw (by decide) (by decide) fun b H4 b0 b1 e4 b4 => ⟨b, rfl, fin H4 _ _ ((e2.trans e3).trans e4) b4 (by omega) (by omega) (by omega)⟩⟩
        · have hz2 : ¬ z < 4 := fun w => hz2 (decide_eq_true w)
          refine ⟨by decide, fun t1 h1 => ⟨by decide, fun t2 h2 => ⟨by decide, fun t3 h3 => ⟨by decide, fun t4 h4 => ⟨by decide, fun t5 h5 => ⟨z, rfl, _, SqL.of upd_same, ?_⟩⟩⟩⟩⟩⟩
          have s5 := Same.new (o := .lst [V.ref t1, V.ref t2, V.ref t3, V.ref t4]) h5
          have s4 := (Same.new (o := .tup [V.int 2, V.int 1]) h4).trans s5
          have s3 := (Same.new (o := .tup [V.int (-1), V.int 1]) h3).trans s4
          have s2 := (Same.new (o := .tup [V.int 1, V.int 1]) h2).trans s3
          have s1 := (Same.new (o := .tup [V.int 0, V.int 1]) h1).trans s2
          have hex := e2.trans s1.ext
          have hb5 := b2.same s1
          have : z = 4 ∨ z = 5 ∨ z = 6 ∨ z = 7 := by omega
          rcases this with rfl | rfl | rfl | rfl
          · exact ⟨_, rfl, q (.ref t1) (0, 1) _ hex hb5 (NumV.tup rfl (s2 _ _ upd_same)) (.inl ⟨rfl, by show (0 : Int) < 1; decide, by decide⟩) ⟨by decide, by decide⟩⟩
          · exact ⟨_, rfl, q (.ref t2) (1, 1) _ hex hb5 (NumV.tup rfl (s3 _ _ upd_same)) (.inl ⟨rfl, by show (0 : Int) < 1; decide, by decide⟩) ⟨by decide, by decide⟩⟩
          · exact ⟨_, rfl, q (.ref t3) (-1, 1) _ hex hb5 (NumV.tup rfl (s4 _ _ upd_same)) (.inl ⟨rfl, by show (0 : Int) < 1; decide, by decide⟩) ⟨by decide, by decide⟩⟩
          · exact ⟨_, rfl, q (.ref t4) (2, 1) _ hex hb5 (NumV.tup rfl (s5 _ _ upd_same)) (.inl ⟨rfl, by show (0 : Int) < 1; decide, by decide⟩) ⟨by decide, by decide⟩⟩
end
end Pf
set_option maxHeartbeats 1000000
namespace Pf
open PySem L2 PyProof.Rows
section
variable {P : Program} {w : World} {K : PySem.W.Frag} {mg : Str → Option Value} {base : Heap} {C G S : Addr}
theorem bd_int0 {p : Int} (hp : GroundP p) : Bd BB (intN p 0) := by
  by_cases h0 : p = 0
  · unfold intN
    rw [if_pos h0]
    exact ⟨by decide, by decide⟩
  · unfold intN
    rw [if_neg h0, Int.zero_emod]
    exact ⟨by decide, by decide⟩
def spRows : Sp := fun vs H Q _ => ∃ (l : Addr) (p hh wd : Int), vs = [.ref l, .int p, .int hh, .int wd] ∧ Bag H l ∧ GroundP p ∧ 0 ≤ hh ∧ hh ≤ 24 ∧ 0 ≤ wd ∧ wd ≤ 24 ∧
  ∀ (r : Addr) (rs : List Addr) (H' : Hp), Ext l H H' → Bag H' l → H r = none → (∀ a ∈ rs, H a = none) → r ∉ rs → H' r = some (.lst (rs.map V.ref)) → (rs.length : Int) = hh → (∀ a ∈ rs, RowO H' p BB wd a) → Q (.ref r) H'
theorem ok_rows {f : Addr} {fd : FuncData} (F : Fun K "_law_rows" "_law_rows" s_law_rows f fd) (T : Txt K mg C G S) (C_law_draw : Cal P w K mg base "_law_draw" 1 spDraw) (C_law_number : Cal P w K mg base "_law_number" 4 spNum) (C_law_int : Cal P w K mg base "_law_int" 1 spInt) : FnOk P w K mg base CX0 5 f fd ["_law_bag_here", "_law_p", "_law_high", "_law_wide"] spRows := by
  have nd := sc_law_rows.nd
  refine F.ok sc_law_rows (fun vs H Q E h => ?_) (fun cdv A outer s H vs Q E hr h => ?_)
  · obtain ⟨l, p, hh, wd, rfl, _⟩ := h
    rfl
  · obtain ⟨l, p, hh, wd, rfl, hb, hp, h0, h24, w0, w24, q⟩ := h
    refine ⟨_, (@pss_cons _ _ _ _ _ (ps_set (i := 4) nd rfl (Or.inl rfl) (@pe_op _ _ _ _ _ _ _ _ op_add pe_int (pe_c C_law_draw (hr.mono (by decide)) rfl (@pa_c _ _ _ _ _ (pv 0) (@pa_c _ _ _ _ _ pe_int pa_nil (by rfl)) (by rfl))))) (@pss_cons _ _ _ _ _ (ps_set (i := 5) nd rfl (Or.inl rfl) (@pe_lst _ _ _ _ pa_nil)) (@pss_cons _ _ _ _ _ (ps_for PassesOwn.never rfl (pi_r1 rfl T.n_range (@pa_c _ _ _ _ _ (pv 2) pa_nil (by rfl))) (@pg_name _ _ 6 _ nd rfl (Or.inl rfl) (Or.inl rfl)) (@pss_cons _ _ _ _ _ (ps_set (i := 7) nd rfl (Or.inl rfl) (@pe_lst _ _ _ _ pa_nil)) (@pss_cons _ _ _ _ _ (ps_for PassesOwn.never rfl (pi_r1 rfl T.n_range (@pa_c _ _ _ _ _ (pv 3) pa_nil (by rfl))) (@pg_name _ _ 8 _ nd rfl (Or.inl rfl) (Or.inl rfl)) (@pss_cons _ _ _ _ _ (ps_set (i := 9) nd rfl (Or.inl rfl) (pe_c C_law_number (hr.mono (by decide)) rfl (@pa_c _ _ _ _ _ (pv 0) (@pa_c _ _ _ _ _ (pv 1) pa_nil (by rfl)) (by rfl)))) (@pss_one _ _ _ (@ps_if _ _ _ _ _ _ _ _ (pt_cmpR op_lt (pe_c C_law_draw (hr.mono (by decide)) rfl (@pa_c _ _ _ _ _ (pv 0) (@pa_c _ _ _ _ _ pe_int pa_nil (by rfl)) (by rfl))) (pv 4) (nomark _)) (@pss_one _ _ _ (ps_expr (pe_bm PySem.F.plainAttrs_list PySem.F.slot_list_append PySem.F.type_list_append mt_append (pv 7) (@pa_c _ _ _ _ _ (pv 9) pa_nil (by rfl))))) (@pss_one _ _ _ (ps_expr (pe_bm PySem.F.plainAttrs_list PySem.F.slot_list_append PySem.F.type_list_append mt_append (pv 7) (@pa_c _ _ _ _ _ (pe_c C_law_int (hr.mono (by decide)) rfl (@pa_c _ _ _ _ _ (pv 1) (@pa_c _ _ _ _ _ pe_int pa_nil (by rfl)) (by rfl))) pa_nil (by rfl))))))))) (@pss_one _ _ _ (ps_expr (pe_bm PySem.F.plainAttrs_list PySem.F.slot_list_append PySem.F.type_list_append mt_append (pv 5) (@pa_c _ _ _ _ _ (pv 7) pa_nil (by rfl)))))))) (@pss_one _ _ _ (@ps_ret _ _ _ _ (pv 5)))))), ?_⟩
    walk_at "wp"
    refine hb.draw (by decide) (by decide) fun z H2 z0 z1 e2 b2 => ⟨z, rfl, by decide, fun r hr0 => ?_⟩
    have nr : r ≠ l := b2.ne hr0
    have fr : H r = none := e2.free nr hr0
    refine ⟨_, rfl, hh, rfl, by omega, by omega, for_range (fun i σ H3 => ∃ (v6 v7 v8 v9 : Option V) (rs : List Addr), σ = [some (.ref l), some (.int p), some (.int hh), some (.int wd), some (.int (1 + z)), some (.ref r), v6, v7, v8, v9] ∧ Ext l H H3 ∧ Bag H3 l ∧ (∀ a ∈ rs, H a = none) ∧ r ∉ rs ∧ H3 r = some (.lst (rs.map V.ref)) ∧ rs.length = i ∧ ∀ a ∈ rs, RowO H3 p BB wd a)
      ⟨none, none, none, none, [], rfl, e2.trans (Ext.new hr0), b2.new nr, by simp, by simp, upd_same, rfl, by simp⟩ ?_ ?_⟩
    · rintro i σ H3 hi ⟨v6, v7, v8, v9, rs, rfl, e3, b3, hf, nm, hr3, hln, hro⟩
      walk_at "wp"
      refine ⟨by decide, fun a ha => ?_⟩
      have na : a ≠ l := b3.ne ha
      have fa : H a = none := e3.free na ha
      have nar : r ≠ a := ne_of_none hr3 ha
      have nas : a ∉ rs := fun z => by obtain ⟨xs, h1, _⟩ := hro a z; rw [ha] at h1; cases h1
      refine ⟨_, rfl, wd, rfl, by omega, by omega, for_range (fun j σ H4 => ∃ (v8 v9 : Option V) (xs : List V), σ = [some (.ref l), some (.int p), some (.int hh), some (.int wd), some (.int (1 + z)), some (.ref r), some (.int (0 + (i : Int))), some (.ref a), v8, v9] ∧ Ext l H H4 ∧ Bag H4 l ∧ H4 r = some (.lst (rs.map V.ref)) ∧ (∀ a ∈ rs, RowO H4 p BB wd a) ∧ H4 a = some (.lst xs) ∧ xs.length = j ∧ ∀ x ∈ xs, NumO H4 p BB x)
        ⟨v8, v9, [], rfl, e3.trans (Ext.new ha), b3.new na, by rw [upd_ne nar]; exact hr3, fun b hb => (hro b hb).same (Same.new ha), upd_same, rfl, by simp⟩ ?_ ?_⟩
      · rintro j σ H4 hj ⟨u8, u9, xs, rfl, e4, b4, hr4, hro4, ha4, hlx, hnx⟩
        walk_at "wp"
        have step : ∀ (v : V) (H5 : Hp), Ext l H4 H5 → Bag H5 l → NumO H5 p BB v → (Ext l H (upd H5 a (.lst (xs ++ [v]))) ∧ Bag (upd H5 a (.lst (xs ++ [v]))) l ∧ upd H5 a (.lst (xs ++ [v])) r = some (.lst (rs.map V.ref)) ∧ (∀ b ∈ rs, RowO (upd H5 a (.lst (xs ++ [v]))) p BB wd b) ∧
            ∃ ys, upd H5 a (.lst (xs ++ [v])) a = some (.lst ys) ∧ ys.length = j + 1 ∧ ∀ x ∈ ys, NumO (upd H5 a (.lst (xs ++ [v]))) p BB x) := by
          intro v H5 e5 b5 nv
          have ha5 := e5 _ _ na ha4
          refine ⟨(e4.trans e5).upd fa, b5.new na, by rw [upd_ne nar]; exact e5 _ _ nr hr4, fun b hbm => ?_, _, upd_same, by rw [List.length_append, hlx]; rfl, fun x hx => ?_⟩
          · have nb : b ≠ l := hb.ne (hf b hbm)
            exact ((hro4 b hbm).ext b4 e5 nb).put ha5 (fun z => nas (z ▸ hbm))
          · rcases List.mem_append.mp hx with hx | hx
            · exact ((hnx x hx).ext b4 e5).put ha5
            · rw [List.mem_singleton.mp hx]; exact nv.put ha5
        have hsz : xs.length < sizeLine := small1000 (by omega)
        refine ⟨l, p, rfl, b4, hp, fun v x H5 e5 b5 nv iv bv => ?_⟩
        refine b5.draw (by decide) (by decide) fun y H6 y0 y1 e6 b6 => ⟨y, rfl, ite2 (fun _ => ?_) (fun _ => ?_)⟩
        · have ha6 := (e5.trans e6) _ _ na ha4
          exact ⟨.inl ⟨rfl, _, SqL.of ha6⟩, xs, ha6, hsz, _, _, ⟨rfl, rfl⟩, step v H6 (e5.trans e6) b6 ⟨x, nv.ext b5 e6, iv, bv⟩⟩
        · have ha6 := (e5.trans e6) _ _ na ha4
          refine ⟨.inl ⟨rfl, _, SqL.of ha6⟩, p, 0, rfl, hp, fun v0 H7 s7 n0 => ?_⟩
          have ha7 := s7 _ _ ha6
          exact ⟨xs, ha7, hsz, _, _, ⟨rfl, rfl⟩, step v0 H7 ((e5.trans e6).trans s7.ext) (b6.same s7) ⟨_, n0, isn_int hp.lo, bd_int0 hp⟩⟩
      · rintro σ H4 ⟨u8, u9, xs, rfl, e4, b4, hr4, hro4, ha4, hlx, hnx⟩
        walk_at "wp"
        refine ⟨.inl ⟨rfl, _, SqL.of hr4⟩, _, hr4, small1000 (by rw [List.length_map]; omega), _, _, _, _, ⟨rfl, rfl, rfl, rfl⟩, e4.upd fr, b4.new nr, rs ++ [a], ?_, ?_, ?_, by rw [List.length_append, hln]; rfl, ?_⟩
        · intro b hbm
          rcases List.mem_append.mp hbm with h | h
          · exact hf b h
          · rw [List.mem_singleton.mp h]; exact fa
        · intro z
          rcases List.mem_append.mp z with h | h
          · exact nm h
          · exact nar (List.mem_singleton.mp h)
        · rw [upd_same, map_ref_snoc]
        · intro b hbm
          rcases List.mem_append.mp hbm with h | h
          · exact (hro4 b h).put hr4 (fun z => nm (z ▸ h))
          · rw [List.mem_singleton.mp h]
            exact RowO.put ⟨xs, ha4, by omega, hnx⟩ hr4 nar.symm
    · rintro σ H3 ⟨v6, v7, v8, v9, rs, rfl, e3, b3, hf, nm, hr3, hln, hro⟩
      exact ⟨_, rfl, q r rs H3 e3 b3 fr hf nm hr3 (by omega) hro⟩
def spTb : Sp := fun vs H Q _ => ∃ (l : Addr) (p hh wd : Int), vs = [.ref l, .int p, .int hh, .int wd] ∧ Bag H l ∧ GroundP p ∧ 0 ≤ hh ∧ hh ≤ 24 ∧ 0 ≤ wd ∧ wd ≤ 24 ∧
  ∀ (t r : Addr) (rs : List Addr) (H' : Hp), Ext l H H' → Bag H' l → H t = none → H r = none → (∀ a ∈ rs, H a = none) → Tab H' p hh wd t r rs → Q (.ref t) H'
theorem ok_tb {f : Addr} {fd : FuncData} (F : Fun K "_law_table" "_law_table" s_law_table f fd) (T : Txt K mg C G S) (C_law_rows : Cal P w K mg base "_law_rows" 5 spRows) (C_law_draw : Cal P w K mg base "_law_draw" 1 spDraw) : FnOk P w K mg base CX0 6 f fd ["_law_bag_here", "_law_p", "_law_high", "_law_wide"] spTb := by
  have nd := sc_law_table.nd
  refine F.ok sc_law_table (fun vs H Q E h => ?_) (fun cdv A outer s H vs Q E hr h => ?_)
  · obtain ⟨l, p, hh, wd, rfl, _⟩ := h
    rfl
  · obtain ⟨l, p, hh, wd, rfl, hb, hp, h0, h24, w0, w24, q⟩ := h
    refine ⟨_, (@pss_cons _ _ _ _ _ (ps_set (i := 4) nd rfl (Or.inl rfl) (pe_c C_law_rows (hr.mono (by decide)) rfl (@pa_c _ _ _ _ _ (pv 0) (@pa_c _ _ _ _ _ (pv 1) (@pa_c _ _ _ _ _ (pv 2) (@pa_c _ _ _ _ _ (pv 3) pa_nil (by rfl)) (by rfl)) (by rfl)) (by rfl)))) (@pss_cons _ _ _ _ _ (@ps_if _ _ _ _ _ _ _ _ (PW.pt (pw_and (pt_cmpR op_gt (pv 2) pe_int (nomark _)) (pw_and1 (pt_cmpR op_eq (pe_c C_law_draw (hr.mono (by decide)) rfl (@pa_c _ _ _ _ _ (pv 0) (@pa_c _ _ _ _ _ pe_int pa_nil (by rfl)) (by rfl))) pe_int (nomark _))))) (@pss_one _ _ _ (ps_asg (pe_cT call_list_of rfl T.n_list boot_list (@pa_c _ _ _ _ _ (@pe_ix _ _ _ _ _ _ _ ix_list (pv 4) pe_int (fun _ _ => rfl)) pa_nil (by rfl))) (pg_sub (pv 4) (pe_un un_neg pe_int) set_list))) pss_nil) (@pss_one _ _ _ (@ps_ret _ _ _ _ (@pe_tup _ _ _ _ _ (@pa_c _ _ _ _ _ (pv 2) (@pa_c _ _ _ _ _ (pv 3) (@pa_c _ _ _ _ _ (pv 4) pa_nil (by rfl)) (by rfl)) (by rfl))))))), ?_⟩
    walk_at "wp"
    refine ⟨l, p, hh, wd, rfl, hb, hp, h0, h24, w0, w24, fun r rs H1 e1 b1 fr hf nin hr1 hln hro => ?_⟩
    have nr : r ≠ l := hb.ne fr
    have fin : ∀ (H2 : Hp) (rs2 : List Addr), Ext l H H2 → Bag H2 l → H2 r = some (.lst (rs2.map V.ref)) → (rs2.length : Int) = hh → (∀ a ∈ rs2, RowO H2 p BB wd a) → r ∉ rs2 → (∀ a ∈ rs2, H a = none) →
        (3 ≤ sizeLine ∧ ∀ t, H2 t = none → Q (.ref t) (upd H2 t (.tup [.int hh, .int wd, .ref r]))) := by
      intro H2 rs2 e2 b2 hr2 hl2 hro2 nin2 hf2
      refine ⟨by decide, fun t ht => ?_⟩
      have nt := b2.ne ht
      exact q t r rs2 _ (e2.trans (Ext.new ht)) (b2.new nt) (e2.free nt ht) fr hf2 ⟨upd_same, by rw [upd_ne (ne_of_none hr2 ht)]; exact hr2, hl2, fun a ha => (hro2 a ha).same (Same.new ht), nin2⟩
    refine ite2 (fun hc1 => ?_) (fun _ => fin H1 rs e1 b1 hr1 hln hro nin hf)
    have hc1 := of_decide_eq_true hc1
    have hroB : ∀ H2, Ext l H1 H2 → ∀ a ∈ rs, RowO H2 p BB wd a := fun H2 e2 a ha => (hro a ha).ext b1 e2 (hb.ne (hf a ha))
    refine b1.draw (by decide) (by decide) fun z H2 z0 z1 e2 b2 => ⟨rfl, ite2 (fun _ => ?_) (fun _ => fin H2 rs (e1.trans e2) b2 (e2 _ _ nr hr1) hln (hroB H2 e2) nin hf)⟩
    have hr2 := e2 _ _ nr hr1
    have hn0 : 0 < rs.length := by omega
    obtain ⟨xs0, hx0, lx0, nx0⟩ := hroB H2 e2 (rs[0]) (List.getElem_mem hn0)
    refine ⟨r, rfl, _, SqL.of hr2, _, atI_at (by decide) (get_refs hn0), _, rfl, xs0, .inl (SqL.of hx0), fun D hD => ?_⟩
    have nDl : D ≠ l := b2.ne hD
    have fD : H D = none := (e1.trans e2).free nDl hD
    have nDr : r ≠ D := ne_of_none hr2 hD
    have s3 := Same.new (o := .lst xs0) hD
    refine ⟨r, rfl, _, s3 _ _ hr2, _, ixN_last (by rw [List.length_map]; exact hn0), ?_⟩
    rw [List.length_map, set_refs]
    refine fin _ _ (((e1.trans e2).trans s3.ext).upd fr) ((b2.same s3).new nr) upd_same (by rw [List.length_set]; exact hln) (fun a ha => ?_) (fun z => ?_) (fun a ha => ?_)
    · rcases List.mem_or_eq_of_mem_set ha with ha | rfl
      · exact ((hroB H2 e2 a ha).same s3).put (s3 _ _ hr2) (fun z => nin (z ▸ ha))
      · exact RowO.put ⟨xs0, upd_same, lx0, fun y hy => (nx0 y hy).same s3⟩ (s3 _ _ hr2) nDr.symm
    · rcases List.mem_or_eq_of_mem_set z with z | z
      · exact nin z
      · exact nDr z
    · rcases List.mem_or_eq_of_mem_set ha with ha | rfl
      · exact hf a ha
      · exact fD
structure New (H : Hp) (t r : Addr) (rs : List Addr) : Prop where
  t : H t = none
  r : H r = none
  rs : ∀ a ∈ rs, H a = none
theorem getD_some {α : Type} {xs : List α} {i : Nat} {x d : α} (h : xs[i]? = some x) : xs.getD i d = x := by rw [List.getD_eq_getElem?_getD, h]; rfl
def spCopy : Sp := fun vs H Q _ => ∃ (p hh wd : Int) (t r : Addr) (rs : List Addr) (M : Mv), vs = [.ref t] ∧ TabV H p hh wd t r rs M ∧ M.length ≤ 200 ∧ ∀ (t' r' : Addr) (rs' : List Addr) (H' : Hp), Same H H' → New H t' r' rs' → TabV H' p hh wd t' r' rs' M → Q (.ref t') H'
theorem ok_copy {f : Addr} {fd : FuncData} (F : Fun K "_law_copy" "_law_copy" s_law_copy f fd) (T : Txt K mg C G S) : FnOk P w K mg base CX0 1 f fd ["_law_table_here"] spCopy := by
  have nd := sc_law_copy.nd
  refine F.ok sc_law_copy (fun vs H Q E h => ?_) (fun cdv A outer s H vs Q E hr h => ?_)
  · obtain ⟨p, hh, wd, t, r, rs, M, rfl, _⟩ := h
    rfl
  · obtain ⟨p, hh, wd, t, r, rs, M, rfl, tb, ml, q⟩ := h
    have hln := tb.row.1
    refine ⟨_, (@pss_one _ _ _ (@ps_ret _ _ _ _ (@pe_tup _ _ _ _ _ (@pa_c _ _ _ _ _ (@pe_ix _ _ _ _ _ _ _ ix_tup (pv 0) pe_int (fun _ _ => rfl)) (@pa_c _ _ _ _ _ (@pe_ix _ _ _ _ _ _ _ ix_tup (pv 0) pe_int (fun _ _ => rfl)) (@pa_c _ _ _ _ _ (pe_comp (own := ["_law_row"]) (fr := []) rfl (bl_of (by kernel_rfl)) (pi_list (@pe_ix _ _ _ _ _ _ _ ix_tup (pv 0) pe_int (fun _ _ => rfl))) (fun _ _ _ _ => ⟨(@pg_name _ _ 0 _ (show (["_law_row"] : List Str).Nodup by decide +kernel) rfl (Or.inl rfl) (Or.inr rfl)), pts_nil, (pe_cT (call_list_ofK K rfl) rfl T.n_list boot_list (@pa_c _ _ _ _ _ (pv 0) pa_nil (by rfl)))⟩)) pa_nil (by rfl)) (by rfl)) (by rfl))))), ?_⟩
    walk_at "wp"
    refine ⟨_, SqT.of tb.tup, _, rfl, _, SqT.of tb.tup, _, rfl, ?_⟩
    refine ⟨_, rfl, t, _, 2, _, rfl, rfl, SqT.of tb.tup, rfl, r, rfl, ⟨_, SqL.of tb.lst⟩, fun D hD => ?_⟩
    refine comp_ord (fun i Hc y => ∃ a, y = .ref a ∧ RowV Hc p a (M.getD i []) ∧ a ≠ D ∧ H a = none) (fun ⟨a, e, b, c⟩ s => ⟨a, e, b.same s, c⟩) (fun ⟨a, e, b, c, d⟩ hD => ⟨a, e, b.put hD c, c, d⟩) tb.lst hD (by rw [List.length_map]; omega) (fun i x H' Q' hx s' ⟨lD, hlD⟩ q' => ?_) (fun ys H' s' h' hyl hys => ?_)
    · obtain ⟨row, er, a, rfl, vs, h1, h2⟩ := (all2_refs tb.row).at' hx
      refine ⟨_, rfl, _, rfl, vs, .inl (SqL.of (s' _ _ h1)), fun c hc => ?_⟩
      have sc := s'.trans (Same.new (o := .lst vs) hc)
      exact q' _ _ (Same.new hc) ⟨c, rfl, ⟨vs, upd_same, by rw [getD_some er]; exact h2.mono fun _ _ k => k.same sc⟩, (ne_of_none hlD hc).symm, s'.free hc⟩
    · rw [List.length_map] at hyl
      obtain ⟨rs', rfl, a2, nD, fr⟩ := rows_of (D := D) (H1 := H) (p := p) (M := M) (by omega) hys
      refine ⟨by show 3 ≤ sizeLine; decide, fun t' ht' => ?_⟩
      have s2 := Same.new (o := .tup [.int hh, .int wd, .ref D]) ht'
      exact q t' D rs' _ (s'.trans s2) ⟨s'.free ht', hD, fr⟩ ⟨upd_same, s2 _ _ h', a2.mono fun _ _ k => k.same s2, nD⟩
def spGood : Sp := fun vs H Q _ => ∃ (p hh wd : Int) (t r t' r' : Addr) (rs rs' : List Addr) (M : Mv), vs = [.int p, .ref t, .ref t'] ∧ GroundP p ∧ TabV H p hh wd t r rs M ∧ TabV H p hh wd t' r' rs' M ∧ (∀ row ∈ M, row.length ≤ 900) ∧ ∀ H', Same H H' → Q (.bl true) H'
theorem ok_good {f : Addr} {fd : FuncData} (F : Fun K "_law_good" "_law_good" s_law_good f fd) (T : Txt K mg C G S) (C_law_whole : Cal P w K mg base "_law_whole" 1 spWhole) (C_law_same : Cal P w K mg base "_law_same" 2 spSame) : FnOk P w K mg base CX0 3 f fd ["_law_p", "_law_found", "_law_due"] spGood := by
  have nd := sc_law_good.nd
  refine F.ok sc_law_good (fun vs H Q E h => ?_) (fun cdv A outer s H vs Q E hr h => ?_)
  · obtain ⟨p, hh, wd, t, r, t', r', rs, rs', M, rfl, _⟩ := h
    rfl
  · obtain ⟨p, hh, wd, t, r, t', r', rs, rs', M, rfl, hp, tb, tb', ml, q⟩ := h
    have hu8 := room8 hr
    refine ⟨_, (@pss_cons _ _ _ _ _ (@ps_if _ _ _ _ _ _ _ _ (PW.pt (pw_or (pt_not (pt_val (pe_cB call_isinst rfl T.n_isinstance boot_isinstance (@pa_c _ _ _ _ _ (pv 1) (@pa_c _ _ _ _ _ (pe_ty rfl T.n_tuple boot_tuple) pa_nil (by rfl)) (by rfl))))) (pw_or (pt_cmpR op_ne (pe_cB call_len_seq rfl T.n_len PySem.boot_len (@pa_c _ _ _ _ _ (pv 1) pa_nil (by rfl))) pe_int (nomark _)) (pw_or (pt_not (pt_val (pe_c C_law_whole (hr.mono (by decide)) rfl (@pa_c _ _ _ _ _ (@pe_ix _ _ _ _ _ _ _ ix_tup (pv 1) pe_int (fun _ _ => rfl)) pa_nil (by rfl))))) (pw_or1 (pt_not (pt_val (pe_c C_law_whole (hr.mono (by decide)) rfl (@pa_c _ _ _ _ _ (@pe_ix _ _ _ _ _ _ _ ix_tup (pv 1) pe_int (fun _ _ => rfl)) pa_nil (by rfl)))))))))) (@pss_one _ _ _ (@ps_ret _ _ _ _ pe_bl)) pss_nil) (@pss_cons _ _ _ _ _ (@ps_if _ _ _ _ _ _ _ _ (PW.pt (pw_or (pt_not (pt_val (pe_cB call_isinst rfl T.n_isinstance boot_isinstance (@pa_c _ _ _ _ _ (@pe_ix _ _ _ _ _ _ _ ix_tup (pv 1) pe_int (fun _ _ => rfl)) (@pa_c _ _ _ _ _ (pe_ty rfl T.n_list boot_list) pa_nil (by rfl)) (by rfl))))) (pw_or1 (pt_cmpR (op_neTs hu8) (pv 1) (pv 2) (nomark _))))) (@pss_one _ _ _ (@ps_ret _ _ _ _ pe_bl)) pss_nil) (@pss_cons _ _ _ _ _ (ps_for PassesOwn.never rfl (pi_list (@pe_ix _ _ _ _ _ _ _ ix_tup (pv 1) pe_int (fun _ _ => rfl))) (@pg_name _ _ 3 _ nd rfl (Or.inl rfl) (Or.inl rfl)) (@pss_one _ _ _ (@ps_if _ _ _ _ _ _ _ _ (PW.pt (pw_or (pt_not (pt_val (pe_cB call_isinst rfl T.n_isinstance boot_isinstance (@pa_c _ _ _ _ _ (pv 3) (@pa_c _ _ _ _ _ (pe_ty rfl T.n_list boot_list) pa_nil (by rfl)) (by rfl))))) (pw_or1 (pt_not (pt_val (pe_cB (call_all rfl) rfl T.n_all boot_all (@pa_c _ _ _ _ _ (pe_comp (own := ["_law_number_here"]) (fr := [("_law_p", 0)]) rfl (bl_of (by kernel_rfl)) (pi_list (pv 3)) (fun _ _ _ _ => ⟨(@pg_name _ _ 0 _ (show (["_law_number_here", "_law_p"] : List Str).Nodup by decide +kernel) rfl (Or.inl rfl) (Or.inr rfl)), pts_nil, (pe_c C_law_same (hr.mono (by decide)) rfl (@pa_c _ _ _ _ _ (pv 1) (@pa_c _ _ _ _ _ (pv 0) (@pa_c _ _ _ _ _ (pv 0) pa_nil (by rfl)) (by rfl)) (by rfl)))⟩)) pa_nil (by rfl)))))))) (@pss_one _ _ _ (@ps_ret _ _ _ _ pe_bl)) pss_nil))) (@pss_one _ _ _ (@ps_ret _ _ _ _ pe_bl))))), ?_⟩
    walk_at "wp"
    refine ⟨_, _, ⟨rfl, rfl⟩, _, rfl, _, .tup tb.tup, _, k_tup_tup K, iteF ⟨_, .inr (SqT.of tb.tup), iteF ⟨_, SqT.of tb.tup, _, rfl, _, rfl, true, rfl, iteF ⟨_, SqT.of tb.tup, _, rfl, _, rfl, true, rfl, iteF ⟨_, SqT.of tb.tup, _, rfl, _, _, ⟨rfl, rfl⟩, _, rfl, _, .lst tb.lst, true, by kernel_rfl, iteF ?_⟩⟩⟩⟩⟩
    refine .inr ⟨t, t', _, _, _, rfl, rfl, SqT.of tb.tup, SqT.of tb'.tup, items_of rfl (fun j x y e1 e2 => ?_), ⟨_, rfl, iteN (by rw [rep_all]; decide) ?_⟩⟩
    · match j, e1, e2 with
      | 0, e1, e2 => cases e1; cases e2; exact int_self
      | 1, e1, e2 => cases e1; cases e2; exact int_self
      | 2, e1, e2 =>
        cases e1; cases e2
        obtain ⟨f1, f2⟩ := all2_eq (K := K) (H := H) (n := 5) (all2_refs tb.row) (all2_refs tb'.row) fun v u x ⟨a, ea, ha⟩ ⟨b, eb, hb⟩ => by subst ea; subst eb; exact ha.eq hb
        exact list_eq tb.lst tb'.lst f1 f2
      | j + 3, e1, e2 => cases e1
    refine ⟨_, rfl, t, _, 2, _, rfl, rfl, SqT.of tb.tup, rfl, r, rfl, ⟨_, SqL.of tb.lst⟩, for_list (xs := rs.map V.ref) (fun i σ H2 => ∃ v3 : Option V, σ = [some (.int p), some (.ref t), some (.ref t'), v3] ∧ Same H H2) ⟨none, rfl, Same.refl _⟩ (fun i σ H2 _ ⟨_, _, s2⟩ => SqL.of (s2 _ _ tb.lst)) ?_ ?_⟩
    · rintro i x σ H2 hi ⟨v3, rfl, s2⟩
      obtain ⟨row, er, a, rfl, vs, h1, h2⟩ := (all2_refs tb.row).at' hi
      have rl := ml row (List.mem_of_getElem? er)
      walk_at "wp"
      have h1' := s2 _ _ h1
      have h2l := h2.1
      refine ⟨_, _, ⟨rfl, rfl⟩, _, rfl, _, .lst h1', true, k_list_list K, iteF ⟨_, rfl, a, rfl, ⟨_, SqL.of h1'⟩, fun D hD => comp_bl_l (fun _ => true) h1' hD (by omega) (fun i y H' Q' hy s' q' => ?_) fun H' s' e' => ⟨D, rfl, _, SqL.of e', iteN (by simp) (s2.trans s')⟩⟩⟩
      obtain ⟨x, _, hx⟩ := h2.at' hy
      have hx' := hx.same (s2.trans s')
      exact ⟨_, rfl, _, rfl, _, rfl, p, y, y, x, rfl, hp, hx', hx', q' H' (Same.refl _)⟩
    · rintro σ H2 ⟨v3, rfl, s2⟩
      exact q H2 s2
end
end Pf
set_option maxHeartbeats 1000000
namespace Pf
open PySem L2 PyProof.Rows
section
variable {P : Program} {w : World} {K : PySem.W.Frag} {mg : Str → Option Value} {base : Heap} {C G S : Addr}
theorem str_int (a : Int) : Str.ofString (toString a) = mkS (tI a) := by rw [← sg_toString]; rfl
theorem mk_app (a b : List Nat) : mkS a ++ mkS b = mkS (a ++ b) := by
  show (⟨a.toArray ++ b.toArray⟩ : Str) = ⟨(a ++ b).toArray⟩
  simp
theorem mk_len (a : List Nat) : (mkS a).length = a.length := by rw [← sg_len]; rfl
theorem tI_len {a : Int} (h : a.natAbs < 10 ^ 31) : (tI a).length ≤ 32 := by
  have := tN_len 30 (n := a.natAbs) h
  unfold tI
  split
  · rw [List.length_cons]; omega
  · omega
def tNum (p : Int) (x : Nv) : List Nat := if p = 0 then (if x.2 = 1 then tI x.1 else tI x.1 ++ 47 :: tI x.2) else tI x.1
theorem tNum_len {p : Int} {x : Nv} (h : Bd BB x) : (tNum p x).length ≤ 65 := by
  have h1 := tI_len (a := x.1) (Nat.lt_of_le_of_lt h.1 (by decide +kernel))
  have h2 := tI_len (a := x.2) (Nat.lt_of_le_of_lt h.2 (by decide +kernel))
  unfold tNum
  split
  · split
    · omega
    · rw [List.length_append, List.length_cons]; omega
  · omega
theorem low2 {a : Int} (h : a.natAbs < 10 ^ 60) : a.natAbs.log2 < 1920 := by
  by_cases h0 : a.natAbs = 0
  · rw [h0]; decide
  · exact (Nat.log2_lt h0).mpr (Nat.lt_trans h (by decide +kernel))
theorem slc {n : Nat} (h : n ≤ 1000) : n ≤ sizeLine := Nat.le_of_lt (small1000 h)
theorem comp_txts {a D : Addr} {xs : List V} {fr : List (Str × Nat)} {σ : L2.St} {te : TE} {H1 : Hp} {Q : VK} (g : Nat → Str) (ha : H1 a = some (.lst xs)) (hD : H1 D = none) (hn : xs.length ≤ 1000)
    (h : ∀ (i : Nat) x H (Q : VK), xs[i]? = some x → Same H1 H → (∀ H', Same H H' → Q (.str (g i)) H') → te (some x :: capOf fr σ) H Q)
    (hQ : ∀ H', Same H1 H' → H' D = some (.lst (((List.range xs.length).map g).map V.str)) → Q (.ref D) H') : tBlock (gName 0) tYes te (Itl K a) D (capS 1 fr σ) H1 Q :=
  comp_ord (fun i _ y => y = .str (g i)) (fun r _ => r) (fun r _ => r) ha hD hn (fun i x H Q hx s _ k => h i x H Q hx s fun H' s' => k _ H' s' rfl) (fun ys H' s e hl hr => hQ H' s (by
    rw [e]
    congr 2
    apply List.ext_getElem?
    intro i
    by_cases hi : i < xs.length
    · rw [List.getElem?_eq_getElem (by omega), hr i _ (List.getElem?_eq_getElem (by omega)), List.getElem?_map, List.getElem?_map, List.getElem?_range hi]
      rfl
    · rw [List.getElem?_eq_none (by omega), List.getElem?_eq_none (by simp; omega)]))
theorem tI_len60 {a : Int} (h : a.natAbs < 10 ^ 60) : (tI a).length ≤ 61 := by
  have := tN_len 59 (n := a.natAbs) h
  unfold tI
  split
  · rw [List.length_cons]; omega
  · omega
def spShP : Sp := fun vs H Q _ => ∃ n : Int, vs = [.int n] ∧ 0 ≤ n ∧ n.natAbs < 10 ^ 60 ∧ ∀ H', Same H H' → Q (.str (mkS (tI n))) H'
theorem ok_showP {f : Addr} {fd : FuncData} (F : Fun K "show_whole" "show_whole" s_show_whole f fd) (T : Txt K mg C G S) : FnOk P w K mg base CX0 1 f fd ["number"] spShP := by
  have nd := sc_show_whole.nd
  refine F.ok sc_show_whole (fun vs H Q E h => ?_) (fun cdv A outer s H vs Q E hr h => ?_)
  · obtain ⟨n, rfl, _⟩ := h
    rfl
  · obtain ⟨n, rfl, n0, n1, q⟩ := h
    refine ⟨_, (@pss_cons _ _ _ _ _ (@ps_if _ _ _ _ _ _ _ _ (pt_cmpR op_lt (pv 0) pe_int (nomark _)) (@pss_one _ _ _ ps_never) pss_nil) (@pss_cons _ _ _ _ _ (ps_set (i := 1) nd rfl (Or.inl rfl) (@pe_lst _ _ _ _ pa_nil)) (@pss_cons _ _ _ _ _ (ps_while PassesOwn.never (pt_cmpR op_ge (pv 0) (@pe_op _ _ _ _ _ _ _ _ op_pow pe_int pe_int) (nomark _)) (@pss_cons _ _ _ _ _ ps_never (@pss_one _ _ _ ps_never))) (@pss_one _ _ _ (@ps_ret _ _ _ _ (@pe_op _ _ _ _ _ _ _ _ op_add_str (pe_cT call_str_int rfl T.n_str boot_str (@pa_c _ _ _ _ _ (pv 0) pa_nil (by rfl))) (pe_bm PySem.F.plainAttrs_str PySem.F.slot_str_join PySem.F.type_str_join mt_join pe_str (@pa_c _ _ _ _ _ (pe_revL K rfl (pv 1) (pe_un un_neg pe_int) (fun _ _ _ q => ⟨1, rfl, q⟩)) pa_nil (by rfl))))))))), ?_⟩
    walk_at "wp"
    have big : ¬ (10 : Int) ^ Int.toNat 64 ≤ n := by
      have : (10 : Int) ^ Int.toNat 64 = ((10 ^ 64 : Nat) : Int) := by decide +kernel
      rw [this]
      have h2 : (10 : Nat) ^ 60 ≤ 10 ^ 64 := by decide +kernel
      omega
    refine iteN (by rw [decide_eq_false (by omega)]; decide) ⟨by decide, fun p hp => ?_⟩
    refine ⟨fun _ σ H2 => σ = [some (.int n), some (.ref p), none] ∧ H2 = upd H p (.lst []), ⟨0, rfl, rfl⟩, ?_⟩
    rintro _ σ H2 ⟨rfl, rfl⟩
    walk_at "wp"
    refine ⟨cpow _ (by decide) (by decide), iteN (by rw [decide_eq_false big]; decide) ?_⟩
    have hl := tI_len60 n1
    refine ⟨low2 n1, rfl, [], SqL.of upd_same, fun p2 hp2 => ⟨_, rfl, [], SqL.of upd_same, by decide, _, rfl, _, rfl, ?_, ?_⟩⟩
    · rw [str_int, mk_len]
      show (tI n).length + 0 ≤ sizeLine
      exact slc (by omega)
    · have e : Str.ofString (toString n) ++ Txt.join (Str.ofString "") [] = mkS (tI n) := by
        rw [str_int]
        exact (mk_app (tI n) []).trans (by rw [List.append_nil])
      rw [e]
      exact q _ ((Same.new hp).trans (Same.new hp2))
def spSh : Sp := fun vs H Q _ => ∃ n : Int, vs = [.int n] ∧ n.natAbs < 10 ^ 60 ∧ ∀ H', Same H H' → Q (.str (mkS (tI n))) H'
theorem ok_show {f : Addr} {fd : FuncData} (F : Fun K "show_whole" "show_whole" s_show_whole f fd) (T : Txt K mg C G S) (C_show_whole : Cal P w K mg base "show_whole" 1 spShP) : FnOk P w K mg base CX0 2 f fd ["number"] spSh := by
  have nd := sc_show_whole.nd
  refine F.ok sc_show_whole (fun vs H Q E h => ?_) (fun cdv A outer s H vs Q E hr h => ?_)
  · obtain ⟨n, rfl, _⟩ := h
    rfl
  · obtain ⟨n, rfl, n1, q⟩ := h
    refine ⟨_, (@pss_cons _ _ _ _ _ (@ps_if _ _ _ _ _ _ _ _ (pt_cmpR op_lt (pv 0) pe_int (nomark _)) (@pss_one _ _ _ (@ps_ret _ _ _ _ (@pe_op _ _ _ _ _ _ _ _ op_add_str pe_str (pe_c C_show_whole (hr.mono (by decide)) rfl (@pa_c _ _ _ _ _ (pe_un un_neg (pv 0)) pa_nil (by rfl)))))) pss_nil) (@pss_cons _ _ _ _ _ (ps_set (i := 1) nd rfl (Or.inl rfl) (@pe_lst _ _ _ _ pa_nil)) (@pss_cons _ _ _ _ _ (ps_while PassesOwn.never (pt_cmpR op_ge (pv 0) (@pe_op _ _ _ _ _ _ _ _ op_pow pe_int pe_int) (nomark _)) (@pss_cons _ _ _ _ _ ps_never (@pss_one _ _ _ ps_never))) (@pss_one _ _ _ (@ps_ret _ _ _ _ (@pe_op _ _ _ _ _ _ _ _ op_add_str (pe_cT call_str_int rfl T.n_str boot_str (@pa_c _ _ _ _ _ (pv 0) pa_nil (by rfl))) (pe_bm PySem.F.plainAttrs_str PySem.F.slot_str_join PySem.F.type_str_join mt_join pe_str (@pa_c _ _ _ _ _ (pe_revL K rfl (pv 1) (pe_un un_neg pe_int) (fun _ _ _ q => ⟨1, rfl, q⟩)) pa_nil (by rfl))))))))), ?_⟩
    walk_at "wp"
    by_cases n0 : n < 0
    · refine iteP (decide_eq_true n0) ⟨-n, rfl, by omega, by omega, fun H1 s1 => ?_⟩
      refine ⟨_, rfl, _, rfl, ?_, ?_⟩
      · have hl := tI_len60 (a := -n) (by omega)
        rw [mk_len]
        show 1 + (tI (-n)).length ≤ sizeLine
        exact slc (by omega)
      · have e : Str.ofString "-" ++ mkS (tI (-n)) = mkS (tI n) := by
          have e1 : Str.ofString "-" = mkS [45] := by decide +kernel
          rw [e1, mk_app]
          congr 1
          unfold tI
          rw [if_neg (by omega), if_pos n0, Int.natAbs_neg]
          rfl
        rw [e]
        exact q H1 s1
    have big : ¬ (10 : Int) ^ Int.toNat 64 ≤ n := by
      have : (10 : Int) ^ Int.toNat 64 = ((10 ^ 64 : Nat) : Int) := by decide +kernel
      rw [this]
      have h2 : (10 : Nat) ^ 60 ≤ 10 ^ 64 := by decide +kernel
      omega
    refine iteN (by rw [decide_eq_false (by omega)]; decide) ⟨by decide, fun p hp => ?_⟩
    refine ⟨fun _ σ H2 => σ = [some (.int n), some (.ref p), none] ∧ H2 = upd H p (.lst []), ⟨0, rfl, rfl⟩, ?_⟩
    rintro _ σ H2 ⟨rfl, rfl⟩
    walk_at "wp"
    refine ⟨cpow _ (by decide) (by decide), iteN (by rw [decide_eq_false big]; decide) ?_⟩
    have hl := tI_len60 n1
    refine ⟨low2 n1, rfl, [], SqL.of upd_same, fun p2 hp2 => ⟨_, rfl, [], SqL.of upd_same, by decide, _, rfl, _, rfl, ?_, ?_⟩⟩
    · rw [str_int, mk_len]
      show (tI n).length + 0 ≤ sizeLine
      exact slc (by omega)
    · have e : Str.ofString (toString n) ++ Txt.join (Str.ofString "") [] = mkS (tI n) := by
        rw [str_int]
        exact (mk_app (tI n) []).trans (by rw [List.append_nil])
      rw [e]
      exact q _ ((Same.new hp).trans (Same.new hp2))
def spShN (G : Addr) : Sp := fun vs H Q _ => ∃ (g : Addr) (p : Int) (v : V) (x : Nv), vs = [.ref g, v] ∧ GAt G H g p ∧ NumV H p v x ∧ Bd BB x ∧ ∀ H', Same H H' → Q (.str (mkS (tNum p x))) H'
theorem ok_shn {f : Addr} {fd : FuncData} (F : Fun K "show_number" "show_number" s_show_number f fd) (T : Txt K mg C G S) (C_show_whole : Cal P w K mg base "show_whole" 2 spSh) : FnOk P w K mg base CX0 3 f fd ["ground", "number"] (spShN G) := by
  have nd := sc_show_number.nd
  refine F.ok sc_show_number (fun vs H Q E h => ?_) (fun cdv A outer s H vs Q E hr h => ?_)
  · obtain ⟨g, p, v, x, rfl, _⟩ := h
    rfl
  · obtain ⟨g, p, v, x, rfl, ⟨dg, hg⟩, nv, bd, q⟩ := h
    refine ⟨_, (@pss_cons _ _ _ _ _ (@ps_if _ _ _ _ _ _ _ _ (pt_cmpR op_ne (pe_fld (pv 0) rfl) pe_int (nomark _)) (@pss_one _ _ _ (@ps_ret _ _ _ _ (pe_c C_show_whole (hr.mono (by decide)) rfl (@pa_c _ _ _ _ _ (pv 1) pa_nil (by rfl))))) pss_nil) (@pss_cons _ _ _ _ _ (ps_asg (pv 1) (@pg_tup _ _ _ _ _ 2 rfl (@pgs_cons _ _ _ _ _ (@pg_name _ _ 2 _ nd rfl (Or.inl rfl) (Or.inl rfl)) (@pgs_cons _ _ _ _ _ (@pg_name _ _ 3 _ nd rfl (Or.inl rfl) (Or.inl rfl)) (@pgs_nil _) (by rfl)) (by rfl)) (by rfl) (by rfl))) (@pss_one _ _ _ (@ps_ret _ _ _ _ (pe_ifExp (pt_cmpR op_eq (pv 3) pe_int (nomark _)) (pe_c C_show_whole (hr.mono (by decide)) rfl (@pa_c _ _ _ _ _ (pv 2) pa_nil (by rfl))) (@pe_op _ _ _ _ _ _ _ _ op_add_str (@pe_op _ _ _ _ _ _ _ _ op_add_str (pe_c C_show_whole (hr.mono (by decide)) rfl (@pa_c _ _ _ _ _ (pv 2) pa_nil (by rfl))) pe_str) (pe_c C_show_whole (hr.mono (by decide)) rfl (@pa_c _ _ _ _ _ (pv 3) pa_nil (by rfl))))))))), ?_⟩
    have b1 : x.1.natAbs < 10 ^ 60 := Nat.lt_of_le_of_lt bd.1 (by decide +kernel)
    have b2 : x.2.natAbs < 10 ^ 60 := Nat.lt_of_le_of_lt bd.2 (by decide +kernel)
    have l1 := tI_len60 b1
    have l2 := tI_len60 b2
    unfold tNum at q
    walk_at "wp"
    refine ⟨_, dg, _, hg, T.cl_Ground, T.nP, _, flds_prime p, rfl, ite2 (fun hc => ?_) (fun hc => ?_)⟩
    · have hp : ¬ p = 0 := by simpa using hc
      obtain rfl := nv.int hp
      rw [if_neg hp] at q
      exact ⟨_, rfl, b1, q⟩
    · have hp : p = 0 := by simpa using hc
      obtain ⟨t, rfl, ht⟩ := nv.ref hp
      rw [if_pos hp] at q
      refine ⟨t, rfl, _, SqT.of ht, rfl, _, _, rfl, _, _, rfl, rfl, rfl, ite2 (fun h1 => ?_) (fun h1 => ?_)⟩
      · have h1 : x.2 = 1 := by simpa using h1
        rw [if_pos h1] at q
        exact ⟨_, rfl, b1, q⟩
      · have h1 : ¬ x.2 = 1 := by simpa using h1
        rw [if_neg h1] at q
        refine ⟨_, rfl, b1, fun H1 s1 => ⟨_, rfl, _, rfl, ?_, _, rfl, b2, fun H2 s2 => ⟨_, rfl, _, rfl, ?_, ?_⟩⟩⟩
        · rw [mk_len]
          show (tI x.1).length + 1 ≤ sizeLine
          exact slc (by omega)
        · have e1 : Str.ofString "/" = mkS [47] := by decide +kernel
          rw [e1, mk_app, mk_len, mk_len, List.length_append]
          show (tI x.1).length + 1 + (tI x.2).length ≤ sizeLine
          exact slc (by omega)
        · have e1 : Str.ofString "/" = mkS [47] := by decide +kernel
          rw [e1, mk_app, mk_app]
          have := q H2 (s1.trans s2)
          rwa [show tI x.1 ++ 47 :: tI x.2 = tI x.1 ++ [47] ++ tI x.2 by simp] at this
def spLsh : Sp := fun vs H Q _ => ∃ (p : Int) (v : V) (x : Nv), vs = [.int p, v] ∧ GroundP p ∧ NumV H p v x ∧ Bd BB x ∧ Q (.str (mkS (tNum p x))) H
theorem ok_lsh {f : Addr} {fd : FuncData} (F : Fun K "_law_shown" "_law_shown" s_law_shown f fd) (T : Txt K mg C G S) : FnOk P w K mg base CX0 1 f fd ["_law_p", "_law_number_here"] spLsh := by
  have nd := sc_law_shown.nd
  refine F.ok sc_law_shown (fun vs H Q E h => ?_) (fun cdv A outer s H vs Q E hr h => ?_)
  · obtain ⟨p, v, x, rfl, _⟩ := h
    rfl
  · obtain ⟨p, v, x, rfl, hp, nv, bd, q⟩ := h
    have p0 := hp.lo
    refine ⟨_, (@pss_cons _ _ _ _ _ (@ps_if _ _ _ _ _ _ _ _ (pt_cmpR op_gt (pv 0) pe_int (nomark _)) (@pss_one _ _ _ (@ps_ret _ _ _ _ (pe_cT call_str_int rfl T.n_str boot_str (@pa_c _ _ _ _ _ (pv 1) pa_nil (by rfl))))) pss_nil) (@pss_cons _ _ _ _ _ (@ps_if _ _ _ _ _ _ _ _ (pt_cmpR op_eq (@pe_ix _ _ _ _ _ _ _ ix_tup (pv 1) pe_int (fun _ _ => rfl)) pe_int (nomark _)) (@pss_one _ _ _ (@ps_ret _ _ _ _ (pe_cT call_str_int rfl T.n_str boot_str (@pa_c _ _ _ _ _ (@pe_ix _ _ _ _ _ _ _ ix_tup (pv 1) pe_int (fun _ _ => rfl)) pa_nil (by rfl))))) pss_nil) (@pss_one _ _ _ (@ps_ret _ _ _ _ (@pe_op _ _ _ _ _ _ _ _ op_add_str (@pe_op _ _ _ _ _ _ _ _ op_add_str (pe_cT call_str_int rfl T.n_str boot_str (@pa_c _ _ _ _ _ (@pe_ix _ _ _ _ _ _ _ ix_tup (pv 1) pe_int (fun _ _ => rfl)) pa_nil (by rfl))) pe_str) (pe_cT call_str_int rfl T.n_str boot_str (@pa_c _ _ _ _ _ (@pe_ix _ _ _ _ _ _ _ ix_tup (pv 1) pe_int (fun _ _ => rfl)) pa_nil (by rfl)))))))), ?_⟩
    have b1 : x.1.natAbs < 10 ^ 60 := Nat.lt_of_le_of_lt bd.1 (by decide +kernel)
    have b2 : x.2.natAbs < 10 ^ 60 := Nat.lt_of_le_of_lt bd.2 (by decide +kernel)
    have l1 := tI_len60 b1
    have l2 := tI_len60 b2
    unfold tNum at q
    walk_at "wp"
    refine ite2 (fun hc => ?_) (fun hc => ?_)
    · have hc := of_decide_eq_true hc
      have hp : ¬ p = 0 := by omega
      obtain rfl := nv.int hp
      rw [if_neg hp, ← str_int] at q
      exact ⟨_, rfl, low2 b1, q⟩
    · have hc : ¬ 0 < p := fun z => hc (decide_eq_true z)
      have hp : p = 0 := by omega
      obtain ⟨t, rfl, ht⟩ := nv.ref hp
      rw [if_pos hp] at q
      walk_at "wp"
      refine ⟨_, SqT.of ht, _, rfl, rfl, ite2 (fun h1 => ?_) (fun h1 => ?_)⟩
      · have h1 : x.2 = 1 := by simpa using h1
        rw [if_pos h1, ← str_int] at q
        exact ⟨_, SqT.of ht, _, rfl, _, rfl, low2 b1, q⟩
      · have h1 : ¬ x.2 = 1 := by simpa using h1
        rw [if_neg h1] at q
        refine ⟨_, SqT.of ht, _, rfl, _, rfl, low2 b1, ?_⟩
        have e1 : Str.ofString "/" = mkS [47] := by decide +kernel
        refine ⟨_, rfl, _, rfl, ?_, _, SqT.of ht, _, rfl, _, rfl, low2 b2, _, rfl, _, rfl, ?_, ?_⟩
        · rw [str_int, mk_len]
          show (tI x.1).length + 1 ≤ sizeLine
          exact slc (by omega)
        · rw [str_int, str_int, e1, mk_app, mk_len, mk_len, List.length_append]
          show (tI x.1).length + 1 + (tI x.2).length ≤ sizeLine
          exact slc (by omega)
        · rw [str_int, str_int, e1, mk_app, mk_app]
          rwa [show tI x.1 ++ 47 :: tI x.2 = tI x.1 ++ [47] ++ tI x.2 by simp] at q
def tRow (p : Int) (xs : List Nv) : List Nat := inter [32] (xs.map (tNum p))
def tTab (p hh wd : Int) (M : Mv) : List Nat := if hh = 0 ∨ wd = 0 then [45] else inter [32, 47, 32] (M.map (tRow p))
theorem inter_len {s : List Nat} {B : Nat} : ∀ {ps : List (List Nat)}, (∀ a ∈ ps, a.length ≤ B) → (inter s ps).length ≤ ps.length * (B + s.length)
  | [], _ => by simp [inter]
  | [a], h => by have := h a (by simp); show a.length ≤ _; simp; omega
  | a :: b :: r, h => by
    have h1 := h a (by simp)
    have h2 := inter_len (s := s) (ps := b :: r) fun c hc => h c (List.mem_cons_of_mem _ hc)
    show (a ++ s ++ inter s (b :: r)).length ≤ _
    rw [List.length_append, List.length_append]
    have : (a :: b :: r).length * (B + s.length) = (b :: r).length * (B + s.length) + (B + s.length) := by rw [List.length_cons (a := a), Nat.add_mul, Nat.one_mul]
    omega
theorem join_ok {z : Str} {ts : List Str} {B : Nat} (h : ∀ y ∈ ts, y.length ≤ B) (hb : ts.length * B + ts.length * z.length ≤ 16777216) : JoinOk z ts = true := by
  unfold JoinOk
  rw [StrLaws.joinFits h hb]
  rfl
theorem join_mk (z : Str) (ps : List (List Nat)) : Txt.join z (ps.map mkS) = mkS (inter (sg z) ps) := by
  rw [← mk_sg (Txt.join z (ps.map mkS)), sg_join, List.map_map]
  congr 2
  exact (List.map_congr_left fun a _ => rfl).trans (List.map_id ps)
theorem range_map {α β : Type} [Inhabited α] (f : α → β) (xs : List α) (g : Nat → α) (h : ∀ i x, xs[i]? = some x → g i = x) : (List.range xs.length).map (fun i => f (g i)) = xs.map f := by
  apply List.ext_getElem?
  intro i
  rw [List.getElem?_map, List.getElem?_map]
  by_cases hi : i < xs.length
  · rw [List.getElem?_range hi, List.getElem?_eq_getElem hi]
    show some (f (g i)) = some (f xs[i])
    rw [h i _ (List.getElem?_eq_getElem hi)]
  · rw [List.getElem?_eq_none (by simpa using hi), List.getElem?_eq_none (by omega)]
    rfl
theorem tRow_len {p : Int} {xs : List Nv} (hl : xs.length ≤ 24) (h : ∀ x ∈ xs, Bd BB x) : (tRow p xs).length ≤ 1600 := by
  have := inter_len (s := [32]) (B := 65) (ps := xs.map (tNum p)) fun a ha => by
    obtain ⟨x, hx, rfl⟩ := List.mem_map.mp ha
    exact tNum_len (h x hx)
  rw [List.length_map] at this
  unfold tRow
  have h2 : xs.length * (65 + [32].length) ≤ 24 * 66 := Nat.mul_le_mul hl (by decide)
  omega
theorem getD_at {α : Type} {xs : List α} {d : α} : ∀ i x, xs[i]? = some x → xs.getD i d = x := fun i x h => getD_some h
theorem row_text {a D : Addr} {p : Int} {xs : List Nv} {fr : List (Str × Nat)} {σ : L2.St} {te : TE} {H1 : Hp} {Q : VK} (rv : RowV H1 p a xs) (hl : xs.length ≤ 24) (gd : ∀ x ∈ xs, Isn p x ∧ Bd BB x) (hD : H1 D = none)
    (h : ∀ (v : V) (x : Nv) H (Q : VK), Same H1 H → NumV H p v x → Bd BB x → (∀ H', Same H H' → Q (.str (mkS (tNum p x))) H') → te (some v :: capOf fr σ) H Q)
    (hQ : ∀ H', Same H1 H' → H' D = some (.lst ((xs.map fun x => mkS (tNum p x)).map V.str)) → Q (.ref D) H') : tBlock (gName 0) tYes te (Itl K a) D (capS 1 fr σ) H1 Q := by
  obtain ⟨vs, h1, al⟩ := rv
  have vl := al.1
  refine comp_txts (fun i => mkS (tNum p (xs.getD i (0, 1)))) h1 hD (by omega) (fun i v H' Q' hv s' q' => ?_) fun H' s' e' => hQ H' s' ?_
  · obtain ⟨x, ex, nx⟩ := al.at' hv
    refine h v x H' _ s' (nx.same s') (gd x (List.mem_of_getElem? ex)).2 fun H'' s'' => ?_
    have := q' H'' s''
    rwa [getD_some ex] at this
  · rw [e', vl, range_map (fun x => mkS (tNum p x)) xs _ getD_at]
theorem blank : Str.ofString " " = mkS [32] := by decide +kernel
theorem stroke : Str.ofString " / " = mkS [32, 47, 32] := by decide +kernel
theorem rows_text {D r : Addr} {p hh wd : Int} {t : Addr} {rs : List Addr} {M : Mv} {fr fr2 : List (Str × Nat)} {σ : L2.St} {te : TE} {H1 : Hp} {Q : VK} (tb : TabV H1 p hh wd t r rs M) (sh : Shp hh wd M) (gd : GoodM p BB M) (h24 : hh ≤ 24) (w24 : wd ≤ 24) (hD : H1 D = none)
    (h : ∀ (rx v : V) (x : Nv) H (Q : VK), Same H1 H → NumV H p v x → Bd BB x → (∀ H', Same H H' → Q (.str (mkS (tNum p x))) H') → te (some v :: capOf fr2 (some rx :: capOf fr σ)) H Q)
    (hQ : ∀ H', Same H1 H' → H' D = some (.lst ((M.map fun xs => mkS (tRow p xs)).map V.str)) → Q (.ref D) H') :
    tBlock (gName 0) tYes (tBM K "str" (rJoin K) (tC (V.str (Str.ofString " "))) (tCons (tComp 1 fr2 (iList K (tVar 0)) (gName 0) tYes te) tNil)) (Itl K r) D (capS 1 fr σ) H1 Q := by
  have rl := tb.row.1
  have ml := sh.1
  refine comp_txts (fun i => mkS (tRow p (M.getD i []))) tb.lst hD (by rw [List.length_map]; omega) (fun i v H' Q' hv s' q' => ?_) fun H' s' e' => hQ H' s' ?_
  · obtain ⟨xs, ex, a, rfl, rv⟩ := (all2_refs tb.row).at' hv
    have hx := List.mem_of_getElem? ex
    have wx := sh.2 xs hx
    refine ⟨rfl, _, rfl, a, rfl, ?_⟩
    have k := fun D2 hD2 => row_text (K := K) (D := D2) (fr := fr2) (σ := some (V.ref a) :: capOf fr σ) (te := te) (H1 := H') (Q := fun x H2 => rJoin K (V.str (Str.ofString " ")) [x] H2 Q') (rv.same s') (by omega) (fun x hxx => gd xs hx x hxx) hD2 (fun v x H2 Q2 s2 nv bd q2 => h _ v x H2 Q2 (s'.trans s2) nv bd q2) (fun H2 s2 e2 => by
      refine ⟨_, D2, _, rfl, rfl, SqL.of e2, join_ok (B := 65) (fun y hy => ?_) ?_, ?_⟩
      · obtain ⟨x, hxx, rfl⟩ := List.mem_map.mp hy
        rw [mk_len]
        exact tNum_len (gd xs hx x hxx).2
      · rw [List.length_map, blank, mk_len]
        have : xs.length ≤ 24 := by omega
        show xs.length * 65 + xs.length * 1 ≤ 16777216
        omega
      · have e : Txt.join (Str.ofString " ") (xs.map fun x => mkS (tNum p x)) = mkS (tRow p xs) := by
          have := join_mk (Str.ofString " ") (xs.map (tNum p))
          rw [List.map_map] at this
          unfold tRow
          rw [← show sg (Str.ofString " ") = [32] by rw [blank]; rfl]
          exact this
        rw [e]
        have := q' H2 s2
        rwa [getD_some ex] at this)
    obtain ⟨vs0, h0, _⟩ := rv.same s'
    exact ⟨⟨_, SqL.of h0⟩, fun D2 hD2 => k D2 hD2⟩
  · rw [e', List.length_map, rl, range_map (fun xs => mkS (tRow p xs)) M _ getD_at]
def spShT (G : Addr) : Sp := fun vs H Q _ => ∃ (g t r : Addr) (p hh wd : Int) (rs : List Addr) (M : Mv), vs = [.ref g, .ref t] ∧ GAt G H g p ∧ TabV H p hh wd t r rs M ∧ Shp hh wd M ∧ GoodM p BB M ∧ hh ≤ 24 ∧ wd ≤ 24 ∧ ∀ H', Same H H' → Q (.str (mkS (tTab p hh wd M))) H'
theorem ok_sht {f : Addr} {fd : FuncData} (F : Fun K "show_table" "show_table" s_show_table f fd) (T : Txt K mg C G S) (C_show_number : Cal P w K mg base "show_number" 3 (spShN G)) : FnOk P w K mg base CX0 4 f fd ["ground", "table"] (spShT G) := by
  have nd := sc_show_table.nd
  refine F.ok sc_show_table (fun vs H Q E h => ?_) (fun cdv A outer s H vs Q E hr h => ?_)
  · obtain ⟨g, t, r, p, hh, wd, rs, M, rfl, _⟩ := h
    rfl
  · obtain ⟨g, t, r, p, hh, wd, rs, M, rfl, hg, tb, sh, gd, h24, w24, q⟩ := h
    refine ⟨_, (@pss_cons _ _ _ _ _ (ps_asg (pv 1) (@pg_tup _ _ _ _ _ 3 rfl (@pgs_cons _ _ _ _ _ (@pg_name _ _ 2 _ nd rfl (Or.inl rfl) (Or.inl rfl)) (@pgs_cons _ _ _ _ _ (@pg_name _ _ 3 _ nd rfl (Or.inl rfl) (Or.inl rfl)) (@pgs_cons _ _ _ _ _ (@pg_name _ _ 4 _ nd rfl (Or.inl rfl) (Or.inl rfl)) (@pgs_nil _) (by rfl)) (by rfl)) (by rfl)) (by rfl) (by rfl))) (@pss_cons _ _ _ _ _ (@ps_if _ _ _ _ _ _ _ _ (PW.pt (pw_or (pt_cmpR op_eq (pv 2) pe_int (nomark _)) (pw_or1 (pt_cmpR op_eq (pv 3) pe_int (nomark _))))) (@pss_one _ _ _ (@ps_ret _ _ _ _ pe_str)) pss_nil) (@pss_one _ _ _ (@ps_ret _ _ _ _ (pe_bm PySem.F.plainAttrs_str PySem.F.slot_str_join PySem.F.type_str_join mt_join pe_str (@pa_c _ _ _ _ _ (pe_comp (own := ["row"]) (fr := [("ground", 0)]) rfl (bl_of (by kernel_rfl)) (pi_list (pv 4)) (fun _ _ _ _ => ⟨(@pg_name _ _ 0 _ (show (["row", "ground"] : List Str).Nodup by decide +kernel) rfl (Or.inl rfl) (Or.inr rfl)), pts_nil, (pe_bmK K rfl PySem.F.plainAttrs_str PySem.F.slot_str_join PySem.F.type_str_join (mt_joinK K rfl) pe_str (@pa_c _ _ _ _ _ (pe_comp (own := ["number"]) (fr := [("ground", 1)]) rfl (bl_of (by kernel_rfl)) (pi_listK K rfl (pv 0)) (fun _ _ _ _ => ⟨(@pg_name _ _ 0 _ (show (["number", "ground"] : List Str).Nodup by decide +kernel) rfl (Or.inl rfl) (Or.inr rfl)), pts_nil, (pe_c C_show_number (hr.mono (by decide)) rfl (@pa_c _ _ _ _ _ (pv 1) (@pa_c _ _ _ _ _ (pv 0) pa_nil (by rfl)) (by rfl)))⟩)) pa_nil (by rfl)))⟩)) pa_nil (by rfl))))))), ?_⟩
    have rl := tb.row.1
    have ml := sh.1
    unfold tTab at q
    walk_at "wp"
    refine ⟨_, SqT.of tb.tup, rfl, _, _, rfl, _, _, rfl, _, _, rfl, rfl, rfl, ?_⟩
    have dash : Str.ofString "-" = mkS [45] := by decide +kernel
    refine ite2 (fun hc => ?_) (fun hc => ⟨rfl, ite2 (fun hc2 => ?_) (fun hc2 => ?_)⟩)
    · have hc : hh = 0 := by simpa using hc
      rw [if_pos (.inl hc)] at q
      rw [dash]
      exact q H (Same.refl _)
    · have hc2 : wd = 0 := by simpa using hc2
      rw [if_pos (.inr hc2)] at q
      rw [dash]
      exact q H (Same.refl _)
    · have hc : ¬ hh = 0 := by simpa using hc
      have hc2 : ¬ wd = 0 := by simpa using hc2
      rw [if_neg (by rintro (h | h) <;> contradiction)] at q
      refine ⟨rfl, _, rfl, r, rfl, ⟨_, SqL.of tb.lst⟩, fun D hD => rows_text tb sh gd h24 w24 hD (fun rx v x H' Q' s' nv bd q' => ⟨_, rfl, _, rfl, g, p, v, x, rfl, hg.same s', nv, bd, q'⟩) fun H' s' e' => ?_⟩
      refine ⟨_, rfl, D, rfl, _, SqL.of e', join_ok (B := 1600) (fun y hy => ?_) ?_, ?_⟩
      · obtain ⟨xs, hx, rfl⟩ := List.mem_map.mp hy
        have := sh.2 xs hx
        rw [mk_len]
        exact tRow_len (by omega) fun x hxx => (gd xs hx x hxx).2
      · rw [List.length_map, stroke, mk_len]
        show M.length * 1600 + M.length * 3 ≤ 16777216
        omega
      · have e : Txt.join (Str.ofString " / ") (M.map fun xs => mkS (tRow p xs)) = mkS (inter [32, 47, 32] (M.map (tRow p))) := by
          have := join_mk (Str.ofString " / ") (M.map (tRow p))
          rw [List.map_map] at this
          rw [show sg (Str.ofString " / ") = [32, 47, 32] by rw [stroke]; rfl] at this
          exact this
        rw [e]
        exact q H' s'
end
end Pf
set_option maxHeartbeats 1000000
namespace Pf
open PySem L2 PyProof.Rows
section
variable {P : Program} {w : World} {K : PySem.W.Frag} {mg : Str → Option Value} {base : Heap} {C G S : Addr}
theorem strokes (p : Int) (M : Mv) : Txt.join (Str.ofString " / ") (M.map fun xs => mkS (tRow p xs)) = mkS (inter [32, 47, 32] (M.map (tRow p))) := by
  have := join_mk (Str.ofString " / ") (M.map (tRow p))
  rw [List.map_map] at this
  rw [show sg (Str.ofString " / ") = [32, 47, 32] by rw [stroke]; rfl] at this
  exact this
theorem rows_fit {p hh wd : Int} {M : Mv} (sh : Shp hh wd M) (gd : GoodM p BB M) (h24 : hh ≤ 24) (w24 : wd ≤ 24) : JoinOk (Str.ofString " / ") (M.map fun xs => mkS (tRow p xs)) = true := by
  have ml := sh.1
  refine join_ok (B := 1600) (fun y hy => ?_) ?_
  · obtain ⟨xs, hx, rfl⟩ := List.mem_map.mp hy
    have := sh.2 xs hx
    rw [mk_len]
    exact tRow_len (by omega) fun x hxx => (gd xs hx x hxx).2
  · rw [List.length_map, stroke, mk_len]
    show M.length * 1600 + M.length * 3 ≤ 16777216
    omega
def spLts : Sp := fun vs H Q _ => ∃ (t r : Addr) (p hh wd : Int) (rs : List Addr) (M : Mv), vs = [.int p, .ref t] ∧ GroundP p ∧ TabV H p hh wd t r rs M ∧ Shp hh wd M ∧ GoodM p BB M ∧ hh ≤ 24 ∧ wd ≤ 24 ∧ ∀ H', Same H H' → Q (.str (mkS (tTab p hh wd M))) H'
theorem ok_lts {f : Addr} {fd : FuncData} (F : Fun K "_law_table_shown" "_law_table_shown" s_law_table_shown f fd) (T : Txt K mg C G S) (C_law_shown : Cal P w K mg base "_law_shown" 1 spLsh) : FnOk P w K mg base CX0 2 f fd ["_law_p", "_law_table_here"] spLts := by
  have nd := sc_law_table_shown.nd
  refine F.ok sc_law_table_shown (fun vs H Q E h => ?_) (fun cdv A outer s H vs Q E hr h => ?_)
  · obtain ⟨t, r, p, hh, wd, rs, M, rfl, _⟩ := h
    rfl
  · obtain ⟨t, r, p, hh, wd, rs, M, rfl, hp, tb, sh, gd, h24, w24, q⟩ := h
    refine ⟨_, (@pss_cons _ _ _ _ _ (@ps_if _ _ _ _ _ _ _ _ (PW.pt (pw_or (pt_cmpR op_eq (@pe_ix _ _ _ _ _ _ _ ix_tup (pv 1) pe_int (fun _ _ => rfl)) pe_int (nomark _)) (pw_or1 (pt_cmpR op_eq (@pe_ix _ _ _ _ _ _ _ ix_tup (pv 1) pe_int (fun _ _ => rfl)) pe_int (nomark _))))) (@pss_one _ _ _ (@ps_ret _ _ _ _ pe_str)) pss_nil) (@pss_one _ _ _ (@ps_ret _ _ _ _ (pe_bm PySem.F.plainAttrs_str PySem.F.slot_str_join PySem.F.type_str_join mt_join pe_str (@pa_c _ _ _ _ _ (pe_comp (own := ["_law_row"]) (fr := [("_law_p", 0)]) rfl (bl_of (by kernel_rfl)) (pi_list (@pe_ix _ _ _ _ _ _ _ ix_tup (pv 1) pe_int (fun _ _ => rfl))) (fun _ _ _ _ => ⟨(@pg_name _ _ 0 _ (show (["_law_row", "_law_p"] : List Str).Nodup by decide +kernel) rfl (Or.inl rfl) (Or.inr rfl)), pts_nil, (pe_bmK K rfl PySem.F.plainAttrs_str PySem.F.slot_str_join PySem.F.type_str_join (mt_joinK K rfl) pe_str (@pa_c _ _ _ _ _ (pe_comp (own := ["_law_number_here"]) (fr := [("_law_p", 1)]) rfl (bl_of (by kernel_rfl)) (pi_listK K rfl (pv 0)) (fun _ _ _ _ => ⟨(@pg_name _ _ 0 _ (show (["_law_number_here", "_law_p"] : List Str).Nodup by decide +kernel) rfl (Or.inl rfl) (Or.inr rfl)), pts_nil, (pe_c C_law_shown (hr.mono (by decide)) rfl (@pa_c _ _ _ _ _ (pv 1) (@pa_c _ _ _ _ _ (pv 0) pa_nil (by rfl)) (by rfl)))⟩)) pa_nil (by rfl)))⟩)) pa_nil (by rfl)))))), ?_⟩
    unfold tTab at q
    walk_at "wp"
    have dash : Str.ofString "-" = mkS [45] := by decide +kernel
    refine ⟨_, SqT.of tb.tup, _, rfl, rfl, ite2 (fun hc => ?_) (fun hc => ⟨_, SqT.of tb.tup, _, rfl, rfl, ite2 (fun hc2 => ?_) (fun hc2 => ?_)⟩)⟩
    · have hc : hh = 0 := by simpa using hc
      rw [if_pos (.inl hc)] at q
      rw [dash]
      exact q H (Same.refl _)
    · have hc2 : wd = 0 := by simpa using hc2
      rw [if_pos (.inr hc2)] at q
      rw [dash]
      exact q H (Same.refl _)
    · have hc : ¬ hh = 0 := by simpa using hc
      have hc2 : ¬ wd = 0 := by simpa using hc2
      rw [if_neg (by rintro (h | h) <;> contradiction)] at q
      refine ⟨rfl, _, rfl, t, _, 2, _, rfl, rfl, SqT.of tb.tup, rfl, r, rfl, ⟨_, SqL.of tb.lst⟩, fun D hD => rows_text tb sh gd h24 w24 hD (fun rx v x H' Q' s' nv bd q' => ⟨_, rfl, _, rfl, p, v, x, rfl, hp, nv, bd, q' H' (Same.refl _)⟩) fun H' s' e' => ?_⟩
      refine ⟨_, rfl, D, rfl, _, SqL.of e', rows_fit sh gd h24 w24, ?_⟩
      rw [strokes]
      exact q H' s'
abbrev Tv := Int × Int × Mv
abbrev t0 : Tv := (0, 0, [])
abbrev hF (cs : List Tv) (i : Nat) : Int := (cs.getD i t0).1
abbrev wF (cs : List Tv) (i : Nat) : Int := (cs.getD i t0).2.1
abbrev mF (cs : List Tv) (i : Nat) : Mv := (cs.getD i t0).2.2
structure TbsV (H : Hp) (p : Int) (a : Addr) (ts : List Addr) (cs : List Tv) : Prop where
  lst : H a = some (.lst (ts.map V.ref))
  tab : All2 (fun t c => ∃ r rs, TabV H p c.1 c.2.1 t r rs c.2.2) ts cs
theorem TbsV.same {H H' : Hp} {p : Int} {a : Addr} {ts : List Addr} {cs : List Tv} (h : TbsV H p a ts cs) (s : Same H H') : TbsV H' p a ts cs := ⟨s _ _ h.lst, h.tab.mono fun _ _ ⟨r, rs, k⟩ => ⟨r, rs, k.same s⟩⟩
theorem TbsV.at {H : Hp} {p : Int} {a : Addr} {ts : List Addr} {cs : List Tv} (h : TbsV H p a ts cs) {i : Nat} {x : V} (e : (ts.map V.ref)[i]? = some x) : i < cs.length ∧ ∃ t r rs, x = .ref t ∧ ts[i]? = some t ∧ TabV H p (hF cs i) (wF cs i) t r rs (mF cs i) := by
  rw [List.getElem?_map] at e
  cases f : ts[i]? with
  | none => rw [f] at e; cases e
  | some t =>
    rw [f] at e
    cases e
    obtain ⟨c, ec, r, rs, k⟩ := h.tab.at' f
    refine ⟨(List.getElem?_eq_some_iff.mp ec).1, t, r, rs, rfl, rfl, ?_⟩
    show TabV H p (cs.getD i t0).1 (cs.getD i t0).2.1 t r rs (cs.getD i t0).2.2
    rw [getD_some ec]
    exact k
def FT (p : Int) (cs : List Tv) : Prop := cs.length ≤ 9 ∧ ∀ c ∈ cs, 0 ≤ c.1 ∧ c.1 ≤ 24 ∧ 0 ≤ c.2.1 ∧ c.2.1 ≤ 24 ∧ Shp c.1 c.2.1 c.2.2 ∧ GoodM p BB c.2.2
theorem FT.at {p : Int} {cs : List Tv} (h : FT p cs) {i : Nat} (hi : i < cs.length) : 0 ≤ hF cs i ∧ hF cs i ≤ 24 ∧ 0 ≤ wF cs i ∧ wF cs i ≤ 24 ∧ Shp (hF cs i) (wF cs i) (mF cs i) ∧ GoodM p BB (mF cs i) := by
  have e : cs[i]? = some cs[i] := List.getElem?_eq_getElem hi
  show 0 ≤ (cs.getD i t0).1 ∧ (cs.getD i t0).1 ≤ 24 ∧ 0 ≤ (cs.getD i t0).2.1 ∧ (cs.getD i t0).2.1 ≤ 24 ∧ Shp (cs.getD i t0).1 (cs.getD i t0).2.1 (cs.getD i t0).2.2 ∧ GoodM p BB (cs.getD i t0).2.2
  rw [getD_some e]
  exact h.2 _ (List.getElem_mem hi)
def tSz (ns : List Int) : List Nat := inter [32] (ns.map tI)
def tStd (p : Int) (ns : List Int) (cs : List Tv) : List Nat := inter [59, 32] (tSz ns :: cs.map fun c => tTab p c.1 c.2.1 c.2.2)
theorem semi : Str.ofString "; " = mkS [59, 32] := by decide +kernel
theorem tTab_len {p : Int} {c : Tv} (h : c.1 ≤ 24) (hw : c.2.1 ≤ 24) (sh : Shp c.1 c.2.1 c.2.2) (g : GoodM p BB c.2.2) : (tTab p c.1 c.2.1 c.2.2).length ≤ 40000 := by
  unfold tTab
  split
  · simp
  · have := inter_len (s := [32, 47, 32]) (B := 1600) (ps := c.2.2.map (tRow p)) fun a ha => by
      obtain ⟨xs, hx, rfl⟩ := List.mem_map.mp ha
      have := sh.2 xs hx
      exact tRow_len (by omega) fun x hxx => (g xs hx x hxx).2
    rw [List.length_map] at this
    have ml := sh.1
    have : c.2.2.length * (1600 + [32, 47, 32].length) ≤ 24 * 1603 := Nat.mul_le_mul (by omega) (by decide)
    omega
theorem tSz_len {ns : List Int} (h8 : ns.length ≤ 8) (h : ∀ n ∈ ns, 0 ≤ n ∧ n ≤ 24) : (tSz ns).length ≤ 400 := by
  have := inter_len (s := [32]) (B := 32) (ps := ns.map tI) fun a ha => by
    obtain ⟨n, hn, rfl⟩ := List.mem_map.mp ha
    have := h n hn
    exact tI_len (by
      have : n.natAbs ≤ 24 := by omega
      exact Nat.lt_of_le_of_lt this (by decide +kernel))
  rw [List.length_map] at this
  unfold tSz
  have h2 : ns.length * (32 + [32].length) ≤ 8 * 33 := Nat.mul_le_mul h8 (by decide)
  omega
theorem sizes_join (ns : List Int) : Txt.join (Str.ofString " ") (ns.map fun n => mkS (tI n)) = mkS (tSz ns) := by
  have := join_mk (Str.ofString " ") (ns.map tI)
  rw [List.map_map] at this
  rw [show sg (Str.ofString " ") = [32] by rw [blank]; rfl] at this
  exact this
theorem sizes_fit {ns : List Int} (h8 : ns.length ≤ 8) (h : ∀ n ∈ ns, 0 ≤ n ∧ n ≤ 24) : JoinOk (Str.ofString " ") (ns.map fun n => mkS (tI n)) = true := by
  refine join_ok (B := 32) (fun y hy => ?_) ?_
  · obtain ⟨n, hn, rfl⟩ := List.mem_map.mp hy
    have := h n hn
    rw [mk_len]
    exact tI_len (by
      have : n.natAbs ≤ 24 := by omega
      exact Nat.lt_of_le_of_lt this (by decide +kernel))
  · rw [List.length_map, blank, mk_len]
    show ns.length * 32 + ns.length * 1 ≤ 16777216
    omega
theorem std_join (p : Int) (ns : List Int) (cs : List Tv) : Txt.join (Str.ofString "; ") (mkS (tSz ns) :: cs.map fun c => mkS (tTab p c.1 c.2.1 c.2.2)) = mkS (tStd p ns cs) := by
  have := join_mk (Str.ofString "; ") (tSz ns :: cs.map fun c => tTab p c.1 c.2.1 c.2.2)
  rw [List.map_cons, List.map_map] at this
  rw [show sg (Str.ofString "; ") = [59, 32] by rw [semi]; rfl] at this
  exact this
theorem std_fit {p : Int} {ns : List Int} {cs : List Tv} (h8 : ns.length ≤ 8) (h : ∀ n ∈ ns, 0 ≤ n ∧ n ≤ 24) (ft : FT p cs) : JoinOk (Str.ofString "; ") (mkS (tSz ns) :: cs.map fun c => mkS (tTab p c.1 c.2.1 c.2.2)) = true := by
  refine join_ok (B := 40000) (fun y hy => ?_) ?_
  · rcases List.mem_cons.mp hy with rfl | hy
    · rw [mk_len]
      have := tSz_len h8 h
      omega
    · obtain ⟨c, hc, rfl⟩ := List.mem_map.mp hy
      obtain ⟨_, a, _, b, sh, g⟩ := ft.2 c hc
      rw [mk_len]
      exact tTab_len a b sh g
  · have := ft.1
    rw [List.length_cons, List.length_map, semi, mk_len]
    show (cs.length + 1) * 40000 + (cs.length + 1) * 2 ≤ 16777216
    omega
structure Std (S C G : Addr) (H : Hp) (x g d z l : Addr) (p m : Int) (ps : List (Int × Int)) (ns : List Int) (ts : List Addr) (cs : List Tv) : Prop where
  at' : ∃ dx, H x = some (.ins S dx (sflds g d z l))
  gr : GAt G H g p
  dr : ∃ lp xs, DrawAt C H d m lp xs ∧ Prs H xs ps
  sz : Sizes H z ns
  tb : TbsV H p l ts cs
def spShS (S C G : Addr) : Sp := fun vs H Q _ => ∃ (x g d z l : Addr) (p m : Int) (ps : List (Int × Int)) (ns : List Int) (ts : List Addr) (cs : List Tv), vs = [.ref x] ∧ Std S C G H x g d z l p m ps ns ts cs ∧ FT p cs ∧ ∀ H', Same H H' → Q (.str (mkS (tStd p ns cs))) H'
theorem ok_shs {f : Addr} {fd : FuncData} (F : Fun K "show_standing" "show_standing" s_show_standing f fd) (T : Txt K mg C G S) (C_show_whole : Cal P w K mg base "show_whole" 2 spSh) (C_show_table : Cal P w K mg base "show_table" 4 (spShT G)) : FnOk P w K mg base CX0 5 f fd ["standing"] (spShS S C G) := by
  have nd := sc_show_standing.nd
  refine F.ok sc_show_standing (fun vs H Q E h => ?_) (fun cdv A outer s H vs Q E hr h => ?_)
  · obtain ⟨x, g, d, z, l, p, m, ps, ns, ts, cs, rfl, _⟩ := h
    rfl
  · obtain ⟨x, g, d, z, l, p, m, ps, ns, ts, cs, rfl, st, ft, q⟩ := h
    refine ⟨_, (@pss_cons _ _ _ _ _ (ps_set (i := 1) nd rfl (Or.inl rfl) (pe_bm PySem.F.plainAttrs_str PySem.F.slot_str_join PySem.F.type_str_join mt_join pe_str (@pa_c _ _ _ _ _ (pe_comp (own := ["size"]) (fr := []) rfl (bl_of (by kernel_rfl)) (pi_list (pe_fld (pv 0) rfl)) (fun _ _ _ _ => ⟨(@pg_name _ _ 0 _ (show (["size"] : List Str).Nodup by decide +kernel) rfl (Or.inl rfl) (Or.inr rfl)), pts_nil, (pe_c C_show_whole (hr.mono (by decide)) rfl (@pa_c _ _ _ _ _ (pv 0) pa_nil (by rfl)))⟩)) pa_nil (by rfl)))) (@pss_one _ _ _ (@ps_ret _ _ _ _ (pe_bm PySem.F.plainAttrs_str PySem.F.slot_str_join PySem.F.type_str_join mt_join pe_str (@pa_c _ _ _ _ _ (@pe_op _ _ _ _ _ _ _ _ op_cat (@pe_lst _ _ _ _ (@pa_c _ _ _ _ _ (pv 1) pa_nil (by rfl))) (pe_comp (own := ["table"]) (fr := [("standing", 0)]) rfl (bl_of (by kernel_rfl)) (pi_list (pe_fld (pv 0) rfl)) (fun _ _ _ _ => ⟨(@pg_name _ _ 0 _ (show (["table", "standing"] : List Str).Nodup by decide +kernel) rfl (Or.inl rfl) (Or.inr rfl)), pts_nil, (pe_c C_show_table (hr.mono (by decide)) rfl (@pa_c _ _ _ _ _ (pe_fldK K rfl (pv 1) rfl) (@pa_c _ _ _ _ _ (pv 0) pa_nil (by rfl)) (by rfl)))⟩))) pa_nil (by rfl)))))), ?_⟩
    obtain ⟨dx, hx⟩ := st.at'
    have hz := st.sz
    walk_at "wp"
    obtain ⟨hz1, h8, hn⟩ := hz
    refine ⟨rfl, _, rfl, x, S, dx, _, _, rfl, hx, T.cl_Standing, T.nSs, sf_sizes g d z l, z, rfl, ⟨_, SqL.of hz1⟩, fun D hD => comp_txts (fun i => mkS (tI (ns.getD i 0))) hz1 hD (by rw [List.length_map]; omega) (fun i v H' Q' hv s' q' => ?_) fun H1 s1 e1 => ?_⟩
    · rw [List.getElem?_map] at hv
      cases e : ns[i]? with
      | none => rw [e] at hv; cases hv
      | some n =>
        rw [e] at hv
        cases hv
        have := hn n (List.mem_of_getElem? e)
        refine ⟨_, rfl, n, rfl, Nat.lt_of_le_of_lt (show n.natAbs ≤ 24 by omega) (by decide +kernel), fun H'' s'' => ?_⟩
        have := q' H'' s''
        rwa [getD_some e] at this
    · rw [List.length_map, range_map (fun n => mkS (tI n)) ns _ getD_at] at e1
      refine ⟨_, rfl, D, rfl, _, SqL.of e1, sizes_fit h8 hn, rfl, by decide, fun p1 hp1 => ?_⟩
      rw [sizes_join]
      have sA := Same.new (o := .lst [V.str (mkS (tSz ns))]) hp1
      have s2 := s1.trans sA
      have hp1' : upd H1 p1 (.lst [V.str (mkS (tSz ns))]) p1 = some (.lst [V.str (mkS (tSz ns))]) := upd_same
      generalize upd H1 p1 (.lst [V.str (mkS (tSz ns))]) = H2 at *
      have tb2 := st.tb.same s2
      have tl := tb2.tab.1
      have c9 := ft.1
      refine ⟨_, rfl, x, S, dx, _, _, rfl, s2 _ _ hx, T.cl_Standing, T.nSt, sf_tables g d z l, l, rfl, ⟨_, SqL.of tb2.lst⟩, fun D2 hD2 => comp_txts (fun i => mkS (tTab p (hF cs i) (wF cs i) (mF cs i))) tb2.lst hD2 (by rw [List.length_map]; omega) (fun i v H' Q' hv s' q' => ?_) fun H3 s3 e3 => ?_⟩
      · obtain ⟨hic, t, r, rs, rfl, et, tb⟩ := (tb2.same s').at hv
        obtain ⟨a1, a2, a3, a4, sh, gd⟩ := ft.at hic
        exact ⟨_, rfl, x, S, dx, _, _, rfl, (s2.trans s') _ _ hx, T.cl_Standing, T.nSg, sf_ground g d z l, _, rfl, g, t, r, p, _, _, rs, _, rfl, st.gr.same (s2.trans s'), tb, sh, gd, a2, a4, q'⟩
      · have er : (List.range (ts.map V.ref).length).map (fun i => mkS (tTab p (hF cs i) (wF cs i) (mF cs i))) = cs.map fun c => mkS (tTab p c.1 c.2.1 c.2.2) := by
          rw [List.length_map, tl]
          exact range_map (fun c : Tv => mkS (tTab p c.1 c.2.1 c.2.2)) cs (fun i => cs.getD i t0) getD_at
        rw [er] at e3
        refine ⟨D2, rfl, _, s3 _ _ hp1', _, e3, ?_, fun p2 hp2 => ⟨_, rfl, mkS (tSz ns) :: cs.map (fun c => mkS (tTab p c.1 c.2.1 c.2.2)), SqL.of upd_same, std_fit h8 hn ft, ?_⟩⟩
        · rw [List.length_map, List.length_map]
          show 1 + cs.length ≤ sizeLine
          exact slc (by omega)
        · rw [std_join]
          exact q _ ((s2.trans s3).trans (Same.new hp2))
def spLss : Sp := fun vs H Q _ => ∃ (t z l : Addr) (p : Int) (ns : List Int) (ts : List Addr) (cs : List Tv), vs = [.int p, .ref t] ∧ GroundP p ∧ H t = some (.tup [.ref z, .ref l]) ∧ Sizes H z ns ∧ TbsV H p l ts cs ∧ FT p cs ∧ ∀ H', Same H H' → Q (.str (mkS (tStd p ns cs))) H'
theorem ok_lss {f : Addr} {fd : FuncData} (F : Fun K "_law_standing_shown" "_law_standing_shown" s_law_standing_shown f fd) (T : Txt K mg C G S) (C_law_table_shown : Cal P w K mg base "_law_table_shown" 2 spLts) : FnOk P w K mg base CX0 3 f fd ["_law_p", "_law_standing_here"] spLss := by
  have nd := sc_law_standing_shown.nd
  refine F.ok sc_law_standing_shown (fun vs H Q E h => ?_) (fun cdv A outer s H vs Q E hr h => ?_)
  · obtain ⟨t, z, l, p, ns, ts, cs, rfl, _⟩ := h
    rfl
  · obtain ⟨t, z, l, p, ns, ts, cs, rfl, hp, ht, hz, htb, ft, q⟩ := h
    refine ⟨_, (@pss_cons _ _ _ _ _ (ps_set (i := 2) nd rfl (Or.inl rfl) (@pe_lst _ _ _ _ (@pa_c _ _ _ _ _ (pe_bm PySem.F.plainAttrs_str PySem.F.slot_str_join PySem.F.type_str_join mt_join pe_str (@pa_c _ _ _ _ _ (pe_comp (own := ["_law_size"]) (fr := []) rfl (bl_of (by kernel_rfl)) (pi_list (@pe_ix _ _ _ _ _ _ _ ix_tup (pv 1) pe_int (fun _ _ => rfl))) (fun _ _ _ _ => ⟨(@pg_name _ _ 0 _ (show (["_law_size"] : List Str).Nodup by decide +kernel) rfl (Or.inl rfl) (Or.inr rfl)), pts_nil, (pe_cT call_str_int rfl T.n_str boot_str (@pa_c _ _ _ _ _ (pv 0) pa_nil (by rfl)))⟩)) pa_nil (by rfl))) pa_nil (by rfl)))) (@pss_one _ _ _ (@ps_ret _ _ _ _ (pe_bm PySem.F.plainAttrs_str PySem.F.slot_str_join PySem.F.type_str_join mt_join pe_str (@pa_c _ _ _ _ _ (@pe_op _ _ _ _ _ _ _ _ op_cat (pv 2) (pe_comp (own := ["_law_table_here"]) (fr := [("_law_p", 0)]) rfl (bl_of (by kernel_rfl)) (pi_list (@pe_ix _ _ _ _ _ _ _ ix_tup (pv 1) pe_int (fun _ _ => rfl))) (fun _ _ _ _ => ⟨(@pg_name _ _ 0 _ (show (["_law_table_here", "_law_p"] : List Str).Nodup by decide +kernel) rfl (Or.inl rfl) (Or.inr rfl)), pts_nil, (pe_c C_law_table_shown (hr.mono (by decide)) rfl (@pa_c _ _ _ _ _ (pv 1) (@pa_c _ _ _ _ _ (pv 0) pa_nil (by rfl)) (by rfl)))⟩))) pa_nil (by rfl)))))), ?_⟩
    obtain ⟨hz1, h8, hn⟩ := hz
    walk_at "wp"
    refine ⟨rfl, _, rfl, t, _, 0, _, rfl, rfl, SqT.of ht, rfl, z, rfl, ⟨_, SqL.of hz1⟩, fun D hD => comp_txts (fun i => mkS (tI (ns.getD i 0))) hz1 hD (by rw [List.length_map]; omega) (fun i v H' Q' hv s' q' => ?_) fun H1 s1 e1 => ?_⟩
    · rw [List.getElem?_map] at hv
      cases e : ns[i]? with
      | none => rw [e] at hv; cases hv
      | some n =>
        rw [e] at hv
        cases hv
        have := hn n (List.mem_of_getElem? e)
        have q2 := q' H' (Same.refl _)
        rw [getD_some e, ← str_int] at q2
        exact ⟨_, rfl, n, rfl, low2 (Nat.lt_of_le_of_lt (show n.natAbs ≤ 24 by omega) (by decide +kernel)), q2⟩
    · rw [List.length_map, range_map (fun n => mkS (tI n)) ns _ getD_at] at e1
      refine ⟨_, rfl, D, rfl, _, SqL.of e1, sizes_fit h8 hn, by decide, fun p1 hp1 => ⟨rfl, ?_⟩⟩
      rw [sizes_join]
      have sA := Same.new (o := .lst [V.str (mkS (tSz ns))]) hp1
      have s2 := s1.trans sA
      have hp1' : upd H1 p1 (.lst [V.str (mkS (tSz ns))]) p1 = some (.lst [V.str (mkS (tSz ns))]) := upd_same
      generalize upd H1 p1 (.lst [V.str (mkS (tSz ns))]) = H2 at *
      have tb2 := htb.same s2
      have tl := tb2.tab.1
      have c9 := ft.1
      refine ⟨_, rfl, t, _, 1, _, rfl, rfl, SqT.of (s2 _ _ ht), rfl, l, rfl, ⟨_, SqL.of tb2.lst⟩, fun D2 hD2 => comp_txts (fun i => mkS (tTab p (hF cs i) (wF cs i) (mF cs i))) tb2.lst hD2 (by rw [List.length_map]; omega) (fun i v H' Q' hv s' q' => ?_) fun H3 s3 e3 => ?_⟩
      · obtain ⟨hic, t', r, rs, rfl, et, tb⟩ := (tb2.same s').at hv
        obtain ⟨a1, a2, a3, a4, sh, gd⟩ := ft.at hic
        exact ⟨_, rfl, _, rfl, t', r, p, _, _, rs, _, rfl, hp, tb, sh, gd, a2, a4, q'⟩
      · have er : (List.range (ts.map V.ref).length).map (fun i => mkS (tTab p (hF cs i) (wF cs i) (mF cs i))) = cs.map fun c => mkS (tTab p c.1 c.2.1 c.2.2) := by
          rw [List.length_map, tl]
          exact range_map (fun c : Tv => mkS (tTab p c.1 c.2.1 c.2.2)) cs (fun i => cs.getD i t0) getD_at
        rw [er] at e3
        refine ⟨D2, rfl, _, s3 _ _ hp1', _, e3, ?_, fun p2 hp2 => ⟨_, rfl, mkS (tSz ns) :: cs.map (fun c => mkS (tTab p c.1 c.2.1 c.2.2)), SqL.of upd_same, std_fit h8 hn ft, ?_⟩⟩
        · rw [List.length_map, List.length_map]
          show 1 + cs.length ≤ sizeLine
          exact slc (by omega)
        · rw [std_join]
          exact q _ ((s2.trans s3).trans (Same.new hp2))
end
end Pf
set_option maxHeartbeats 1000000
namespace Pf
open PySem L2 PyProof.Rows
section
variable {P : Program} {w : World} {K : PySem.W.Frag} {mg : Str → Option Value} {base : Heap} {C G S : Addr}
theorem ascii_tI (a : Int) : ∀ c ∈ tI a, c = 45 ∨ (48 ≤ c ∧ c ≤ 57) := by
  intro c hc
  unfold tI at hc
  split at hc
  · rcases List.mem_cons.mp hc with h | h
    · exact .inl h
    · exact .inr (tN_digits _ c h)
  · exact .inr (tN_digits _ c hc)
theorem figs : sg (Str.ofString "0123456789") = [48, 49, 50, 51, 52, 53, 54, 55, 56, 57] := by decide +kernel
theorem in_figs {c : Nat} (h : 48 ≤ c ∧ c ≤ 57) : (!(!(Builtin.Str.occurrences (Str.ofString "0123456789") (mkS [c]) 0 (Str.ofString "0123456789").length 1).isEmpty)) = false := by
  have := StrLaws.found_one (Str.ofString "0123456789") c
  have e : (!(Builtin.Str.occurrences (Str.ofString "0123456789") (mkS [c]) 0 (Str.ofString "0123456789").length 1).isEmpty) = true := by
    refine this.trans (decide_eq_true ?_)
    rw [show (Str.ofString "0123456789").cps.toList = _ from figs]
    obtain ⟨h1, h2⟩ := h
    have : c = 48 ∨ c = 49 ∨ c = 50 ∨ c = 51 ∨ c = 52 ∨ c = 53 ∨ c = 54 ∨ c = 55 ∨ c = 56 ∨ c = 57 := by omega
    rcases this with rfl | rfl | rfl | rfl | rfl | rfl | rfl | rfl | rfl | rfl <;> simp
  rw [e]
  rfl
theorem comp_bl_s {z : Str} {D : Addr} {fr : List (Str × Nat)} {σ : L2.St} {te : TE} {H1 : Hp} {Q : VK} (fb : Nat → Bool) (hD : H1 D = none) (hn : z.length ≤ 1000)
    (h : ∀ (i c : Nat) H (Q : VK), (sg z)[i]? = some c → Same H1 H → (∀ H', Same H H' → Q (.bl (fb i)) H') → te (some (.str (mkS [c])) :: capOf fr σ) H Q)
    (hQ : ∀ H', Same H1 H' → H' D = some (.lst (((List.range z.length).map fb).map V.bl)) → Q (.ref D) H') : tBlock (gName 0) tYes te (Its z) D (capS 1 fr σ) H1 Q := by
  refine comp_its (fun i vs H => Same H1 H ∧ H D = some (.lst vs) ∧ vs = ((List.range i).map fb).map V.bl) ⟨Same.new hD, upd_same, rfl⟩ ?_ (fun vs H ⟨s, e, hv⟩ => hQ H s (by rw [e, hv]))
  rintro i c vs σ' H hi hx sh ⟨s, e, rfl⟩
  obtain ⟨z', rfl⟩ := sh.one
  simp only [tTurn, gName, tYes, List.set_cons_zero, if_true]
  refine h i c H _ hx s fun H' s' => ?_
  exact leaf (ws := ((List.range (i + 1)).map fb).map V.bl) hi Sh.mk1 (s' _ _ e) (small1000 (by rw [List.length_map, List.length_map, List.length_range]; omega)) ⟨(s.trans s').upd hD, by rw [upd_same, List.range_succ, List.map_append, List.map_append]; rfl, rfl⟩
theorem none_any (n : Nat) : ((List.range n).map fun _ => false).any id = false := by
  rw [List.any_eq_false]
  intro b hb
  obtain ⟨_, _, rfl⟩ := List.mem_map.mp hb
  decide
def spWt : Sp := fun vs H Q _ => ∃ (m : Int) (n : Nat), vs = [.int m, .str (mkS (tN n))] ∧ ((tN n).length : Int) ≤ m ∧ (tN n).length ≤ 100 ∧ ∀ H', Same H H' → Q (.bl true) H'
theorem ok_wt {f : Addr} {fd : FuncData} (F : Fun K "is_written" "is_written" s_is_written f fd) (T : Txt K mg C G S) : FnOk P w K mg base CX0 1 f fd ["most", "text"] spWt := by
  have nd := sc_is_written.nd
  refine F.ok sc_is_written (fun vs H Q E h => ?_) (fun cdv A outer s H vs Q E hr h => ?_)
  · obtain ⟨m, n, rfl, _⟩ := h
    rfl
  · obtain ⟨m, n, rfl, hm, h100, q⟩ := h
    refine ⟨_, (@pss_cons _ _ _ _ _ (@ps_if _ _ _ _ _ _ _ _ (PW.pt (pw_or (pt_not (pt_chain op_le op_le pe_int (pe_cB call_len_str rfl T.n_len PySem.boot_len (@pa_c _ _ _ _ _ (pv 1) pa_nil (by rfl))) (pv 0))) (pw_or1 (pt_val (pe_cB (call_any rfl) rfl T.n_any boot_any (@pa_c _ _ _ _ _ (pe_comp (own := ["sign"]) (fr := []) rfl (bl_of (by kernel_rfl)) (pi_str (pv 1)) (fun _ _ _ _ => ⟨(@pg_name _ _ 0 _ (show (["sign"] : List Str).Nodup by decide +kernel) rfl (Or.inl rfl) (Or.inr rfl)), pts_nil, (pe_cmpR op_notin_str (pv 0) (pe_globS rfl T.g_FIGURES) (by with_unfolding_all rfl))⟩)) pa_nil (by rfl))))))) (@pss_one _ _ _ (@ps_ret _ _ _ _ pe_bl)) pss_nil) (@pss_one _ _ _ (@ps_ret _ _ _ _ (pe_or (pe_cmpR op_eq (pv 1) pe_str (nomark _)) (pe_one (pe_cmpR op_ne (@pe_ix _ _ _ _ _ _ _ ix_str (pv 1) pe_int (fun _ _ => rfl)) pe_str (nomark _))))))), ?_⟩
    walk_at "wp"
    have hpos : 0 < (tN n).length := List.length_pos_iff.mpr (tN_ne n)
    have hl := mk_len (tN n)
    have asc : Ascii (mkS (tN n)) := ascii_of fun c hc => by have := tN_digits n c hc; omega
    refine ⟨_, rfl, by rw [hl]; exact slc (by omega), iteP (decide_eq_true (by rw [hl]; omega)) (iteN (by rw [hl, decide_eq_true hm]; decide) ?_)⟩
    refine ⟨_, rfl, _, rfl, asc, fun D hD => comp_bl_s (fun _ => false) hD (by rw [hl]; omega) (fun i c H' Q' hc s' q' => ?_) fun H1 s1 e1 => ?_⟩
    · have hd := tN_digits n c (List.mem_of_getElem? hc)
      refine ⟨_, rfl, _, rfl, _, rfl, ?_⟩
      rw [in_figs hd]
      exact q' H' (Same.refl _)
    · refine ⟨D, rfl, _, SqL.of e1, iteN (by rw [none_any]; decide) (ite2 (fun _ => q H1 s1) (fun h0 => ?_))⟩
      have hn0 : n ≠ 0 := fun z => by
        subst z
        exact h0 (by decide +kernel)
      have h48 : (tN n)[0]? ≠ some 48 := by
        rcases tN_head n with h | h
        · exact absurd h hn0
        · exact h
      have e0 : (tN n)[0]? = some ((tN n)[0]) := List.getElem?_eq_getElem hpos
      refine ⟨_, rfl, by rw [hl]; exact slc (by omega), (tN n)[0], atI_at (by decide) e0, ?_⟩
      have hne : (V.str ⟨#[(tN n)[0]]⟩ = V.str (Str.ofString "0")) → False := fun z => by
        have z1 : mkS [(tN n)[0]] = Str.ofString "0" := V.str.inj z
        have z2 : Str.ofString "0" = mkS [48] := by decide +kernel
        rw [z2] at z1
        have z3 : [(tN n)[0]] = [48] := by rw [← sg_mk [(tN n)[0]], z1]; rfl
        injection z3 with z4 _
        rw [e0, z4] at h48
        exact h48 rfl
      rw [decide_eq_false hne]
      exact q H1 s1
def spRw : Sp := fun vs H Q _ => ∃ n : Nat, vs = [.str (mkS (tN n))] ∧ n < 10 ^ 30 ∧ ∀ H', Same H H' → Q (.int n) H'
theorem ok_rw {f : Addr} {fd : FuncData} (F : Fun K "read_whole" "read_whole" s_read_whole f fd) (T : Txt K mg C G S) (C_is_written : Cal P w K mg base "is_written" 1 spWt) : FnOk P w K mg base CX0 2 f fd ["text"] spRw := by
  have nd := sc_read_whole.nd
  refine F.ok sc_read_whole (fun vs H Q E h => ?_) (fun cdv A outer s H vs Q E hr h => ?_)
  · obtain ⟨n, rfl, _⟩ := h
    rfl
  · obtain ⟨n, rfl, hn, q⟩ := h
    refine ⟨_, (@pss_cons _ _ _ _ _ (@ps_if _ _ _ _ _ _ _ _ (pt_not (pt_val (pe_c C_is_written (hr.mono (by decide)) rfl (@pa_c _ _ _ _ _ (pe_globI rfl T.g_MOST_FIGURES) (@pa_c _ _ _ _ _ (pv 0) pa_nil (by rfl)) (by rfl))))) (@pss_one _ _ _ ps_never) pss_nil) (@pss_one _ _ _ (@ps_ret _ _ _ _ (pe_cT call_int_txt rfl T.n_int boot_int (@pa_c _ _ _ _ _ (pv 0) pa_nil (by rfl)))))), ?_⟩
    walk_at "wp"
    have hl := tN_len 29 hn
    refine ⟨30, n, rfl, by omega, by omega, fun H1 s1 => ⟨true, rfl, iteN (by decide) ⟨_, rfl, n, ?_, by rw [mk_len]; omega, q H1 s1⟩⟩⟩
    have := PySem.intText_digits (x := mkS (tN n)) (tN_digits n) (tN_ne n) (by rw [mk_len]; omega)
    rw [show (mkS (tN n)).cps.toList = tN n from rfl, tN_val] at this
    exact this
theorem minus1 : Str.ofString "-" = mkS [45] := by decide +kernel
theorem starts_minus (l : List Nat) : Txt.startswith (mkS l) (Str.ofString "-") = (l[0]? == some 45) := by
  unfold Txt.startswith
  rw [minus1, StrLaws.subAt_eq]
  show (decide (0 + 1 ≤ (mkS l).length) && ((l.drop 0).take 1 == [45])) = _
  rw [mk_len]
  cases l with
  | nil => rfl
  | cons a r =>
    show (decide (0 + 1 ≤ r.length + 1) && ([a] == [45])) = (some a == some 45)
    have : decide (0 + 1 ≤ r.length + 1) = true := decide_eq_true (by omega)
    rw [this, Bool.true_and]
    by_cases h : a = 45
    · subst h; rfl
    · have h1 : ([a] == [45]) = false := by rw [beq_eq_false_iff_ne]; intro z; injection z with z _; exact h z
      have h2 : (some a == some 45) = false := by rw [beq_eq_false_iff_ne]; intro z; exact h (Option.some.inj z)
      rw [h1, h2]
def spRtop : Sp := fun vs H Q _ => ∃ a : Int, vs = [.str (mkS (tI a))] ∧ a.natAbs < 10 ^ 30 ∧ ∀ H', Same H H' → Q (.int a) H'
theorem ok_rtop {f : Addr} {fd : FuncData} (F : Fun K "read_top" "read_top" s_read_top f fd) (T : Txt K mg C G S) (C_read_whole : Cal P w K mg base "read_whole" 2 spRw) : FnOk P w K mg base CX0 3 f fd ["text"] spRtop := by
  have nd := sc_read_top.nd
  refine F.ok sc_read_top (fun vs H Q E h => ?_) (fun cdv A outer s H vs Q E hr h => ?_)
  · obtain ⟨a, rfl, _⟩ := h
    rfl
  · obtain ⟨a, rfl, ha, q⟩ := h
    refine ⟨_, (@pss_cons _ _ _ _ _ (@ps_if _ _ _ _ _ _ _ _ (pt_not (pt_val (pe_bm PySem.F.plainAttrs_str PySem.F.slot_str_startswith PySem.F.type_str_startswith mt_starts (pv 0) (@pa_c _ _ _ _ _ pe_str pa_nil (by rfl))))) (@pss_one _ _ _ (@ps_ret _ _ _ _ (pe_c C_read_whole (hr.mono (by decide)) rfl (@pa_c _ _ _ _ _ (pv 0) pa_nil (by rfl))))) pss_nil) (@pss_cons _ _ _ _ _ (ps_set (i := 1) nd rfl (Or.inl rfl) (pe_c C_read_whole (hr.mono (by decide)) rfl (@pa_c _ _ _ _ _ (@pe_slice _ _ _ _ _ _ _ _ _ _ sl_str (pv 0) (@po_some _ _ _ pe_int) po_none) pa_nil (by rfl)))) (@pss_cons _ _ _ _ _ (@ps_if _ _ _ _ _ _ _ _ (pt_cmpR op_eq (pv 1) pe_int (nomark _)) (@pss_one _ _ _ ps_never) pss_nil) (@pss_one _ _ _ (@ps_ret _ _ _ _ (pe_un un_neg (pv 1))))))), ?_⟩
    walk_at "wp"
    have hl := tN_len 29 ha
    refine ⟨rfl, _, rfl, _, rfl, ?_⟩
    rw [starts_minus]
    by_cases h : a < 0
    · have e : tI a = 45 :: tN a.natAbs := by unfold tI; rw [if_pos h]
      rw [e]
      refine iteN (by simp) ?_
      have ec : cutT (mkS (45 :: tN a.natAbs)) (some 1) none = mkS (tN a.natAbs) := by
        unfold cutT
        rw [mk_len, List.length_cons]
        have e1 : HT.sIx ((tN a.natAbs).length + 1) 0 (some 1) = 1 := by
          simp only [HT.sIx]
          rw [if_neg (by decide)]
          omega
        have e2 : HT.sIx ((tN a.natAbs).length + 1) ((tN a.natAbs).length + 1) none = (tN a.natAbs).length + 1 := rfl
        rw [e1, e2]
        congr 1
        show (tN a.natAbs).take _ = _
        exact List.take_of_length_le (by omega)
      refine ⟨_, rfl, by rw [mk_len, List.length_cons]; exact slc (by omega), a.natAbs, by rw [ec], ha, fun H1 s1 => ⟨rfl, iteN (by
        rw [decide_eq_false (fun z => by have := V.int.inj z; omega)]
        decide) ⟨_, rfl, ?_⟩⟩⟩
      have := q H1 s1
      rwa [show -((a.natAbs : Nat) : Int) = a by omega]
    · have e : tI a = tN a.natAbs := by unfold tI; rw [if_neg h]
      have h45 : (tN a.natAbs)[0]? ≠ some 45 := fun z => by
        have := tN_digits _ 45 (List.mem_of_getElem? z)
        omega
      rw [e]
      refine iteP (by rw [beq_eq_false_iff_ne.mpr h45]; rfl) ⟨a.natAbs, rfl, ha, fun H1 s1 => ?_⟩
      have := q H1 s1
      rwa [show ((a.natAbs : Nat) : Int) = a by omega]
theorem slash : Str.ofString "/" = mkS [47] := by decide +kernel
theorem part_no {l : List Nat} (h : 47 ∉ l) : partT (mkS l) (Str.ofString "/") = (mkS l, Str.empty, Str.empty) := by
  have h1 := StrLaws.found_one (mkS l) 47
  rw [decide_eq_false (show ¬ 47 ∈ (mkS l).cps.toList from h)] at h1
  unfold partT
  rw [slash]
  cases e : Builtin.Str.occurrences (mkS l) (mkS [47]) 0 (mkS l).length 1 with
  | nil => rfl
  | cons i r =>
    have h2 : (!(Builtin.Str.occurrences (mkS l) ⟨#[47]⟩ 0 (mkS l).length 1).isEmpty) = false := h1
    rw [show (⟨#[47]⟩ : Str) = mkS [47] from rfl, e] at h2
    cases h2
theorem part_yes {a b : List Nat} (h : 47 ∉ a) : partT (mkS (a ++ 47 :: b)) (Str.ofString "/") = (mkS a, mkS [47], mkS b) := by
  have hat : ∀ i, StrLaws.At (mkS (a ++ 47 :: b)) (mkS [47]) (mkS (a ++ 47 :: b)).length i ↔ (a ++ 47 :: b)[i]? = some 47 := fun i => StrLaws.subAt_one (mkS (a ++ 47 :: b)) 47 i
  have hin : (a ++ 47 :: b)[a.length]? = some 47 := by rw [List.getElem?_append_right (Nat.le_refl _), Nat.sub_self]; rfl
  unfold partT
  rw [slash]
  rcases StrLaws.occ_head (mkS (a ++ 47 :: b)) (mkS [47]) 1 (Nat.le_refl _) with ⟨_, hn⟩ | ⟨i, r, e, h1, h2⟩
  · exact absurd ((hat a.length).mpr hin) (hn a.length)
  · have hi : i = a.length := by
      have hi1 := (hat i).mp h1
      rcases Nat.lt_trichotomy i a.length with hlt | heq | hgt
      · rw [List.getElem?_append_left hlt] at hi1
        exact absurd (List.mem_of_getElem? hi1) h
      · exact heq
      · exact absurd ((hat a.length).mpr hin) (h2 a.length hgt)
    rw [e]
    subst hi
    show (Builtin.Str.strSub (mkS (a ++ 47 :: b)) 0 a.length, mkS [47], Builtin.Str.strSub (mkS (a ++ 47 :: b)) (a.length + 1) (mkS (a ++ 47 :: b)).length) = _
    rw [sub_part, sub_part, mk_len]
    congr 2
    · show ((a ++ 47 :: b).drop 0).take (a.length - 0) = a
      rw [List.drop_zero, Nat.sub_zero, List.take_left]
    · congr 1
      show ((a ++ 47 :: b).drop (a.length + 1)).take _ = b
      rw [show a ++ 47 :: b = (a ++ [47]) ++ b by simp, show a.length + 1 = (a ++ [47]).length by simp, List.drop_left]
      exact List.take_of_length_le (by simp; omega)
theorem no47 (a : Int) : 47 ∉ tI a := fun z => by have := ascii_tI a 47 z; omega
end
end Pf
set_option maxHeartbeats 1000000
namespace Pf
open PySem L2 PyProof.Rows
section
variable {P : Program} {w : World} {K : PySem.W.Frag} {mg : Str → Option Value} {base : Heap} {C G S : Addr}
def spRestT : Sp := fun vs H Q _ => ∃ a p : Int, vs = [.int a, .int 1, .int p] ∧ 1 < p ∧ ∀ H', Same H H' → Q (.int (a % p)) H'
theorem ok_restT {f : Addr} {fd : FuncData} (F : Fun K "rest_of" "rest_of" s_rest_of f fd) (T : Txt K mg C G S) (C_inverse : Cal P w K mg base "inverse" 1 spInv1) : FnOk P w K mg base CX0 2 f fd ["top", "bottom", "prime"] spRestT := by
  have nd := sc_rest_of.nd
  refine F.ok sc_rest_of (fun vs H Q E h => ?_) (fun cdv A outer s H vs Q E hr h => ?_)
  · obtain ⟨a, p, rfl, _⟩ := h
    rfl
  · obtain ⟨a, p, rfl, hp, q⟩ := h
    refine ⟨_, (@pss_cons _ _ _ _ _ (ps_set (i := 3) nd rfl (Or.inl rfl) (@pe_op _ _ _ _ _ _ _ _ op_mod (pv 1) (pv 2))) (@pss_cons _ _ _ _ _ (@ps_if _ _ _ _ _ _ _ _ (pt_cmpR op_eq (pv 3) pe_int (nomark _)) (@pss_one _ _ _ ps_never) pss_nil) (@pss_one _ _ _ (@ps_ret _ _ _ _ (@pe_op _ _ _ _ _ _ _ _ op_mod (@pe_op _ _ _ _ _ _ _ _ op_mul (pv 0) (pe_c C_inverse (hr.mono (by decide)) rfl (@pa_c _ _ _ _ _ (pv 3) (@pa_c _ _ _ _ _ (pv 2) pa_nil (by rfl)) (by rfl)))) (pv 2)))))), ?_⟩
    walk_at "wp"
    have e : (1 : Int) % p = 1 := Int.emod_eq_of_lt (by decide) hp
    rw [e]
    refine ⟨by omega, iteN (by decide) ⟨p, rfl, hp, fun H' s' => ⟨1, rfl, .inr ⟨by decide, by decide⟩, by omega, ?_⟩⟩⟩
    rw [Int.mul_one]
    exact q H' s'
theorem isn_zero {p : Int} (hp : GroundP p) : Isn p (0, 1) := by
  rcases hp with h | ⟨h, _⟩
  · exact .inl ⟨h, by show (0 : Int) < 1; decide, by decide⟩
  · exact .inr ⟨by omega, Int.le_refl _, by show (0 : Int) < p; omega, rfl⟩
def spNx (G : Addr) : Sp := fun vs H Q _ => ∃ (g : Addr) (p : Int) (x : Nv), vs = [.ref g, .int x.1, .int x.2] ∧ GAt G H g p ∧ GroundP p ∧ Isn p x ∧ Bd BB x ∧ ∀ v H', Same H H' → NumV H' p v x → Q v H'
theorem ok_nx {f D : Addr} {fd : FuncData} (F : FunD K "number" "Ground.number" s_Ground_number f fd D) (T : Txt K mg C G S) (C_fraction : Cal P w K mg base "fraction" 2 spFrac) (C_rest_of : Cal P w K mg base "rest_of" 2 spRestT) : FnOk P w K mg base CX0 3 f fd ["self", "top", "bottom"] (spNx G) := by
  have nd := sc_Ground_number.nd
  refine F.ok sc_Ground_number (fun vs H Q E h => ?_) (fun cdv A outer s H vs Q E hr h => ?_)
  · obtain ⟨g, p, x, rfl, _⟩ := h
    rfl
  · obtain ⟨g, p, x, rfl, ⟨dx, hg⟩, hp, ix, bx, q⟩ := h
    have x0 := ix.pos
    have b1 : x.1.natAbs ≤ 999999999999999999999999999999 := bx.1
    have b2 : x.2.natAbs ≤ 999999999999999999999999999999 := bx.2
    refine ⟨_, (@pss_cons _ _ _ _ _ (@ps_if _ _ _ _ _ _ _ _ (pt_cmpR op_eq (pe_fld (pv 0) rfl) pe_int (nomark _)) (@pss_one _ _ _ (@ps_ret _ _ _ _ (pe_c C_fraction (hr.mono (by decide)) rfl (@pa_c _ _ _ _ _ (pv 1) (@pa_c _ _ _ _ _ (pv 2) pa_nil (by rfl)) (by rfl))))) pss_nil) (@pss_one _ _ _ (@ps_ret _ _ _ _ (pe_c C_rest_of (hr.mono (by decide)) rfl (@pa_c _ _ _ _ _ (pv 1) (@pa_c _ _ _ _ _ (pv 2) (@pa_c _ _ _ _ _ (pe_fld (pv 0) rfl) pa_nil (by rfl)) (by rfl)) (by rfl)))))), ?_⟩
    walk_at "wp"
    refine ⟨_, dx, _, hg, T.cl_Ground, T.nP, _, flds_prime p, rfl, ite2 (fun hc => ?_) (fun hc => ?_)⟩
    · have hp0 : p = 0 := by simpa using hc
      have lx : Low x := by
        rcases ix with ⟨_, h⟩ | ⟨h, _⟩
        · exact h
        · omega
      refine ⟨x.1, x.2, rfl, Top.of (by omega), x0, by omega, fun t ht => q _ _ (Same.new ht) ?_⟩
      rw [nrm_of_low lx]
      exact NumV.tup hp0 upd_same
    · have hp0 : ¬ p = 0 := by simpa using hc
      have hp1 : 1 < p := by rcases hp with h | ⟨h, _⟩ <;> omega
      obtain ⟨h1, h2, h3⟩ : 0 ≤ x.1 ∧ x.1 < p ∧ x.2 = 1 := by
        rcases ix with ⟨h, _⟩ | ⟨_, a, b, c⟩
        · exact absurd h hp0
        · exact ⟨a, b, c⟩
      refine ⟨_, dx, _, hg, T.cl_Ground, T.nP, _, flds_prime p, x.1, p, by rw [h3], hp1, fun H' s' => q _ H' s' ?_⟩
      rw [Int.emod_eq_of_lt h1 h2]
      exact NumV.of hp0
theorem flds_no_number (p : Int) : (gflds p).lookup ("number" : Str) = none := by
  unfold gflds
  rw [lookup_putF, if_neg (by decide +kernel)]
  rfl
def spRn (G : Addr) : Sp := fun vs H Q _ => ∃ (g : Addr) (p : Int) (x : Nv), vs = [.ref g, .str (mkS (tNum p x))] ∧ GAt G H g p ∧ GroundP p ∧ Isn p x ∧ Bd BB x ∧ ∀ v H', Same H H' → NumV H' p v x → Q v H'
theorem ok_rn {f : Addr} {fd : FuncData} (F : Fun K "read_number" "read_number" s_read_number f fd) (T : Txt K mg C G S) (C_read_top : Cal P w K mg base "read_top" 3 spRtop) (C_read_whole : Cal P w K mg base "read_whole" 2 spRw) (C_Ground_number_F : CalD P w K mg base G "number" 3 (spNx G) []) : FnOk P w K mg base CX0 4 f fd ["ground", "text"] (spRn G) := by
  have nd := sc_read_number.nd
  refine F.ok sc_read_number (fun vs H Q E h => ?_) (fun cdv A outer s H vs Q E hr h => ?_)
  · obtain ⟨g, p, x, rfl, _⟩ := h
    rfl
  · obtain ⟨g, p, x, rfl, hg, hp, ix, bx, q⟩ := h
    refine ⟨_, (@pss_cons _ _ _ _ _ (ps_asg (pe_bm PySem.F.plainAttrs_str PySem.F.slot_str_partition PySem.F.type_str_partition mt_part (pv 1) (@pa_c _ _ _ _ _ pe_str pa_nil (by rfl))) (@pg_tup _ _ _ _ _ 3 rfl (@pgs_cons _ _ _ _ _ (@pg_name _ _ 2 _ nd rfl (Or.inl rfl) (Or.inl rfl)) (@pgs_cons _ _ _ _ _ (@pg_name _ _ 3 _ nd rfl (Or.inl rfl) (Or.inl rfl)) (@pgs_cons _ _ _ _ _ (@pg_name _ _ 4 _ nd rfl (Or.inl rfl) (Or.inl rfl)) (@pgs_nil _) (by rfl)) (by rfl)) (by rfl)) (by rfl) (by rfl))) (@pss_cons _ _ _ _ _ (ps_set (i := 5) nd rfl (Or.inl rfl) (pe_c C_read_top (hr.mono (by decide)) rfl (@pa_c _ _ _ _ _ (pv 2) pa_nil (by rfl)))) (@pss_cons _ _ _ _ _ (ps_set (i := 6) nd rfl (Or.inl rfl) (pe_ifExp (pt_truth (pv 3) (fun _ => rfl)) (pe_c C_read_whole (hr.mono (by decide)) rfl (@pa_c _ _ _ _ _ (pv 4) pa_nil (by rfl))) pe_int)) (@pss_one _ _ _ (ps_try0 (E' := fun _ _ _ => False) (fun pins xt hps => (@pss_one _ _ _ (@ps_ret _ _ _ _ (pe_mthD T.cl_Ground C_Ground_number_F (hr.mono (by decide)) (pv 0) (@pa_c _ _ _ _ _ (pv 5) (@pa_c _ _ _ _ _ (pv 6) pa_nil (by rfl)) (by rfl)))))) (fun _ _ h => h)))))), ?_⟩
    walk_at "wp"
    have b1 : x.1.natAbs ≤ 999999999999999999999999999999 := bx.1
    have b2 : x.2.natAbs ≤ 999999999999999999999999999999 := bx.2
    have c1 : x.1.natAbs < 10 ^ 30 := by
      have : (10 : Nat) ^ 30 = 1000000000000000000000000000000 := by decide +kernel
      omega
    have c2 : x.2.natAbs < 10 ^ 30 := by
      have : (10 : Nat) ^ 30 = 1000000000000000000000000000000 := by decide +kernel
      omega
    have x0 := ix.pos
    have hl := tNum_len (p := p) bx
    obtain ⟨dg, hg0⟩ := hg
    have one : (p ≠ 0 ∨ x.2 = 1) → x.2 = 1 ∧ tNum p x = tI x.1 := fun h => by
      unfold tNum
      by_cases hp0 : p = 0
      · rcases h with h | h
        · exact absurd hp0 h
        · rw [if_pos hp0, if_pos h]; exact ⟨h, rfl⟩
      · rw [if_neg hp0]
        rcases ix with ⟨h, _⟩ | ⟨_, _, _, h⟩
        · exact absurd h hp0
        · exact ⟨h, rfl⟩
    refine ⟨rfl, _, rfl, _, rfl, by decide, by rw [mk_len]; exact slc (by omega), fun t ht => ?_⟩
    by_cases h1 : p ≠ 0 ∨ x.2 = 1
    · obtain ⟨e2, e⟩ := one h1
      rw [e, part_no (no47 x.1)]
      have sN := Same.new (o := .tup [V.str (mkS (tI x.1)), V.str Str.empty, V.str Str.empty]) ht
      refine ⟨_, SqT.of upd_same, rfl, _, _, rfl, _, _, rfl, _, _, rfl, rfl, x.1, rfl, c1, fun H1 s1 => ⟨false, ⟨(show 0 ≤ sizeLine from Nat.zero_le _), rfl⟩, iteN (by decide) ?_⟩⟩
      have s2 := sN.trans s1
      exact ⟨dg, _, s2 _ _ hg0, flds_no_number p, g, p, x, by rw [e2], ⟨dg, s2 _ _ hg0⟩, hp, ix, bx, fun v H' s' nv => q v H' (s2.trans s') nv⟩
    · have hp0 : p = 0 := Classical.byContradiction fun z => h1 (.inl z)
      have hx2 : ¬ x.2 = 1 := fun z => h1 (.inr z)
      have e : tNum p x = tI x.1 ++ 47 :: tI x.2 := by unfold tNum; rw [if_pos hp0, if_neg hx2]
      have e2 : tI x.2 = tN x.2.natAbs := by unfold tI; rw [if_neg (by omega)]
      rw [e, part_yes (no47 x.1), e2]
      have sN := Same.new (o := .tup [V.str (mkS (tI x.1)), V.str (mkS [47]), V.str (mkS (tN x.2.natAbs))]) ht
      refine ⟨_, SqT.of upd_same, rfl, _, _, rfl, _, _, rfl, _, _, rfl, rfl, x.1, rfl, c1, fun H1 s1 => ⟨true, ⟨(show 1 ≤ sizeLine by decide), rfl⟩, iteP rfl ⟨_, rfl, c2, fun H2 s2 => ?_⟩⟩⟩
      have s3 := (sN.trans s1).trans s2
      exact ⟨dg, _, s3 _ _ hg0, flds_no_number p, g, p, x, by rw [show ((x.2.natAbs : Nat) : Int) = x.2 by omega], ⟨dg, s3 _ _ hg0⟩, hp, ix, bx, fun v H' s' nv => q v H' (s3.trans s') nv⟩
theorem newrows {lo : Int} {n : Nat} {D : Addr} {fr : List (Str × Nat)} {σ : L2.St} {te : TE} {H1 : Hp} {Q : VK} {p : Int} (M : Nat → List Nv) (hD : H1 D = none) (hn : n ≤ 1000)
    (h : ∀ (i : Nat) H (Q : VK), i < n → Same H1 H → (∀ a H', H a = none → Same H H' → RowV H' p a (M i) → Q (.ref a) H') → te (some (.int (lo + (i : Nat))) :: capOf fr σ) H Q)
    (hQ : ∀ (rs : List Addr) H', Same H1 H' → H' D = some (.lst (rs.map V.ref)) → All2 (RowV H' p) rs ((List.range n).map M) → D ∉ rs → rs.Nodup → (∀ a ∈ rs, H1 a = none) → Q (.ref D) H') : tBlock (gName 0) tYes te (Itr lo n) D (capS 1 fr σ) H1 Q := by
  refine comp_itr (n := n) (fun i vs H => ∃ rs : List Addr, vs = rs.map V.ref ∧ Same H1 H ∧ H D = some (.lst (rs.map V.ref)) ∧ All2 (RowV H p) rs ((List.range i).map M) ∧ D ∉ rs ∧ rs.Nodup ∧ ∀ a ∈ rs, H1 a = none) ⟨[], rfl, Same.new hD, upd_same, All2.nil, by simp, by simp, by simp⟩ ?_ (fun vs H ⟨rs, e, a, b, c, d, f, g⟩ => hQ rs H a b c d f g)
  rintro i x vs σ' H hi rfl sh ⟨rs, rfl, s, e, al, nD, nd, fr⟩
  obtain ⟨z, rfl⟩ := sh.one
  simp only [tTurn, gName, tYes, List.set_cons_zero, if_true]
  refine h i H _ hi s fun a H' ha s' rv => ?_
  have nDa : D ≠ a := ne_of_none e ha
  have na : a ∉ rs := fun z => by
    obtain ⟨j, hj, ej⟩ := List.mem_iff_getElem.mp z
    obtain ⟨_, _, us, hu, _⟩ := al.at' (List.getElem?_eq_getElem hj)
    rw [ej, ha] at hu
    cases hu
  have l1 := al.1
  rw [List.length_map, List.length_range] at l1
  refine leaf (ws := rs.map V.ref ++ [.ref a]) hi Sh.mk1 (s' _ _ e) (small1000 (by rw [List.length_map]; omega)) ⟨rs ++ [a], map_ref_snoc _ _, (s.trans s').upd hD, by rw [upd_same, map_ref_snoc], ?_, fun z => ?_, ?_, fun b hb => ?_⟩
  · rw [List.range_succ, List.map_append]
    exact (al.monoM fun c x hc k => (k.same s').put (s' _ _ e) (fun z => nD (z ▸ hc))).app (All2.one (rv.put (s' _ _ e) nDa.symm))
  · rcases List.mem_append.mp z with h | h
    · exact nD h
    · exact nDa (List.mem_singleton.mp h)
  · rw [List.nodup_append]
    exact ⟨nd, by simp, fun x hx y hy e => na (by rw [← List.mem_singleton.mp hy, ← e]; exact hx)⟩
  · rcases List.mem_append.mp hb with h | h
    · exact fr b h
    · rw [List.mem_singleton.mp h]; exact s.free ha
theorem rep1 (n : Nat) (v : V) : (List.replicate n [v]).flatten = List.replicate n v := by
  induction n with
  | zero => rfl
  | succ n ih => rw [List.replicate_succ, List.flatten_cons, ih, List.replicate_succ]; rfl
theorem small24 {n : Nat} (h : n ≤ 24) : n ≤ sizeLine := Nat.le_of_lt (small1000 (by omega))
abbrev zR (n : Nat) : List Nv := List.replicate n (0, 1)
abbrev zM (h n : Nat) : Mv := (List.range h).map fun _ => zR n
def spNou (G : Addr) : Sp := fun vs H Q _ => ∃ (g : Addr) (p hh wd : Int), vs = [.ref g, .int hh, .int wd] ∧ GAt G H g p ∧ GroundP p ∧ 0 ≤ hh ∧ hh ≤ 24 ∧ 0 ≤ wd ∧ wd ≤ 24 ∧
  ∀ (t r : Addr) (rs : List Addr) H', Same H H' → New H t r rs → rs.Nodup → TabV H' p hh wd t r rs (zM hh.toNat wd.toNat) → Q (.ref t) H'
theorem ok_nou {f : Addr} {fd : FuncData} (F : Fun K "noughts" "noughts" s_noughts f fd) (T : Txt K mg C G S) (C_Ground_number : CalD P w K mg base G "number" 3 (spNx G) [.int 1]) : FnOk P w K mg base CX0 4 f fd ["ground", "high", "wide"] (spNou G) := by
  have nd := sc_noughts.nd
  refine F.ok sc_noughts (fun vs H Q E h => ?_) (fun cdv A outer s H vs Q E hr h => ?_)
  · obtain ⟨g, p, hh, wd, rfl, _⟩ := h
    rfl
  · obtain ⟨g, p, hh, wd, rfl, ⟨dg, hg0⟩, hp, h0, h24, w0, w24, q⟩ := h
    refine ⟨_, (@pss_one _ _ _ (@ps_ret _ _ _ _ (@pe_tup _ _ _ _ _ (@pa_c _ _ _ _ _ (pv 1) (@pa_c _ _ _ _ _ (pv 2) (@pa_c _ _ _ _ _ (pe_comp (own := ["row"]) (fr := [("ground", 0), ("wide", 2)]) rfl (bl_of (by kernel_rfl)) (pi_r1 rfl T.n_range (@pa_c _ _ _ _ _ (pv 1) pa_nil (by rfl))) (fun _ _ _ _ => ⟨(@pg_name _ _ 0 _ (show (["row", "ground", "wide"] : List Str).Nodup by decide +kernel) rfl (Or.inl rfl) (Or.inr rfl)), pts_nil, (@pe_op _ _ _ _ _ _ _ _ op_rep (@pe_lst _ _ _ _ (@pa_c _ _ _ _ _ (pe_mthD T.cl_Ground C_Ground_number (hr.mono (by decide)) (pv 1) (@pa_c _ _ _ _ _ pe_int pa_nil (by rfl))) pa_nil (by rfl))) (pv 2))⟩)) pa_nil (by rfl)) (by rfl)) (by rfl))))), ?_⟩
    walk_at "wp"
    refine ⟨_, rfl, hh, rfl, by omega, by omega, fun D hD => newrows (p := p) (fun _ => zR wd.toNat) hD (by omega) (fun i H' Q' hi s' q' => ?_) fun rs H3 s3 hD3 al3 nD nds fr => ?_⟩
    · have wsz : 1 * wd.toNat ≤ sizeLine := small24 (by omega)
      refine ⟨_, rfl, g, dg, _, rfl, s' _ _ hg0, flds_no_number p, g, p, (0, 1), rfl, ⟨dg, s' _ _ hg0⟩, hp, isn_zero hp, ⟨by decide, by decide⟩, fun nv H2 s2 hnv => ⟨by show 1 ≤ sizeLine; decide, fun o1 ho1 => ?_⟩⟩
      have s5 := Same.new (o := .lst [nv]) ho1
      refine ⟨_, rfl, o1, _, _, rfl, rfl, upd_same, by omega, by omega, wsz, fun o2 ho2 => ?_⟩
      rw [rep1]
      have s6 := Same.new (o := .lst (List.replicate wd.toNat nv)) ho2
      have t6 := s5.trans s6
      exact q' o2 _ ((s2.trans s5).free ho2) (s2.trans t6) ⟨_, upd_same, All2.rep (hnv.same t6) _⟩
    · refine ⟨by decide, fun t ht => ?_⟩
      have s5 := Same.new (o := .tup [V.int hh, V.int wd, V.ref D]) ht
      exact q t D rs _ (s3.trans s5) ⟨s3.free ht, hD, fr⟩ nds ⟨upd_same, s5 _ _ hD3, al3.mono fun _ _ q => q.same s5, nD⟩
theorem tI_head (a : Int) : ∃ d, (tI a)[0]? = some d ∧ d ≠ 47 ∧ d ≠ 32 := by
  have h := ascii_tI a
  have hne : tI a ≠ [] := by
    unfold tI
    split
    · simp
    · exact tN_ne _
  have hl : 0 < (tI a).length := List.length_pos_iff.mpr hne
  have := h _ (List.getElem_mem hl)
  exact ⟨_, List.getElem?_eq_getElem hl, by omega, by omega⟩
theorem tNum_ch {p : Int} {x : Nv} : ∀ c ∈ tNum p x, c = 45 ∨ c = 47 ∨ (48 ≤ c ∧ c ≤ 57) := fun c hc => by
  have k : ∀ a : Int, c ∈ tI a → c = 45 ∨ c = 47 ∨ (48 ≤ c ∧ c ≤ 57) := fun a h => by
    rcases ascii_tI a c h with h | h
    · exact .inl h
    · exact .inr (.inr h)
  unfold tNum at hc
  split at hc
  · split at hc
    · exact k _ hc
    · rcases List.mem_append.mp hc with h | h
      · exact k _ h
      · rcases List.mem_cons.mp h with h | h
        · exact .inr (.inl h)
        · exact k _ h
  · exact k _ hc
theorem tNum_head {p : Int} {x : Nv} : ∃ d, (tNum p x)[0]? = some d ∧ d ≠ 47 := by
  obtain ⟨d, h1, h2, _⟩ := tI_head x.1
  have hl : 0 < (tI x.1).length := (List.getElem?_eq_some_iff.mp h1).1
  refine ⟨d, ?_, h2⟩
  unfold tNum
  split
  · split
    · exact h1
    · rw [List.getElem?_append_left hl]; exact h1
  · exact h1
theorem inter_ch {P : Nat → Prop} {s : List Nat} (hs : ∀ c ∈ s, P c) : ∀ {ps : List (List Nat)}, (∀ a ∈ ps, ∀ c ∈ a, P c) → ∀ c ∈ inter s ps, P c
  | [], _, c, hc => by cases hc
  | [a], h, c, hc => h a (by simp) c hc
  | a :: b :: r, h, c, hc => by
    rcases List.mem_append.mp (show c ∈ a ++ s ++ inter s (b :: r) from hc) with h1 | h1
    · rcases List.mem_append.mp h1 with h2 | h2
      · exact h a (by simp) c h2
      · exact hs c h2
    · exact inter_ch hs (fun a' ha => h a' (List.mem_cons_of_mem _ ha)) c h1
theorem inter_head {s : List Nat} {a : List Nat} {r : List (List Nat)} {d : Nat} (h : a[0]? = some d) : (inter s (a :: r))[0]? = some d := by
  have hl : 0 < a.length := (List.getElem?_eq_some_iff.mp h).1
  rw [inter_flat, List.getElem?_append_left hl]
  exact h
theorem nosl_inter : ∀ {ps : List (List Nat)}, (∀ a ∈ ps, 32 ∉ a ∧ ∃ d, a[0]? = some d ∧ d ≠ 47) → NoSl (inter [32] ps)
  | [], _, i, e => by simp [inter] at e
  | [a], h, i, e => absurd (List.mem_of_getElem? (show a[i]? = some 32 from e)) (h a (by simp)).1
  | a :: b :: r, h, i, e => by
    have ih := nosl_inter (ps := b :: r) fun c hc => h c (List.mem_cons_of_mem _ hc)
    have ei : inter [32] (a :: b :: r) = (a ++ [32]) ++ inter [32] (b :: r) := rfl
    rw [ei] at e ⊢
    by_cases h1 : i < a.length
    · rw [List.getElem?_append_left (by simp; omega), List.getElem?_append_left h1] at e
      exact absurd (List.mem_of_getElem? e) (h a (by simp)).1
    · by_cases h2 : i = a.length
      · obtain ⟨d, hd, nd⟩ := (h b (by simp)).2
        refine ⟨d, ?_, nd⟩
        have hk : (a ++ [32]).length = a.length + 1 := by simp
        have hk2 : i + 1 - (a ++ [32]).length = 0 := by omega
        rw [List.getElem?_append_right (by omega), hk2]
        exact inter_head hd
      · rw [List.getElem?_append_right (by simp; omega)] at e
        obtain ⟨d, hd, nd⟩ := ih _ e
        refine ⟨d, ?_, nd⟩
        have hk : (a ++ [32]).length = a.length + 1 := by simp
        have hk2 : i + 1 - (a ++ [32]).length = i - (a ++ [32]).length + 1 := by omega
        rw [List.getElem?_append_right (by omega), hk2]
        exact hd
theorem tRow_ch {p : Int} {xs : List Nv} : ∀ c ∈ tRow p xs, c = 32 ∨ c = 45 ∨ c = 47 ∨ (48 ≤ c ∧ c ≤ 57) := inter_ch (P := fun c => c = 32 ∨ c = 45 ∨ c = 47 ∨ (48 ≤ c ∧ c ≤ 57)) (fun c hc => .inl (by simpa using hc)) (fun a ha c hc => by
  obtain ⟨x, _, rfl⟩ := List.mem_map.mp ha
  exact .inr (tNum_ch c hc))
theorem no32 {p : Int} {x : Nv} : 32 ∉ tNum p x := fun z => by have := tNum_ch 32 z; omega
theorem row_parts {p : Int} {xs : List Nv} (hn : xs ≠ []) : Txt.split (mkS (tRow p xs)) (Str.ofString " ") = (xs.map (tNum p)).map mkS := by
  refine split_join (ascii_of fun c hc => by have := tRow_ch c hc; omega) (by rw [blank]; exact ascii_of (by decide)) (by rw [blank]; decide) (by simpa using hn) (by rw [blank]; rfl) fun a ha => ?_
  obtain ⟨x, _, rfl⟩ := List.mem_map.mp ha
  rw [blank]
  exact apart_head no32
theorem tab_parts {p : Int} {M : Mv} (hn : M ≠ []) : Txt.split (mkS (inter [32, 47, 32] (M.map (tRow p)))) (Str.ofString " / ") = (M.map (tRow p)).map mkS := by
  refine split_join (ascii_of fun c hc => ?_) (by rw [stroke]; exact ascii_of (by decide)) (by rw [stroke]; decide) (by simpa using hn) (by rw [stroke]; rfl) fun a ha => ?_
  · have := inter_ch (P := fun c => c = 32 ∨ c = 45 ∨ c = 47 ∨ (48 ≤ c ∧ c ≤ 57)) (s := [32, 47, 32]) (ps := M.map (tRow p)) (fun c hc => by simp at hc; omega) (fun a ha c hc => by
      obtain ⟨xs, _, rfl⟩ := List.mem_map.mp ha
      exact tRow_ch c hc) c hc
    omega
  · obtain ⟨xs, _, rfl⟩ := List.mem_map.mp ha
    rw [stroke]
    refine apart_slash (nosl_inter fun b hb => ?_)
    obtain ⟨x, _, rfl⟩ := List.mem_map.mp hb
    exact ⟨no32, tNum_head⟩
theorem cut1 {A X : TS} {D : Ends} {σ : L2.St} {H : Hp} (h : ∀ X', X' = X → tSeq A X' D σ H) : tSeq A X D σ H := h X rfl
theorem cut2 {A B X : TS} {D : Ends} {σ : L2.St} {H : Hp} (h : ∀ X', X' = X → tSeq A (tSeq B X') D σ H) : tSeq A (tSeq B X) D σ H := h X rfl
def spRt (G : Addr) : Sp := fun vs H Q _ => ∃ (g : Addr) (p hh wd : Int) (M : Mv), vs = [.ref g, .int hh, .int wd, .str (mkS (tTab p hh wd M))] ∧ GAt G H g p ∧ GroundP p ∧ Shp hh wd M ∧ GoodM p BB M ∧ 0 ≤ hh ∧ hh ≤ 24 ∧ 0 ≤ wd ∧ wd ≤ 24 ∧ ∀ (t r : Addr) (rs : List Addr) H', Same H H' → New H t r rs → TabV H' p hh wd t r rs M → Q (.ref t) H'
theorem ok_rtab {f : Addr} {fd : FuncData} (F : Fun K "read_table" "read_table" s_read_table f fd) (T : Txt K mg C G S) (C_noughts : Cal P w K mg base "noughts" 4 (spNou G)) (C_read_number : Cal P w K mg base "read_number" 4 (spRn G)) : FnOk P w K mg base CX0 5 f fd ["ground", "high", "wide", "text"] (spRt G) := by
  have nd := sc_read_table.nd
  refine F.ok sc_read_table (fun vs H Q E h => ?_) (fun cdv A outer s H vs Q E hr h => ?_)
  · obtain ⟨g, p, hh, wd, M, rfl, _⟩ := h
    rfl
  · obtain ⟨g, p, hh, wd, M, rfl, hg, hp, sh, gd, h0, h24, w0, w24, q⟩ := h
    refine ⟨_, (@pss_cons _ _ _ _ _ (@ps_if _ _ _ _ _ _ _ _ (PW.pt (pw_or (pt_cmpR op_eq (pv 1) pe_int (nomark _)) (pw_or1 (pt_cmpR op_eq (pv 2) pe_int (nomark _))))) (@pss_cons _ _ _ _ _ (@ps_if _ _ _ _ _ _ _ _ (pt_cmpR op_ne (pv 3) pe_str (nomark _)) (@pss_one _ _ _ ps_never) pss_nil) (@pss_one _ _ _ (@ps_ret _ _ _ _ (pe_c C_noughts (hr.mono (by decide)) rfl (@pa_c _ _ _ _ _ (pv 0) (@pa_c _ _ _ _ _ (pv 1) (@pa_c _ _ _ _ _ (pv 2) pa_nil (by rfl)) (by rfl)) (by rfl)))))) pss_nil) (@pss_cons _ _ _ _ _ (ps_comp (i := 4) (own := ["row"]) (fr := [("ground", 0)]) rfl (bl_of (by kernel_rfl)) (pi_list (pe_bm PySem.F.plainAttrs_str PySem.F.slot_str_split PySem.F.type_str_split mt_split (pv 3) (@pa_c _ _ _ _ _ pe_str pa_nil (by rfl)))) (fun _ _ _ _ => ⟨(@pg_name _ _ 0 _ (show (["row", "ground"] : List Str).Nodup by decide +kernel) rfl (Or.inl rfl) (Or.inr rfl)), pts_nil, (pe_comp (own := ["word"]) (fr := [("ground", 1)]) rfl (bl_of (by kernel_rfl)) (pi_listK K rfl (pe_bmK K rfl PySem.F.plainAttrs_str PySem.F.slot_str_split PySem.F.type_str_split mt_split (pv 0) (@pa_c _ _ _ _ _ pe_str pa_nil (by rfl)))) (fun _ _ _ _ => ⟨(@pg_name _ _ 0 _ (show (["word", "ground"] : List Str).Nodup by decide +kernel) rfl (Or.inl rfl) (Or.inr rfl)), pts_nil, (pe_c C_read_number (hr.mono (by decide)) rfl (@pa_c _ _ _ _ _ (pv 1) (@pa_c _ _ _ _ _ (pv 0) pa_nil (by rfl)) (by rfl)))⟩))⟩) nd rfl rfl rfl) (@pss_cons _ _ _ _ _ (@ps_if _ _ _ _ _ _ _ _ (PW.pt (pw_or (pt_cmpR op_ne (pe_cB call_len_seq rfl T.n_len PySem.boot_len (@pa_c _ _ _ _ _ (pv 4) pa_nil (by rfl))) (pv 1) (nomark _)) (pw_or1 (pt_val (pe_cB (call_any rfl) rfl T.n_any boot_any (@pa_c _ _ _ _ _ (pe_comp (own := ["row"]) (fr := [("wide", 2)]) rfl (bl_of (by kernel_rfl)) (pi_list (pv 4)) (fun _ _ _ _ => ⟨(@pg_name _ _ 0 _ (show (["row", "wide"] : List Str).Nodup by decide +kernel) rfl (Or.inl rfl) (Or.inr rfl)), pts_nil, (pe_cmpR op_ne (pe_cB (call_len_seqK K rfl) rfl T.n_len PySem.boot_len (@pa_c _ _ _ _ _ (pv 0) pa_nil (by rfl))) (pv 1) (nomark _))⟩)) pa_nil (by rfl))))))) (@pss_one _ _ _ ps_never) pss_nil) (@pss_one _ _ _ (@ps_ret _ _ _ _ (@pe_tup _ _ _ _ _ (@pa_c _ _ _ _ _ (pv 1) (@pa_c _ _ _ _ _ (pv 2) (@pa_c _ _ _ _ _ (pv 4) pa_nil (by rfl)) (by rfl)) (by rfl)))))))), ?_⟩
    have ml := sh.1
    refine cut1 fun X hX => ?_
    have dash : Str.ofString "-" = mkS [45] := minus1
    have zer : hh = 0 ∨ wd = 0 → (if (!decide (V.str (mkS (tTab p hh wd M)) = V.str (Str.ofString "-"))) = true then False else spNou G [V.ref g, V.int hh, V.int wd] H Q E0) := fun h => by
      have e : tTab p hh wd M = [45] := by unfold tTab; rw [if_pos h]
      rw [e, dash, decide_eq_true rfl]
      refine iteN (by decide) ⟨g, p, hh, wd, rfl, hg, hp, h0, h24, w0, w24, fun t r rs H' s' nw _ tb => q t r rs H' s' nw ?_⟩
      have eM : M = zM hh.toNat wd.toNat := by
        apply List.ext_getElem?
        intro i
        rw [List.getElem?_map]
        by_cases hi : i < M.length
        · rw [List.getElem?_range (by omega), List.getElem?_eq_getElem hi]
          have := sh.2 _ (List.getElem_mem hi)
          have hw : wd = 0 := by omega
          show some M[i] = some (zR wd.toNat)
          congr 1
          have e1 : M[i] = [] := List.length_eq_zero_iff.mp (by omega)
          rw [e1, hw]
          rfl
        · rw [List.getElem?_eq_none (by omega), List.getElem?_eq_none (by simp; omega)]
          rfl
      rw [eM]
      exact tb
    walk_at "wp"
    refine ite2 (fun h1 => zer (.inl (of_decide_eq_true h1))) (fun h1 => ite2 (fun h2 => zer (.inr (of_decide_eq_true h2))) (fun h2 => ?_))
    have h1 : ¬ hh = 0 := fun z => h1 (decide_eq_true z)
    have h2 : ¬ wd = 0 := fun z => h2 (decide_eq_true z)
    have eT : tTab p hh wd M = inter [32, 47, 32] (M.map (tRow p)) := by unfold tTab; rw [if_neg (by rintro (h | h) <;> contradiction)]
    have hMn : M ≠ [] := fun z => by rw [z] at ml; simp at ml; omega
    have tlen := tTab_len (p := p) (c := (hh, wd, M)) h24 w24 sh gd
    have hsz : (40000 : Nat) ≤ sizeLine := by decide
    subst hX
    walk_at "wp"
    refine ⟨_, rfl, rfl, _, _, rfl, rfl, by decide, by rw [mk_len]; exact Nat.le_trans tlen hsz, ?_⟩
    have eS : Txt.split (mkS (tTab p hh wd M)) (Str.ofString " / ") = (M.map (tRow p)).map mkS := by rw [eT]; exact tab_parts hMn
    rw [eS]
    refine ⟨by rw [List.length_map, List.length_map]; exact small24 (by omega), fun p1 hp1 => ⟨p1, rfl, ⟨_, SqL.of upd_same⟩, fun D hD => ?_⟩⟩
    have sA := Same.new (o := .lst (((M.map (tRow p)).map mkS).map V.str)) hp1
    have hA : upd H p1 (.lst (((M.map (tRow p)).map mkS).map V.str)) p1 = some (.lst (((M.map (tRow p)).map mkS).map V.str)) := upd_same
    generalize upd H p1 (.lst (((M.map (tRow p)).map mkS).map V.str)) = H1 at *
    refine comp_ord (fun i Hc y => ∃ a, y = .ref a ∧ RowV Hc p a (M.getD i []) ∧ a ≠ D ∧ H a = none) (fun ⟨a, e, b, c⟩ s => ⟨a, e, b.same s, c⟩) (fun ⟨a, e, b, c, d⟩ hD => ⟨a, e, b.put hD c, c, d⟩) hA hD (by rw [List.length_map, List.length_map, List.length_map]; omega) (fun i x H2 Q2 hx s2 ⟨lD, hlD⟩ q2 => ?_) (fun ys H2 s2 e2 hyl hys => ?_)
    · rw [List.getElem?_map, List.getElem?_map, List.getElem?_map] at hx
      cases er : M[i]? with
      | none => rw [er] at hx; cases hx
      | some row =>
        rw [er] at hx
        cases hx
        have hrow := List.mem_of_getElem? er
        have rl := sh.2 row hrow
        have hrn : row ≠ [] := fun z => by rw [z] at rl; simp at rl; omega
        have hrl := tRow_len (p := p) (xs := row) (by omega) fun x hxx => (gd row hrow x hxx).2
        refine ⟨_, rfl, rfl, _, _, rfl, rfl, by decide, by rw [mk_len]; exact Nat.le_trans hrl (by decide), ?_⟩
        rw [row_parts hrn]
        refine ⟨by rw [List.length_map, List.length_map]; exact small24 (by omega), fun p2 hp2 => ⟨p2, rfl, ⟨_, SqL.of upd_same⟩, fun D2 hD2 => ?_⟩⟩
        have sB := Same.new (o := .lst (((row.map (tNum p)).map mkS).map V.str)) hp2
        have hB : upd H2 p2 (.lst (((row.map (tNum p)).map mkS).map V.str)) p2 = some (.lst (((row.map (tNum p)).map mkS).map V.str)) := upd_same
        generalize upd H2 p2 (.lst (((row.map (tNum p)).map mkS).map V.str)) = H3 at *
        refine comp_ord (fun j Hc y => NumV Hc p y (row.getD j (0, 0))) (fun h s => h.same s) (fun h hD => h.put hD) hB hD2 (by rw [List.length_map, List.length_map, List.length_map]; omega) (fun j y H4 Q4 hy s4 _ q4 => ?_) (fun us H4 s4 e4 hul hus => ?_)
        · rw [List.getElem?_map, List.getElem?_map, List.getElem?_map] at hy
          cases ex : row[j]? with
          | none => rw [ex] at hy; cases hy
          | some nx =>
            rw [ex] at hy
            cases hy
            obtain ⟨ix, bx⟩ := gd row hrow nx (List.mem_of_getElem? ex)
            refine ⟨_, rfl, _, rfl, g, p, nx, rfl, hg.same (((sA.trans s2).trans sB).trans s4), hp, ix, bx, fun v H5 s5 nv => q4 v H5 s5 ?_⟩
            rw [getD_some ex]
            exact nv
        · rw [List.length_map, List.length_map, List.length_map] at hul
          refine q2 _ H4 (sB.trans s4) ⟨D2, rfl, ⟨us, e4, ?_⟩, fun z => ?_, ((sA.trans s2).trans sB).free hD2⟩
          · rw [getD_some er]
            refine ⟨hul, fun j u y e5 e6 => ?_⟩
            have := hus j u e5
            rwa [getD_some e6] at this
          · rw [z] at hD2
            rw [sB _ _ hlD] at hD2
            cases hD2
    · rw [List.length_map, List.length_map, List.length_map] at hyl
      obtain ⟨rs, rfl, a2, nD, fr⟩ := rows_of (D := D) (H1 := H) (p := p) (M := M) hyl hys
      have al := a2.1
      refine ⟨D, rfl, _, .inl (SqL.of e2), iteN (by rw [List.length_map, decide_eq_true (by omega)]; decide) ?_⟩
      refine ⟨_, rfl, D, rfl, ⟨_, SqL.of e2⟩, fun D3 hD3 => comp_bl_l (fun _ => false) e2 hD3 (by rw [List.length_map]; omega) (fun i x H3 Q3 hx s3 q3 => ?_) fun H3 s3 e3 => ?_⟩
      · obtain ⟨row, er, a, rfl, vs, h3, h4⟩ := (all2_refs a2).at' hx
        have hl4 := h4.1
        have rl := sh.2 row (List.mem_of_getElem? er)
        refine ⟨_, rfl, a, rfl, vs, .inl (SqL.of (s3 _ _ h3)), ?_⟩
        refine ⟨_, rfl, rfl, ?_⟩
        have e0 : (V.int (vs.length : Int) = V.int wd) := by rw [hl4, rl]
        rw [decide_eq_true e0]
        exact q3 H3 (Same.refl _)
      · refine ⟨D3, rfl, _, SqL.of e3, iteN (by rw [none_any]; decide) ⟨by decide, fun t ht => ?_⟩⟩
        have s5 := Same.new (o := .tup [V.int hh, V.int wd, V.ref D]) ht
        have s6 := (sA.trans s2).trans s3
        exact q t D rs _ (s6.trans s5) ⟨s6.free ht, sA.free hD, fr⟩ ⟨upd_same, s5 _ _ (s3 _ _ e2), a2.mono fun _ _ k => k.same (s3.trans s5), nD⟩
end
end Pf
set_option maxHeartbeats 1000000
namespace Pf
open PySem L2 PyProof.Rows
section
variable {P : Program} {w : World} {K : PySem.W.Frag} {mg : Str → Option Value} {base : Heap} {C G S : Addr}
def Keep (U : Addr → Prop) (H H' : Hp) : Prop := ∀ b o, ¬ U b → H b = some o → H' b = some o
theorem TabF.weak {H0 H1 H : Hp} {p hh wd : Int} {t : Addr} {M : List (List V)} (h : TabF H1 H p hh wd t M) (s : Same H0 H1) : TabF H0 H p hh wd t M := let ⟨r, rs, a, b, c, d⟩ := h; ⟨r, rs, a, s.free b, s.free c, fun x hx => s.free (d x hx)⟩
theorem NumO.keep {U : Addr → Prop} {H H' : Hp} {p : Int} {B : Nat} {v : V} (h : NumO H p B v) (hU : ∀ b, U b → ∃ xs, H b = some (.lst xs)) (k : Keep U H H') : NumO H' p B v := by
  obtain ⟨y, nv, b, c⟩ := h
  refine ⟨y, ?_, b, c⟩
  by_cases hp : p = 0
  · obtain ⟨t, rfl, ht⟩ := nv.ref hp
    exact NumV.tup hp (k _ _ (fun u => by obtain ⟨xs, e⟩ := hU _ u; rw [ht] at e; cases e) ht)
  · obtain rfl := nv.int hp
    exact NumV.of hp
theorem TabF.keep {U : Addr → Prop} {H0 H H' : Hp} {p hh wd : Int} {t : Addr} {M : List (List V)} (h : TabF H0 H p hh wd t M) (hU : ∀ b, U b → ∃ xs, H b = some (.lst xs)) (n0 : ∀ b, H0 b = none → ¬ U b) (k : Keep U H H') : TabF H0 H' p hh wd t M := by
  obtain ⟨r, rs, tc, ft, fr, fs⟩ := h
  refine ⟨r, rs, ⟨⟨k _ _ (n0 _ ft) tc.tab.tup, k _ _ (n0 _ fr) tc.tab.lst, tc.tab.len, fun a ha => ?_, tc.tab.nin⟩, fun i a e => k _ _ (n0 _ (fs a (List.mem_of_getElem? e))) (tc.con i a e)⟩, ft, fr, fs⟩
  obtain ⟨ys, h1, h2, h3⟩ := tc.tab.row a ha
  exact ⟨ys, k _ _ (n0 _ (fs a ha)) h1, h2, fun y hy => (h3 y hy).keep hU k⟩
structure StdF (H0 : Hp) (S C G : Addr) (H : Hp) (x : Addr) (p m : Int) (ps : List (Int × Int)) (ns : List Int) (cs : List (Int × Int × List (List V))) (dx g d z l lp : Addr) (xs : List V) (ts : List Addr) : Prop where
  ins : H x = some (.ins S dx (sflds g d z l))
  grd : GAt G H g p
  drw : DrawAt C H d m lp xs
  prs : Prs H xs ps
  szs : Sizes H z ns
  nz : H0 z = none
  nl : H0 l = none
  nlp : H0 lp = none
  lst : H l = some (.lst (ts.map V.ref))
  len : ts.length = cs.length
  tbs : ∀ (i : Nat) t c, ts[i]? = some t → cs[i]? = some c → TabF H0 H p c.1 c.2.1 t c.2.2
theorem StdF.same {H0 : Hp} {S G : Addr} {H H' : Hp} {x : Addr} {p m : Int} {ps : List (Int × Int)} {ns : List Int} {cs : List (Int × Int × List (List V))} {dx g d z l lp : Addr} {xs : List V} {ts : List Addr} (h : StdF H0 S C G H x p m ps ns cs dx g d z l lp xs ts) (s : Same H H') : StdF H0 S C G H' x p m ps ns cs dx g d z l lp xs ts :=
  ⟨s _ _ h.ins, h.grd.same s, (let ⟨a, b, c⟩ := h.drw; ⟨a, s _ _ b, s _ _ c⟩), h.prs.same s, h.szs.same s, h.nz, h.nl, h.nlp, s _ _ h.lst, h.len, fun i t c e1 e2 => (h.tbs i t c e1 e2).same s⟩
theorem StdF.keep {U : Addr → Prop} {H0 : Hp} {S G : Addr} {H H' : Hp} {x : Addr} {p m : Int} {ps : List (Int × Int)} {ns : List Int} {cs : List (Int × Int × List (List V))} {dx g d z l lp : Addr} {xs : List V} {ts : List Addr} (h : StdF H0 S C G H x p m ps ns cs dx g d z l lp xs ts) (hU : ∀ b, U b → ∃ xs, H b = some (.lst xs)) (n0 : ∀ b, H0 b = none → ¬ U b) (k : Keep U H H') : StdF H0 S C G H' x p m ps ns cs dx g d z l lp xs ts := by
  have no : ∀ b o, H b = some o → (∀ xs, o ≠ .lst xs) → ¬ U b := fun b o e n u => by
    obtain ⟨xs, e2⟩ := hU b u
    rw [e] at e2
    cases e2
    exact n xs rfl
  refine ⟨k _ _ (no _ _ h.ins (by intro xs z; cases z)) h.ins, ?_, ?_, ⟨h.prs.1, fun i x q h1 h2 => ?_⟩, ⟨k _ _ (n0 _ h.nz) h.szs.1, h.szs.2⟩, h.nz, h.nl, h.nlp, k _ _ (n0 _ h.nl) h.lst, h.len, fun i t c e1 e2 => (h.tbs i t c e1 e2).keep hU n0 k⟩
  · obtain ⟨dg, e⟩ := h.grd
    exact ⟨dg, k _ _ (no _ _ e (by intro xs z; cases z)) e⟩
  · obtain ⟨dd, e, e2⟩ := h.drw
    exact ⟨dd, k _ _ (no _ _ e (by intro xs z; cases z)) e, k _ _ (n0 _ h.nlp) e2⟩
  · obtain ⟨t, rfl, e⟩ := h.prs.2 i x q h1 h2
    exact ⟨t, rfl, k _ _ (no _ _ e (by intro xs z; cases z)) e⟩
theorem std_of {S G : Addr} {H0 H : Hp} {x dx g d z l lp : Addr} {p m : Int} {xs : List V} {ps : List (Int × Int)} {ns : List Int} {ts : List Addr} {cs : List (Int × Int × List (List V))} {Q : VK} {E : XK} (hx : H x = none) (hdx : H dx = none) (ndx : dx ≠ x) (hg : GAt G H g p) (hp : GroundP p) (hd : DrawAt C H d m lp xs) (pr : Prs H xs ps) (ip : InP m ps) (p9 : ps.length ≤ 9) (hz : Sizes H z ns) (hm : (ns.length : Int) = m) (hT : Tbs H p l ts cs) (ft : Fits ns cs ps) (s0 : Same H0 H) (flp : H0 lp = none)
    (q : ∀ (dx z' l' : Addr) (ts' : List Addr) (H' : Hp), Same H H' → StdF H0 S C G H' x p m ps ns cs dx g d z' l' lp xs ts' → Q .non H') : spSI S C G [.ref x, .ref g, .ref d, .ref z, .ref l] (upd (upd H dx (.own x)) x (.ins S dx [])) Q E := by
  have fx : (upd H dx (.own x)) x = none := by rw [upd_ne ndx.symm]; exact hx
  have sx : Same H (upd (upd H dx (.own x)) x (.ins S dx [])) := (Same.new hdx).trans (Same.new fx)
  obtain ⟨dd, hd1, hd2⟩ := hd
  refine ⟨x, dx, g, d, z, l, lp, p, m, xs, ps, ns, ts, cs, rfl, upd_same, hg.same sx, hp, ⟨dd, sx _ _ hd1, sx _ _ hd2⟩, pr.same sx, ip, p9, hz.same sx, hm, hT.same sx, ft, fun z' l' ts' H' ex hx' fz fl' hz' hl' hn' ht' => ?_⟩
  have sH : Same H H' := Same.thru sx hx ex
  exact q dx z' l' ts' H' sH ⟨hx', hg.same sH, ⟨dd, sH _ _ hd1, sH _ _ hd2⟩, pr.same sH, hz', s0.free (sx.free fz), s0.free (sx.free fl'), flp, hl', hn', fun i t c e1 e2 => (ht' i t c e1 e2).weak (s0.trans sx)⟩
theorem cut_drop (xs : List V) : cutV xs (some 1) none = xs.drop 1 := by
  unfold cutV
  have h0 : HT.sIx xs.length xs.length none = xs.length := rfl
  rw [h0]
  cases xs with
  | nil => rfl
  | cons x xs =>
    have : HT.sIx (x :: xs).length 0 (some 1) = 1 := by
      simp [HT.sIx]
      try omega
    rw [this]
    simp
abbrev MatV (H : Hp) (p : Int) (MV : List (List V)) (M : Mv) : Prop := All2 (All2 (NumV H p)) MV M
theorem MatV.same {H H' : Hp} {p : Int} {MV : List (List V)} {M : Mv} (h : MatV H p MV M) (s : Same H H') : MatV H' p MV M := h.mono fun _ _ k => k.mono fun _ _ n => n.same s
theorem All2.mem {α β : Type} {P : α → β → Prop} {xs : List α} {ys : List β} (h : All2 P xs ys) {x : α} (hx : x ∈ xs) : ∃ y ∈ ys, P x y := by
  obtain ⟨i, hi, rfl⟩ := List.mem_iff_getElem.mp hx
  obtain ⟨y, ey, hp⟩ := h.at' (List.getElem?_eq_getElem hi)
  exact ⟨y, List.mem_of_getElem? ey, hp⟩
theorem TabV.con {H : Hp} {p hh wd : Int} {t r : Addr} {rs : List Addr} {M : Mv} (h : TabV H p hh wd t r rs M) (sh : Shp hh wd M) (gd : GoodM p BB M) : ∃ MV, TabC H p hh wd t r rs MV ∧ MatV H p MV M := by
  obtain ⟨MV, hM⟩ := All2.pick (P := fun a vs => H a = some (.lst vs)) (xs := rs) fun a ha => by
    obtain ⟨row, _, vs, h1, _⟩ := h.row.mem ha
    exact ⟨vs, h1⟩
  have l1 := h.row.1
  have l2 := hM.1
  refine ⟨MV, ⟨⟨h.tup, h.lst, by rw [l1]; exact sh.1, fun a ha => ?_, h.nin⟩, fun i a e => ?_⟩, by omega, fun i vs row e1 e2 => ?_⟩
  · obtain ⟨row, hr, vs, h1, h2⟩ := h.row.mem ha
    refine ⟨vs, h1, by rw [h2.1]; exact sh.2 row hr, fun v hv => ?_⟩
    obtain ⟨x, hx, nv⟩ := h2.mem hv
    exact ⟨x, nv, gd row hr x hx⟩
  · obtain ⟨vs, ev, hv⟩ := hM.at' e
    rw [getD_some ev]
    exact hv
  · obtain ⟨a, ea, ha⟩ := hM.at e1
    obtain ⟨vs', h1, h2⟩ := h.row.2 i a row ea e2
    rw [ha] at h1
    cases h1
    exact h2
theorem TabC.byV {H : Hp} {p hh wd : Int} {t r : Addr} {rs : List Addr} {MV : List (List V)} {M : Mv} (h : TabC H p hh wd t r rs MV) (a : MatV H p MV M) (hl : (M.length : Int) = hh) : TabV H p hh wd t r rs M := by
  have l1 := h.tab.len
  have l2 := a.1
  refine ⟨h.tab.tup, h.tab.lst, ⟨by omega, fun i b row e1 e2 => ?_⟩, h.tab.nin⟩
  have := h.con i b e1
  obtain ⟨vs, ev, hv⟩ := a.at e2
  rw [getD_some ev] at this
  exact ⟨vs, this, hv⟩
abbrev Tc := Int × Int × List (List V)
def RelT (H : Hp) (p : Int) (c : Tc) (c' : Tv) : Prop := c.1 = c'.1 ∧ c.2.1 = c'.2.1 ∧ MatV H p c.2.2 c'.2.2
theorem RelT.same {H H' : Hp} {p : Int} {c : Tc} {c' : Tv} (h : RelT H p c c') (s : Same H H') : RelT H' p c c' := ⟨h.1, h.2.1, h.2.2.same s⟩
theorem TbsV.con {H : Hp} {p : Int} {l : Addr} {ts : List Addr} {cs : List Tv} (h : TbsV H p l ts cs) (ft : FT p cs) : ∃ csV : List Tc, Tbs H p l ts csV ∧ All2 (RelT H p) csV cs := by
  obtain ⟨csV, hc⟩ := All2.pick (P := fun (x : Addr × Tv) (c : Tc) => (∃ r rs, TabC H p c.1 c.2.1 x.1 r rs c.2.2) ∧ RelT H p c x.2) (xs := ts.zip cs) fun x hx => by
    obtain ⟨i, hi, e⟩ := List.mem_iff_getElem.mp hx
    have hl := h.tab.1
    have hi1 : i < ts.length := by simp at hi; omega
    rw [List.getElem_zip] at e
    obtain ⟨c, ec, r, rs, tv⟩ := h.tab.at' (List.getElem?_eq_getElem hi1)
    have hc : c = cs[i]'(by omega) := by
      rw [List.getElem?_eq_getElem (by omega)] at ec
      exact (Option.some.inj ec).symm
    obtain ⟨_, _, _, _, sh, gd⟩ := ft.2 c (List.mem_of_getElem? ec)
    obtain ⟨MV, tc, mv⟩ := tv.con sh gd
    refine ⟨(c.1, c.2.1, MV), ?_⟩
    rw [← e, ← hc]
    exact ⟨⟨r, rs, tc⟩, rfl, rfl, mv⟩
  have hl := h.tab.1
  have hz : (ts.zip cs).length = csV.length := hc.1
  have hzl : csV.length = ts.length := by rw [← hz, List.length_zip]; omega
  refine ⟨csV, ⟨h.lst, hzl.symm, by rw [hzl, hl]; exact ft.1, fun i t c e1 e2 => ?_⟩, by omega, fun i c c' e1 e2 => ?_⟩
  · have hi : i < ts.length := (List.getElem?_eq_some_iff.mp e1).1
    obtain ⟨x, ex, ⟨hx, hr⟩⟩ := hc.at e2
    have ez : (ts.zip cs)[i]? = some (t, cs[i]'(by omega)) := by
      rw [List.getElem?_eq_getElem (by rw [hz]; omega), List.getElem_zip]
      rw [List.getElem?_eq_getElem hi] at e1
      rw [Option.some.inj e1]
    rw [ez] at ex
    cases ex
    obtain ⟨b0, b1, b2, b3, _⟩ := ft.2 _ (List.getElem_mem (l := cs) (n := i) (by omega))
    have r1 := hr.1
    have r2 := hr.2.1
    simp only at r1 r2 hx
    exact ⟨hx, by rw [r1]; exact b0, by rw [r1]; exact b1, by rw [r2]; exact b2, by rw [r2]; exact b3⟩
  · obtain ⟨x, ex, ⟨_, hr⟩⟩ := hc.at e1
    have hi : i < cs.length := (List.getElem?_eq_some_iff.mp e2).1
    have ez : (ts.zip cs)[i]? = some (ts[i]'(by omega), c') := by
      rw [List.getElem?_eq_getElem (by rw [hz]; omega), List.getElem_zip]
      rw [List.getElem?_eq_getElem hi] at e2
      rw [Option.some.inj e2]
    rw [ez] at ex
    cases ex
    exact hr
def FitV (ns : List Int) (cs : List Tv) (ps : List (Int × Int)) : Prop := cs.length = ps.length ∧ ∀ (i : Nat) c q, cs[i]? = some c → ps[i]? = some q → c.1 = ns.getD q.2.toNat 0 ∧ c.2.1 = ns.getD q.1.toNat 0
theorem FitV.fits {H : Hp} {p : Int} {ns : List Int} {cs : List Tv} {ps : List (Int × Int)} {csV : List Tc} (h : FitV ns cs ps) (a : All2 (RelT H p) csV cs) : Fits ns csV ps := by
  refine ⟨a.1.trans h.1, fun i c q e1 e2 => ?_⟩
  obtain ⟨c', e', r⟩ := a.at' e1
  obtain ⟨h1, h2⟩ := h.2 i c' q e' e2
  exact ⟨r.1.trans h1, r.2.1.trans h2⟩
theorem StdF.byV {H0 : Hp} {S G : Addr} {H : Hp} {x : Addr} {p m : Int} {ps : List (Int × Int)} {ns : List Int} {csV : List Tc} {cs : List Tv} {dx g d z l lp : Addr} {xs : List V} {ts : List Addr} (h : StdF H0 S C G H x p m ps ns csV dx g d z l lp xs ts) (a : All2 (RelT H p) csV cs) (ft : FT p cs) : Std S C G H x g d z l p m ps ns ts cs := by
  refine ⟨⟨dx, h.ins⟩, h.grd, ⟨lp, xs, h.drw, h.prs⟩, h.szs, ⟨h.lst, h.len.trans a.1, fun i t c e1 e2 => ?_⟩⟩
  obtain ⟨c', e', r⟩ := a.at e2
  obtain ⟨rr, rs, tc, _⟩ := h.tbs i t c' e1 e'
  obtain ⟨_, _, _, _, sh, _⟩ := ft.2 c (List.mem_of_getElem? e2)
  refine ⟨rr, rs, ?_⟩
  rw [← r.1, ← r.2.1]
  exact tc.byV r.2.2 (by rw [r.1]; exact sh.1)
abbrev hNo : Hp := fun _ => none
theorem same_no (H : Hp) : Same hNo H := fun b o e => by cases e
theorem tSz_ch {ns : List Int} : ∀ c ∈ tSz ns, c = 32 ∨ c = 45 ∨ (48 ≤ c ∧ c ≤ 57) := inter_ch (P := fun c => c = 32 ∨ c = 45 ∨ (48 ≤ c ∧ c ≤ 57)) (fun c hc => .inl (by simpa using hc)) (fun a ha c hc => by
  obtain ⟨x, _, rfl⟩ := List.mem_map.mp ha
  exact .inr (ascii_tI x c hc))
theorem tTab_ch {p hh wd : Int} {M : Mv} : ∀ c ∈ tTab p hh wd M, c = 32 ∨ c = 45 ∨ c = 47 ∨ (48 ≤ c ∧ c ≤ 57) := fun c hc => by
  unfold tTab at hc
  split at hc
  · exact .inr (.inl (by simpa using hc))
  · exact inter_ch (P := fun c => c = 32 ∨ c = 45 ∨ c = 47 ∨ (48 ≤ c ∧ c ≤ 57)) (s := [32, 47, 32]) (ps := M.map (tRow p)) (fun c hc => by simp at hc; omega) (fun a ha c hc => by
      obtain ⟨xs, _, rfl⟩ := List.mem_map.mp ha
      exact tRow_ch c hc) c hc
theorem size_parts {ns : List Int} (hn : ns ≠ []) : Txt.split (mkS (tSz ns)) (Str.ofString " ") = (ns.map tI).map mkS := by
  refine split_join (ascii_of fun c hc => by have := tSz_ch c hc; omega) (by rw [blank]; exact ascii_of (by decide)) (by rw [blank]; decide) (by simpa using hn) (by rw [blank]; rfl) fun a ha => ?_
  obtain ⟨x, _, rfl⟩ := List.mem_map.mp ha
  rw [blank]
  exact apart_head fun z => by have := ascii_tI x 32 z; omega
theorem std_parts {p : Int} {ns : List Int} {cs : List Tv} : Txt.split (mkS (tStd p ns cs)) (Str.ofString "; ") = (tSz ns :: cs.map fun c : Tv => tTab p c.1 c.2.1 c.2.2).map mkS := by
  refine split_join (ascii_of fun c hc => ?_) (by rw [semi]; exact ascii_of (by decide)) (by rw [semi]; decide) (by simp) (by rw [semi]; rfl) fun a ha => ?_
  · have := inter_ch (P := fun c => c = 59 ∨ c = 32 ∨ c = 45 ∨ c = 47 ∨ (48 ≤ c ∧ c ≤ 57)) (s := [59, 32]) (ps := tSz ns :: cs.map fun c : Tv => tTab p c.1 c.2.1 c.2.2) (fun c hc => by simp at hc; omega) (fun a ha c hc => by
      rcases List.mem_cons.mp ha with rfl | ha
      · have := tSz_ch c hc; omega
      · obtain ⟨x, _, rfl⟩ := List.mem_map.mp ha
        exact .inr (tTab_ch c hc)) c (show c ∈ tStd p ns cs from hc)
    omega
  · rw [semi]
    rcases List.mem_cons.mp ha with rfl | ha
    · exact apart_head fun z => by have := tSz_ch 59 z; omega
    · obtain ⟨x, _, rfl⟩ := List.mem_map.mp ha
      exact apart_head fun z => by have := tTab_ch 59 z; omega
theorem tStd_len {p : Int} {ns : List Int} {cs : List Tv} (h8 : ns.length ≤ 8) (h : ∀ n ∈ ns, 0 ≤ n ∧ n ≤ 24) (ft : FT p cs) : (tStd p ns cs).length ≤ 500000 := by
  have := inter_len (s := [59, 32]) (B := 40000) (ps := tSz ns :: cs.map fun c : Tv => tTab p c.1 c.2.1 c.2.2) fun a ha => by
    rcases List.mem_cons.mp ha with rfl | ha
    · have := tSz_len h8 h; omega
    · obtain ⟨c, hc, rfl⟩ := List.mem_map.mp ha
      obtain ⟨_, a, _, b, sh, g⟩ := ft.2 c hc
      exact tTab_len a b sh g
  have h9 := ft.1
  rw [List.length_cons, List.length_map] at this
  have h2 : (cs.length + 1) * (40000 + [59, 32].length) ≤ 10 * 40002 := Nat.mul_le_mul (by omega) (by decide)
  exact Nat.le_trans this (by omega)
def spRs (S C G : Addr) : Sp := fun vs H Q _ => ∃ (g d lp : Addr) (p m : Int) (xs : List V) (ps : List (Int × Int)) (ns : List Int) (cs : List Tv), vs = [.ref g, .ref d, .str (mkS (tStd p ns cs))] ∧ GAt G H g p ∧ GroundP p ∧ DrawAt C H d m lp xs ∧ Prs H xs ps ∧ InP m ps ∧ ps.length ≤ 9 ∧ ns.length ≤ 8 ∧ ns ≠ [] ∧ (∀ n ∈ ns, 0 ≤ n ∧ n ≤ 24) ∧ (ns.length : Int) = m ∧ preSum (fun i => ns.getD i 0) ns.length ≤ 40 ∧ FT p cs ∧ FitV ns cs ps ∧
  ∀ (x z l : Addr) (ts : List Addr) H', Same H H' → Std S C G H' x g d z l p m ps ns ts cs → Q (.ref x) H'
theorem ok_rs {f : Addr} {fd : FuncData} (F : Fun K "read_standing" "read_standing" s_read_standing f fd) (T : Txt K mg C G S) (C_read_whole : Cal P w K mg base "read_whole" 2 spRw) (C_read_table : Cal P w K mg base "read_table" 5 (spRt G)) (C_Standing : CalI P w K mg base "Standing" S 8 (spSI S C G)) : FnOk P w K mg base CX0 10 f fd ["ground", "drawing", "text"] (spRs S C G) := by
  have nd := sc_read_standing.nd
  refine F.ok sc_read_standing (fun vs H Q E h => ?_) (fun cdv A outer s H vs Q E hr h => ?_)
  · obtain ⟨g, d, lp, p, m, xs, ps, ns, cs, rfl, _⟩ := h
    rfl
  · obtain ⟨g, d, lp, p, m, xs, ps, ns, cs, rfl, hg, hp, hd, pr, ip, p9, h8, hne, hn, hm, h40, ft, fv, q⟩ := h
    refine ⟨_, (@pss_cons _ _ _ _ _ (ps_set (i := 3) nd rfl (Or.inl rfl) (pe_bm PySem.F.plainAttrs_str PySem.F.slot_str_split PySem.F.type_str_split mt_split (pv 2) (@pa_c _ _ _ _ _ pe_str pa_nil (by rfl)))) (@pss_cons _ _ _ _ _ (ps_set (i := 4) nd rfl (Or.inr rfl) (pe_comp (own := ["word"]) (fr := []) rfl (bl_of (by kernel_rfl)) (pi_list (pe_bm PySem.F.plainAttrs_str PySem.F.slot_str_split PySem.F.type_str_split mt_split (@pe_ix _ _ _ _ _ _ _ ix_list (pv 3) pe_int (fun _ _ => rfl)) (@pa_c _ _ _ _ _ pe_str pa_nil (by rfl)))) (fun _ _ _ _ => ⟨(@pg_name _ _ 0 _ (show (["word"] : List Str).Nodup by decide +kernel) rfl (Or.inl rfl) (Or.inr rfl)), pts_nil, (pe_c C_read_whole (hr.mono (by decide)) rfl (@pa_c _ _ _ _ _ (pv 0) pa_nil (by rfl)))⟩))) (@pss_cons _ _ _ _ _ (@ps_if _ _ _ _ _ _ _ _ (PW.pt (pw_or (pt_cmpR op_ne (pe_cB call_len_seq rfl T.n_len PySem.boot_len (@pa_c _ _ _ _ _ (pv 4) pa_nil (by rfl))) (pe_fld (pv 1) rfl) (nomark _)) (pw_or1 (pt_cmpR op_gt (pe_cB (call_sum rfl) rfl T.n_sum boot_sum (@pa_c _ _ _ _ _ (pv 4) pa_nil (by rfl))) (pe_globI rfl T.g_LARGEST_SUM) (nomark _))))) (@pss_one _ _ _ ps_never) pss_nil) (@pss_cons _ _ _ _ _ (@ps_if _ _ _ _ _ _ _ _ (pt_cmpR op_ne (pe_cB call_len_seq rfl T.n_len PySem.boot_len (@pa_c _ _ _ _ _ (pv 3) pa_nil (by rfl))) (@pe_op _ _ _ _ _ _ _ _ op_add (pe_cB call_len_seq rfl T.n_len PySem.boot_len (@pa_c _ _ _ _ _ (pe_fld (pv 1) rfl) pa_nil (by rfl))) pe_int) (nomark _)) (@pss_one _ _ _ ps_never) pss_nil) (@pss_cons _ _ _ _ _ (ps_comp (i := 5) (own := ["tail", "head", "piece"]) (fr := [("ground", 0), ("sizes", 4)]) rfl (bl_of (by kernel_rfl)) (pi_zip rfl T.n_zip (@pa_c _ _ _ _ _ (pe_fld (pv 1) rfl) (@pa_c _ _ _ _ _ (@pe_slice _ _ _ _ _ _ _ _ _ _ sl_list (pv 3) (@po_some _ _ _ pe_int) po_none) pa_nil (by rfl)) (by rfl))) (fun _ _ _ _ => ⟨(@pg_tupK _ K rfl _ _ _ _ 2 rfl (@pgs_cons _ _ _ _ _ (@pg_tupK _ K rfl _ _ _ _ 2 rfl (@pgs_cons _ _ _ _ _ (@pg_name _ _ 0 _ (show (["tail", "head", "piece", "ground", "sizes"] : List Str).Nodup by decide +kernel) rfl (Or.inl rfl) (Or.inr rfl)) (@pgs_cons _ _ _ _ _ (@pg_name _ _ 1 _ (show (["tail", "head", "piece", "ground", "sizes"] : List Str).Nodup by decide +kernel) rfl (Or.inl rfl) (Or.inr rfl)) (@pgs_nil _) (by rfl)) (by rfl)) (by rfl) (by rfl)) (@pgs_cons _ _ _ _ _ (@pg_name _ _ 2 _ (show (["tail", "head", "piece", "ground", "sizes"] : List Str).Nodup by decide +kernel) rfl (Or.inl rfl) (Or.inr rfl)) (@pgs_nil _) (by rfl)) (by rfl)) (by rfl) (by rfl)), pts_nil, (pe_c C_read_table (hr.mono (by decide)) rfl (@pa_c _ _ _ _ _ (pv 3) (@pa_c _ _ _ _ _ (@pe_ix _ _ _ _ _ _ _ (ix_listK K rfl) (pv 4) (pv 1) (fun _ _ => rfl)) (@pa_c _ _ _ _ _ (@pe_ix _ _ _ _ _ _ _ (ix_listK K rfl) (pv 4) (pv 0) (fun _ _ => rfl)) (@pa_c _ _ _ _ _ (pv 2) pa_nil (by rfl)) (by rfl)) (by rfl)) (by rfl)))⟩) nd rfl rfl rfl) (@pss_one _ _ _ (@ps_ret _ _ _ _ (pe_n C_Standing (hr.mono (by decide)) rfl (@pa_c _ _ _ _ _ (pv 0) (@pa_c _ _ _ _ _ (pv 1) (@pa_c _ _ _ _ _ (pv 4) (@pa_c _ _ _ _ _ (pv 5) pa_nil (by rfl)) (by rfl)) (by rfl)) (by rfl)))))))))), ?_⟩
    refine cut1 fun X hX => ?_
    walk_at "wp"
    have tlen := tStd_len (p := p) (ns := ns) (cs := cs) h8 hn ft
    obtain ⟨dd, hd1, hd2⟩ := hd
    have c9 := ft.1
    refine ⟨rfl, _, rfl, _, rfl, by decide, by rw [mk_len]; exact Nat.le_trans tlen (by decide), ?_⟩
    rw [std_parts]
    refine ⟨by rw [List.length_map, List.length_cons, List.length_map]; exact small24 (by omega), fun p1 hp1 => ?_⟩
    have sA := Same.new (o := .lst (((tSz ns :: cs.map fun c : Tv => tTab p c.1 c.2.1 c.2.2).map mkS).map V.str)) hp1
    have hA : upd H p1 (.lst (((tSz ns :: cs.map fun c : Tv => tTab p c.1 c.2.1 c.2.2).map mkS).map V.str)) p1 = some (.lst (((tSz ns :: cs.map fun c : Tv => tTab p c.1 c.2.1 c.2.2).map mkS).map V.str)) := upd_same
    generalize upd H p1 (.lst (((tSz ns :: cs.map fun c : Tv => tTab p c.1 c.2.1 c.2.2).map mkS).map V.str)) = H1 at *
    subst hX
    refine cut1 fun X hX => ?_
    walk_at "wp"
    refine ⟨_, rfl, p1, _, 0, V.str (mkS (tSz ns)), rfl, rfl, SqL.of hA, atI_at (by decide) rfl, rfl, mkS (tSz ns), _, rfl, rfl, by decide, by rw [mk_len]; exact Nat.le_trans (tSz_len h8 hn) (by decide), ?_⟩
    rw [size_parts hne]
    refine ⟨by rw [List.length_map, List.length_map]; exact small24 (by omega), fun p2 hp2 => ⟨p2, rfl, ⟨_, SqL.of upd_same⟩, fun D hD => ?_⟩⟩
    have sB := Same.new (o := .lst (((ns.map tI).map mkS).map V.str)) hp2
    have hB : upd H1 p2 (.lst (((ns.map tI).map mkS).map V.str)) p2 = some (.lst (((ns.map tI).map mkS).map V.str)) := upd_same
    generalize upd H1 p2 (.lst (((ns.map tI).map mkS).map V.str)) = H2 at *
    refine comp_ord (fun i _ y => y = .int (ns.getD i 0)) (fun h _ => h) (fun h _ => h) hB hD (by rw [List.length_map, List.length_map, List.length_map]; omega) (fun i x H3 Q3 hx s3 _ q3 => ?_) (fun ys H3 s3 e3 hyl hys => ?_)
    · rw [List.getElem?_map, List.getElem?_map, List.getElem?_map] at hx
      cases en : ns[i]? with
      | none => rw [en] at hx; cases hx
      | some n =>
        rw [en] at hx
        cases hx
        have n0 := hn n (List.mem_of_getElem? en)
        have en2 : tI n = tN n.natAbs := by unfold tI; rw [if_neg (by omega)]
        refine ⟨_, rfl, n.natAbs, by rw [← en2]; rfl, Nat.lt_of_le_of_lt (show n.natAbs ≤ 24 by omega) (by decide +kernel), fun H4 s4 => q3 _ H4 s4 ?_⟩
        rw [getD_some en, show ((n.natAbs : Nat) : Int) = n by omega]
    · rw [List.length_map, List.length_map, List.length_map] at hyl
      have ey : ys = ns.map V.int := by
        rw [ints_of hyl hys]
        congr 1
        exact (range_map (fun n : Int => n) ns _ getD_at).trans (List.map_id' ns)
      subst ey
      subst hX
      have s13 := (sA.trans sB).trans s3
      have hA3 := s3 _ _ (sB _ _ hA)
      have hxl := pr.1
      have hcl := fv.1
      have hd3 := s13 _ _ hd1
      have hlp3 := s13 _ _ hd2
      refine cut2 fun X hX => ?_
      walk_at "wp"
      refine ⟨_, .inl (SqL.of e3), C, dd, _, hd3, T.cl_Drawing, T.nM, _, flds_many m lp, rfl, iteN (by rw [List.length_map, decide_eq_true (by rw [hm])]; decide) ⟨ns, SqL.of e3, iteN (by rw [decide_eq_false (by omega)]; decide) ⟨_, .inl (SqL.of hA3), C, dd, _, hd3, T.cl_Drawing, T.nA, _, flds_arrows m lp, lp, rfl, _, .inl (SqL.of hlp3), iteN (by rw [decide_eq_true (by rw [List.length_map, List.length_map, List.length_cons, List.length_map]; omega)]; decide) ?_⟩⟩⟩
      subst hX
      walk_at "wp"
      refine ⟨_, rfl, d, C, dd, _, _, rfl, hd3, T.cl_Drawing, T.nA, flds_arrows m lp, _, rfl, 1, rfl, p1, _, rfl, SqL.of hA3, fun p3 hp3 => ?_⟩
      rw [cut_drop]
      have sC := Same.new (o := .lst (((cs.map fun c : Tv => tTab p c.1 c.2.1 c.2.2).map mkS).map V.str)) hp3
      have hC : upd H3 p3 (.lst (((cs.map fun c : Tv => tTab p c.1 c.2.1 c.2.2).map mkS).map V.str)) p3 = some (.lst (((cs.map fun c : Tv => tTab p c.1 c.2.1 c.2.2).map mkS).map V.str)) := upd_same
      refine ⟨lp, p3, rfl, ⟨_, SqL.of (sC _ _ hlp3)⟩, ⟨_, SqL.of hC⟩, fun D3 hD3 => ?_⟩
      have s14 := s13.trans sC
      have hz4 := sC _ _ e3
      have hlp4 := sC _ _ hlp3
      have sC' := sC
      change (upd H3 p3 (.lst (((cs.map fun c : Tv => tTab p c.1 c.2.1 c.2.2).map mkS).map V.str))) D3 = none at hD3
      have eDr : ((tSz ns :: cs.map fun c : Tv => tTab p c.1 c.2.1 c.2.2).map mkS).map V.str = V.str (mkS (tSz ns)) :: ((cs.map fun c : Tv => tTab p c.1 c.2.1 c.2.2).map mkS).map V.str := rfl
      show tBlock _ _ _ _ _ _ (upd H3 p3 (.lst (((cs.map fun c : Tv => tTab p c.1 c.2.1 c.2.2).map mkS).map V.str))) _
      generalize upd H3 p3 (.lst (((cs.map fun c : Tv => tTab p c.1 c.2.1 c.2.2).map mkS).map V.str)) = H4 at *
      have hlen : (((cs.map fun c : Tv => tTab p c.1 c.2.1 c.2.2).map mkS).map V.str).length = xs.length := by rw [List.length_map, List.length_map, List.length_map]; omega
      refine comp_itz (k := 3) (xs := xs) (ys := ((cs.map fun c : Tv => tTab p c.1 c.2.1 c.2.2).map mkS).map V.str) (fun i vs H' => ∃ ts : List Addr, vs = ts.map V.ref ∧ Same H4 H' ∧ H' D3 = some (.lst vs) ∧ ts.length = i ∧ ∀ (j : Nat) t, ts[j]? = some t → ∃ r rs, TabV H' p (hF cs j) (wF cs j) t r rs (mF cs j) ∧ r ≠ D3 ∧ D3 ∉ rs) hlen ⟨[], rfl, Same.new hD3, upd_same, rfl, fun j t e => by simp at e⟩ (fun i vs H' _ ⟨_, _, s', _⟩ => ⟨SqL.of (s' _ _ hlp4), SqL.of (s' _ _ hC)⟩) ?_ ?_
      · rintro i x y pz vs σ' H' hi hx hy hpz sh ⟨ts, rfl, s', e', htl, hts⟩
        obtain ⟨z1, z2, z3, rfl⟩ := sh_three sh
        have hi' : i < ps.length := by omega
        have hq : ps[i]? = some ps[i] := List.getElem?_eq_getElem hi'
        have hci : i < cs.length := by omega
        have ec : cs[i]? = some cs[i] := List.getElem?_eq_getElem hci
        obtain ⟨ta, rfl, hta⟩ := (pr.same s14).2 i x _ hx hq
        rw [List.getElem?_map, List.getElem?_map, List.getElem?_map, ec] at hy
        cases hy
        obtain ⟨i0, i1, j0, j1⟩ := ip _ (List.mem_of_getElem? hq)
        have s0 := s'.trans (Same.new (o := .tup [V.ref ta, V.str (mkS (tTab p cs[i].1 cs[i].2.1 cs[i].2.2))]) hpz)
        have a1 := at_int (ns := ns) i0 (by omega)
        have a2 := at_int (ns := ns) j0 (by omega)
        obtain ⟨f1, f2⟩ := fv.2 i _ _ ec hq
        rw [← f1] at a2
        rw [← f2] at a1
        obtain ⟨b1, b2, b3, b4, shp, gd⟩ := ft.2 _ (List.mem_of_getElem? ec)
        refine ⟨pz, _, rfl, SqT.of upd_same, rfl, _, _, rfl, ta, _, rfl, SqT.of (s0 _ _ hta), rfl, _, _, rfl, _, _, rfl, rfl, _, _, rfl, rfl, ?_⟩
        simp only [tYes, List.set_cons_zero, List.set_cons_succ, if_true]
        refine ⟨_, rfl, _, rfl, _, rfl, D, _, _, _, rfl, rfl, SqL.of (s0 _ _ hz4), a2, _, rfl, _, rfl, D, _, _, _, rfl, rfl, SqL.of (s0 _ _ hz4), a1, _, rfl, g, p, _, _, _, rfl, hg.same (s14.trans s0), hp, shp, gd, b1, b2, b3, b4, fun t r rs H6 s6 nw tb => ?_⟩
        have s1 := (Same.new (o := .tup [V.ref ta, V.str (mkS (tTab p cs[i].1 cs[i].2.1 cs[i].2.2))]) hpz).trans s6
        have hD6 := s1 _ _ e'
        have hDz := Same.new (o := .tup [V.ref ta, V.str (mkS (tTab p cs[i].1 cs[i].2.1 cs[i].2.2))]) hpz _ _ e'
        have nr : r ≠ D3 := fun z => by have := nw.r; rw [z, hDz] at this; cases this
        have nrs : D3 ∉ rs := fun z => by have := nw.rs _ z; rw [hDz] at this; cases this
        refine leaf (ws := ts.map V.ref ++ [.ref t]) hi sh_mk3 hD6 (small1000 (by rw [List.length_map]; omega)) ⟨ts ++ [t], map_ref_snoc _ _, (s'.trans s1).upd hD3, by rw [upd_same], by rw [List.length_append, htl]; rfl, fun j u hu => ?_⟩
        by_cases hj : j < ts.length
        · rw [List.getElem?_append_left hj] at hu
          obtain ⟨r', rs', tb', n1, n2⟩ := hts j u hu
          exact ⟨r', rs', (tb'.same s1).put hD6 n1 n2, n1, n2⟩
        · rw [List.getElem?_append_right (by omega)] at hu
          have hj0 : j - ts.length = 0 := by
            by_cases z : j - ts.length = 0
            · exact z
            · rw [List.getElem?_eq_none (by simp; omega)] at hu; cases hu
          rw [hj0] at hu
          cases hu
          have hji : j = i := by omega
          subst hji
          refine ⟨r, rs, ?_, nr, nrs⟩
          simp only [hF, wF, mF, getD_some ec]
          exact tb.put hD6 nr nrs
      · rintro vs H5 ⟨ts, rfl, s5, e5, htl, hts⟩
        intro x dx hx hdx ndx
        have s15 := s14.trans s5
        have hT : TbsV H5 p D3 ts cs := ⟨e5, by omega, fun i t c e1 e2 => by
          obtain ⟨r, rs, tb, _⟩ := hts i t e1
          refine ⟨r, rs, ?_⟩
          have := tb
          simp only [hF, wF, mF, getD_some e2] at this
          exact this⟩
        obtain ⟨csV, hTb, rel⟩ := hT.con ft
        refine std_of (H0 := hNo) (lp := lp) (p := p) (m := m) (xs := xs) (ps := ps) (ns := ns) hx hdx ndx (hg.same s15) hp ⟨dd, s15 _ _ hd1, s15 _ _ hd2⟩ (pr.same s15) ip p9 ⟨s5 _ _ hz4, h8, hn⟩ hm hTb (fv.fits rel) (same_no _) rfl fun dx z' l' ts' H6 s6 sf => ⟨rfl, ?_⟩
        exact q x z' l' ts' H6 (s15.trans s6) (sf.byV (rel.mono fun _ _ k => k.same s6) ft)
end
end Pf
set_option maxHeartbeats 1000000
namespace Pf
open PySem L2 PyProof.Rows
section
variable {P : Program} {w : World} {K : PySem.W.Frag} {mg : Str → Option Value} {base : Heap} {C G S : Addr}
theorem ok_ldraw {f : Addr} {fd : FuncData} (F : Fun K "_law_drawing" "_law_drawing" s_law_drawing f fd) (T : Txt K mg C G S) (C_law_draw : Cal P w K mg base "_law_draw" 1 spDraw) : FnOk P w K mg base CX0 2 f fd ["_law_bag_here"] (spOut way0) := by
  have nd := sc_law_drawing.nd
  refine F.ok sc_law_drawing (fun vs H Q E h => ?_) (fun cdv A outer s H vs Q E hr h => ?_)
  · obtain ⟨l, r, rfl, rfl, _⟩ := h
    rfl
  · obtain ⟨l, r, rfl, rfl, hb, q⟩ := h
    refine ⟨_, (@pss_cons _ _ _ _ _ (ps_set (i := 1) nd rfl (Or.inl rfl) (@pe_op _ _ _ _ _ _ _ _ op_add pe_int (pe_c C_law_draw (hr.mono (by decide)) rfl (@pa_c _ _ _ _ _ (pv 0) (@pa_c _ _ _ _ _ pe_int pa_nil (by rfl)) (by rfl))))) (@pss_cons _ _ _ _ _ (@ps_if _ _ _ _ _ _ _ _ (pt_cmpR op_eq (pe_c C_law_draw (hr.mono (by decide)) rfl (@pa_c _ _ _ _ _ (pv 0) (@pa_c _ _ _ _ _ pe_int pa_nil (by rfl)) (by rfl))) pe_int (nomark _)) (@pss_one _ _ _ (ps_set (i := 1) nd rfl (Or.inl rfl) pe_int)) pss_nil) (@pss_cons _ _ _ _ _ (ps_set (i := 2) nd rfl (Or.inl rfl) (pe_c C_law_draw (hr.mono (by decide)) rfl (@pa_c _ _ _ _ _ (pv 0) (@pa_c _ _ _ _ _ pe_int pa_nil (by rfl)) (by rfl)))) (@pss_cons _ _ _ _ _ (ps_comp (i := 3) (own := ["_law_k"]) (fr := []) rfl (bl_of (by kernel_rfl)) (pi_r1 rfl T.n_range (@pa_c _ _ _ _ _ (@pe_op _ _ _ _ _ _ _ _ op_sub (pv 1) pe_int) pa_nil (by rfl))) (fun _ _ _ _ => ⟨(@pg_name _ _ 0 _ (show (["_law_k"] : List Str).Nodup by decide +kernel) rfl (Or.inl rfl) (Or.inr rfl)), pts_nil, (@pe_tup _ _ _ _ _ (@pa_c _ _ _ _ _ (pv 0) (@pa_c _ _ _ _ _ (@pe_op _ _ _ _ _ _ _ _ op_add (pv 0) pe_int) pa_nil (by rfl)) (by rfl)))⟩) nd rfl rfl rfl) (@pss_cons _ _ _ _ _ (@ps_if _ _ _ _ _ _ _ _ (pt_cmpR op_eq (pv 2) pe_int (nomark _)) (@pss_cons _ _ _ _ _ (ps_set (i := 1) nd rfl (Or.inl rfl) pe_int) (@pss_one _ _ _ (ps_set (i := 3) nd rfl (Or.inl rfl) (@pe_lst _ _ _ _ (@pa_c _ _ _ _ _ (@pe_tup _ _ _ _ _ (@pa_c _ _ _ _ _ pe_int (@pa_c _ _ _ _ _ pe_int pa_nil (by rfl)) (by rfl))) (@pa_c _ _ _ _ _ (@pe_tup _ _ _ _ _ (@pa_c _ _ _ _ _ pe_int (@pa_c _ _ _ _ _ pe_int pa_nil (by rfl)) (by rfl))) (@pa_c _ _ _ _ _ (@pe_tup _ _ _ _ _ (@pa_c _ _ _ _ _ pe_int (@pa_c _ _ _ _ _ pe_int pa_nil (by rfl)) (by rfl))) pa_nil (by rfl)) (by rfl)) (by rfl)))))) pss_nil) (@pss_cons _ _ _ _ _ (@ps_if _ _ _ _ _ _ _ _ (pt_cmpR op_eq (pv 2) pe_int (nomark _)) (@pss_cons _ _ _ _ _ (ps_set (i := 3) nd rfl (Or.inl rfl) (@pe_lst _ _ _ _ pa_nil)) (@pss_one _ _ _ (ps_for PassesOwn.never rfl (pi_r1 rfl T.n_range (@pa_c _ _ _ _ _ (pe_c C_law_draw (hr.mono (by decide)) rfl (@pa_c _ _ _ _ _ (pv 0) (@pa_c _ _ _ _ _ pe_int pa_nil (by rfl)) (by rfl))) pa_nil (by rfl))) (@pg_name _ _ 4 _ nd rfl (Or.inl rfl) (Or.inl rfl)) (@pss_cons _ _ _ _ _ (ps_set (i := 5) nd rfl (Or.inl rfl) (pe_c C_law_draw (hr.mono (by decide)) rfl (@pa_c _ _ _ _ _ (pv 0) (@pa_c _ _ _ _ _ (pv 1) pa_nil (by rfl)) (by rfl)))) (@pss_one _ _ _ (ps_expr (pe_bm PySem.F.plainAttrs_list PySem.F.slot_list_append PySem.F.type_list_append mt_append (pv 3) (@pa_c _ _ _ _ _ (@pe_tup _ _ _ _ _ (@pa_c _ _ _ _ _ (pv 5) (@pa_c _ _ _ _ _ (pe_c C_law_draw (hr.mono (by decide)) rfl (@pa_c _ _ _ _ _ (pv 0) (@pa_c _ _ _ _ _ (pv 1) pa_nil (by rfl)) (by rfl))) pa_nil (by rfl)) (by rfl))) pa_nil (by rfl))))))))) pss_nil) (@pss_cons _ _ _ _ _ (ps_set (i := 6) nd rfl (Or.inl rfl) (@pe_lst _ _ _ _ pa_nil)) (@pss_cons _ _ _ _ _ (ps_for PassesOwn.never rfl (pi_list (pv 3)) (@pg_tup _ _ _ _ _ 2 rfl (@pgs_cons _ _ _ _ _ (@pg_name _ _ 5 _ nd rfl (Or.inl rfl) (Or.inl rfl)) (@pgs_cons _ _ _ _ _ (@pg_name _ _ 7 _ nd rfl (Or.inl rfl) (Or.inl rfl)) (@pgs_nil _) (by rfl)) (by rfl)) (by rfl) (by rfl)) (@pss_cons _ _ _ _ _ (ps_set (i := 8) nd rfl (Or.inl rfl) (pe_c C_law_draw (hr.mono (by decide)) rfl (@pa_c _ _ _ _ _ (pv 0) (@pa_c _ _ _ _ _ pe_int pa_nil (by rfl)) (by rfl)))) (@pss_one _ _ _ (ps_expr (pe_bm PySem.F.plainAttrs_list PySem.F.slot_list_append PySem.F.type_list_append mt_append (pv 6) (@pa_c _ _ _ _ _ (@pe_ix _ _ _ _ _ _ _ ix_list (@pe_lst _ _ _ _ (@pa_c _ _ _ _ _ (@pe_tup _ _ _ _ _ (@pa_c _ _ _ _ _ (pv 5) (@pa_c _ _ _ _ _ (pv 7) pa_nil (by rfl)) (by rfl))) (@pa_c _ _ _ _ _ (@pe_tup _ _ _ _ _ (@pa_c _ _ _ _ _ (pv 7) (@pa_c _ _ _ _ _ (pv 5) pa_nil (by rfl)) (by rfl))) pa_nil (by rfl)) (by rfl))) (pv 8) (fun _ _ => rfl)) pa_nil (by rfl))))))) (@pss_one _ _ _ (@ps_ret _ _ _ _ (@pe_tup _ _ _ _ _ (@pa_c _ _ _ _ _ (pv 1) (@pa_c _ _ _ _ _ (pv 6) pa_nil (by rfl)) (by rfl))))))))))))), ?_⟩
    refine cut1 fun X hX => ?_
    walk_at "wp"
    refine hb.draw (by decide) (by decide) fun r H1 r0 r1 e1 b1 => ⟨r, rfl, ?_⟩
    subst hX
    refine cut1 fun X2 hX2 => ?_
    have aft : ∀ (m : Int) H2, 1 ≤ m → m ≤ 8 → Ext l H H2 → Bag H2 l → X2 { nx := fun x H' => Q V.non H', rt := Q } [some (.ref l), some (.int m), none, none, none, none, none, none, none] H2 := by
      intro m H2 m1 m8 e2 b2
      subst hX2
      refine cut2 fun X3 hX3 => ?_
      walk_at "wp"
      refine b2.draw (by decide) (by decide) fun w0 H3 w1 w2 e3 b3 => ⟨_, rfl, _, _, rfl, rfl, _, rfl, by omega, by omega, fun D hD => comp_pairs (m := m) (fun i => 0 + (i : Int)) (fun i => 0 + (i : Int) + 1) hD (by omega) (fun i H Q _ h => ⟨_, rfl, h⟩) (fun i H Q _ h => ⟨_, rfl, _, _, rfl, rfl, h⟩) (fun i hi => ⟨by omega, by omega, by omega, by omega⟩) fun xs H4 s4 hD4 hl4 d4 => ?_⟩
      subst hX3
      refine cut2 fun X5 hX5 => ?_
      have aft5 : ∀ (m : Int) (p : Addr) (xs : List V) (v4 v5 : Option V) H5, 1 ≤ m → m ≤ 8 → Ext l H H5 → Bag H5 l → H p = none → H5 p = some (.lst xs) → xs.length ≤ 9 → Edges H5 m xs → X5 { nx := fun x H' => Q V.non H', rt := Q } [some (.ref l), some (.int m), some (.int w0), some (.ref p), v4, v5, none, none, none] H5 := by
        intro m p xs v4 v5 H5 m1 m8 e5 b5 fp hp hl d
        subst hX5
        walk_at "wp"
        refine ⟨Nat.zero_le _, fun pa hpa => ?_⟩
        have npl : p ≠ l := hb.ne fp
        have nal : pa ≠ l := b5.ne hpa
        have npa : p ≠ pa := ne_of_none hp hpa
        have fpa : H pa = none := e5.free nal hpa
        refine ⟨_, rfl, p, rfl, ⟨_, SqL.of (Same.new hpa _ _ hp)⟩, for_list (xs := xs) (fun i σ H6 => ∃ (as : List V) (v5 v7 v8 : Option V), σ = [some (.ref l), some (.int m), some (.int w0), some (.ref p), v4, v5, some (.ref pa), v7, v8] ∧ Ext l H H6 ∧ Bag H6 l ∧ H6 p = some (.lst xs) ∧ H6 pa = some (.lst as) ∧ as.length = i ∧ Edges H6 m xs ∧ Edges H6 m as) ⟨[], v5, none, none, rfl, e5.trans (Ext.new hpa), b5.new nal, Same.new hpa _ _ hp, upd_same, rfl, d.same (Same.new hpa), Edges.nil⟩ (fun i σ H6 _ ⟨_, _, _, _, _, _, _, hp6, _⟩ => SqL.of hp6) ?_ ?_⟩
        · rintro i x σ H6 hx ⟨as, u5, u7, u8, rfl, e6, b6, hp6, ha6, hal, dx, da⟩
          have hi : i < xs.length := (List.getElem?_eq_some_iff.mp hx).1
          obtain ⟨tx, i1, j1, rfl, htx, i10, i11, j10, j11⟩ := dx x (List.mem_of_getElem? hx)
          walk_at "wp"
          refine ⟨_, SqT.of htx, rfl, _, _, rfl, _, _, rfl, rfl, ?_⟩
          refine b6.draw (by decide) (by decide) fun r1 H7 r10 r11 e7 b7 => ⟨.inl ⟨rfl, _, SqL.of (e7 _ _ nal ha6)⟩, by decide, fun p1 h1 => ⟨by decide, fun p2 h2 => ⟨by decide, fun p3 h3 => ?_⟩⟩⟩
          have S2 := (Same.new (o := .tup [V.int i1, V.int j1]) h1).trans (Same.new (o := .tup [V.int j1, V.int i1]) h2)
          have S3 := S2.trans (Same.new (o := .lst [V.ref p1, V.ref p2]) h3)
          have D1 := (Edges.nil (H := H7) (m := m)).add (i := i1) (j := j1) h1 i10 i11 j10 j11
          have D2 := (D1.add (i := j1) (j := i1) h2 j10 j11 i10 i11).same (Same.new (o := .lst [V.ref p1, V.ref p2]) h3)
          have q3 : (upd (upd (upd H7 p1 (.tup [V.int i1, V.int j1])) p2 (.tup [V.int j1, V.int i1])) p3 (.lst [V.ref p1, V.ref p2])) p3 = some (.lst [V.ref p1, V.ref p2]) := upd_same
          generalize upd (upd (upd H7 p1 (.tup [V.int i1, V.int j1])) p2 (.tup [V.int j1, V.int i1])) p3 (.lst [V.ref p1, V.ref p2]) = H8 at *
          have ha8 := S3 _ _ (e7 _ _ nal ha6)
          have pick : ∃ u, atI [V.ref p1, V.ref p2] r1 = some u ∧ Edge H8 m u := by
            have : r1 = 0 ∨ r1 = 1 := by omega
            rcases this with rfl | rfl
            · exact ⟨_, atI_at (by decide) rfl, D2 _ (by simp)⟩
            · exact ⟨_, atI_at (by decide) rfl, D2 _ (by simp)⟩
          obtain ⟨u, hu, du⟩ := pick
          refine ⟨_, r1, rfl, SqL.of q3, u, hu, as, ha8, small1000 (by omega), as ++ [u], _, _, _, ⟨rfl, rfl, rfl⟩, ((e6.trans e7).trans S3.ext).upd fpa, (b7.same S3).new nal, by rw [upd_ne npa]; exact S3 _ _ (e7 _ _ npl hp6), upd_same, by rw [List.length_append, hal]; rfl, ((dx.bag e7 b6).same S3).put ha8, (((da.bag e7 b6).same S3).snoc du).put ha8⟩
        · rintro σ H6 ⟨as, u5, u7, u8, rfl, e6, b6, hp6, ha6, hal, dx, da⟩
          walk_at "wp"
          exact ⟨by decide, fun t ht => q _ _ _ _ _ (Out.fin e6 b6 ha6 fpa m1 m8 (by omega) da ht)⟩
      refine cut1 fun X4 hX4 => ?_
      have e4 : Ext l H H4 := (e2.trans e3).trans s4.ext
      have b4 := b3.same s4
      have fD : H D = none := (e2.trans e3).free (b3.ne hD) hD
      have aft4 : ∀ (m : Int) (p : Addr) (xs : List V) H5, 1 ≤ m → m ≤ 8 → Ext l H H5 → Bag H5 l → H p = none → H5 p = some (.lst xs) → xs.length ≤ 9 → Edges H5 m xs → X4 { nx := fun x H' => Q V.non H', rt := Q } [some (.ref l), some (.int m), some (.int w0), some (.ref p), none, none, none, none, none] H5 := by
        intro m p xs H5 m1 m8 e5 b5 fp hp hl d
        subst hX4
        walk_at "wp"
        refine ite2 (fun _ => ⟨Nat.zero_le _, fun pa hpa => ?_⟩) (fun _ => aft5 m p xs none none H5 m1 m8 e5 b5 fp hp hl d)
        have nal : pa ≠ l := b5.ne hpa
        have fpa : H pa = none := e5.free nal hpa
        refine rng_draw (b5.new nal) (by decide) (by decide) fun n H6 n0 n1 e6 b6 => ?_
        refine for_range (fun i σ H7 => ∃ (as : List V) (v4 v5 : Option V), σ = [some (.ref l), some (.int m), some (.int w0), some (.ref pa), v4, v5, none, none, none] ∧ Ext l H H7 ∧ Bag H7 l ∧ H7 pa = some (.lst as) ∧ as.length ≤ i ∧ Edges H7 m as) ⟨[], none, none, rfl, (e5.trans (Ext.new hpa)).trans e6, b6, e6 _ _ nal upd_same, Nat.le_refl _, Edges.nil⟩ ?_ ?_
        · rintro i σ H7 hi ⟨as, u4, u5, rfl, e7, b7, ha7, hal, da⟩
          walk_at "wp"
          refine b7.draw (by omega) (by omega) fun r1 H8 r10 r11 e8 b8 => ?_
          refine ⟨.inl ⟨rfl, _, SqL.of (e8 _ _ nal ha7)⟩, b8.draw (by omega) (by omega) fun r2 H9 r20 r21 e9 b9 => ⟨by decide, fun t ht => ?_⟩⟩
          have hx4 : H9 pa = some (.lst as) := e9 _ _ nal (e8 _ _ nal ha7)
          have nt : pa ≠ t := ne_of_none hx4 ht
          have hx5 : (upd H9 t (.tup [.int r1, .int r2])) pa = some (.lst as) := by rw [upd_ne nt]; exact hx4
          refine ⟨_, hx5, small1000 (by omega), as ++ [.ref t], _, _, ⟨rfl, rfl⟩, (((e7.trans e8).trans e9).trans (Ext.new ht)).upd fpa, (b9.new (b9.ne ht)).new nal, upd_same, by rw [List.length_append]; show _ + 1 ≤ _; omega, (((da.bag e8 b7).bag e9 b8).add ht r10 r11 r20 r21).put hx5⟩
        · rintro σ H7 ⟨as, u4, u5, rfl, e7, b7, ha7, hal, da⟩
          exact aft5 m pa as u4 u5 H7 m1 m8 e7 b7 fpa ha7 (by omega) da
      walk_at "wp"
      refine ite2 (fun _ => ⟨by decide, fun p1 h1 => ⟨by decide, fun p2 h2 => ⟨by decide, fun p3 h3 => ⟨by decide, fun p4 h4 => ?_⟩⟩⟩⟩) (fun _ => aft4 m D xs H4 m1 m8 e4 b4 fD hD4 (by omega) d4)
      have D1 := (Edges.nil (H := H4) (m := 4)).add (i := 0) (j := 1) h1 (by omega) (by omega) (by omega) (by omega)
      have D2 := D1.add (i := 1) (j := 2) h2 (by omega) (by omega) (by omega) (by omega)
      have D3 := D2.add (i := 3) (j := 1) h3 (by omega) (by omega) (by omega) (by omega)
      have S3 := ((Same.new (o := .tup [V.int 0, V.int 1]) h1).trans (Same.new (o := .tup [V.int 1, V.int 2]) h2)).trans (Same.new (o := .tup [V.int 3, V.int 1]) h3)
      have S4 := S3.trans (Same.new (o := .lst [.ref p1, .ref p2, .ref p3]) h4)
      exact aft4 4 p4 [.ref p1, .ref p2, .ref p3] _ (by decide) (by decide) (e4.trans S4.ext) (b4.same S4) ((e4.trans S3.ext).free ((b4.same S3).ne h4) h4) upd_same (by show 3 ≤ 9; decide) (D3.same (Same.new h4))
    walk_at "wp"
    refine b1.draw (by decide) (by decide) fun t H2 t0 t1 e2 b2 => ⟨rfl, ite2 (fun _ => aft 8 H2 (by decide) (by decide) (e1.trans e2) b2) (fun _ => aft (1 + r) H2 (by omega) (by omega) (e1.trans e2) b2)⟩
end
end Pf
set_option maxHeartbeats 1000000
namespace Pf
open PySem L2 PyProof.Rows
section
variable {P : Program} {w : World} {K : PySem.W.Frag} {mg : Str → Option Value} {base : Heap} {C G S : Addr}
theorem Prs.bag {l : Addr} {H H' : Hp} {xs : List V} {ps : List (Int × Int)} (h : Prs H xs ps) (b : Bag H l) (e : Ext l H H') : Prs H' xs ps :=
  ⟨h.1, fun i x q h1 h2 => by
    obtain ⟨t, e1, e2⟩ := h.2 i x q h1 h2
    obtain ⟨ys, hy⟩ := b.lst
    exact ⟨t, e1, e _ _ (ne_of e2 hy (by intro z; cases z)) e2⟩⟩
theorem preSum_snoc (ns : List Int) (x : Int) : preSum (fun i => (ns ++ [x]).getD i 0) (ns ++ [x]).length = preSum (fun i => ns.getD i 0) ns.length + x := by
  have cong : ∀ n, n ≤ ns.length → preSum (fun i => (ns ++ [x]).getD i 0) n = preSum (fun i => ns.getD i 0) n := by
    intro n
    induction n with
    | zero => intro _; rfl
    | succ n ih =>
      intro h
      show preSum (fun i => (ns ++ [x]).getD i 0) n + (ns ++ [x]).getD n 0 = preSum (fun i => ns.getD i 0) n + ns.getD n 0
      rw [ih (by omega), List.getD_eq_getElem?_getD, List.getD_eq_getElem?_getD, List.getElem?_append_left (by omega)]
  rw [List.length_append]
  show preSum (fun i => (ns ++ [x]).getD i 0) ns.length + (ns ++ [x]).getD ns.length 0 = _
  rw [cong _ (Nat.le_refl _), List.getD_eq_getElem?_getD, List.getElem?_append_right (Nat.le_refl _), Nat.sub_self]
  rfl
def TbsN (l : Addr) (H : Hp) (p : Int) (a : Addr) (ts : List Addr) (cs : List Tv) : Prop := H a = some (.lst (ts.map V.ref)) ∧ a ≠ l ∧ All2 (fun t c => ∃ r rs, TabV H p c.1 c.2.1 t r rs c.2.2 ∧ r ≠ l ∧ l ∉ rs) ts cs
theorem TbsN.tbs {l : Addr} {H : Hp} {p : Int} {a : Addr} {ts : List Addr} {cs : List Tv} (h : TbsN l H p a ts cs) : TbsV H p a ts cs := ⟨h.1, h.2.2.mono fun _ _ ⟨r, rs, k, _⟩ => ⟨r, rs, k⟩⟩
theorem TbsN.ext {l : Addr} {H H' : Hp} {p : Int} {a : Addr} {ts : List Addr} {cs : List Tv} (h : TbsN l H p a ts cs) (b : Bag H l) (e : Ext l H H') : TbsN l H' p a ts cs := ⟨e _ _ h.2.1 h.1, h.2.1, h.2.2.mono fun _ _ ⟨r, rs, k, n1, n2⟩ => ⟨r, rs, k.ext b e n1 n2, n1, n2⟩⟩
theorem TbsN.same {l : Addr} {H H' : Hp} {p : Int} {a : Addr} {ts : List Addr} {cs : List Tv} (h : TbsN l H p a ts cs) (s : Same H H') : TbsN l H' p a ts cs := ⟨s _ _ h.1, h.2.1, h.2.2.mono fun _ _ ⟨r, rs, k, n1, n2⟩ => ⟨r, rs, k.same s, n1, n2⟩⟩
def spLst : Sp := fun vs H Q _ => ∃ (l a : Addr) (p m : Int) (xs : List V) (ps : List (Int × Int)), vs = [.ref l, .int p, .int m, .ref a] ∧ Bag H l ∧ GroundP p ∧ H a = some (.lst xs) ∧ Prs H xs ps ∧ InP m ps ∧ ps.length ≤ 9 ∧ 1 ≤ m ∧ m ≤ 8 ∧ a ≠ l ∧
  ∀ (t z tl : Addr) (ns : List Int) (ts : List Addr) (cs : List Tv) (H' : Hp), Ext l H H' → Bag H' l → H' t = some (.tup [.ref z, .ref tl]) → H z = none → H tl = none → Sizes H' z ns → (ns.length : Int) = m → preSum (fun i => ns.getD i 0) ns.length ≤ 40 → TbsN l H' p tl ts cs → FT p cs → FitV ns cs ps → Q (.ref t) H'
theorem ok_lst {f : Addr} {fd : FuncData} (F : Fun K "_law_standing" "_law_standing" s_law_standing f fd) (T : Txt K mg C G S) (C_law_draw : Cal P w K mg base "_law_draw" 1 spDraw) (C_law_table : Cal P w K mg base "_law_table" 6 spTb) : FnOk P w K mg base CX0 7 f fd ["_law_bag_here", "_law_p", "_law_many", "_law_arrows"] spLst := by
  have nd := sc_law_standing.nd
  refine F.ok sc_law_standing (fun vs H Q E h => ?_) (fun cdv A outer s H vs Q E hr h => ?_)
  · obtain ⟨l, a, p, m, xs, ps, rfl, _⟩ := h
    rfl
  · obtain ⟨l, a, p, m, xs, ps, rfl, hb, hp, ha, pr, ip, p9, m1, m8, na, q⟩ := h
    refine ⟨_, (@pss_cons _ _ _ _ _ (ps_set (i := 4) nd rfl (Or.inr rfl) (@pe_lst _ _ _ _ pa_nil)) (@pss_cons _ _ _ _ _ (ps_set (i := 5) nd rfl (Or.inl rfl) pe_int) (@pss_cons _ _ _ _ _ (ps_for PassesOwn.never rfl (pi_r1 rfl T.n_range (@pa_c _ _ _ _ _ (pv 2) pa_nil (by rfl))) (@pg_name _ _ 6 _ nd rfl (Or.inl rfl) (Or.inl rfl)) (@pss_cons _ _ _ _ _ (ps_expr (pe_bm PySem.F.plainAttrs_list PySem.F.slot_list_append PySem.F.type_list_append mt_append (pv 4) (@pa_c _ _ _ _ _ (pe_cB (call_min2 rfl) rfl T.n_min boot_min (@pa_c _ _ _ _ _ (pv 5) (@pa_c _ _ _ _ _ (pe_c C_law_draw (hr.mono (by decide)) rfl (@pa_c _ _ _ _ _ (pv 0) (@pa_c _ _ _ _ _ pe_int pa_nil (by rfl)) (by rfl))) pa_nil (by rfl)) (by rfl))) pa_nil (by rfl)))) (@pss_one _ _ _ (ps_set (i := 5) nd rfl (Or.inl rfl) (@pe_op _ _ _ _ _ _ _ _ op_sub (pv 5) (@pe_ix _ _ _ _ _ _ _ ix_list (pv 4) (pe_un un_neg pe_int) (fun _ _ => rfl))))))) (@pss_cons _ _ _ _ _ (ps_comp (i := 7) (own := ["_law_tail", "_law_head"]) (fr := [("_law_bag_here", 0), ("_law_p", 1), ("_law_sizes", 4)]) rfl (bl_of (by kernel_rfl)) (pi_list (pv 3)) (fun _ _ _ _ => ⟨(@pg_tupK _ K rfl _ _ _ _ 2 rfl (@pgs_cons _ _ _ _ _ (@pg_name _ _ 0 _ (show (["_law_tail", "_law_head", "_law_bag_here", "_law_p", "_law_sizes"] : List Str).Nodup by decide +kernel) rfl (Or.inl rfl) (Or.inr rfl)) (@pgs_cons _ _ _ _ _ (@pg_name _ _ 1 _ (show (["_law_tail", "_law_head", "_law_bag_here", "_law_p", "_law_sizes"] : List Str).Nodup by decide +kernel) rfl (Or.inl rfl) (Or.inr rfl)) (@pgs_nil _) (by rfl)) (by rfl)) (by rfl) (by rfl)), pts_nil, (pe_c C_law_table (hr.mono (by decide)) rfl (@pa_c _ _ _ _ _ (pv 2) (@pa_c _ _ _ _ _ (pv 3) (@pa_c _ _ _ _ _ (@pe_ix _ _ _ _ _ _ _ (ix_listK K rfl) (pv 4) (pv 1) (fun _ _ => rfl)) (@pa_c _ _ _ _ _ (@pe_ix _ _ _ _ _ _ _ (ix_listK K rfl) (pv 4) (pv 0) (fun _ _ => rfl)) pa_nil (by rfl)) (by rfl)) (by rfl)) (by rfl)))⟩) nd rfl rfl rfl) (@pss_one _ _ _ (@ps_ret _ _ _ _ (@pe_tup _ _ _ _ _ (@pa_c _ _ _ _ _ (pv 4) (@pa_c _ _ _ _ _ (pv 7) pa_nil (by rfl)) (by rfl))))))))), ?_⟩
    walk_at "wp"
    refine ⟨Nat.zero_le _, fun z hz => ?_⟩
    have nz : z ≠ l := hb.ne hz
    have naz : a ≠ z := ne_of_none ha hz
    refine ⟨_, rfl, m, rfl, by omega, by omega, for_range (fun i σ H3 => ∃ (v6 : Option V) (le : Int) (ns : List Int), σ = [some (.ref l), some (.int p), some (.int m), some (.ref a), some (.ref z), some (.int le), v6, none] ∧ 0 ≤ le ∧ preSum (fun i => ns.getD i 0) ns.length + le = 7 ∧ Ext l H H3 ∧ Bag H3 l ∧ H3 z = some (.lst (ns.map V.int)) ∧ ns.length = i ∧ ∀ n ∈ ns, 0 ≤ n ∧ n ≤ 24)
      ⟨none, 7, [], rfl, by decide, rfl, Ext.new hz, hb.new nz, upd_same, rfl, by simp⟩ ?_ ?_⟩
    · rintro i σ H3 hi ⟨v6, le, ns, rfl, l0, l7, e3, b3, hz3, hln, hn⟩
      walk_at "wp"
      refine ⟨.inl ⟨rfl, _, SqL.of hz3⟩, b3.draw (by decide) (by decide) fun y H4 y0 y1 e4 b4 => ⟨le, y, ⟨rfl, rfl⟩, _, e4 _ _ nz hz3, small1000 (by rw [List.length_map]; omega), _, SqL.of upd_same, _, atI_last _ _, _, rfl, _, _, ⟨rfl, rfl⟩, ?_, ns ++ [if y < le then y else le], ?_, (e3.trans e4).upd hz, b4.new nz, by rw [upd_same, List.map_append]; rfl, by rw [List.length_append, hln]; rfl, fun n hnn => ?_⟩⟩
      · split <;> omega
      · rw [preSum_snoc]
        omega
      · rcases List.mem_append.mp hnn with h | h
        · exact hn n h
        · rw [List.mem_singleton.mp h]
          split <;> omega
    · rintro σ H3 ⟨v6, le, ns, rfl, l0, l7, e3, b3, hz3, hln, hn⟩
      walk_at "wp"
      have hxl := pr.1
      have ha3 := e3 _ _ na ha
      refine ⟨_, rfl, a, rfl, ⟨_, SqL.of ha3⟩, fun D hD => ?_⟩
      have nDl : D ≠ l := b3.ne hD
      have fD : H D = none := e3.free nDl hD
      have nzD : z ≠ D := ne_of_none hz3 hD
      refine comp_itl (k := 2) (xs := xs) (fun i vs H' => ∃ (ts : List Addr) (cs : List Tv), vs = ts.map V.ref ∧ Ext l H3 H' ∧ Bag H' l ∧ H' D = some (.lst vs) ∧ ts.length = i ∧ All2 (fun t c => ∃ r rs, TabV H' p c.1 c.2.1 t r rs c.2.2 ∧ (r ≠ l ∧ l ∉ rs) ∧ r ≠ D ∧ D ∉ rs) ts cs ∧ (∀ c ∈ cs, 0 ≤ c.1 ∧ c.1 ≤ 24 ∧ 0 ≤ c.2.1 ∧ c.2.1 ≤ 24 ∧ Shp c.1 c.2.1 c.2.2 ∧ GoodM p BB c.2.2) ∧ ∀ (j : Nat) c q, cs[j]? = some c → ps[j]? = some q → c.1 = ns.getD q.2.toNat 0 ∧ c.2.1 = ns.getD q.1.toNat 0)
        ⟨[], [], rfl, Ext.new hD, b3.new nDl, upd_same, rfl, All2.nil, by simp, fun j c q e => by simp at e⟩ (fun i vs H' _ ⟨_, _, _, e', _⟩ => SqL.of (e' _ _ na ha3)) ?_ ?_
      · rintro i x vs σ' H' hi hx sh ⟨ts, cs, rfl, e', b', hD', htl, al, hb24, hf⟩
        obtain ⟨z1, z2, rfl⟩ := sh.two
        have hq : ps[i]? = some (ps[i]'(by omega)) := List.getElem?_eq_getElem (by omega)
        obtain ⟨ta, rfl, hta⟩ := (pr.bag hb (e3.trans e')).2 i x _ hx hq
        have hz' := e' _ _ nz hz3
        obtain ⟨i0, i1, j0, j1⟩ := ip _ (List.mem_of_getElem? hq)
        have a1 := at_int (ns := ns) i0 (by omega)
        have a2 := at_int (ns := ns) j0 (by omega)
        have b1 := hn (ns.getD ps[i].1.toNat 0) (by rw [List.getD_eq_getElem?_getD, List.getElem?_eq_getElem (show ps[i].1.toNat < ns.length by omega)]; exact List.getElem_mem _)
        have b2 := hn (ns.getD ps[i].2.toNat 0) (by rw [List.getD_eq_getElem?_getD, List.getElem?_eq_getElem (show ps[i].2.toNat < ns.length by omega)]; exact List.getElem_mem _)
        refine ⟨ta, _, rfl, SqT.of hta, rfl, _, _, rfl, _, _, rfl, rfl, ?_⟩
        simp only [tYes, List.set_cons_zero, List.set_cons_succ, if_true]
        refine ⟨_, rfl, _, rfl, _, rfl, _, rfl, z, _, _, _, rfl, rfl, SqL.of hz', a2, _, rfl, _, rfl, z, _, _, _, rfl, rfl, SqL.of hz', a1, l, p, _, _, rfl, b', hp, b2.1, b2.2, b1.1, b1.2, fun t r rs H4 e4 b4 ft fr fs tb => ?_⟩
        obtain ⟨M, tv, shp, gd⟩ := tb.byV
        have hD4 := e4 _ _ nDl hD'
        have n3 : r ≠ D := fun z => by rw [z, hD'] at fr; cases fr
        have n4 : D ∉ rs := fun z => by have := fs D z; rw [hD'] at this; cases this
        have al1 := al.1
        refine leaf (ws := ts.map V.ref ++ [.ref t]) hi Sh.mk2 hD4 (small1000 (by rw [List.length_map]; omega)) ⟨ts ++ [t], cs ++ [(ns.getD ps[i].2.toNat 0, ns.getD ps[i].1.toNat 0, M)], map_ref_snoc _ _, (e'.trans e4).upd hD, b4.new nDl, by rw [upd_same], by rw [List.length_append, htl]; rfl, (al.mono fun _ _ ⟨r', rs', k, k2, k3, k4⟩ => ⟨r', rs', (k.ext b' e4 k2.1 k2.2).put hD4 k3 k4, k2, k3, k4⟩).app (All2.one ⟨r, rs, tv.put hD4 n3 n4, ⟨b'.ne fr, fun z => absurd rfl (b'.ne (fs l z))⟩, n3, n4⟩), fun c hc => ?_, fun j c q' e1 e2 => ?_⟩
        · rcases List.mem_append.mp hc with h | h
          · exact hb24 c h
          · rw [List.mem_singleton.mp h]; exact ⟨b2.1, b2.2, b1.1, b1.2, shp, gd⟩
        · by_cases hj : j < cs.length
          · rw [List.getElem?_append_left hj] at e1
            exact hf j c q' e1 e2
          · rw [List.getElem?_append_right (by omega)] at e1
            have hj0 : j - cs.length = 0 := by
              by_cases z : j - cs.length = 0
              · exact z
              · rw [List.getElem?_eq_none (by simp; omega)] at e1; cases e1
            rw [hj0] at e1
            cases e1
            rw [show j = i by omega, hq] at e2
            cases e2
            exact ⟨rfl, rfl⟩
      · rintro vs H4 ⟨ts, cs, rfl, e4, b4, hD4, htl, al, hb24, hf⟩
        refine ⟨by decide, fun t ht => ?_⟩
        have s5 := Same.new (o := .tup [V.ref z, V.ref D]) ht
        have al1 := al.1
        exact q t z D ns ts cs _ ((e3.trans e4).trans s5.ext) (b4.same s5) upd_same hz fD ⟨s5 _ _ (e4 _ _ nz hz3), by omega, hn⟩ (by omega) (by omega) ⟨s5 _ _ hD4, nDl, al.mono fun _ _ ⟨r', rs', k, k2, _⟩ => ⟨r', rs', k.same s5, k2.1, k2.2⟩⟩ ⟨by omega, hb24⟩ ⟨by omega, hf⟩
end
end Pf
set_option maxHeartbeats 1000000
namespace Pf
open PySem L2 PyProof.Rows
section
variable {P : Program} {w : World} {K : PySem.W.Frag} {mg : Str → Option Value} {base : Heap} {C G S : Addr}
theorem ints_self {H : Hp} {n : Nat} {ns : List Int} : ∀ (j : Nat) x y, (ns.map V.int)[j]? = some x → (ns.map V.int)[j]? = some y → EqD K H n x y true := fun j x y e1 e2 => by
  rw [e1] at e2
  cases e2
  rw [List.getElem?_map] at e1
  cases f1 : ns[j]? with
  | none => rw [f1] at e1; cases e1
  | some t => rw [f1] at e1; cases e1; exact int_self
theorem run_ground {H : Hp} {p : Int} {R : Addr → Hp → Prop} (hp : GroundP p) (k : ∀ g H', Same H H' → GAt G H' g p → R g H') : ∀ x dx, H x = none → H dx = none → dx ≠ x → spGInit G [.ref x, .int p] (upd (upd H dx (.own x)) x (.ins G dx [])) (fun v H2 => v = .non ∧ R x H2) E0 := by
  intro g dg hg hdg ndg
  have fg : (upd H dg (.own g)) g = none := by rw [upd_ne ndg.symm]; exact hg
  have sg : Same H (upd (upd H dg (.own g)) g (.ins G dg [])) := (Same.new hdg).trans (Same.new fg)
  exact ⟨g, dg, p, rfl, upd_same, hp, fun H1 ex1 hg1 => ⟨rfl, k g H1 (Same.thru sg hg ex1) ⟨dg, hg1⟩⟩⟩
theorem run_draw {H : Hp} {m : Int} {e : Addr} {xs : List V} {ps : List (Int × Int)} {R : Addr → Hp → Prop} (m0 : 1 ≤ m) (m8 : m ≤ 8) (he : H e = some (.lst xs)) (pr : Prs H xs ps) (ip : InP m ps) (p9 : ps.length ≤ 9) (k : ∀ d lp H', Same H H' → DrawAt C H' d m lp xs → H lp = none → R d H') :
    ∀ x dx, H x = none → H dx = none → dx ≠ x → spInit C [.ref x, .int m, .ref e] (upd (upd H dx (.own x)) x (.ins C dx [])) (fun v H2 => v = .non ∧ R x H2) E0 := by
  intro d dd hd hdd ndd
  have fd0 : (upd H dd (.own d)) d = none := by rw [upd_ne ndd.symm]; exact hd
  have sd : Same H (upd (upd H dd (.own d)) d (.ins C dd [])) := (Same.new hdd).trans (Same.new fd0)
  have := pr.1
  exact ⟨d, dd, m, e, xs, rfl, upd_same, m0, m8, sd _ _ he, by omega, (edges_of pr ip).same sd, fun lp H3 ex3 hd3 flp hlp => ⟨rfl, k d lp H3 (Same.thru sd hd ex3) ⟨dd, hd3, hlp⟩ (sd.free flp)⟩⟩
theorem NumV.keep {U : Addr → Prop} {H H' : Hp} {p : Int} {v : V} {x : Nv} (h : NumV H p v x) (hU : ∀ b, U b → ∃ xs, H b = some (.lst xs)) (k : Keep U H H') : NumV H' p v x := by
  by_cases hp : p = 0
  · obtain ⟨t, rfl, ht⟩ := h.ref hp
    exact NumV.tup hp (k _ _ (fun u => by obtain ⟨xs, e⟩ := hU _ u; rw [ht] at e; cases e) ht)
  · obtain rfl := h.int hp
    exact NumV.of hp
theorem RelT.keep {U : Addr → Prop} {H H' : Hp} {p : Int} {c : Tc} {c' : Tv} (h : RelT H p c c') (hU : ∀ b, U b → ∃ xs, H b = some (.lst xs)) (k : Keep U H H') : RelT H' p c c' := ⟨h.1, h.2.1, h.2.2.mono fun _ _ a => a.mono fun _ _ n => n.keep hU k⟩
theorem Same.keep {U : Addr → Prop} {H0 H H' : Hp} (s : Same H0 H) (n : ∀ b, U b → H0 b = none) (k : Keep U H H') : Same H0 H' := fun b o e => k b o (fun u => by rw [n b u] at e; cases e) (s b o e)
theorem Std.same {S G : Addr} {H H' : Hp} {x g d z l : Addr} {p m : Int} {ps : List (Int × Int)} {ns : List Int} {ts : List Addr} {cs : List Tv} (h : Std S C G H x g d z l p m ps ns ts cs) (s : Same H H') : Std S C G H' x g d z l p m ps ns ts cs :=
  ⟨let ⟨dx, e⟩ := h.at'; ⟨dx, s _ _ e⟩, h.gr.same s, let ⟨lp, xs, ⟨dx, a, b⟩, c⟩ := h.dr; ⟨lp, xs, ⟨dx, s _ _ a, s _ _ b⟩, c.same s⟩, h.sz.same s, h.tb.same s⟩
def spIs (S C G : Addr) : Sp := fun vs H Q _ => ∃ (x g d z l z0 l0 : Addr) (p m : Int) (ps : List (Int × Int)) (ns : List Int) (ts ts0 : List Addr) (cs : List Tv), vs = [.int p, .ref x, .ref z0, .ref l0] ∧ GroundP p ∧ Std S C G H x g d z l p m ps ns ts cs ∧ Sizes H z0 ns ∧ TbsV H p l0 ts0 cs ∧ FT p cs ∧ ∀ H', Same H H' → Q (.bl true) H'
theorem ok_is {f : Addr} {fd : FuncData} (F : Fun K "_law_is" "_law_is" s_law_is f fd) (T : Txt K mg C G S) (C_law_whole : Cal P w K mg base "_law_whole" 1 spWhole) (C_law_good : Cal P w K mg base "_law_good" 3 spGood) : FnOk P w K mg base CX0 4 f fd ["_law_p", "_law_found", "_law_sizes", "_law_tables"] (spIs S C G) := by
  have nd := sc_law_is.nd
  refine F.ok sc_law_is (fun vs H Q E h => ?_) (fun cdv A outer s H vs Q E hr h => ?_)
  · obtain ⟨x, g, d, z, l, z0, l0, p, m, ps, ns, ts, ts0, cs, rfl, _⟩ := h
    rfl
  · obtain ⟨x, g, d, z, l, z0, l0, p, m, ps, ns, ts, ts0, cs, rfl, hp, st, hz0, hT0, ft, q⟩ := h
    have hu8 := room8 hr
    refine ⟨_, (@pss_cons _ _ _ _ _ (@ps_if _ _ _ _ _ _ _ _ (PW.pt (pw_or (pt_val (pe_cB call_isinst rfl T.n_isinstance boot_isinstance (@pa_c _ _ _ _ _ (pv 1) (@pa_c _ _ _ _ _ (pe_ty rfl T.n_str boot_str) pa_nil (by rfl)) (by rfl)))) (pw_or (pt_not (pt_val (pe_cB call_isinst rfl T.n_isinstance boot_isinstance (@pa_c _ _ _ _ _ (pe_fld (pv 1) rfl) (@pa_c _ _ _ _ _ (pe_ty rfl T.n_list boot_list) pa_nil (by rfl)) (by rfl))))) (pw_or1 (pt_cmpR (op_neL hu8) (pe_fld (pv 1) rfl) (pv 2) (nomark _)))))) (@pss_one _ _ _ (@ps_ret _ _ _ _ pe_bl)) pss_nil) (@pss_cons _ _ _ _ _ (@ps_if _ _ _ _ _ _ _ _ (PW.pt (pw_or (pt_not (pt_val (pe_cB (call_all rfl) rfl T.n_all boot_all (@pa_c _ _ _ _ _ (pe_comp (own := ["_law_size"]) (fr := []) rfl (bl_of (by kernel_rfl)) (pi_list (pe_fld (pv 1) rfl)) (fun _ _ _ _ => ⟨(@pg_name _ _ 0 _ (show (["_law_size"] : List Str).Nodup by decide +kernel) rfl (Or.inl rfl) (Or.inr rfl)), pts_nil, (pe_c C_law_whole (hr.mono (by decide)) rfl (@pa_c _ _ _ _ _ (pv 0) pa_nil (by rfl)))⟩)) pa_nil (by rfl))))) (pw_or1 (pt_cmpR op_ne (pe_cB call_len_seq rfl T.n_len PySem.boot_len (@pa_c _ _ _ _ _ (pe_fld (pv 1) rfl) pa_nil (by rfl))) (pe_cB call_len_seq rfl T.n_len PySem.boot_len (@pa_c _ _ _ _ _ (pv 3) pa_nil (by rfl))) (nomark _))))) (@pss_one _ _ _ (@ps_ret _ _ _ _ pe_bl)) pss_nil) (@pss_one _ _ _ (@ps_ret _ _ _ _ (pe_cB (call_all rfl) rfl T.n_all boot_all (@pa_c _ _ _ _ _ (pe_comp (own := ["_law_one", "_law_due"]) (fr := [("_law_p", 0)]) rfl (bl_of (by kernel_rfl)) (pi_zip rfl T.n_zip (@pa_c _ _ _ _ _ (pe_fld (pv 1) rfl) (@pa_c _ _ _ _ _ (pv 3) pa_nil (by rfl)) (by rfl))) (fun _ _ _ _ => ⟨(@pg_tupK _ K rfl _ _ _ _ 2 rfl (@pgs_cons _ _ _ _ _ (@pg_name _ _ 0 _ (show (["_law_one", "_law_due", "_law_p"] : List Str).Nodup by decide +kernel) rfl (Or.inl rfl) (Or.inr rfl)) (@pgs_cons _ _ _ _ _ (@pg_name _ _ 1 _ (show (["_law_one", "_law_due", "_law_p"] : List Str).Nodup by decide +kernel) rfl (Or.inl rfl) (Or.inr rfl)) (@pgs_nil _) (by rfl)) (by rfl)) (by rfl) (by rfl)), pts_nil, (pe_c C_law_good (hr.mono (by decide)) rfl (@pa_c _ _ _ _ _ (pv 2) (@pa_c _ _ _ _ _ (pv 0) (@pa_c _ _ _ _ _ (pv 1) pa_nil (by rfl)) (by rfl)) (by rfl)))⟩)) pa_nil (by rfl))))))), ?_⟩
    walk_at "wp"
    obtain ⟨dx, hx⟩ := st.at'
    obtain ⟨hz1, h8, hn⟩ := st.sz
    have hl1 := st.tb.lst
    have tl := st.tb.tab.1
    have tl0 := hT0.tab.1
    have c9 := ft.1
    refine ⟨_, _, ⟨rfl, rfl⟩, _, rfl, _, .ins hx T.cl_Standing T.ic1 T.ic2 T.ic3 T.ic4, false, T.ks, iteN (by decide) ?_⟩
    refine ⟨S, dx, _, hx, T.cl_Standing, T.nSs, _, sf_sizes .., _, _, ⟨rfl, rfl⟩, _, rfl, _, .lst hz1, true, k_list_list K, iteN (by decide) ?_⟩
    refine ⟨S, dx, _, hx, T.cl_Standing, T.nSs, _, sf_sizes .., z, rfl, _, SqL.of hz1, _, SqL.of hz0.1, .inr ⟨_, items_of rfl ints_self, iteN (by rw [rep_all]; decide) ?_⟩⟩
    refine ⟨_, rfl, x, S, dx, _, _, rfl, hx, T.cl_Standing, T.nSs, sf_sizes .., z, rfl, ⟨_, SqL.of hz1⟩, fun D hD => comp_bl_l (fun _ => true) hz1 hD (by rw [List.length_map]; omega) (fun i v H' Q' hv s' q' => ?_) fun H1 s1 e1 => ?_⟩
    · rw [List.getElem?_map] at hv
      cases e : ns[i]? with
      | none => rw [e] at hv; cases hv
      | some n =>
        rw [e] at hv
        cases hv
        exact ⟨_, rfl, n, rfl, q' H' (Same.refl _)⟩
    · refine ⟨D, rfl, _, SqL.of e1, iteN (by simp) ⟨S, dx, _, s1 _ _ hx, T.cl_Standing, T.nSt, _, sf_tables .., l, rfl, _, .inl (SqL.of (s1 _ _ hl1)), _, .inl (SqL.of (s1 _ _ hT0.lst)), iteN (by rw [List.length_map, List.length_map, decide_eq_true (by omega)]; decide) ?_⟩⟩
      have hl2 := s1 _ _ hl1
      have tb2 := st.tb.same s1
      have tb0 := hT0.same s1
      refine ⟨_, rfl, x, S, dx, _, _, rfl, s1 _ _ hx, T.cl_Standing, T.nSt, sf_tables .., _, rfl, l, l0, rfl, ⟨_, SqL.of hl2⟩, ⟨_, SqL.of tb0.lst⟩, fun D2 hD2 => ?_⟩
      refine comp_itz (k := 2) (xs := ts.map V.ref) (ys := ts0.map V.ref) (fun i vs H' => Same H1 H' ∧ H' D2 = some (.lst vs) ∧ vs = ((List.range i).map fun _ => true).map V.bl) (by rw [List.length_map, List.length_map]; omega) ⟨Same.new hD2, upd_same, rfl⟩ (fun i vs H' _ pv => ⟨SqL.of (pv.1 _ _ hl2), SqL.of (pv.1 _ _ tb0.lst)⟩) ?_ ?_
      · rintro i u v pz vs σ' H' hi hu hv hpz sh ⟨s', e', rfl⟩
        obtain ⟨z1, z2, rfl⟩ := sh.two
        obtain ⟨hic, t, r, rs, rfl, et, tb⟩ := (tb2.same s').at hu
        obtain ⟨_, t', r', rs', rfl, et', tb'⟩ := (tb0.same s').at hv
        obtain ⟨a1, a2, a3, a4, shp, gd⟩ := ft.at hic
        have s0 := Same.new (o := .tup [V.ref t, V.ref t']) hpz
        refine ⟨pz, _, rfl, SqT.of upd_same, rfl, _, _, rfl, _, _, rfl, rfl, ?_⟩
        simp only [tYes, List.set_cons_zero, List.set_cons_succ, if_true]
        refine ⟨_, rfl, _, rfl, _, rfl, p, _, _, t, r, t', r', rs, rs', _, rfl, hp, tb.same s0, tb'.same s0, fun row hrow => by have := shp.2 row hrow; omega, fun H'' s'' => ?_⟩
        have s2 := s0.trans s''
        exact leaf (ws := ((List.range (i + 1)).map fun _ => true).map V.bl) hi Sh.mk2 (s2 _ _ e') (small1000 (by rw [List.length_map] at hi; rw [List.length_map, List.length_map, List.length_range]; omega)) ⟨(s'.trans s2).upd hD2, by rw [upd_same, List.range_succ, List.map_append, List.map_append]; rfl, rfl⟩
      · rintro vs H' ⟨s', e', rfl⟩
        exact ⟨D2, rfl, _, SqL.of e', by rw [all_true]; exact q H' (s1.trans s')⟩
end
end Pf
set_option maxHeartbeats 1000000
namespace Pf
open PySem L2 PyProof.Rows
section
variable {P : Program} {w : World} {K : PySem.W.Frag} {mg : Str → Option Value} {base : Heap} {C G S : Addr}
theorem cutV_map (ns : List Int) (lo hi : Option Int) : ∃ ms : List Int, cutV (ns.map V.int) lo hi = ms.map V.int ∧ ms.length ≤ ns.length := by
  refine ⟨(ns.drop (HT.sIx (ns.map V.int).length 0 lo)).take (HT.sIx (ns.map V.int).length (ns.map V.int).length hi - HT.sIx (ns.map V.int).length 0 lo), ?_, ?_⟩
  · unfold cutV
    rw [List.map_take, List.map_drop]
  · rw [List.length_take, List.length_drop]
    omega
theorem ends_cut {A : TS} {D : Ends} {σ : L2.St} {H : Hp} (h : ∀ D', D' = D → A D' σ H) : A D σ H := h D rfl
theorem cut3 {A B C' X : TS} {D : Ends} {σ : L2.St} {H : Hp} (h : ∀ X', X' = X → tSeq A (tSeq B (tSeq C' X')) D σ H) : tSeq A (tSeq B (tSeq C' X)) D σ H := h X rfl
theorem cut4 {A1 A2 A3 A4 X : TS} {D : Ends} {σ : L2.St} {H : Hp} (h : ∀ X', X' = X → tSeq A1 (tSeq A2 (tSeq A3 (tSeq A4 X'))) D σ H) : tSeq A1 (tSeq A2 (tSeq A3 (tSeq A4 X))) D σ H := h X rfl
theorem cut_upto (xs : List V) {m : Int} (h0 : 0 ≤ m) (h1 : m ≤ xs.length) : cutV xs none (some m) = xs.take m.toNat := by
  unfold cutV
  have h2 : HT.sIx xs.length 0 none = 0 := rfl
  rw [h2, List.drop_zero, Nat.sub_zero]
  have : HT.sIx xs.length xs.length (some m) = m.toNat := by
    simp only [HT.sIx]
    rw [if_neg (by omega)]
    omega
  rw [this]
abbrev bigSz (d : Int) : List Int := [24, 16 - d, 0, 0, 0, 0, 0, 0]
theorem big_len (d : Int) {m : Int} (h1 : 1 ≤ m) (h8 : m ≤ 8) : (((bigSz d).take m.toNat).length : Int) = m := by
  rw [List.length_take]
  show ((min m.toNat 8 : Nat) : Int) = m
  omega
theorem big_in {d m : Int} (h0 : 0 ≤ d) (h2 : d < 2) : ∀ n ∈ (bigSz d).take m.toNat, 0 ≤ n ∧ n ≤ 24 := fun n hn => by
  have := List.mem_of_mem_take hn
  simp only [bigSz, List.mem_cons, List.not_mem_nil, or_false] at this
  rcases this with rfl | rfl | rfl | rfl | rfl | rfl | rfl | rfl <;> omega
theorem big_sum {d m : Int} (h0 : 0 ≤ d) (h1 : 1 ≤ m) (h8 : m ≤ 8) : preSum (fun i => ((bigSz d).take m.toNat).getD i 0) ((bigSz d).take m.toNat).length ≤ 40 := by
  have : m = 1 ∨ m = 2 ∨ m = 3 ∨ m = 4 ∨ m = 5 ∨ m = 6 ∨ m = 7 ∨ m = 8 := by omega
  rcases this with rfl | rfl | rfl | rfl | rfl | rfl | rfl | rfl
  · show (0 : Int) + 24 ≤ 40; omega
  · show (0 : Int) + 24 + (16 - d) ≤ 40; omega
  · show (0 : Int) + 24 + (16 - d) + 0 ≤ 40; omega
  · show (0 : Int) + 24 + (16 - d) + 0 + 0 ≤ 40; omega
  · show (0 : Int) + 24 + (16 - d) + 0 + 0 + 0 ≤ 40; omega
  · show (0 : Int) + 24 + (16 - d) + 0 + 0 + 0 + 0 ≤ 40; omega
  · show (0 : Int) + 24 + (16 - d) + 0 + 0 + 0 + 0 + 0 ≤ 40; omega
  · show (0 : Int) + 24 + (16 - d) + 0 + 0 + 0 + 0 + 0 + 0 ≤ 40; omega
def spLaw (K : PySem.W.Frag) : Sp := fun vs H Q _ => ∃ (a : Addr) (ns : List Int), vs = [.ref a] ∧ SqL K H a (ns.map V.int) ∧ ns.length ≤ 63 ∧ ∀ H', Q (.bl true) H'
theorem ok_law {f : Addr} {fd : FuncData} (F : Fun K "law" "law" s_law f fd) (T : Txt K mg C G S) (C_law_cell : Cal P w K mg base "_law_cell" 1 (spCell K)) (C_law_bag : Cal P w K mg base "_law_bag" 1 spBag) (C_law_draw : Cal P w K mg base "_law_draw" 1 spDraw) (C_law_prime : Cal P w K mg base "_law_prime" 2 spPr)
    (C_law_drawing : Cal P w K mg base "_law_drawing" 2 (spOut way0)) (C_law_standing : Cal P w K mg base "_law_standing" 7 spLst) (C_law_copy : Cal P w K mg base "_law_copy" 1 spCopy) (C_Ground : CalI P w K mg base "Ground" G 3 (spGInit G)) (C_Drawing : CalI P w K mg base "Drawing" C 4 (spInit C)) (C_Standing : CalI P w K mg base "Standing" S 8 (spSI S C G))
    (C_law_standing_shown : Cal P w K mg base "_law_standing_shown" 3 spLss) (C_show_standing : Cal P w K mg base "show_standing" 5 (spShS S C G)) (C_read_standing : Cal P w K mg base "read_standing" 10 (spRs S C G)) (C_law_is : Cal P w K mg base "_law_is" 4 (spIs S C G)) : FnOk P w K mg base CX0 12 f fd ["_law_script"] (spLaw K) := by
  have nd := sc_law.nd
  refine F.ok sc_law (fun vs H Q E h => ?_) (fun cdv A outer s H vs Q E hr h => ?_)
  · obtain ⟨a, ns, rfl, _⟩ := h
    rfl
  · obtain ⟨a, ns, rfl, hS, hl, q⟩ := h
    have hu8 := room8 hr
    refine ⟨_, (@pss_cons _ _ _ _ _ (ps_for PassesOwn.never rfl (pi_list (@pe_op _ _ _ _ _ _ _ _ op_cat (@pe_lst _ _ _ _ (@pa_c _ _ _ _ _ (pe_c C_law_cell (hr.mono (by decide)) rfl (@pa_c _ _ _ _ _ (pv 0) (@pa_c _ _ _ _ _ pe_int pa_nil (by rfl)) (by rfl))) (@pa_c _ _ _ _ _ pe_int pa_nil (by rfl)) (by rfl))) (@pe_slice _ _ _ _ _ _ _ _ _ _ sl_list (pv 0) (@po_some _ _ _ pe_int) (@po_some _ _ _ pe_int)))) (@pg_name _ _ 1 _ nd rfl (Or.inl rfl) (Or.inl rfl)) (@pss_cons _ _ _ _ _ (ps_set (i := 2) nd rfl (Or.inl rfl) (pe_c C_law_bag (hr.mono (by decide)) rfl (@pa_c _ _ _ _ _ (pv 1) pa_nil (by rfl)))) (@pss_cons _ _ _ _ _ (ps_set (i := 3) nd rfl (Or.inl rfl) (pe_c C_law_prime (hr.mono (by decide)) rfl (@pa_c _ _ _ _ _ (pv 2) pa_nil (by rfl)))) (@pss_cons _ _ _ _ _ (ps_asg (pe_c C_law_drawing (hr.mono (by decide)) rfl (@pa_c _ _ _ _ _ (pv 2) pa_nil (by rfl))) (@pg_tup _ _ _ _ _ 2 rfl (@pgs_cons _ _ _ _ _ (@pg_name _ _ 4 _ nd rfl (Or.inl rfl) (Or.inl rfl)) (@pgs_cons _ _ _ _ _ (@pg_name _ _ 5 _ nd rfl (Or.inl rfl) (Or.inl rfl)) (@pgs_nil _) (by rfl)) (by rfl)) (by rfl) (by rfl))) (@pss_cons _ _ _ _ _ (ps_asg (pe_c C_law_standing (hr.mono (by decide)) rfl (@pa_c _ _ _ _ _ (pv 2) (@pa_c _ _ _ _ _ (pv 3) (@pa_c _ _ _ _ _ (pv 4) (@pa_c _ _ _ _ _ (pv 5) pa_nil (by rfl)) (by rfl)) (by rfl)) (by rfl))) (@pg_tup _ _ _ _ _ 2 rfl (@pgs_cons _ _ _ _ _ (@pg_name _ _ 6 _ nd rfl (Or.inl rfl) (Or.inl rfl)) (@pgs_cons _ _ _ _ _ (@pg_name _ _ 7 _ nd rfl (Or.inl rfl) (Or.inl rfl)) (@pgs_nil _) (by rfl)) (by rfl)) (by rfl) (by rfl))) (@pss_cons _ _ _ _ _ (@ps_if _ _ _ _ _ _ _ _ (pt_cmpR op_eq (pe_c C_law_draw (hr.mono (by decide)) rfl (@pa_c _ _ _ _ _ (pv 2) (@pa_c _ _ _ _ _ pe_int pa_nil (by rfl)) (by rfl))) pe_int (nomark _)) (@pss_cons _ _ _ _ _ (ps_set (i := 5) nd rfl (Or.inl rfl) (@pe_lst _ _ _ _ pa_nil)) (@pss_cons _ _ _ _ _ (ps_set (i := 7) nd rfl (Or.inl rfl) (@pe_lst _ _ _ _ pa_nil)) (@pss_one _ _ _ (ps_set (i := 6) nd rfl (Or.inl rfl) (@pe_slice _ _ _ _ _ _ _ _ _ _ sl_list (@pe_lst _ _ _ _ (@pa_c _ _ _ _ _ pe_int (@pa_c _ _ _ _ _ (@pe_op _ _ _ _ _ _ _ _ op_sub pe_int (pe_c C_law_draw (hr.mono (by decide)) rfl (@pa_c _ _ _ _ _ (pv 2) (@pa_c _ _ _ _ _ pe_int pa_nil (by rfl)) (by rfl)))) (@pa_c _ _ _ _ _ pe_int (@pa_c _ _ _ _ _ pe_int (@pa_c _ _ _ _ _ pe_int (@pa_c _ _ _ _ _ pe_int (@pa_c _ _ _ _ _ pe_int (@pa_c _ _ _ _ _ pe_int pa_nil (by rfl)) (by rfl)) (by rfl)) (by rfl)) (by rfl)) (by rfl)) (by rfl)) (by rfl))) po_none (@po_some _ _ _ (pv 4))))))) pss_nil) (@pss_cons _ _ _ _ _ (ps_set (i := 8) nd rfl (Or.inl rfl) (@pe_lst _ _ _ _ (@pa_c _ _ _ _ _ (pe_cT call_list_of rfl T.n_list boot_list (@pa_c _ _ _ _ _ (pv 6) pa_nil (by rfl))) (@pa_c _ _ _ _ _ (pe_comp (own := ["_law_table_here"]) (fr := []) rfl (bl_of (by kernel_rfl)) (pi_list (pv 7)) (fun _ _ _ _ => ⟨(@pg_name _ _ 0 _ (show (["_law_table_here"] : List Str).Nodup by decide +kernel) rfl (Or.inl rfl) (Or.inr rfl)), pts_nil, (pe_c C_law_copy (hr.mono (by decide)) rfl (@pa_c _ _ _ _ _ (pv 0) pa_nil (by rfl)))⟩)) pa_nil (by rfl)) (by rfl)))) (@pss_cons _ _ _ _ _ (ps_set (i := 9) nd rfl (Or.inl rfl) (pe_n C_Ground (hr.mono (by decide)) rfl (@pa_c _ _ _ _ _ (pv 3) pa_nil (by rfl)))) (@pss_cons _ _ _ _ _ (ps_set (i := 10) nd rfl (Or.inl rfl) (pe_n C_Drawing (hr.mono (by decide)) rfl (@pa_c _ _ _ _ _ (pv 4) (@pa_c _ _ _ _ _ (pe_cT call_list_of rfl T.n_list boot_list (@pa_c _ _ _ _ _ (pv 5) pa_nil (by rfl))) pa_nil (by rfl)) (by rfl)))) (@pss_cons _ _ _ _ _ (ps_set (i := 11) nd rfl (Or.inl rfl) (pe_n C_Standing (hr.mono (by decide)) rfl (@pa_c _ _ _ _ _ (pv 9) (@pa_c _ _ _ _ _ (pv 10) (@pa_c _ _ _ _ _ (@pe_ix _ _ _ _ _ _ _ ix_list (pv 8) pe_int (fun _ _ => rfl)) (@pa_c _ _ _ _ _ (@pe_ix _ _ _ _ _ _ _ ix_list (pv 8) pe_int (fun _ _ => rfl)) pa_nil (by rfl)) (by rfl)) (by rfl)) (by rfl)))) (@pss_cons _ _ _ _ _ (ps_set (i := 12) nd rfl (Or.inl rfl) (pe_c C_law_standing_shown (hr.mono (by decide)) rfl (@pa_c _ _ _ _ _ (pv 3) (@pa_c _ _ _ _ _ (@pe_tup _ _ _ _ _ (@pa_c _ _ _ _ _ (pv 6) (@pa_c _ _ _ _ _ (pv 7) pa_nil (by rfl)) (by rfl))) pa_nil (by rfl)) (by rfl)))) (@pss_cons _ _ _ _ _ (@ps_if _ _ _ _ _ _ _ _ (pt_cmpR op_ne (pe_c C_show_standing (hr.mono (by decide)) rfl (@pa_c _ _ _ _ _ (pv 11) pa_nil (by rfl))) (pv 12) (nomark _)) (@pss_one _ _ _ (@ps_ret _ _ _ _ pe_bl)) pss_nil) (@pss_cons _ _ _ _ _ (ps_expr (pe_bm PySem.F.plainAttrs_list PySem.F.slot_list_append PySem.F.type_list_append mt_append (@pe_ix _ _ _ _ _ _ _ ix_list (pv 8) pe_int (fun _ _ => rfl)) (@pa_c _ _ _ _ _ pe_int pa_nil (by rfl)))) (@pss_cons _ _ _ _ _ (ps_for PassesOwn.never rfl (pi_list (@pe_ix _ _ _ _ _ _ _ ix_list (pv 8) pe_int (fun _ _ => rfl))) (@pg_name _ _ 13 _ nd rfl (Or.inl rfl) (Or.inl rfl)) (@pss_one _ _ _ (ps_expr (pe_bm PySem.F.plainAttrs_list PySem.F.slot_list_append PySem.F.type_list_append mt_append (@pe_ix _ _ _ _ _ _ _ ix_tup (pv 13) pe_int (fun _ _ => rfl)) (@pa_c _ _ _ _ _ (@pe_lst _ _ _ _ pa_nil) pa_nil (by rfl)))))) (@pss_cons _ _ _ _ _ (@ps_if _ _ _ _ _ _ _ _ (pt_cmpR op_ne (pe_c C_show_standing (hr.mono (by decide)) rfl (@pa_c _ _ _ _ _ (pv 11) pa_nil (by rfl))) (pv 12) (nomark _)) (@pss_one _ _ _ (@ps_ret _ _ _ _ pe_bl)) pss_nil) (@pss_cons _ _ _ _ _ (ps_set (i := 14) nd rfl (Or.inl rfl) (pe_c C_read_standing (hr.mono (by decide)) rfl (@pa_c _ _ _ _ _ (pv 9) (@pa_c _ _ _ _ _ (pv 10) (@pa_c _ _ _ _ _ (pv 12) pa_nil (by rfl)) (by rfl)) (by rfl)))) (@pss_cons _ _ _ _ _ (ps_set (i := 15) nd rfl (Or.inl rfl) (pe_c C_read_standing (hr.mono (by decide)) rfl (@pa_c _ _ _ _ _ (pv 9) (@pa_c _ _ _ _ _ (pv 10) (@pa_c _ _ _ _ _ (pv 12) pa_nil (by rfl)) (by rfl)) (by rfl)))) (@pss_cons _ _ _ _ _ (@ps_if _ _ _ _ _ _ _ _ (PW.pt (pw_or (pt_not (pt_val (pe_c C_law_is (hr.mono (by decide)) rfl (@pa_c _ _ _ _ _ (pv 3) (@pa_c _ _ _ _ _ (pv 14) (@pa_c _ _ _ _ _ (pv 6) (@pa_c _ _ _ _ _ (pv 7) pa_nil (by rfl)) (by rfl)) (by rfl)) (by rfl))))) (pw_or (pt_cmpR op_ne (pe_fld (pe_fld (pv 14) rfl) rfl) (pv 3) (nomark _)) (pw_or1 (pt_cmpR (op_neL hu8) (pe_fld (pe_fld (pv 14) rfl) rfl) (pv 5) (nomark _)))))) (@pss_one _ _ _ (@ps_ret _ _ _ _ pe_bl)) pss_nil) (@pss_one _ _ _ (@ps_if _ _ _ _ _ _ _ _ (PW.pt (pw_or (pt_not (pt_val (pe_c C_law_is (hr.mono (by decide)) rfl (@pa_c _ _ _ _ _ (pv 3) (@pa_c _ _ _ _ _ (pv 15) (@pa_c _ _ _ _ _ (pv 6) (@pa_c _ _ _ _ _ (pv 7) pa_nil (by rfl)) (by rfl)) (by rfl)) (by rfl))))) (pw_or1 (pt_cmpR op_ne (pe_fld (pe_fld (pv 15) rfl) rfl) (pv 4) (nomark _))))) (@pss_one _ _ _ (@ps_ret _ _ _ _ pe_bl)) pss_nil)))))))))))))))))))) (@pss_one _ _ _ (@ps_ret _ _ _ _ pe_bl))), ?_⟩
    obtain ⟨ms, hms, hml⟩ := cutV_map ns (some 1) (some 10)
    refine ⟨_, rfl, a, ns, 0, rfl, hS, hl, by decide, fun c0 => ⟨by show 2 ≤ sizeLine; decide, fun p1 hp1 => ⟨_, rfl, _, rfl, _, rfl, a, _, rfl, (Same.new hp1).seq hS, fun p2 hp2 => ?_⟩⟩⟩
    rw [hms] at *
    refine ⟨p1, p2, _, _, rfl, rfl, by rw [upd_ne (ne_of_none upd_same hp2)]; exact upd_same, upd_same, Nat.le_of_lt (small1000 (by rw [List.length_map]; show 2 + ms.length ≤ 1000; omega)), fun p3 hp3 => ?_⟩
    have hz : [V.int c0, V.int 8] ++ ms.map V.int = (c0 :: 8 :: ms).map V.int := rfl
    rw [hz]
    generalize upd (upd H p1 (.lst [V.int c0, V.int 8])) p2 (.lst (ms.map V.int)) = H0 at *
    refine ⟨p3, rfl, ⟨_, SqL.of upd_same⟩, for_list (xs := (c0 :: 8 :: ms).map V.int) (fun i σ H2 => ∃ v1 v2 v3 v4 v5 v6 v7 v8 v9 v10 v11 v12 v13 v14 v15 : Option V, σ = [some (.ref a), v1, v2, v3, v4, v5, v6, v7, v8, v9, v10, v11, v12, v13, v14, v15] ∧ H2 p3 = some (.lst ((c0 :: 8 :: ms).map V.int)))
      ⟨none, none, none, none, none, none, none, none, none, none, none, none, none, none, none, rfl, upd_same⟩ (fun i σ H2 _ ⟨_, _, _, _, _, _, _, _, _, _, _, _, _, _, _, _, sH⟩ => SqL.of sH) ?_ ?_⟩
    · rintro i x σ H2 hi ⟨v1, v2, v3, v4, v5, v6, v7, v8, v9, v10, v11, v12, v13, v14, v15, rfl, h2⟩
      obtain ⟨c, rfl⟩ : ∃ c : Int, x = .int c := by
        rw [List.getElem?_map] at hi
        cases e : (c0 :: 8 :: ms)[i]? with
        | none => rw [e] at hi; cases hi
        | some c => rw [e] at hi; cases hi; exact ⟨c, rfl⟩
      refine ends_cut fun D hD => ?_
      have fin : ∀ (w1 w2 w3 w4 w5 w6 w7 w8 w9 w10 w11 w12 w13 w14 w15 : Option V) (H9 : Hp), H9 p3 = some (.lst ((c0 :: 8 :: ms).map V.int)) → D.nx [some (.ref a), w1, w2, w3, w4, w5, w6, w7, w8, w9, w10, w11, w12, w13, w14, w15] H9 := by
        intro w1 w2 w3 w4 w5 w6 w7 w8 w9 w10 w11 w12 w13 w14 w15 H9 h9
        subst hD
        exact ⟨w1, w2, w3, w4, w5, w6, w7, w8, w9, w10, w11, w12, w13, w14, w15, rfl, h9⟩
      clear hD
      refine cut4 fun X hX => ?_
      walk_at "wp"
      refine ⟨c, rfl, fun l xa xb hl0 xb0 xb1 => ?_⟩
      have b3 : Bag (upd H2 l (BagV xa xb)) l := Bag.set xb0 xb1
      have s3 := Same.new (o := BagV xa xb) hl0
      refine ⟨l, rfl, b3, fun p H4 e4 b4 hp => ?_⟩
      refine ⟨l, _, rfl, rfl, b4, fun pt e m xs H5 O => ⟨pt, rfl, _, SqT.of O.tup, rfl, _, _, rfl, _, _, rfl, rfl, ?_⟩⟩
      have m0 := O.lo
      have m8 := O.hi
      have x9 := O.len
      have nel : e ≠ l := b4.ne O.new
      obtain ⟨ps, pr5, ip⟩ := prs_of' O.ed
      have hpl := pr5.1
      have n3l : p3 ≠ l := ne_of_none h2 hl0
      have h5 : H5 p3 = some (.lst ((c0 :: 8 :: ms).map V.int)) := O.ext _ _ n3l (e4 _ _ n3l (s3 _ _ h2))
      refine ⟨l, e, p, m, xs, ps, rfl, O.bag, hp, O.lst, pr5, ip, by omega, m0, m8, nel, fun pt2 z tl nz ts cs H6 e6 b6 hpt2 fz ftl hz hm h40 hT ft fv => ⟨pt2, rfl, _, SqT.of hpt2, rfl, _, _, rfl, _, _, rfl, rfl, ?_⟩⟩
      have h6 := e6 _ _ n3l h5
      have he6 := e6 _ _ nel O.lst
      have pr6 := pr5.bag O.bag e6
      have nzl : z ≠ l := O.bag.ne fz
      subst hX
      refine cut1 fun X2 hX2 => ?_
      have aftA : ∀ (e z tl : Addr) (xs : List V) (ps : List (Int × Int)) (nz : List Int) (ts : List Addr) (cs : List Tv) (H7 : Hp), H7 p3 = some (.lst ((c0 :: 8 :: ms).map V.int)) → H7 e = some (.lst xs) → Prs H7 xs ps → InP m ps → ps.length ≤ 9 → Sizes H7 z nz → (nz.length : Int) = m → preSum (fun i => nz.getD i 0) nz.length ≤ 40 → TbsV H7 p tl ts cs → FT p cs → FitV nz cs ps →
          X2 D [some (.ref a), some (.int c), some (.ref l), some (.int p), some (.int m), some (.ref e), some (.ref z), some (.ref tl), v8, v9, v10, v11, v12, v13, v14, v15] H7 := by
        clear hpl he6 pr6 nzl hT fv ft h40 hm hz fz ftl hpt2 e6 b6 pr5 ip nel x9 O
        intro e z tl xs ps nz ts cs H7 h7 he pr ip p9 hz hm h40 hT ft fv
        subst hX2
        refine cut4 fun X3 hX3 => ?_
        walk_at "wp"
        refine ⟨_, .inl (SqL.of hz.1), fun z1 hz1 => ?_⟩
        have sA := Same.new (o := .lst (nz.map V.int)) hz1
        have qA : (upd H7 z1 (.lst (nz.map V.int))) z1 = some (.lst (nz.map V.int)) := upd_same
        generalize upd H7 z1 (.lst (nz.map V.int)) = HA at *
        have hTA := hT.same sA
        have tl1 := hT.tab.1
        have c9 := ft.1
        refine ⟨_, rfl, tl, rfl, ⟨_, SqL.of hTA.lst⟩, fun D1 hD1 => ?_⟩
        refine comp_ord (fun i Hc y => ∃ t, y = .ref t ∧ ∃ r rs, TabV Hc p (hF cs i) (wF cs i) t r rs (mF cs i) ∧ (r ≠ D1 ∧ D1 ∉ rs) ∧ HA r = none) (fun ⟨t, e, r, rs, k, n⟩ s => ⟨t, e, r, rs, k.same s, n⟩) (fun ⟨t, e, r, rs, k, n, n2⟩ hD => ⟨t, e, r, rs, k.put hD n.1 n.2, n, n2⟩) hTA.lst hD1 (by rw [List.length_map]; omega) (fun i y H' Q' hy s' ⟨lD, hlD⟩ q' => ?_) (fun ys HB sB hDB hyl hys => ?_)
        · obtain ⟨hic, t, r, rs, rfl, et, tb⟩ := (hTA.same s').at hy
          obtain ⟨a1, a2, a3, a4, shp, gd⟩ := ft.at hic
          have ml := shp.1
          refine ⟨_, rfl, p, _, _, t, r, rs, _, rfl, tb, by omega, fun t' r' rs' H'' s'' nw tb' => q' _ H'' s'' ⟨t', rfl, r', rs', tb', ⟨fun z => ?_, fun z => ?_⟩, s'.free nw.r⟩⟩
          · have := nw.r
            rw [z, hlD] at this
            cases this
          · have := nw.rs _ z
            rw [hlD] at this
            cases this
        obtain ⟨ts1, rfl, hts⟩ := refs_of (P := fun i t => ∃ r rs, TabV HB p (hF cs i) (wF cs i) t r rs (mF cs i) ∧ (r ≠ D1 ∧ D1 ∉ rs) ∧ HA r = none) hys
        rw [List.length_map, List.length_map] at hyl
        refine ⟨by decide, fun ph hph => ?_⟩
        have hTB : TbsV HB p D1 ts1 cs := ⟨hDB, by omega, fun i t c e1 e2 => by
          obtain ⟨r, rs, tb, _⟩ := hts i t e1
          refine ⟨r, rs, ?_⟩
          simp only [hF, wF, mF, getD_some e2] at tb
          exact tb⟩
        have sC := Same.new (o := .lst [V.ref z1, V.ref D1]) hph
        have qC : (upd HB ph (.lst [V.ref z1, V.ref D1])) ph = some (.lst [V.ref z1, V.ref D1]) := upd_same
        generalize upd HB ph (.lst [V.ref z1, V.ref D1]) = HC at *
        have s7B := sA.trans sB
        have s7C := s7B.trans sC
        refine run_ground hp fun g HD sD gD => ⟨_, .inl (SqL.of ((s7C.trans sD) _ _ he)), fun e1 he1 => ?_⟩
        have sE := Same.new (o := .lst xs) he1
        have qE : (upd HD e1 (.lst xs)) e1 = some (.lst xs) := upd_same
        generalize upd HD e1 (.lst xs) = HE at *
        have s7E := (s7C.trans sD).trans sE
        refine run_draw m0 m8 qE (pr.same s7E) ip p9 fun d lp HF sF dF flp => ?_
        have sCF := (sD.trans sE).trans sF
        have s7F := s7C.trans sCF
        have phF := sCF _ _ qC
        have hTF := hTB.same (sC.trans sCF)
        obtain ⟨csV, hTV, rel⟩ := hTF.con ft
        have zF : Sizes HF z1 nz := ⟨((sB.trans sC).trans sCF) _ _ qA, hz.2⟩
        refine ⟨_, SqL.of phF, _, atI_at (by decide) rfl, _, SqL.of phF, _, atI_at (by decide) rfl, fun x dx hx hdx ndx => std_of (H0 := HC) hx hdx ndx (gD.same (sE.trans sF)) hp dF (pr.same s7F) ip p9 zF hm hTV (fv.fits rel) sCF ((sD.trans sE).free flp) fun dy z2 l2 ts2 HG sG st => ⟨rfl, ?_⟩⟩
        subst hX3
        refine cut2 fun X4 hX4 => ?_
        walk_at "wp"
        have s7G := s7F.trans sG
        refine ⟨by decide, fun pq hpq => ?_⟩
        have sH := Same.new (o := .tup [V.ref z, V.ref tl]) hpq
        have qH : (upd HG pq (.tup [V.ref z, V.ref tl])) pq = some (.tup [V.ref z, V.ref tl]) := upd_same
        generalize upd HG pq (.tup [V.ref z, V.ref tl]) = HH at *
        have s7H := s7G.trans sH
        refine ⟨pq, z, tl, p, nz, ts, cs, rfl, hp, qH, hz.same s7H, hT.same s7H, ft, fun HI sI => ?_⟩
        have sGI := sH.trans sI
        have relI := rel.mono fun _ _ k => k.same (sG.trans sGI)
        have stI := st.same sGI
        refine ⟨x, g, d, z2, l2, p, m, ps, nz, ts2, cs, rfl, stI.byV relI ft, ft, fun HJ sJ => ⟨rfl, iteN (by simp) ?_⟩⟩
        have s7J := (s7H.trans sI).trans sJ
        have sBJ : Same HB HJ := (((sC.trans sCF).trans sG).trans sGI).trans sJ
        have stJ := stI.same sJ
        have relJ := relI.mono fun _ _ k => k.same sJ
        have phJ := ((sG.trans sGI).trans sJ) _ _ phF
        have z1J := sBJ _ _ (sB _ _ qA)
        have D1J := sBJ _ _ hDB
        subst hX4
        refine cut2 fun X5 hX5 => ?_
        walk_at "wp"
        have nzD1 : z1 ≠ D1 := ne_of_none qA hD1
        have nzph : z1 ≠ ph := ne_of_none (sB _ _ qA) hph
        have nD1ph : D1 ≠ ph := ne_of_none hDB hph
        have hU : ∀ b, (H7 b = none ∧ b ≠ D1 ∧ ∃ ys, HB b = some (.lst ys)) → ∃ ys, HJ b = some (.lst ys) := fun b u => let ⟨ys, h⟩ := u.2.2; ⟨ys, sBJ _ _ h⟩
        have nph : ¬ (H7 ph = none ∧ ph ≠ D1 ∧ ∃ ys, HB ph = some (.lst ys)) := fun u => by
          obtain ⟨ys, h⟩ := u.2.2
          rw [hph] at h
          cases h
        have uz1 : H7 z1 = none ∧ z1 ≠ D1 ∧ ∃ ys, HB z1 = some (.lst ys) := ⟨hz1, nzD1, _, sB _ _ qA⟩
        have k1 : Keep (fun b => H7 b = none ∧ b ≠ D1 ∧ ∃ ys, HB b = some (.lst ys)) HJ (upd HJ z1 (.lst (nz.map V.int ++ [V.int 1]))) := fun b o nb e => by
          rw [upd_ne (fun z => nb (by rw [z]; exact uz1))]
          exact e
        have tabs : ∀ (j : Nat) t, ts1[j]? = some t → ∃ (hh wd : Int) (r : Addr), HJ t = some (.tup [.int hh, .int wd, .ref r]) ∧ (H7 r = none ∧ r ≠ D1 ∧ ∃ ys, HB r = some (.lst ys)) ∧ ∃ ys, HJ r = some (.lst ys) ∧ ys.length ≤ 24 ∧ r ≠ z1 := fun j t e => by
          obtain ⟨r, rs, tb, ⟨n1, n2⟩, n3⟩ := hts j t e
          have hj : j < cs.length := by have := (List.getElem?_eq_some_iff.mp e).1; omega
          obtain ⟨_, a2, _, _, shp, _⟩ := ft.at hj
          have l1 := tb.row.1
          have l2 := shp.1
          exact ⟨_, _, r, sBJ _ _ tb.tup, ⟨sA.free n3, n1, _, tb.lst⟩, _, sBJ _ _ tb.lst, by rw [List.length_map]; omega, fun z => by rw [z, qA] at n3; cases n3⟩
        refine ⟨_, SqL.of phJ, _, atI_at (by decide) rfl, .inl ⟨rfl, _, SqL.of z1J⟩, z1, rfl, _, z1J, small1000 (by rw [List.length_map]; have := hz.2.1; omega), ?_⟩
        refine ⟨_, rfl, ph, _, 1, .ref D1, rfl, rfl, SqL.of (k1 _ _ nph phJ), atI_at (by decide) rfl, D1, rfl, ⟨_, SqL.of (k1 _ _ (fun u => u.2.1 rfl) D1J)⟩, for_list (xs := ts1.map V.ref) (fun i σ HK => ∃ u13 : Option V, σ = [some (.ref a), some (.int c), some (.ref l), some (.int p), some (.int m), some (.ref e), some (.ref z), some (.ref tl), some (.ref ph), some (.ref g), some (.ref d), some (.ref x), some (.str (mkS (tStd p nz cs))), u13, v14, v15] ∧ Keep (fun b => H7 b = none ∧ b ≠ D1 ∧ ∃ ys, HB b = some (.lst ys)) HJ HK ∧ ∀ (j : Nat) t, ts1[j]? = some t → ∃ (hh wd : Int) (r : Addr), HK t = some (.tup [.int hh, .int wd, .ref r]) ∧ (H7 r = none ∧ r ≠ D1 ∧ ∃ ys, HB r = some (.lst ys)) ∧ ∃ ys, HK r = some (.lst ys) ∧ ys.length ≤ 24 + i)
          ⟨v13, rfl, k1, fun j t e => ?_⟩ (fun i σ HK _ ⟨_, _, k, _⟩ => SqL.of (k _ _ (fun u => u.2.1 rfl) D1J)) ?_ ?_⟩
        · obtain ⟨hh, wd, r, h1, h2, ys, h3, h4, h5⟩ := tabs j t e
          exact ⟨hh, wd, r, k1 _ _ (fun u => by obtain ⟨ys, hy⟩ := hU t u; rw [h1] at hy; cases hy) h1, h2, ys, by rw [upd_ne h5]; exact h3, by omega⟩
        · rintro i y σ HK hy ⟨u13, rfl, kK, inv⟩
          rw [List.getElem?_map] at hy
          cases et : ts1[i]? with
          | none => rw [et] at hy; cases hy
          | some t =>
            rw [et] at hy
            cases hy
            obtain ⟨hh, wd, r, h1, h2, ys, h3, h4⟩ := inv i t et
            have hi9 : i < ts1.length := (List.getElem?_eq_some_iff.mp et).1
            walk_at "wp"
            refine ⟨_, SqT.of h1, _, rfl, .inl ⟨rfl, _, SqL.of h3⟩, Nat.zero_le _, fun pe hpe => ⟨r, rfl, ys, Same.new hpe _ _ h3, small1000 (by omega), ?_⟩⟩
            have sP := Same.new (o := .lst []) hpe
            refine ⟨fun b o nb e => ?_, fun j t' ej => ?_⟩
            · rw [upd_ne (fun z => nb (by rw [z]; exact h2))]
              exact sP _ _ (kK b o nb e)
            · obtain ⟨hh', wd', r', h1', h2', ys', h3', h4'⟩ := inv j t' ej
              refine ⟨hh', wd', r', by rw [upd_ne (ne_of h1' h3 (by intro z; cases z))]; exact sP _ _ h1', h2', ?_⟩
              by_cases hr' : r' = r
              · exact ⟨_, by rw [hr']; exact upd_same, by rw [List.length_append]; show ys.length + 1 ≤ _; omega⟩
              · exact ⟨ys', by rw [upd_ne hr']; exact sP _ _ h3', by omega⟩
        · rintro σ HK ⟨u13, rfl, kK, inv⟩
          have n0 : ∀ b, HC b = none → ¬ (H7 b = none ∧ b ≠ D1 ∧ ∃ ys, HB b = some (.lst ys)) := fun b hb u => by
            obtain ⟨ys, h⟩ := u.2.2
            rw [sC _ _ h] at hb
            cases hb
          have stK := stJ.keep hU n0 kK
          have relK := relJ.mono fun _ _ k => k.keep hU kK
          have s7K : Same H7 HK := Same.keep s7J (fun b u => u.1) kK
          clear inv tabs k1 stJ stI relJ relI
          show X5 D _ _
          subst hX5
          refine cut3 fun X6 hX6 => ?_
          walk_at "wp"
          refine ⟨x, g, d, z2, l2, p, m, ps, nz, ts2, cs, rfl, stK.byV relK ft, ft, fun HL sL => ⟨rfl, iteN (by simp) ?_⟩⟩
          have stL := stK.same sL
          have hne : nz ≠ [] := fun z => by rw [z] at hm; simp at hm; omega
          refine ⟨g, d, lp, p, m, xs, ps, nz, cs, rfl, stL.grd, hp, stL.drw, stL.prs, ip, p9, hz.2.1, hne, hz.2.2, hm, h40, ft, fv, fun xF zF lF tF HM sM stF => ?_⟩
          have stM := stL.same sM
          refine ⟨g, d, lp, p, m, xs, ps, nz, cs, rfl, stM.grd, hp, stM.drw, stM.prs, ip, p9, hz.2.1, hne, hz.2.2, hm, h40, ft, fv, fun xG zG lG tG HN sN stG => ?_⟩
          have s7N := ((s7K.trans sL).trans sM).trans sN
          subst hX6
          walk_at "wp"
          have stFN := stF.same sN
          have hTN := hT.same s7N
          have hzN := hz.same s7N
          refine ⟨xF, g, d, zF, lF, z, tl, p, m, ps, nz, tF, ts, cs, rfl, hp, stFN, hzN, hTN, ft, fun HO1 sO => ⟨true, rfl, iteN (by decide) ?_⟩⟩
          have stO := stFN.same sO
          have stGO := stG.same sO
          obtain ⟨dx1, ha1⟩ := stO.at'
          obtain ⟨dg, hgO⟩ := stO.gr
          obtain ⟨lpO, xsO, ⟨ddO, hdO, hlO⟩, prO⟩ := stO.dr
          have s7O := s7N.trans sO
          refine ⟨S, dx1, _, ha1, T.cl_Standing, T.nSg, _, sf_ground .., g, rfl, G, dg, _, hgO, T.cl_Ground, T.nP, _, flds_prime p, rfl, iteN (by simp) ?_⟩
          refine ⟨S, dx1, _, ha1, T.cl_Standing, T.nSd, _, sf_drawing .., d, rfl, C, ddO, _, hdO, T.cl_Drawing, T.nA, _, flds_arrows m lpO, lpO, rfl, _, SqL.of hlO, _, SqL.of (s7O _ _ he), .inr ⟨_, prs_eq prO (pr.same s7O), iteN (by simp) ?_⟩⟩
          refine ⟨xG, g, d, zG, lG, z, tl, p, m, ps, nz, tG, ts, cs, rfl, hp, stGO, hzN.same sO, hTN.same sO, ft, fun HP sP => ⟨true, rfl, iteN (by decide) ?_⟩⟩
          have stP := stGO.same sP
          obtain ⟨dx2, ha2⟩ := stP.at'
          obtain ⟨lpP, xsP, ⟨ddP, hdP, hlP⟩, prP⟩ := stP.dr
          refine ⟨S, dx2, _, ha2, T.cl_Standing, T.nSd, _, sf_drawing .., d, rfl, C, ddP, _, hdP, T.cl_Drawing, T.nM, _, flds_many m lpP, rfl, iteN (by simp) ?_⟩
          exact fin _ _ _ _ _ _ _ _ _ _ _ _ _ _ _ HP ((s7O.trans sP) _ _ h7)
      walk_at "wp"
      refine b6.draw (by decide) (by decide) fun r6 H7 r60 r61 e7 b7 => ⟨rfl, ite2 (fun _ => ⟨Nat.zero_le _, fun q1 hq1 => ⟨Nat.zero_le _, fun q2 hq2 => ?_⟩⟩) (fun _ => ?_)⟩
      · have n1l : q1 ≠ l := b7.ne hq1
        have b8 := b7.new (o := .lst []) n1l
        have n2l : q2 ≠ l := b8.ne hq2
        have sQ := (Same.new (o := .lst []) hq1).trans (Same.new (o := .lst []) hq2)
        have n12 : q1 ≠ q2 := ne_of_none upd_same hq2
        refine (b8.new (o := .lst []) n2l).draw (by decide) (by decide) fun d2 H8 d20 d21 e8 b9 => ⟨d2, rfl, by decide, fun q3 hq3 => ⟨_, SqL.of upd_same, fun q4 hq4 => ?_⟩⟩
        have k1 : H8 q1 = some (.lst []) := e8 _ _ n1l (Same.new hq2 _ _ upd_same)
        have k2 : H8 q2 = some (.lst []) := e8 _ _ n2l upd_same
        have k3 := e8 _ _ n3l (sQ _ _ (e7 _ _ n3l h6))
        have sR := (Same.new (o := .lst [V.int 24, V.int (16 - d2), V.int 0, V.int 0, V.int 0, V.int 0, V.int 0, V.int 0]) hq3).trans (Same.new (o := .lst (cutV [V.int 24, V.int (16 - d2), V.int 0, V.int 0, V.int 0, V.int 0, V.int 0, V.int 0] none (some m))) hq4)
        have ec : cutV [V.int 24, V.int (16 - d2), V.int 0, V.int 0, V.int 0, V.int 0, V.int 0, V.int 0] none (some m) = ((bigSz d2).take m.toNat).map V.int := by
          rw [cut_upto _ (by omega) (by show m ≤ 8; exact m8), List.map_take]
          rfl
        have k4 : (upd (upd H8 q3 (.lst [V.int 24, V.int (16 - d2), V.int 0, V.int 0, V.int 0, V.int 0, V.int 0, V.int 0])) q4 (.lst (cutV [V.int 24, V.int (16 - d2), V.int 0, V.int 0, V.int 0, V.int 0, V.int 0, V.int 0] none (some m)))) q4 = some (.lst (((bigSz d2).take m.toNat).map V.int)) := by rw [upd_same, ec]
        have bl := big_len d2 m0 m8
        exact aftA q1 q4 q2 [] [] _ [] [] _ (sR _ _ k3) (sR _ _ k1) ⟨rfl, fun i x q e => by simp at e⟩ (fun q hq => by simp at hq) (by simp) ⟨k4, by omega, big_in d20 d21⟩ bl (big_sum d20 m0 m8) ⟨sR _ _ k2, All2.nil⟩ ⟨by simp, by simp⟩ ⟨rfl, fun i c q e => by simp at e⟩
      · exact aftA e z tl xs ps nz ts cs H7 (e7 _ _ n3l h6) (e7 _ _ nel he6) (pr6.bag b6 e7) ip (by omega) ⟨e7 _ _ nzl hz.1, hz.2⟩ hm h40 (hT.ext b6 e7).tbs ft fv
    · rintro σ H2 ⟨v1, v2, v3, v4, v5, v6, v7, v8, v9, v10, v11, v12, v13, v14, v15, rfl, h2⟩
      exact q H2
end
end Pf
set_option maxHeartbeats 4000000
namespace Pf
open PySem L2 PyProof.Rows
theorem all_mk {l : PySem.W.OpenLaw} {w : World} {K : PySem.W.Frag} {h : Heap} {mg : Str → Option Value} {fa C Cg Cs : Addr} {t1 t2 t3 t4 t5 t6 t7 : Tok} (X : K.In h) (G : h.Ns mainGlobals mg) (hfa : mg "law" = some (.ref fa))
    {f1 : Addr} {od1 an1 : Option Addr} {sl1 : Array (Option Value)} {oc1 kV1 dc1 pm1 cd1 ct1 : Value}
    {f2 : Addr} {od2 an2 : Option Addr} {sl2 : Array (Option Value)} {oc2 kV2 dc2 pm2 cd2 ct2 : Value}
    {f3 : Addr} {od3 an3 : Option Addr} {sl3 : Array (Option Value)} {oc3 kV3 dc3 pm3 cd3 ct3 : Value}
    {f4 : Addr} {od4 an4 : Option Addr} {sl4 : Array (Option Value)} {oc4 kV4 dc4 pm4 cd4 ct4 : Value}
    {f5 : Addr} {od5 an5 : Option Addr} {sl5 : Array (Option Value)} {oc5 kV5 dc5 pm5 cd5 ct5 : Value}
    {f6 : Addr} {od6 an6 : Option Addr} {sl6 : Array (Option Value)} {oc6 kV6 dc6 pm6 cd6 ct6 : Value}
    {f7 : Addr} {od7 an7 : Option Addr} {sl7 : Array (Option Value)} {oc7 kV7 dc7 pm7 cd7 ct7 : Value}
    {f8 : Addr} {od8 an8 : Option Addr} {sl8 : Array (Option Value)} {oc8 kV8 dc8 pm8 cd8 ct8 : Value}
    {f9 : Addr} {od9 an9 : Option Addr} {sl9 : Array (Option Value)} {oc9 kV9 dc9 pm9 cd9 ct9 : Value}
    {f10 : Addr} {od10 an10 : Option Addr} {sl10 : Array (Option Value)} {oc10 kV10 dc10 pm10 cd10 ct10 : Value}
    {f11 : Addr} {od11 an11 : Option Addr} {sl11 : Array (Option Value)} {oc11 kV11 dc11 pm11 cd11 ct11 : Value}
    {f12 : Addr} {od12 an12 : Option Addr} {sl12 : Array (Option Value)} {oc12 kV12 dc12 pm12 cd12 ct12 : Value}
    {f13 : Addr} {od13 an13 : Option Addr} {sl13 : Array (Option Value)} {oc13 kV13 dc13 pm13 cd13 ct13 : Value}
    {f14 : Addr} {od14 an14 : Option Addr} {sl14 : Array (Option Value)} {oc14 kV14 dc14 pm14 cd14 ct14 : Value}
    {f15 : Addr} {od15 an15 : Option Addr} {sl15 : Array (Option Value)} {oc15 kV15 dc15 pm15 cd15 ct15 : Value}
    {f16 : Addr} {od16 an16 : Option Addr} {sl16 : Array (Option Value)} {oc16 kV16 dc16 pm16 cd16 ct16 : Value}
    {f17 : Addr} {od17 an17 : Option Addr} {sl17 : Array (Option Value)} {oc17 kV17 dc17 pm17 cd17 ct17 : Value}
    {f18 : Addr} {od18 an18 : Option Addr} {sl18 : Array (Option Value)} {oc18 kV18 dc18 pm18 cd18 ct18 : Value}
    {f19 : Addr} {od19 an19 : Option Addr} {sl19 : Array (Option Value)} {oc19 kV19 dc19 pm19 cd19 ct19 : Value}
    {f20 : Addr} {od20 an20 : Option Addr} {sl20 : Array (Option Value)} {oc20 kV20 dc20 pm20 cd20 ct20 : Value}
    {f21 : Addr} {od21 an21 : Option Addr} {sl21 : Array (Option Value)} {oc21 kV21 dc21 pm21 cd21 ct21 : Value}
    {f22 : Addr} {od22 an22 : Option Addr} {sl22 : Array (Option Value)} {oc22 kV22 dc22 pm22 cd22 ct22 : Value}
    {f23 : Addr} {od23 an23 : Option Addr} {sl23 : Array (Option Value)} {oc23 kV23 dc23 pm23 cd23 ct23 : Value}
    {f24 : Addr} {od24 an24 : Option Addr} {sl24 : Array (Option Value)} {oc24 kV24 dc24 pm24 cd24 ct24 : Value}
    {f25 : Addr} {od25 an25 : Option Addr} {sl25 : Array (Option Value)} {oc25 kV25 dc25 pm25 cd25 ct25 : Value}
    {f26 : Addr} {od26 an26 : Option Addr} {sl26 : Array (Option Value)} {oc26 kV26 dc26 pm26 cd26 ct26 : Value}
    {f27 : Addr} {od27 an27 : Option Addr} {sl27 : Array (Option Value)} {oc27 kV27 dc27 pm27 cd27 ct27 : Value}
    {f28 : Addr} {od28 an28 : Option Addr} {sl28 : Array (Option Value)} {oc28 kV28 dc28 pm28 cd28 ct28 : Value}
    {f29 : Addr} {od29 an29 : Option Addr} {sl29 : Array (Option Value)} {oc29 kV29 dc29 pm29 cd29 ct29 : Value}
    {f30 : Addr} {od30 an30 : Option Addr} {sl30 : Array (Option Value)} {oc30 kV30 dc30 pm30 cd30 ct30 : Value}
    {f31 : Addr} {od31 an31 : Option Addr} {sl31 : Array (Option Value)} {oc31 kV31 dc31 pm31 cd31 ct31 : Value}
    {f32 : Addr} {od32 an32 : Option Addr} {sl32 : Array (Option Value)} {oc32 kV32 dc32 pm32 cd32 ct32 : Value}
    {f33 : Addr} {od33 an33 : Option Addr} {sl33 : Array (Option Value)} {oc33 kV33 dc33 pm33 cd33 ct33 : Value}
    {f34 : Addr} {od34 an34 : Option Addr} {sl34 : Array (Option Value)} {oc34 kV34 dc34 pm34 cd34 ct34 : Value}
    {f35 : Addr} {od35 an35 : Option Addr} {sl35 : Array (Option Value)} {oc35 kV35 dc35 pm35 cd35 ct35 : Value}
    {f36 : Addr} {od36 an36 : Option Addr} {sl36 : Array (Option Value)} {oc36 kV36 dc36 pm36 cd36 ct36 : Value}
    {f37 : Addr} {od37 an37 : Option Addr} {sl37 : Array (Option Value)} {oc37 kV37 dc37 pm37 cd37 ct37 : Value}
    {f38 : Addr} {od38 an38 : Option Addr} {sl38 : Array (Option Value)} {oc38 kV38 dc38 pm38 cd38 ct38 : Value}
    {f39 : Addr} {od39 an39 : Option Addr} {sl39 : Array (Option Value)} {oc39 kV39 dc39 pm39 cd39 ct39 : Value}
    {f40 : Addr} {od40 an40 : Option Addr} {sl40 : Array (Option Value)} {oc40 kV40 dc40 pm40 cd40 ct40 : Value}
    {f41 : Addr} {od41 an41 : Option Addr} {sl41 : Array (Option Value)} {oc41 kV41 dc41 pm41 cd41 ct41 : Value}
    {f42 : Addr} {od42 an42 : Option Addr} {sl42 : Array (Option Value)} {oc42 kV42 dc42 pm42 cd42 ct42 : Value}
    {f43 : Addr} {od43 an43 : Option Addr} {sl43 : Array (Option Value)} {oc43 kV43 dc43 pm43 cd43 ct43 : Value}
    {f44 : Addr} {od44 an44 : Option Addr} {sl44 : Array (Option Value)} {oc44 kV44 dc44 pm44 cd44 ct44 : Value}
    {f45 : Addr} {od45 an45 : Option Addr} {sl45 : Array (Option Value)} {oc45 kV45 dc45 pm45 cd45 ct45 : Value}
    {f46 : Addr} {od46 an46 : Option Addr} {sl46 : Array (Option Value)} {oc46 kV46 dc46 pm46 cd46 ct46 : Value}
    {f47 : Addr} {od47 an47 : Option Addr} {sl47 : Array (Option Value)} {oc47 kV47 dc47 pm47 cd47 ct47 : Value}
    {f48 : Addr} {od48 an48 : Option Addr} {sl48 : Array (Option Value)} {oc48 kV48 dc48 pm48 cd48 ct48 : Value}
    {f49 : Addr} {od49 an49 : Option Addr} {sl49 : Array (Option Value)} {oc49 kV49 dc49 pm49 cd49 ct49 : Value}
    {f50 : Addr} {od50 an50 : Option Addr} {sl50 : Array (Option Value)} {oc50 kV50 dc50 pm50 cd50 ct50 : Value}
    {f51 : Addr} {od51 an51 : Option Addr} {sl51 : Array (Option Value)} {oc51 kV51 dc51 pm51 cd51 ct51 : Value}
    {f52 : Addr} {od52 an52 : Option Addr} {sl52 : Array (Option Value)} {oc52 kV52 dc52 pm52 cd52 ct52 : Value}
    {D52 : Addr} {doc52 : Value} {dod52 : Option Addr} {dosl52 : Array (Option Value)} {dn52 : Nat} {dt52 : Tok}
    {f53 : Addr} {od53 an53 : Option Addr} {sl53 : Array (Option Value)} {oc53 kV53 dc53 pm53 cd53 ct53 : Value}
    {f54 : Addr} {od54 an54 : Option Addr} {sl54 : Array (Option Value)} {oc54 kV54 dc54 pm54 cd54 ct54 : Value}
    (a1 : PySem.W.nsIn K mainGlobals "is_whole" = some (some (.ref f1)))
    (l1 : K.lookup f1 = some ⟨oc1, od1, .func (PySem.W.fnOf "is_whole" "is_whole" (defArgs s_is_whole) (defBody s_is_whole) (defScope s_is_whole) .none kV1 dc1 pm1 an1 cd1 ct1), sl1⟩)
    (c1 : PySem.W.codeIn K cd1 "is_whole" = true)
    (k1 : PySem.W.keepIn K (.ref f1) = true)
    (a2 : PySem.W.nsIn K mainGlobals "makes_drawing" = some (some (.ref f2)))
    (l2 : K.lookup f2 = some ⟨oc2, od2, .func (PySem.W.fnOf "makes_drawing" "makes_drawing" (defArgs s_makes_drawing) (defBody s_makes_drawing) (defScope s_makes_drawing) .none kV2 dc2 pm2 an2 cd2 ct2), sl2⟩)
    (c2 : PySem.W.codeIn K cd2 "makes_drawing" = true)
    (k2 : PySem.W.keepIn K (.ref f2) = true)
    (a3 : PySem.W.nsIn K mainGlobals "is_arrow" = some (some (.ref f3)))
    (l3 : K.lookup f3 = some ⟨oc3, od3, .func (PySem.W.fnOf "is_arrow" "is_arrow" (defArgs s_is_arrow) (defBody s_is_arrow) (defScope s_is_arrow) .none kV3 dc3 pm3 an3 cd3 ct3), sl3⟩)
    (c3 : PySem.W.codeIn K cd3 "is_arrow" = true)
    (k3 : PySem.W.keepIn K (.ref f3) = true)
    (a4 : PySem.W.nsIn K mainGlobals "is_table" = some (some (.ref f4)))
    (l4 : K.lookup f4 = some ⟨oc4, od4, .func (PySem.W.fnOf "is_table" "is_table" (defArgs s_is_table) (defBody s_is_table) (defScope s_is_table) .none kV4 dc4 pm4 an4 cd4 ct4), sl4⟩)
    (c4 : PySem.W.codeIn K cd4 "is_table" = true)
    (k4 : PySem.W.keepIn K (.ref f4) = true)
    (a5 : PySem.W.nsIn K mainGlobals "is_row" = some (some (.ref f5)))
    (l5 : K.lookup f5 = some ⟨oc5, od5, .func (PySem.W.fnOf "is_row" "is_row" (defArgs s_is_row) (defBody s_is_row) (defScope s_is_row) .none kV5 dc5 pm5 an5 cd5 ct5), sl5⟩)
    (c5 : PySem.W.codeIn K cd5 "is_row" = true)
    (k5 : PySem.W.keepIn K (.ref f5) = true)
    (a6 : PySem.W.nsIn K mainGlobals "noughts" = some (some (.ref f6)))
    (l6 : K.lookup f6 = some ⟨oc6, od6, .func (PySem.W.fnOf "noughts" "noughts" (defArgs s_noughts) (defBody s_noughts) (defScope s_noughts) .none kV6 dc6 pm6 an6 cd6 ct6), sl6⟩)
    (c6 : PySem.W.codeIn K cd6 "noughts" = true)
    (k6 : PySem.W.keepIn K (.ref f6) = true)
    (a7 : PySem.W.nsIn K mainGlobals "are_sizes" = some (some (.ref f7)))
    (l7 : K.lookup f7 = some ⟨oc7, od7, .func (PySem.W.fnOf "are_sizes" "are_sizes" (defArgs s_are_sizes) (defBody s_are_sizes) (defScope s_are_sizes) .none kV7 dc7 pm7 an7 cd7 ct7), sl7⟩)
    (c7 : PySem.W.codeIn K cd7 "are_sizes" = true)
    (k7 : PySem.W.keepIn K (.ref f7) = true)
    (a8 : PySem.W.nsIn K mainGlobals "is_table_of" = some (some (.ref f8)))
    (l8 : K.lookup f8 = some ⟨oc8, od8, .func (PySem.W.fnOf "is_table_of" "is_table_of" (defArgs s_is_table_of) (defBody s_is_table_of) (defScope s_is_table_of) .none kV8 dc8 pm8 an8 cd8 ct8), sl8⟩)
    (c8 : PySem.W.codeIn K cd8 "is_table_of" = true)
    (k8 : PySem.W.keepIn K (.ref f8) = true)
    (a9 : PySem.W.nsIn K mainGlobals "are_tables" = some (some (.ref f9)))
    (l9 : K.lookup f9 = some ⟨oc9, od9, .func (PySem.W.fnOf "are_tables" "are_tables" (defArgs s_are_tables) (defBody s_are_tables) (defScope s_are_tables) .none kV9 dc9 pm9 an9 cd9 ct9), sl9⟩)
    (c9 : PySem.W.codeIn K cd9 "are_tables" = true)
    (k9 : PySem.W.keepIn K (.ref f9) = true)
    (a10 : PySem.W.nsIn K mainGlobals "show_whole" = some (some (.ref f10)))
    (l10 : K.lookup f10 = some ⟨oc10, od10, .func (PySem.W.fnOf "show_whole" "show_whole" (defArgs s_show_whole) (defBody s_show_whole) (defScope s_show_whole) .none kV10 dc10 pm10 an10 cd10 ct10), sl10⟩)
    (c10 : PySem.W.codeIn K cd10 "show_whole" = true)
    (k10 : PySem.W.keepIn K (.ref f10) = true)
    (a11 : PySem.W.nsIn K mainGlobals "show_number" = some (some (.ref f11)))
    (l11 : K.lookup f11 = some ⟨oc11, od11, .func (PySem.W.fnOf "show_number" "show_number" (defArgs s_show_number) (defBody s_show_number) (defScope s_show_number) .none kV11 dc11 pm11 an11 cd11 ct11), sl11⟩)
    (c11 : PySem.W.codeIn K cd11 "show_number" = true)
    (k11 : PySem.W.keepIn K (.ref f11) = true)
    (a12 : PySem.W.nsIn K mainGlobals "show_table" = some (some (.ref f12)))
    (l12 : K.lookup f12 = some ⟨oc12, od12, .func (PySem.W.fnOf "show_table" "show_table" (defArgs s_show_table) (defBody s_show_table) (defScope s_show_table) .none kV12 dc12 pm12 an12 cd12 ct12), sl12⟩)
    (c12 : PySem.W.codeIn K cd12 "show_table" = true)
    (k12 : PySem.W.keepIn K (.ref f12) = true)
    (a13 : PySem.W.nsIn K mainGlobals "show_standing" = some (some (.ref f13)))
    (l13 : K.lookup f13 = some ⟨oc13, od13, .func (PySem.W.fnOf "show_standing" "show_standing" (defArgs s_show_standing) (defBody s_show_standing) (defScope s_show_standing) .none kV13 dc13 pm13 an13 cd13 ct13), sl13⟩)
    (c13 : PySem.W.codeIn K cd13 "show_standing" = true)
    (k13 : PySem.W.keepIn K (.ref f13) = true)
    (a14 : PySem.W.nsIn K mainGlobals "is_written" = some (some (.ref f14)))
    (l14 : K.lookup f14 = some ⟨oc14, od14, .func (PySem.W.fnOf "is_written" "is_written" (defArgs s_is_written) (defBody s_is_written) (defScope s_is_written) .none kV14 dc14 pm14 an14 cd14 ct14), sl14⟩)
    (c14 : PySem.W.codeIn K cd14 "is_written" = true)
    (k14 : PySem.W.keepIn K (.ref f14) = true)
    (a15 : PySem.W.nsIn K mainGlobals "read_whole" = some (some (.ref f15)))
    (l15 : K.lookup f15 = some ⟨oc15, od15, .func (PySem.W.fnOf "read_whole" "read_whole" (defArgs s_read_whole) (defBody s_read_whole) (defScope s_read_whole) .none kV15 dc15 pm15 an15 cd15 ct15), sl15⟩)
    (c15 : PySem.W.codeIn K cd15 "read_whole" = true)
    (k15 : PySem.W.keepIn K (.ref f15) = true)
    (a16 : PySem.W.nsIn K mainGlobals "read_top" = some (some (.ref f16)))
    (l16 : K.lookup f16 = some ⟨oc16, od16, .func (PySem.W.fnOf "read_top" "read_top" (defArgs s_read_top) (defBody s_read_top) (defScope s_read_top) .none kV16 dc16 pm16 an16 cd16 ct16), sl16⟩)
    (c16 : PySem.W.codeIn K cd16 "read_top" = true)
    (k16 : PySem.W.keepIn K (.ref f16) = true)
    (a17 : PySem.W.nsIn K mainGlobals "read_number" = some (some (.ref f17)))
    (l17 : K.lookup f17 = some ⟨oc17, od17, .func (PySem.W.fnOf "read_number" "read_number" (defArgs s_read_number) (defBody s_read_number) (defScope s_read_number) .none kV17 dc17 pm17 an17 cd17 ct17), sl17⟩)
    (c17 : PySem.W.codeIn K cd17 "read_number" = true)
    (k17 : PySem.W.keepIn K (.ref f17) = true)
    (a18 : PySem.W.nsIn K mainGlobals "read_table" = some (some (.ref f18)))
    (l18 : K.lookup f18 = some ⟨oc18, od18, .func (PySem.W.fnOf "read_table" "read_table" (defArgs s_read_table) (defBody s_read_table) (defScope s_read_table) .none kV18 dc18 pm18 an18 cd18 ct18), sl18⟩)
    (c18 : PySem.W.codeIn K cd18 "read_table" = true)
    (k18 : PySem.W.keepIn K (.ref f18) = true)
    (a19 : PySem.W.nsIn K mainGlobals "read_standing" = some (some (.ref f19)))
    (l19 : K.lookup f19 = some ⟨oc19, od19, .func (PySem.W.fnOf "read_standing" "read_standing" (defArgs s_read_standing) (defBody s_read_standing) (defScope s_read_standing) .none kV19 dc19 pm19 an19 cd19 ct19), sl19⟩)
    (c19 : PySem.W.codeIn K cd19 "read_standing" = true)
    (k19 : PySem.W.keepIn K (.ref f19) = true)
    (a20 : PySem.W.nsIn K mainGlobals "common_divisor" = some (some (.ref f20)))
    (l20 : K.lookup f20 = some ⟨oc20, od20, .func (PySem.W.fnOf "common_divisor" "common_divisor" (defArgs s_common_divisor) (defBody s_common_divisor) (defScope s_common_divisor) .none kV20 dc20 pm20 an20 cd20 ct20), sl20⟩)
    (c20 : PySem.W.codeIn K cd20 "common_divisor" = true)
    (k20 : PySem.W.keepIn K (.ref f20) = true)
    (a21 : PySem.W.nsIn K mainGlobals "is_prime" = some (some (.ref f21)))
    (l21 : K.lookup f21 = some ⟨oc21, od21, .func (PySem.W.fnOf "is_prime" "is_prime" (defArgs s_is_prime) (defBody s_is_prime) (defScope s_is_prime) .none kV21 dc21 pm21 an21 cd21 ct21), sl21⟩)
    (c21 : PySem.W.codeIn K cd21 "is_prime" = true)
    (k21 : PySem.W.keepIn K (.ref f21) = true)
    (a22 : PySem.W.nsIn K mainGlobals "tells_ground" = some (some (.ref f22)))
    (l22 : K.lookup f22 = some ⟨oc22, od22, .func (PySem.W.fnOf "tells_ground" "tells_ground" (defArgs s_tells_ground) (defBody s_tells_ground) (defScope s_tells_ground) .none kV22 dc22 pm22 an22 cd22 ct22), sl22⟩)
    (c22 : PySem.W.codeIn K cd22 "tells_ground" = true)
    (k22 : PySem.W.keepIn K (.ref f22) = true)
    (a23 : PySem.W.nsIn K mainGlobals "fraction" = some (some (.ref f23)))
    (l23 : K.lookup f23 = some ⟨oc23, od23, .func (PySem.W.fnOf "fraction" "fraction" (defArgs s_fraction) (defBody s_fraction) (defScope s_fraction) .none kV23 dc23 pm23 an23 cd23 ct23), sl23⟩)
    (c23 : PySem.W.codeIn K cd23 "fraction" = true)
    (k23 : PySem.W.keepIn K (.ref f23) = true)
    (a24 : PySem.W.nsIn K mainGlobals "inverse" = some (some (.ref f24)))
    (l24 : K.lookup f24 = some ⟨oc24, od24, .func (PySem.W.fnOf "inverse" "inverse" (defArgs s_inverse) (defBody s_inverse) (defScope s_inverse) .none kV24 dc24 pm24 an24 cd24 ct24), sl24⟩)
    (c24 : PySem.W.codeIn K cd24 "inverse" = true)
    (k24 : PySem.W.keepIn K (.ref f24) = true)
    (a25 : PySem.W.nsIn K mainGlobals "rest_of" = some (some (.ref f25)))
    (l25 : K.lookup f25 = some ⟨oc25, od25, .func (PySem.W.fnOf "rest_of" "rest_of" (defArgs s_rest_of) (defBody s_rest_of) (defScope s_rest_of) .none kV25 dc25 pm25 an25 cd25 ct25), sl25⟩)
    (c25 : PySem.W.codeIn K cd25 "rest_of" = true)
    (k25 : PySem.W.keepIn K (.ref f25) = true)
    (a26 : PySem.W.nsIn K mainGlobals "is_fraction" = some (some (.ref f26)))
    (l26 : K.lookup f26 = some ⟨oc26, od26, .func (PySem.W.fnOf "is_fraction" "is_fraction" (defArgs s_is_fraction) (defBody s_is_fraction) (defScope s_is_fraction) .none kV26 dc26 pm26 an26 cd26 ct26), sl26⟩)
    (c26 : PySem.W.codeIn K cd26 "is_fraction" = true)
    (k26 : PySem.W.keepIn K (.ref f26) = true)
    (a27 : PySem.W.nsIn K mainGlobals "_law_cell" = some (some (.ref f27)))
    (l27 : K.lookup f27 = some ⟨oc27, od27, .func (PySem.W.fnOf "_law_cell" "_law_cell" (defArgs s_law_cell) (defBody s_law_cell) (defScope s_law_cell) .none kV27 dc27 pm27 an27 cd27 ct27), sl27⟩)
    (c27 : PySem.W.codeIn K cd27 "_law_cell" = true)
    (k27 : PySem.W.keepIn K (.ref f27) = true)
    (a28 : PySem.W.nsIn K mainGlobals "_law_bag" = some (some (.ref f28)))
    (l28 : K.lookup f28 = some ⟨oc28, od28, .func (PySem.W.fnOf "_law_bag" "_law_bag" (defArgs s_law_bag) (defBody s_law_bag) (defScope s_law_bag) .none kV28 dc28 pm28 an28 cd28 ct28), sl28⟩)
    (c28 : PySem.W.codeIn K cd28 "_law_bag" = true)
    (k28 : PySem.W.keepIn K (.ref f28) = true)
    (a29 : PySem.W.nsIn K mainGlobals "_law_draw" = some (some (.ref f29)))
    (l29 : K.lookup f29 = some ⟨oc29, od29, .func (PySem.W.fnOf "_law_draw" "_law_draw" (defArgs s_law_draw) (defBody s_law_draw) (defScope s_law_draw) .none kV29 dc29 pm29 an29 cd29 ct29), sl29⟩)
    (c29 : PySem.W.codeIn K cd29 "_law_draw" = true)
    (k29 : PySem.W.keepIn K (.ref f29) = true)
    (a30 : PySem.W.nsIn K mainGlobals "_law_great" = some (some (.ref f30)))
    (l30 : K.lookup f30 = some ⟨oc30, od30, .func (PySem.W.fnOf "_law_great" "_law_great" (defArgs s_law_great) (defBody s_law_great) (defScope s_law_great) .none kV30 dc30 pm30 an30 cd30 ct30), sl30⟩)
    (c30 : PySem.W.codeIn K cd30 "_law_great" = true)
    (k30 : PySem.W.keepIn K (.ref f30) = true)
    (a31 : PySem.W.nsIn K mainGlobals "_law_signed" = some (some (.ref f31)))
    (l31 : K.lookup f31 = some ⟨oc31, od31, .func (PySem.W.fnOf "_law_signed" "_law_signed" (defArgs s_law_signed) (defBody s_law_signed) (defScope s_law_signed) .none kV31 dc31 pm31 an31 cd31 ct31), sl31⟩)
    (c31 : PySem.W.codeIn K cd31 "_law_signed" = true)
    (k31 : PySem.W.keepIn K (.ref f31) = true)
    (a32 : PySem.W.nsIn K mainGlobals "_law_gcd" = some (some (.ref f32)))
    (l32 : K.lookup f32 = some ⟨oc32, od32, .func (PySem.W.fnOf "_law_gcd" "_law_gcd" (defArgs s_law_gcd) (defBody s_law_gcd) (defScope s_law_gcd) .none kV32 dc32 pm32 an32 cd32 ct32), sl32⟩)
    (c32 : PySem.W.codeIn K cd32 "_law_gcd" = true)
    (k32 : PySem.W.keepIn K (.ref f32) = true)
    (a33 : PySem.W.nsIn K mainGlobals "_law_lowest" = some (some (.ref f33)))
    (l33 : K.lookup f33 = some ⟨oc33, od33, .func (PySem.W.fnOf "_law_lowest" "_law_lowest" (defArgs s_law_lowest) (defBody s_law_lowest) (defScope s_law_lowest) .none kV33 dc33 pm33 an33 cd33 ct33), sl33⟩)
    (c33 : PySem.W.codeIn K cd33 "_law_lowest" = true)
    (k33 : PySem.W.keepIn K (.ref f33) = true)
    (a34 : PySem.W.nsIn K mainGlobals "_law_whole" = some (some (.ref f34)))
    (l34 : K.lookup f34 = some ⟨oc34, od34, .func (PySem.W.fnOf "_law_whole" "_law_whole" (defArgs s_law_whole) (defBody s_law_whole) (defScope s_law_whole) .none kV34 dc34 pm34 an34 cd34 ct34), sl34⟩)
    (c34 : PySem.W.codeIn K cd34 "_law_whole" = true)
    (k34 : PySem.W.keepIn K (.ref f34) = true)
    (a35 : PySem.W.nsIn K mainGlobals "_law_prime" = some (some (.ref f35)))
    (l35 : K.lookup f35 = some ⟨oc35, od35, .func (PySem.W.fnOf "_law_prime" "_law_prime" (defArgs s_law_prime) (defBody s_law_prime) (defScope s_law_prime) .none kV35 dc35 pm35 an35 cd35 ct35), sl35⟩)
    (c35 : PySem.W.codeIn K cd35 "_law_prime" = true)
    (k35 : PySem.W.keepIn K (.ref f35) = true)
    (a36 : PySem.W.nsIn K mainGlobals "_law_number" = some (some (.ref f36)))
    (l36 : K.lookup f36 = some ⟨oc36, od36, .func (PySem.W.fnOf "_law_number" "_law_number" (defArgs s_law_number) (defBody s_law_number) (defScope s_law_number) .none kV36 dc36 pm36 an36 cd36 ct36), sl36⟩)
    (c36 : PySem.W.codeIn K cd36 "_law_number" = true)
    (k36 : PySem.W.keepIn K (.ref f36) = true)
    (a37 : PySem.W.nsIn K mainGlobals "_law_int" = some (some (.ref f37)))
    (l37 : K.lookup f37 = some ⟨oc37, od37, .func (PySem.W.fnOf "_law_int" "_law_int" (defArgs s_law_int) (defBody s_law_int) (defScope s_law_int) .none kV37 dc37 pm37 an37 cd37 ct37), sl37⟩)
    (c37 : PySem.W.codeIn K cd37 "_law_int" = true)
    (k37 : PySem.W.keepIn K (.ref f37) = true)
    (a38 : PySem.W.nsIn K mainGlobals "_law_same" = some (some (.ref f38)))
    (l38 : K.lookup f38 = some ⟨oc38, od38, .func (PySem.W.fnOf "_law_same" "_law_same" (defArgs s_law_same) (defBody s_law_same) (defScope s_law_same) .none kV38 dc38 pm38 an38 cd38 ct38), sl38⟩)
    (c38 : PySem.W.codeIn K cd38 "_law_same" = true)
    (k38 : PySem.W.keepIn K (.ref f38) = true)
    (a39 : PySem.W.nsIn K mainGlobals "_law_rows" = some (some (.ref f39)))
    (l39 : K.lookup f39 = some ⟨oc39, od39, .func (PySem.W.fnOf "_law_rows" "_law_rows" (defArgs s_law_rows) (defBody s_law_rows) (defScope s_law_rows) .none kV39 dc39 pm39 an39 cd39 ct39), sl39⟩)
    (c39 : PySem.W.codeIn K cd39 "_law_rows" = true)
    (k39 : PySem.W.keepIn K (.ref f39) = true)
    (a40 : PySem.W.nsIn K mainGlobals "_law_table" = some (some (.ref f40)))
    (l40 : K.lookup f40 = some ⟨oc40, od40, .func (PySem.W.fnOf "_law_table" "_law_table" (defArgs s_law_table) (defBody s_law_table) (defScope s_law_table) .none kV40 dc40 pm40 an40 cd40 ct40), sl40⟩)
    (c40 : PySem.W.codeIn K cd40 "_law_table" = true)
    (k40 : PySem.W.keepIn K (.ref f40) = true)
    (a41 : PySem.W.nsIn K mainGlobals "_law_copy" = some (some (.ref f41)))
    (l41 : K.lookup f41 = some ⟨oc41, od41, .func (PySem.W.fnOf "_law_copy" "_law_copy" (defArgs s_law_copy) (defBody s_law_copy) (defScope s_law_copy) .none kV41 dc41 pm41 an41 cd41 ct41), sl41⟩)
    (c41 : PySem.W.codeIn K cd41 "_law_copy" = true)
    (k41 : PySem.W.keepIn K (.ref f41) = true)
    (a42 : PySem.W.nsIn K mainGlobals "_law_good" = some (some (.ref f42)))
    (l42 : K.lookup f42 = some ⟨oc42, od42, .func (PySem.W.fnOf "_law_good" "_law_good" (defArgs s_law_good) (defBody s_law_good) (defScope s_law_good) .none kV42 dc42 pm42 an42 cd42 ct42), sl42⟩)
    (c42 : PySem.W.codeIn K cd42 "_law_good" = true)
    (k42 : PySem.W.keepIn K (.ref f42) = true)
    (a43 : PySem.W.nsIn K mainGlobals "_law_drawing" = some (some (.ref f43)))
    (l43 : K.lookup f43 = some ⟨oc43, od43, .func (PySem.W.fnOf "_law_drawing" "_law_drawing" (defArgs s_law_drawing) (defBody s_law_drawing) (defScope s_law_drawing) .none kV43 dc43 pm43 an43 cd43 ct43), sl43⟩)
    (c43 : PySem.W.codeIn K cd43 "_law_drawing" = true)
    (k43 : PySem.W.keepIn K (.ref f43) = true)
    (a44 : PySem.W.nsIn K mainGlobals "_law_standing" = some (some (.ref f44)))
    (l44 : K.lookup f44 = some ⟨oc44, od44, .func (PySem.W.fnOf "_law_standing" "_law_standing" (defArgs s_law_standing) (defBody s_law_standing) (defScope s_law_standing) .none kV44 dc44 pm44 an44 cd44 ct44), sl44⟩)
    (c44 : PySem.W.codeIn K cd44 "_law_standing" = true)
    (k44 : PySem.W.keepIn K (.ref f44) = true)
    (a45 : PySem.W.nsIn K mainGlobals "_law_shown" = some (some (.ref f45)))
    (l45 : K.lookup f45 = some ⟨oc45, od45, .func (PySem.W.fnOf "_law_shown" "_law_shown" (defArgs s_law_shown) (defBody s_law_shown) (defScope s_law_shown) .none kV45 dc45 pm45 an45 cd45 ct45), sl45⟩)
    (c45 : PySem.W.codeIn K cd45 "_law_shown" = true)
    (k45 : PySem.W.keepIn K (.ref f45) = true)
    (a46 : PySem.W.nsIn K mainGlobals "_law_table_shown" = some (some (.ref f46)))
    (l46 : K.lookup f46 = some ⟨oc46, od46, .func (PySem.W.fnOf "_law_table_shown" "_law_table_shown" (defArgs s_law_table_shown) (defBody s_law_table_shown) (defScope s_law_table_shown) .none kV46 dc46 pm46 an46 cd46 ct46), sl46⟩)
    (c46 : PySem.W.codeIn K cd46 "_law_table_shown" = true)
    (k46 : PySem.W.keepIn K (.ref f46) = true)
    (a47 : PySem.W.nsIn K mainGlobals "_law_standing_shown" = some (some (.ref f47)))
    (l47 : K.lookup f47 = some ⟨oc47, od47, .func (PySem.W.fnOf "_law_standing_shown" "_law_standing_shown" (defArgs s_law_standing_shown) (defBody s_law_standing_shown) (defScope s_law_standing_shown) .none kV47 dc47 pm47 an47 cd47 ct47), sl47⟩)
    (c47 : PySem.W.codeIn K cd47 "_law_standing_shown" = true)
    (k47 : PySem.W.keepIn K (.ref f47) = true)
    (a48 : PySem.W.nsIn K mainGlobals "_law_is" = some (some (.ref f48)))
    (l48 : K.lookup f48 = some ⟨oc48, od48, .func (PySem.W.fnOf "_law_is" "_law_is" (defArgs s_law_is) (defBody s_law_is) (defScope s_law_is) .none kV48 dc48 pm48 an48 cd48 ct48), sl48⟩)
    (c48 : PySem.W.codeIn K cd48 "_law_is" = true)
    (k48 : PySem.W.keepIn K (.ref f48) = true)
    (a49 : PySem.W.nsIn K mainGlobals "law" = some (some (.ref f49)))
    (l49 : K.lookup f49 = some ⟨oc49, od49, .func (PySem.W.fnOf "law" "law" (defArgs s_law) (defBody s_law) (defScope s_law) .none kV49 dc49 pm49 an49 cd49 ct49), sl49⟩)
    (c49 : PySem.W.codeIn K cd49 "law" = true)
    (k49 : PySem.W.keepIn K (.ref f49) = true)
    (aC : PySem.W.nsIn K mainGlobals "Drawing" = some (some (.ref C)))
    (a50 : PySem.W.findIn K (.ref C) "__init__" = some (some (.ref f50)))
    (i50 : PySem.W.isFn K (.ref f50) = true)
    (l50 : K.lookup f50 = some ⟨oc50, od50, .func (PySem.W.fnOf "__init__" "Drawing.__init__" (defArgs s_Drawing_init) (defBody s_Drawing_init) (defScope s_Drawing_init) .none kV50 dc50 pm50 an50 cd50 ct50), sl50⟩)
    (c50 : PySem.W.codeIn K cd50 "Drawing.__init__" = true)
    (k50 : PySem.W.keepIn K (.ref f50) = true)
    (pg : PySem.W.plainGet K C Str.empty = true)
    (hd : PySem.W.hasDictIn K C = true)
    (po : PySem.W.plainOver K C = true)
    (sa : PySem.W.findIn K (.ref C) "__setattr__" = some (some (.builtin "object.__setattr__")))
    (mk : PySem.W.makesIn K C = true)
    (kc : PySem.W.keepIn K (.ref C) = true)
    (nM : PySem.W.findIn K (.ref C) "many" = some none)
    (nA : PySem.W.findIn K (.ref C) "arrows" = some none)
    (aCg : PySem.W.nsIn K mainGlobals "Ground" = some (some (.ref Cg)))
    (a51 : PySem.W.findIn K (.ref Cg) "__init__" = some (some (.ref f51)))
    (i51 : PySem.W.isFn K (.ref f51) = true)
    (l51 : K.lookup f51 = some ⟨oc51, od51, .func (PySem.W.fnOf "__init__" "Ground.__init__" (defArgs s_Ground_init) (defBody s_Ground_init) (defScope s_Ground_init) .none kV51 dc51 pm51 an51 cd51 ct51), sl51⟩)
    (c51 : PySem.W.codeIn K cd51 "Ground.__init__" = true)
    (k51 : PySem.W.keepIn K (.ref f51) = true)
    (a52 : PySem.W.findIn K (.ref Cg) "number" = some (some (.ref f52)))
    (i52 : PySem.W.isFn K (.ref f52) = true)
    (l52 : K.lookup f52 = some ⟨oc52, od52, .func (PySem.W.fnOf "number" "Ground.number" (defArgs s_Ground_number) (defBody s_Ground_number) (defScope s_Ground_number) (.ref D52) kV52 dc52 pm52 an52 cd52 ct52), sl52⟩)
    (dl52 : K.lookup D52 = some ⟨doc52, dod52, .seq #[.int 1 dt52] dn52, dosl52⟩)
    (c52 : PySem.W.codeIn K cd52 "Ground.number" = true)
    (k52 : PySem.W.keepIn K (.ref f52) = true)
    (a53 : PySem.W.findIn K (.ref Cg) "is_number" = some (some (.ref f53)))
    (i53 : PySem.W.isFn K (.ref f53) = true)
    (l53 : K.lookup f53 = some ⟨oc53, od53, .func (PySem.W.fnOf "is_number" "Ground.is_number" (defArgs s_Ground_is_number) (defBody s_Ground_is_number) (defScope s_Ground_is_number) .none kV53 dc53 pm53 an53 cd53 ct53), sl53⟩)
    (c53 : PySem.W.codeIn K cd53 "Ground.is_number" = true)
    (k53 : PySem.W.keepIn K (.ref f53) = true)
    (pg_Cg : PySem.W.plainGet K Cg Str.empty = true)
    (hd_Cg : PySem.W.hasDictIn K Cg = true)
    (po_Cg : PySem.W.plainOver K Cg = true)
    (sa_Cg : PySem.W.findIn K (.ref Cg) "__setattr__" = some (some (.builtin "object.__setattr__")))
    (mk_Cg : PySem.W.makesIn K Cg = true)
    (kc_Cg : PySem.W.keepIn K (.ref Cg) = true)
    (nP : PySem.W.findIn K (.ref Cg) "prime" = some none)
    (aCs : PySem.W.nsIn K mainGlobals "Standing" = some (some (.ref Cs)))
    (a54 : PySem.W.findIn K (.ref Cs) "__init__" = some (some (.ref f54)))
    (i54 : PySem.W.isFn K (.ref f54) = true)
    (l54 : K.lookup f54 = some ⟨oc54, od54, .func (PySem.W.fnOf "__init__" "Standing.__init__" (defArgs s_Standing_init) (defBody s_Standing_init) (defScope s_Standing_init) .none kV54 dc54 pm54 an54 cd54 ct54), sl54⟩)
    (c54 : PySem.W.codeIn K cd54 "Standing.__init__" = true)
    (k54 : PySem.W.keepIn K (.ref f54) = true)
    (pg_Cs : PySem.W.plainGet K Cs Str.empty = true)
    (hd_Cs : PySem.W.hasDictIn K Cs = true)
    (po_Cs : PySem.W.plainOver K Cs = true)
    (sa_Cs : PySem.W.findIn K (.ref Cs) "__setattr__" = some (some (.builtin "object.__setattr__")))
    (mk_Cs : PySem.W.makesIn K Cs = true)
    (kc_Cs : PySem.W.keepIn K (.ref Cs) = true)
    (nSg : PySem.W.findIn K (.ref Cs) "ground" = some none)
    (nSd : PySem.W.findIn K (.ref Cs) "drawing" = some none)
    (nSs : PySem.W.findIn K (.ref Cs) "sizes" = some none)
    (nSt : PySem.W.findIn K (.ref Cs) "tables" = some none)
    (g1 : PySem.W.nsIn K mainGlobals "MOST_POINTS" = some (some (.int 8 t1)))
    (g2 : PySem.W.nsIn K mainGlobals "MOST_ARROWS" = some (some (.int 9 t2)))
    (g3 : PySem.W.nsIn K mainGlobals "LARGEST_PRIME" = some (some (.int 97 t3)))
    (g4 : PySem.W.nsIn K mainGlobals "LONG" = some (some (.int 4000 t4)))
    (g5 : PySem.W.nsIn K mainGlobals "MOST_FIGURES" = some (some (.int 30 t5)))
    (g6 : PySem.W.nsIn K mainGlobals "LARGEST_SUM" = some (some (.int 40 t6)))
    (g7 : PySem.W.nsIn K mainGlobals "FIGURES" = some (some (.str "0123456789" t7)))
    (z0 : PySem.W.nsIn K mainGlobals "len" = some none)
    (z1 : PySem.W.nsIn K mainGlobals "range" = some none)
    (z2 : PySem.W.nsIn K mainGlobals "list" = some none)
    (z3 : PySem.W.nsIn K mainGlobals "min" = some none)
    (z4 : PySem.W.nsIn K mainGlobals "int" = some none)
    (z5 : PySem.W.nsIn K mainGlobals "bool" = some none)
    (z6 : PySem.W.nsIn K mainGlobals "tuple" = some none)
    (z7 : PySem.W.nsIn K mainGlobals "all" = some none)
    (z8 : PySem.W.nsIn K mainGlobals "isinstance" = some none)
    (z9 : PySem.W.nsIn K mainGlobals "abs" = some none)
    (z10 : PySem.W.nsIn K mainGlobals "zip" = some none)
    (z11 : PySem.W.nsIn K mainGlobals "any" = some none)
    (z12 : PySem.W.nsIn K mainGlobals "str" = some none)
    (z13 : PySem.W.nsIn K mainGlobals "sum" = some none)
    (z14 : PySem.W.nsIn K mainGlobals "max" = some none)
    (x_ic1 : PySem.W.findIn K (.ref Cs) "__class__" = some (some (.builtin "object.__class__")))
    (x_ic2 : PySem.W.specialIn K (.builtin "object.__class__") "__get__" = some (some (.builtin "getset_descriptor.__get__")))
    (x_ic3 : PySem.W.takesIn K (.builtin "object.__class__") = some true)
    (x_ic4 : PySem.W.mroIn K Cs (.type "object") = some true)
    (x_ks : PySem.W.kitOne K (.ref Cs) (.type "str") = some false) :
    ∃ fd : FuncData, (∀ (s : Shared) (v : Value), BindsTo s fd ⟨[v], []⟩ [("_law_script", v)]) ∧ ∀ base : Heap, K.In base → base.Ns mainGlobals mg → FnOk l.prog w K mg base CX0 12 fa fd ["_law_script"] (spLaw K) := by
  have e := hfa.symm.trans (PySem.W.mg_of X G a49)
  cases e
  have T : Txt K mg C Cg Cs := ⟨⟨pg, hd, po, sa⟩, nM, nA, ⟨pg_Cg, hd_Cg, po_Cg, sa_Cg⟩, nP, ⟨pg_Cs, hd_Cs, po_Cs, sa_Cs⟩, nSg, nSd, nSs, nSt, PySem.W.mg_none_of X G z0, PySem.W.mg_none_of X G z1, PySem.W.mg_none_of X G z2, PySem.W.mg_none_of X G z3, PySem.W.mg_none_of X G z4, PySem.W.mg_none_of X G z5, PySem.W.mg_none_of X G z6, PySem.W.mg_none_of X G z7, PySem.W.mg_none_of X G z8, PySem.W.mg_none_of X G z9, PySem.W.mg_none_of X G z10, PySem.W.mg_none_of X G z11, PySem.W.mg_none_of X G z12, PySem.W.mg_none_of X G z13, PySem.W.mg_none_of X G z14, ⟨t1, PySem.W.mg_of X G g1⟩, ⟨t2, PySem.W.mg_of X G g2⟩, ⟨t3, PySem.W.mg_of X G g3⟩, ⟨t4, PySem.W.mg_of X G g4⟩, ⟨t5, PySem.W.mg_of X G g5⟩, ⟨t6, PySem.W.mg_of X G g6⟩, ⟨t7, PySem.W.mg_of X G g7⟩, x_ic1, x_ic2, x_ic3, x_ic4, x_ks⟩
  have F1 := fun_mk (st := s_is_whole) l1 c1 k1
  have b1 := F1.binds (ps := ["thing"]) fun _ _ _ _ _ _ us hl => match us, hl with | [_], _ => rfl
  have F2 := fun_mk (st := s_makes_drawing) l2 c2 k2
  have b2 := F2.binds (ps := ["many", "arrows"]) fun _ _ _ _ _ _ us hl => match us, hl with | [_, _], _ => rfl
  have F3 := fun_mk (st := s_is_arrow) l3 c3 k3
  have b3 := F3.binds (ps := ["many", "thing"]) fun _ _ _ _ _ _ us hl => match us, hl with | [_, _], _ => rfl
  have F4 := fun_mk (st := s_is_table) l4 c4 k4
  have b4 := F4.binds (ps := ["ground", "thing"]) fun _ _ _ _ _ _ us hl => match us, hl with | [_, _], _ => rfl
  have F5 := fun_mk (st := s_is_row) l5 c5 k5
  have b5 := F5.binds (ps := ["ground", "wide", "thing"]) fun _ _ _ _ _ _ us hl => match us, hl with | [_, _, _], _ => rfl
  have F6 := fun_mk (st := s_noughts) l6 c6 k6
  have b6 := F6.binds (ps := ["ground", "high", "wide"]) fun _ _ _ _ _ _ us hl => match us, hl with | [_, _, _], _ => rfl
  have F7 := fun_mk (st := s_are_sizes) l7 c7 k7
  have b7 := F7.binds (ps := ["drawing", "thing"]) fun _ _ _ _ _ _ us hl => match us, hl with | [_, _], _ => rfl
  have F8 := fun_mk (st := s_is_table_of) l8 c8 k8
  have b8 := F8.binds (ps := ["ground", "high", "wide", "thing"]) fun _ _ _ _ _ _ us hl => match us, hl with | [_, _, _, _], _ => rfl
  have F9 := fun_mk (st := s_are_tables) l9 c9 k9
  have b9 := F9.binds (ps := ["ground", "drawing", "sizes", "thing"]) fun _ _ _ _ _ _ us hl => match us, hl with | [_, _, _, _], _ => rfl
  have F10 := fun_mk (st := s_show_whole) l10 c10 k10
  have b10 := F10.binds (ps := ["number"]) fun _ _ _ _ _ _ us hl => match us, hl with | [_], _ => rfl
  have F11 := fun_mk (st := s_show_number) l11 c11 k11
  have b11 := F11.binds (ps := ["ground", "number"]) fun _ _ _ _ _ _ us hl => match us, hl with | [_, _], _ => rfl
  have F12 := fun_mk (st := s_show_table) l12 c12 k12
  have b12 := F12.binds (ps := ["ground", "table"]) fun _ _ _ _ _ _ us hl => match us, hl with | [_, _], _ => rfl
  have F13 := fun_mk (st := s_show_standing) l13 c13 k13
  have b13 := F13.binds (ps := ["standing"]) fun _ _ _ _ _ _ us hl => match us, hl with | [_], _ => rfl
  have F14 := fun_mk (st := s_is_written) l14 c14 k14
  have b14 := F14.binds (ps := ["most", "text"]) fun _ _ _ _ _ _ us hl => match us, hl with | [_, _], _ => rfl
  have F15 := fun_mk (st := s_read_whole) l15 c15 k15
  have b15 := F15.binds (ps := ["text"]) fun _ _ _ _ _ _ us hl => match us, hl with | [_], _ => rfl
  have F16 := fun_mk (st := s_read_top) l16 c16 k16
  have b16 := F16.binds (ps := ["text"]) fun _ _ _ _ _ _ us hl => match us, hl with | [_], _ => rfl
  have F17 := fun_mk (st := s_read_number) l17 c17 k17
  have b17 := F17.binds (ps := ["ground", "text"]) fun _ _ _ _ _ _ us hl => match us, hl with | [_, _], _ => rfl
  have F18 := fun_mk (st := s_read_table) l18 c18 k18
  have b18 := F18.binds (ps := ["ground", "high", "wide", "text"]) fun _ _ _ _ _ _ us hl => match us, hl with | [_, _, _, _], _ => rfl
  have F19 := fun_mk (st := s_read_standing) l19 c19 k19
  have b19 := F19.binds (ps := ["ground", "drawing", "text"]) fun _ _ _ _ _ _ us hl => match us, hl with | [_, _, _], _ => rfl
  have F20 := fun_mk (st := s_common_divisor) l20 c20 k20
  have b20 := F20.binds (ps := ["one", "other"]) fun _ _ _ _ _ _ us hl => match us, hl with | [_, _], _ => rfl
  have F21 := fun_mk (st := s_is_prime) l21 c21 k21
  have b21 := F21.binds (ps := ["number"]) fun _ _ _ _ _ _ us hl => match us, hl with | [_], _ => rfl
  have F22 := fun_mk (st := s_tells_ground) l22 c22 k22
  have b22 := F22.binds (ps := ["thing"]) fun _ _ _ _ _ _ us hl => match us, hl with | [_], _ => rfl
  have F23 := fun_mk (st := s_fraction) l23 c23 k23
  have b23 := F23.binds (ps := ["top", "bottom"]) fun _ _ _ _ _ _ us hl => match us, hl with | [_, _], _ => rfl
  have F24 := fun_mk (st := s_inverse) l24 c24 k24
  have b24 := F24.binds (ps := ["rest", "prime"]) fun _ _ _ _ _ _ us hl => match us, hl with | [_, _], _ => rfl
  have F25 := fun_mk (st := s_rest_of) l25 c25 k25
  have b25 := F25.binds (ps := ["top", "bottom", "prime"]) fun _ _ _ _ _ _ us hl => match us, hl with | [_, _, _], _ => rfl
  have F26 := fun_mk (st := s_is_fraction) l26 c26 k26
  have b26 := F26.binds (ps := ["thing"]) fun _ _ _ _ _ _ us hl => match us, hl with | [_], _ => rfl
  have F27 := fun_mk (st := s_law_cell) l27 c27 k27
  have b27 := F27.binds (ps := ["_law_script", "_law_k"]) fun _ _ _ _ _ _ us hl => match us, hl with | [_, _], _ => rfl
  have F28 := fun_mk (st := s_law_bag) l28 c28 k28
  have b28 := F28.binds (ps := ["_law_cell_here"]) fun _ _ _ _ _ _ us hl => match us, hl with | [_], _ => rfl
  have F29 := fun_mk (st := s_law_draw) l29 c29 k29
  have b29 := F29.binds (ps := ["_law_bag_here", "_law_many"]) fun _ _ _ _ _ _ us hl => match us, hl with | [_, _], _ => rfl
  have F30 := fun_mk (st := s_law_great) l30 c30 k30
  have b30 := F30.binds (ps := ["_law_bag_here"]) fun _ _ _ _ _ _ us hl => match us, hl with | [_], _ => rfl
  have F31 := fun_mk (st := s_law_signed) l31 c31 k31
  have b31 := F31.binds (ps := ["_law_bag_here"]) fun _ _ _ _ _ _ us hl => match us, hl with | [_], _ => rfl
  have F32 := fun_mk (st := s_law_gcd) l32 c32 k32
  have b32 := F32.binds (ps := ["_law_one", "_law_two"]) fun _ _ _ _ _ _ us hl => match us, hl with | [_, _], _ => rfl
  have F33 := fun_mk (st := s_law_lowest) l33 c33 k33
  have b33 := F33.binds (ps := ["_law_top", "_law_bottom"]) fun _ _ _ _ _ _ us hl => match us, hl with | [_, _], _ => rfl
  have F34 := fun_mk (st := s_law_whole) l34 c34 k34
  have b34 := F34.binds (ps := ["_law_found"]) fun _ _ _ _ _ _ us hl => match us, hl with | [_], _ => rfl
  have F35 := fun_mk (st := s_law_prime) l35 c35 k35
  have b35 := F35.binds (ps := ["_law_bag_here"]) fun _ _ _ _ _ _ us hl => match us, hl with | [_], _ => rfl
  have F36 := fun_mk (st := s_law_number) l36 c36 k36
  have b36 := F36.binds (ps := ["_law_bag_here", "_law_p"]) fun _ _ _ _ _ _ us hl => match us, hl with | [_, _], _ => rfl
  have F37 := fun_mk (st := s_law_int) l37 c37 k37
  have b37 := F37.binds (ps := ["_law_p", "_law_k"]) fun _ _ _ _ _ _ us hl => match us, hl with | [_, _], _ => rfl
  have F38 := fun_mk (st := s_law_same) l38 c38 k38
  have b38 := F38.binds (ps := ["_law_p", "_law_found", "_law_due"]) fun _ _ _ _ _ _ us hl => match us, hl with | [_, _, _], _ => rfl
  have F39 := fun_mk (st := s_law_rows) l39 c39 k39
  have b39 := F39.binds (ps := ["_law_bag_here", "_law_p", "_law_high", "_law_wide"]) fun _ _ _ _ _ _ us hl => match us, hl with | [_, _, _, _], _ => rfl
  have F40 := fun_mk (st := s_law_table) l40 c40 k40
  have b40 := F40.binds (ps := ["_law_bag_here", "_law_p", "_law_high", "_law_wide"]) fun _ _ _ _ _ _ us hl => match us, hl with | [_, _, _, _], _ => rfl
  have F41 := fun_mk (st := s_law_copy) l41 c41 k41
  have b41 := F41.binds (ps := ["_law_table_here"]) fun _ _ _ _ _ _ us hl => match us, hl with | [_], _ => rfl
  have F42 := fun_mk (st := s_law_good) l42 c42 k42
  have b42 := F42.binds (ps := ["_law_p", "_law_found", "_law_due"]) fun _ _ _ _ _ _ us hl => match us, hl with | [_, _, _], _ => rfl
  have F43 := fun_mk (st := s_law_drawing) l43 c43 k43
  have b43 := F43.binds (ps := ["_law_bag_here"]) fun _ _ _ _ _ _ us hl => match us, hl with | [_], _ => rfl
  have F44 := fun_mk (st := s_law_standing) l44 c44 k44
  have b44 := F44.binds (ps := ["_law_bag_here", "_law_p", "_law_many", "_law_arrows"]) fun _ _ _ _ _ _ us hl => match us, hl with | [_, _, _, _], _ => rfl
  have F45 := fun_mk (st := s_law_shown) l45 c45 k45
  have b45 := F45.binds (ps := ["_law_p", "_law_number_here"]) fun _ _ _ _ _ _ us hl => match us, hl with | [_, _], _ => rfl
  have F46 := fun_mk (st := s_law_table_shown) l46 c46 k46
  have b46 := F46.binds (ps := ["_law_p", "_law_table_here"]) fun _ _ _ _ _ _ us hl => match us, hl with | [_, _], _ => rfl
  have F47 := fun_mk (st := s_law_standing_shown) l47 c47 k47
  have b47 := F47.binds (ps := ["_law_p", "_law_standing_here"]) fun _ _ _ _ _ _ us hl => match us, hl with | [_, _], _ => rfl
  have F48 := fun_mk (st := s_law_is) l48 c48 k48
  have b48 := F48.binds (ps := ["_law_p", "_law_found", "_law_sizes", "_law_tables"]) fun _ _ _ _ _ _ us hl => match us, hl with | [_, _, _, _], _ => rfl
  have F49 := fun_mk (st := s_law) l49 c49 k49
  have F50 := fun_mk (st := s_Drawing_init) l50 c50 k50
  have b50 := F50.binds (ps := ["self", "many", "arrows"]) fun _ _ _ _ _ _ us hl => match us, hl with | [_, _, _], _ => rfl
  have F51 := fun_mk (st := s_Ground_init) l51 c51 k51
  have b51 := F51.binds (ps := ["self", "prime"]) fun _ _ _ _ _ _ us hl => match us, hl with | [_, _], _ => rfl
  have F52 : FunD K "number" "Ground.number" s_Ground_number f52 _ D52 := ⟨⟨oc52, od52, kV52, dc52, pm52, an52, cd52, ct52, sl52, rfl, l52, c52⟩⟩
  have b52 := binds_default (fd := PySem.W.fnOf "number" "Ground.number" (defArgs s_Ground_number) (defBody s_Ground_number) (defScope s_Ground_number) (.ref D52) kV52 dc52 pm52 an52 cd52 ct52) (ps := ["self", "top", "bottom"]) (ds := [.int 1 dt52]) dl52 rfl fun us hl => match us, (show us.length = 2 by simpa using hl) with | [_, _], _ => ⟨_, rfl, rfl⟩
  have bF52 := binds_default (fd := PySem.W.fnOf "number" "Ground.number" (defArgs s_Ground_number) (defBody s_Ground_number) (defScope s_Ground_number) (.ref D52) kV52 dc52 pm52 an52 cd52 ct52) (ps := ["self", "top", "bottom"]) (ds := []) dl52 rfl fun us hl => match us, (show us.length = 3 by simpa using hl) with | [_, _, _], _ => ⟨_, rfl, rfl⟩
  have F53 := fun_mk (st := s_Ground_is_number) l53 c53 k53
  have b53 := F53.binds (ps := ["self", "thing"]) fun _ _ _ _ _ _ us hl => match us, hl with | [_, _], _ => rfl
  have F54 := fun_mk (st := s_Standing_init) l54 c54 k54
  have b54 := F54.binds (ps := ["self", "ground", "drawing", "sizes", "tables"]) fun _ _ _ _ _ _ us hl => match us, hl with | [_, _, _, _, _], _ => rfl
  refine ⟨PySem.W.fnOf "law" "law" (defArgs s_law) (defBody s_law) (defScope s_law) .none kV49 dc49 pm49 an49 cd49 ct49, fun s v => .of_eq rfl, fun base KB _ => ?_⟩
  have C1 : Cal l.prog w K mg base "is_whole" 1 spWhole := ⟨_, _, _, ok_whole F1 T , PySem.W.mg_of X G a1, k1, b1⟩
  have C1A : Cal l.prog w K mg base "is_whole" 1 spWholeA := ⟨_, _, _, ok_wholeA F1 T , PySem.W.mg_of X G a1, k1, b1⟩
  have C3 : Cal l.prog w K mg base "is_arrow" 2 spArrow := ⟨_, _, _, ok_arrow F3 T C1, PySem.W.mg_of X G a3, k3, b3⟩
  have C2 : Cal l.prog w K mg base "makes_drawing" 3 spMakes := ⟨_, _, _, ok_makes F2 T C1 C3, PySem.W.mg_of X G a2, k2, b2⟩
  have C50 : CalI l.prog w K mg base "Drawing" C 4 (spInit C) := ⟨_, _, _, ok_init F50 T C2, ⟨mk, a50, i50, kc⟩, PySem.W.mg_of X G aC, b50⟩
  have C20 : Cal l.prog w K mg base "common_divisor" 1 spCd := ⟨_, _, _, ok_cd F20 T , PySem.W.mg_of X G a20, k20, b20⟩
  have C21 : Cal l.prog w K mg base "is_prime" 1 spPrime := ⟨_, _, _, ok_prime F21 T , PySem.W.mg_of X G a21, k21, b21⟩
  have C22 : Cal l.prog w K mg base "tells_ground" 2 spTells := ⟨_, _, _, ok_tells F22 T C1 C21, PySem.W.mg_of X G a22, k22, b22⟩
  have C23 : Cal l.prog w K mg base "fraction" 2 spFrac := ⟨_, _, _, ok_frac F23 T C20, PySem.W.mg_of X G a23, k23, b23⟩
  have C24 : Cal l.prog w K mg base "inverse" 1 spInv1 := ⟨_, _, _, ok_inv F24 T , PySem.W.mg_of X G a24, k24, b24⟩
  have C25 : Cal l.prog w K mg base "rest_of" 2 spRestT := ⟨_, _, _, ok_restT F25 T C24, PySem.W.mg_of X G a25, k25, b25⟩
  have C26 : Cal l.prog w K mg base "is_fraction" 2 spFr := ⟨_, _, _, ok_fr F26 T C1A C20, PySem.W.mg_of X G a26, k26, b26⟩
  have C51 : CalI l.prog w K mg base "Ground" Cg 3 (spGInit Cg) := ⟨_, _, _, ok_ginit F51 T C22, ⟨mk_Cg, a51, i51, kc_Cg⟩, PySem.W.mg_of X G aCg, b51⟩
  have C52 : CalD l.prog w K mg base Cg "number" 3 (spNx Cg) [.int 1] := ⟨_, _, _, _, ok_nx F52 T C23 C25, ⟨a52, i52, k52⟩, b52, .cons ⟨_, rfl⟩ .nil⟩
  have C52F : CalD l.prog w K mg base Cg "number" 3 (spNx Cg) [] := ⟨_, _, _, [], ok_nx F52 T C23 C25, ⟨a52, i52, k52⟩, bF52, .nil⟩
  have C53 : CalM l.prog w K mg base Cg "is_number" 3 (spIsN Cg) := ⟨_, _, _, ok_isn F53 T C1A C26, ⟨a53, i53, k53⟩, b53⟩
  have C5 : Cal l.prog w K mg base "is_row" 4 (spRowI Cg) := ⟨_, _, _, ok_isrow F5 T C53, PySem.W.mg_of X G a5, k5, b5⟩
  have C4 : Cal l.prog w K mg base "is_table" 5 (spTabI Cg) := ⟨_, _, _, ok_istab F4 T C1A C5, PySem.W.mg_of X G a4, k4, b4⟩
  have C7 : Cal l.prog w K mg base "are_sizes" 2 (spSz C) := ⟨_, _, _, ok_sz F7 T C1, PySem.W.mg_of X G a7, k7, b7⟩
  have C8 : Cal l.prog w K mg base "is_table_of" 6 (spTo Cg) := ⟨_, _, _, ok_to F8 T C4, PySem.W.mg_of X G a8, k8, b8⟩
  have C9 : Cal l.prog w K mg base "are_tables" 7 (spTs C Cg) := ⟨_, _, _, ok_ts F9 T C8, PySem.W.mg_of X G a9, k9, b9⟩
  have C54 : CalI l.prog w K mg base "Standing" Cs 8 (spSI Cs C Cg) := ⟨_, _, _, ok_sinit F54 T C7 C9, ⟨mk_Cs, a54, i54, kc_Cs⟩, PySem.W.mg_of X G aCs, b54⟩
  have C10P : Cal l.prog w K mg base "show_whole" 1 spShP := ⟨_, _, _, ok_showP F10 T , PySem.W.mg_of X G a10, k10, b10⟩
  have C10 : Cal l.prog w K mg base "show_whole" 2 spSh := ⟨_, _, _, ok_show F10 T C10P, PySem.W.mg_of X G a10, k10, b10⟩
  have C11 : Cal l.prog w K mg base "show_number" 3 (spShN Cg) := ⟨_, _, _, ok_shn F11 T C10, PySem.W.mg_of X G a11, k11, b11⟩
  have C12 : Cal l.prog w K mg base "show_table" 4 (spShT Cg) := ⟨_, _, _, ok_sht F12 T C11, PySem.W.mg_of X G a12, k12, b12⟩
  have C13 : Cal l.prog w K mg base "show_standing" 5 (spShS Cs C Cg) := ⟨_, _, _, ok_shs F13 T C10 C12, PySem.W.mg_of X G a13, k13, b13⟩
  have C14 : Cal l.prog w K mg base "is_written" 1 spWt := ⟨_, _, _, ok_wt F14 T , PySem.W.mg_of X G a14, k14, b14⟩
  have C15 : Cal l.prog w K mg base "read_whole" 2 spRw := ⟨_, _, _, ok_rw F15 T C14, PySem.W.mg_of X G a15, k15, b15⟩
  have C16 : Cal l.prog w K mg base "read_top" 3 spRtop := ⟨_, _, _, ok_rtop F16 T C15, PySem.W.mg_of X G a16, k16, b16⟩
  have C17 : Cal l.prog w K mg base "read_number" 4 (spRn Cg) := ⟨_, _, _, ok_rn F17 T C16 C15 C52F, PySem.W.mg_of X G a17, k17, b17⟩
  have C6 : Cal l.prog w K mg base "noughts" 4 (spNou Cg) := ⟨_, _, _, ok_nou F6 T C52, PySem.W.mg_of X G a6, k6, b6⟩
  have C18 : Cal l.prog w K mg base "read_table" 5 (spRt Cg) := ⟨_, _, _, ok_rtab F18 T C6 C17, PySem.W.mg_of X G a18, k18, b18⟩
  have C19 : Cal l.prog w K mg base "read_standing" 10 (spRs Cs C Cg) := ⟨_, _, _, ok_rs F19 T C15 C18 C54, PySem.W.mg_of X G a19, k19, b19⟩
  have C27 : Cal l.prog w K mg base "_law_cell" 1 (spCell K) := ⟨_, _, _, ok_cell F27 T , PySem.W.mg_of X G a27, k27, b27⟩
  have C28 : Cal l.prog w K mg base "_law_bag" 1 spBag := ⟨_, _, _, ok_bag F28 T , PySem.W.mg_of X G a28, k28, b28⟩
  have C29 : Cal l.prog w K mg base "_law_draw" 1 spDraw := ⟨_, _, _, ok_draw F29 T , PySem.W.mg_of X G a29, k29, b29⟩
  have C32 : Cal l.prog w K mg base "_law_gcd" 1 spGcd := ⟨_, _, _, ok_gcd F32 T , PySem.W.mg_of X G a32, k32, b32⟩
  have C33 : Cal l.prog w K mg base "_law_lowest" 2 spFrac := ⟨_, _, _, ok_lowest F33 T C32, PySem.W.mg_of X G a33, k33, b33⟩
  have C34 : Cal l.prog w K mg base "_law_whole" 1 spWhole := ⟨_, _, _, ok_lwhole F34 T , PySem.W.mg_of X G a34, k34, b34⟩
  have C35 : Cal l.prog w K mg base "_law_prime" 2 spPr := ⟨_, _, _, ok_lprime F35 T C29, PySem.W.mg_of X G a35, k35, b35⟩
  have C37 : Cal l.prog w K mg base "_law_int" 1 spInt := ⟨_, _, _, ok_int F37 T , PySem.W.mg_of X G a37, k37, b37⟩
  have C38 : Cal l.prog w K mg base "_law_same" 2 spSame := ⟨_, _, _, ok_same F38 T C34, PySem.W.mg_of X G a38, k38, b38⟩
  have C30 : Cal l.prog w K mg base "_law_great" 2 spGreat := ⟨_, _, _, ok_great F30 T C29, PySem.W.mg_of X G a30, k30, b30⟩
  have C31 : Cal l.prog w K mg base "_law_signed" 3 spSigned := ⟨_, _, _, ok_signed F31 T C29 C30, PySem.W.mg_of X G a31, k31, b31⟩
  have C36 : Cal l.prog w K mg base "_law_number" 4 spNum := ⟨_, _, _, ok_lnum F36 T C29 C33 C31 C30, PySem.W.mg_of X G a36, k36, b36⟩
  have C39 : Cal l.prog w K mg base "_law_rows" 5 spRows := ⟨_, _, _, ok_rows F39 T C29 C36 C37, PySem.W.mg_of X G a39, k39, b39⟩
  have C40 : Cal l.prog w K mg base "_law_table" 6 spTb := ⟨_, _, _, ok_tb F40 T C39 C29, PySem.W.mg_of X G a40, k40, b40⟩
  have C41 : Cal l.prog w K mg base "_law_copy" 1 spCopy := ⟨_, _, _, ok_copy F41 T , PySem.W.mg_of X G a41, k41, b41⟩
  have C42 : Cal l.prog w K mg base "_law_good" 3 spGood := ⟨_, _, _, ok_good F42 T C34 C38, PySem.W.mg_of X G a42, k42, b42⟩
  have C43 : Cal l.prog w K mg base "_law_drawing" 2 (spOut way0) := ⟨_, _, _, ok_ldraw F43 T C29, PySem.W.mg_of X G a43, k43, b43⟩
  have C44 : Cal l.prog w K mg base "_law_standing" 7 spLst := ⟨_, _, _, ok_lst F44 T C29 C40, PySem.W.mg_of X G a44, k44, b44⟩
  have C45 : Cal l.prog w K mg base "_law_shown" 1 spLsh := ⟨_, _, _, ok_lsh F45 T , PySem.W.mg_of X G a45, k45, b45⟩
  have C46 : Cal l.prog w K mg base "_law_table_shown" 2 spLts := ⟨_, _, _, ok_lts F46 T C45, PySem.W.mg_of X G a46, k46, b46⟩
  have C47 : Cal l.prog w K mg base "_law_standing_shown" 3 spLss := ⟨_, _, _, ok_lss F47 T C46, PySem.W.mg_of X G a47, k47, b47⟩
  have C48 : Cal l.prog w K mg base "_law_is" 4 (spIs Cs C Cg) := ⟨_, _, _, ok_is F48 T C34 C42, PySem.W.mg_of X G a48, k48, b48⟩
  exact ok_law F49 T C27 C28 C29 C35 C43 C44 C41 C51 C50 C54 C47 C13 C19 C48
theorem walk {l : PySem.W.OpenLaw} {q : Program} {loose : List Str} {XP : (Str → Option Value) → Heap → Prop} {YP : World → Heap → Prop} {d : DefRec} {K : Params → PySem.W.Frag} (hn : l.most = some 63) (hdf : d.params.defaults = [])
    (hY : ∀ (w : World) (h : Heap), YP w h → (K w.params).In h)
    (F : ∀ (w : World) (mg : Str → Option Value) (fa : Addr) (h : Heap), (K w.params).In h → h.Ns mainGlobals mg → mg d.name = some (.ref fa) →
      ∃ fd : FuncData, (∀ (s : Shared) (u : Value), BindsTo s fd ⟨[u], []⟩ [("_law_script", u)]) ∧ ∀ base : Heap, (K w.params).In base → base.Ns mainGlobals mg → FnOk l.prog w (K w.params) mg base CX0 12 fa fd ["_law_script"] (spLaw (K w.params))) :
    PySem.W.WalkO q loose XP YP l.row.toRowW d [] (fun f vs => PySem.call f vs) :=
  L2.walk_of (n := 63) (k := 12) (x := "_law_script") (CX := fun _ => CX0) (sp := fun w => spLaw (K w.params)) hn (by decide) hdf ⟨rfl, by decide, by decide⟩ hY F (fun _ _ a ns hl _ hS => ⟨a, ns, rfl, hS, hl, fun _ => rfl⟩) (fun _ _ _ _ _ h => h)
end Pf
def PySem.W.Fast.tw5469379844227767152 : Nat := 0
def PySem.W.Fast.tw13852523375067864467 : Nat := 0
def PySem.W.Fast.tw2505946547341718141 : Nat := 0
def PySem.W.Fast.tw3843525375109514290 : Nat := 0
def PySem.W.Fast.tw5346559658311790201 : Nat := 0
def PySem.W.Fast.tw13822558464736097006 : Nat := 0
def PySem.W.Fast.tw756519704695574988 : Nat := 0
def PySem.W.Fast.tw353523749142012269 : Nat := 0
def PySem.W.Fast.tw15392960397194385870 : Nat := 0
def PySem.W.Fast.tw10474921602530964981 : Nat := 0
def PySem.W.Fast.tw281677544915302367 : Nat := 0
def PySem.W.Fast.tw286537671259251110 : Nat := 0
def PySem.W.Fast.tw10954324335359045685 : Nat := 0
def PySem.W.Fast.tw15622604508723328191 : Nat := 0
def PySem.W.Fast.tw10666402494891750743 : Nat := 0
def PySem.W.Fast.tw4702474646982999293 : Nat := 0
def PySem.W.Fast.tw9492984847223578245 : Nat := 0
def PySem.W.Fast.tw4136096131442734842 : Nat := 0
def PySem.W.Fast.tw13297566328661474545 : Nat := 0
def PySem.W.Fast.tw18347112788713180667 : Nat := 0
def PySem.W.Fast.tw7422068161449930163 : Nat := 0
def PySem.W.Fast.tw2283631919836563198 : Nat := 0
def PySem.W.Fast.tw16675715758081547937 : Nat := 0
def PySem.W.Fast.tw15219634119617274116 : Nat := 0
def PySem.W.Fast.tw15240085182034918179 : Nat := 0
def PySem.W.Fast.tw1669896965176548504 : Nat := 0
def PySem.W.Fast.tw9367743904327247970 : Nat := 0
def PySem.W.Fast.tw7913562560889490627 : Nat := 0
def PySem.W.Fast.tw4902723321666642403 : Nat := 0
def PySem.W.Fast.tw10826829143106864944 : Nat := 0
def PySem.W.Fast.tw3946494282218868341 : Nat := 0
def PySem.W.Fast.tw12616502732868671903 : Nat := 0
def PySem.W.Fast.tw18263028631082406787 : Nat := 0
def PySem.W.Fast.tw10085290024685947667 : Nat := 0
def PySem.W.Fast.tw18341815134998747276 : Nat := 0
def PySem.W.Fast.tw5280649848327807835 : Nat := 0
def PySem.W.Fast.tw13687312316064405162 : Nat := 0
def PySem.W.Fast.tw9613928013339879161 : Nat := 0
def PySem.W.Fast.tw14136955471455061609 : Nat := 0
def PySem.W.Fast.tw6213914806302075501 : Nat := 0
def PySem.W.Fast.tw9954541951367822201 : Nat := 0
def PySem.W.Fast.tw3008242773006232515 : Nat := 0
def PySem.W.Fast.tw18267511736156630136 : Nat := 0
def PySem.W.Fast.tw2632841841221419695 : Nat := 0
def PySem.W.Fast.tw17164645952091702013 : Nat := 0
open PySem PySem.W PyProof.Rows
set_option maxRecDepth 100000 in
set_option maxHeartbeats 0 in
theorem PySem.Challenge.cw_limbtables_k72_standings_written_and_rea_holds : PySem.Challenge.rw_limbtables_k72_standings_written_and_rea.Holds := by
  w_on; o_law; k_head; (case hw => w_witness2)
  k_fill
  refine Pf.walk (l := PySem.Challenge.rw_limbtables_k72_standings_written_and_rea) rfl rfl (fun w h Y => by first | exact PySem.W.kIn_of Y | exact PySem.W.km_in_of Y) ?F
  case F =>
    intro w mg fa h KX G hmg
    refine' Pf.all_mk KX G hmg ?a1 ?l1 ?c1 ?k1 ?a2 ?l2 ?c2 ?k2 ?a3 ?l3 ?c3 ?k3 ?a4 ?l4 ?c4 ?k4 ?a5 ?l5 ?c5 ?k5 ?a6 ?l6 ?c6 ?k6 ?a7 ?l7 ?c7 ?k7 ?a8 ?l8 ?c8 ?k8 ?a9 ?l9 ?c9 ?k9 ?a10 ?l10 ?c10 ?k10 ?a11 ?l11 ?c11 ?k11 ?a12 ?l12 ?c12 ?k12 ?a13 ?l13 ?c13 ?k13 ?a14 ?l14 ?c14 ?k14 ?a15 ?l15 ?c15 ?k15 ?a16 ?l16 ?c16 ?k16 ?a17 ?l17 ?c17 ?k17 ?a18 ?l18 ?c18 ?k18 ?a19 ?l19 ?c19 ?k19 ?a20 ?l20 ?c20 ?k20 ?a21 ?l21 ?c21 ?k21 ?a22 ?l22 ?c22 ?k22 ?a23 ?l23 ?c23 ?k23 ?a24 ?l24 ?c24 ?k24 ?a25 ?l25 ?c25 ?k25 ?a26 ?l26 ?c26 ?k26 ?a27 ?l27 ?c27 ?k27 ?a28 ?l28 ?c28 ?k28 ?a29 ?l29 ?c29 ?k29 ?a30 ?l30 ?c30 ?k30 ?a31 ?l31 ?c31 ?k31 ?a32 ?l32 ?c32 ?k32 ?a33 ?l33 ?c33 ?k33 ?a34 ?l34 ?c34 ?k34 ?a35 ?l35 ?c35 ?k35 ?a36 ?l36 ?c36 ?k36 ?a37 ?l37 ?c37 ?k37 ?a38 ?l38 ?c38 ?k38 ?a39 ?l39 ?c39 ?k39 ?a40 ?l40 ?c40 ?k40 ?a41 ?l41 ?c41 ?k41 ?a42 ?l42 ?c42 ?k42 ?a43 ?l43 ?c43 ?k43 ?a44 ?l44 ?c44 ?k44 ?a45 ?l45 ?c45 ?k45 ?a46 ?l46 ?c46 ?k46 ?a47 ?l47 ?c47 ?k47 ?a48 ?l48 ?c48 ?k48 ?a49 ?l49 ?c49 ?k49 ?aC ?a50 ?i50 ?l50 ?c50 ?k50 ?pg ?hd ?po ?sa ?mk ?kc ?nM ?nA ?aCg ?a51 ?i51 ?l51 ?c51 ?k51 ?a52 ?i52 ?l52 ?dl52 ?c52 ?k52 ?a53 ?i53 ?l53 ?c53 ?k53 ?pg_Cg ?hd_Cg ?po_Cg ?sa_Cg ?mk_Cg ?kc_Cg ?nP ?aCs ?a54 ?i54 ?l54 ?c54 ?k54 ?pg_Cs ?hd_Cs ?po_Cs ?sa_Cs ?mk_Cs ?kc_Cs ?nSg ?nSd ?nSs ?nSt ?g1 ?g2 ?g3 ?g4 ?g5 ?g6 ?g7 ?z0 ?z1 ?z2 ?z3 ?z4 ?z5 ?z6 ?z7 ?z8 ?z9 ?z10 ?z11 ?z12 ?z13 ?z14 ?x_ic1 ?x_ic2 ?x_ic3 ?x_ic4 ?x_ks
    (case a1 => k_is)
    (case l1 => k_is)
    (case c1 => k_is)
    (case k1 => k_is)
    (case a2 => k_is)
    (case l2 => k_is)
    (case c2 => k_is)
    (case k2 => k_is)
    (case a3 => k_is)
    (case l3 => k_is)
    (case c3 => k_is)
    (case k3 => k_is)
    (case a4 => k_is)
    (case l4 => k_is)
    (case c4 => k_is)
    (case k4 => k_is)
    (case a5 => k_is)
    (case l5 => k_is)
    (case c5 => k_is)
    (case k5 => k_is)
    (case a6 => k_is)
    (case l6 => k_is)
    (case c6 => k_is)
    (case k6 => k_is)
    (case a7 => k_is)
    (case l7 => k_is)
    (case c7 => k_is)
    (case k7 => k_is)
    (case a8 => k_is)
    (case l8 => k_is)
    (case c8 => k_is)
    (case k8 => k_is)
    (case a9 => k_is)
    (case l9 => k_is)
    (case c9 => k_is)
    (case k9 => k_is)
    (case a10 => k_is)
    (case l10 => k_is)
    (case c10 => k_is)
    (case k10 => k_is)
    (case a11 => k_is)
    (case l11 => k_is)
    (case c11 => k_is)
    (case k11 => k_is)
    (case a12 => k_is)
    (case l12 => k_is)
    (case c12 => k_is)
    (case k12 => k_is)
    (case a13 => k_is)
    (case l13 => k_is)
    (case c13 => k_is)
    (case k13 => k_is)
    (case a14 => k_is)
    (case l14 => k_is)
    (case c14 => k_is)
    (case k14 => k_is)
    (case a15 => k_is)
    (case l15 => k_is)
    (case c15 => k_is)
    (case k15 => k_is)
    (case a16 => k_is)
    (case l16 => k_is)
    (case c16 => k_is)
    (case k16 => k_is)
    (case a17 => k_is)
    (case l17 => k_is)
    (case c17 => k_is)
    (case k17 => k_is)
    (case a18 => k_is)
    (case l18 => k_is)
    (case c18 => k_is)
    (case k18 => k_is)
    (case a19 => k_is)
    (case l19 => k_is)
    (case c19 => k_is)
    (case k19 => k_is)
    (case a20 => k_is)
    (case l20 => k_is)
    (case c20 => k_is)
    (case k20 => k_is)
    (case a21 => k_is)
    (case l21 => k_is)
    (case c21 => k_is)
    (case k21 => k_is)
    (case a22 => k_is)
    (case l22 => k_is)
    (case c22 => k_is)
    (case k22 => k_is)
    (case a23 => k_is)
    (case l23 => k_is)
    (case c23 => k_is)
    (case k23 => k_is)
    (case a24 => k_is)
    (case l24 => k_is)
    (case c24 => k_is)
    (case k24 => k_is)
    (case a25 => k_is)
    (case l25 => k_is)
    (case c25 => k_is)
    (case k25 => k_is)
    (case a26 => k_is)
    (case l26 => k_is)
    (case c26 => k_is)
    (case k26 => k_is)
    (case a27 => k_is)
    (case l27 => k_is)
    (case c27 => k_is)
    (case k27 => k_is)
    (case a28 => k_is)
    (case l28 => k_is)
    (case c28 => k_is)
    (case k28 => k_is)
    (case a29 => k_is)
    (case l29 => k_is)
    (case c29 => k_is)
    (case k29 => k_is)
    (case a30 => k_is)
    (case l30 => k_is)
    (case c30 => k_is)
    (case k30 => k_is)
    (case a31 => k_is)
    (case l31 => k_is)
    (case c31 => k_is)
    (case k31 => k_is)
    (case a32 => k_is)
    (case l32 => k_is)
    (case c32 => k_is)
    (case k32 => k_is)
    (case a33 => k_is)
    (case l33 => k_is)
    (case c33 => k_is)
    (case k33 => k_is)
    (case a34 => k_is)
    (case l34 => k_is)
    (case c34 => k_is)
    (case k34 => k_is)
    (case a35 => k_is)
    (case l35 => k_is)
    (case c35 => k_is)
    (case k35 => k_is)
    (case a36 => k_is)
    (case l36 => k_is)
    (case c36 => k_is)
    (case k36 => k_is)
    (case a37 => k_is)
    (case l37 => k_is)
    (case c37 => k_is)
    (case k37 => k_is)
    (case a38 => k_is)
    (case l38 => k_is)
    (case c38 => k_is)
    (case k38 => k_is)
    (case a39 => k_is)
    (case l39 => k_is)
    (case c39 => k_is)
    (case k39 => k_is)
    (case a40 => k_is)
    (case l40 => k_is)
    (case c40 => k_is)
    (case k40 => k_is)
    (case a41 => k_is)
    (case l41 => k_is)
    (case c41 => k_is)
    (case k41 => k_is)
    (case a42 => k_is)
    (case l42 => k_is)
    (case c42 => k_is)
    (case k42 => k_is)
    (case a43 => k_is)
    (case l43 => k_is)
    (case c43 => k_is)
    (case k43 => k_is)
    (case a44 => k_is)
    (case l44 => k_is)
    (case c44 => k_is)
    (case k44 => k_is)
    (case a45 => k_is)
    (case l45 => k_is)
    (case c45 => k_is)
    (case k45 => k_is)
    (case a46 => k_is)
    (case l46 => k_is)
    (case c46 => k_is)
    (case k46 => k_is)
    (case a47 => k_is)
    (case l47 => k_is)
    (case c47 => k_is)
    (case k47 => k_is)
    (case a48 => k_is)
    (case l48 => k_is)
    (case c48 => k_is)
    (case k48 => k_is)
    (case a49 => k_is)
    (case l49 => k_is)
    (case c49 => k_is)
    (case k49 => k_is)
    (case aC => k_is)
    (case a50 => k_is)
    (case i50 => k_is)
    (case l50 => k_is)
    (case c50 => k_is)
    (case k50 => k_is)
    (case pg => k_is)
    (case hd => k_is)
    (case po => k_is)
    (case sa => k_is)
    (case mk => k_is)
    (case kc => k_is)
    (case nM => k_is)
    (case nA => k_is)
    (case aCg => k_is)
    (case a51 => k_is)
    (case i51 => k_is)
    (case l51 => k_is)
    (case c51 => k_is)
    (case k51 => k_is)
    (case a52 => k_is)
    (case i52 => k_is)
    (case l52 => k_is)
    (case dl52 => k_is)
    (case c52 => k_is)
    (case k52 => k_is)
    (case a53 => k_is)
    (case i53 => k_is)
    (case l53 => k_is)
    (case c53 => k_is)
    (case k53 => k_is)
    (case pg_Cg => k_is)
    (case hd_Cg => k_is)
    (case po_Cg => k_is)
    (case sa_Cg => k_is)
    (case mk_Cg => k_is)
    (case kc_Cg => k_is)
    (case nP => k_is)
    (case aCs => k_is)
    (case a54 => k_is)
    (case i54 => k_is)
    (case l54 => k_is)
    (case c54 => k_is)
    (case k54 => k_is)
    (case pg_Cs => k_is)
    (case hd_Cs => k_is)
    (case po_Cs => k_is)
    (case sa_Cs => k_is)
    (case mk_Cs => k_is)
    (case kc_Cs => k_is)
    (case nSg => k_is)
    (case nSd => k_is)
    (case nSs => k_is)
    (case nSt => k_is)
    (case g1 => k_is)
    (case g2 => k_is)
    (case g3 => k_is)
    (case g4 => k_is)
    (case g5 => k_is)
    (case g6 => k_is)
    (case g7 => k_is)
    (case z0 => k_is)
    (case z1 => k_is)
    (case z2 => k_is)
    (case z3 => k_is)
    (case z4 => k_is)
    (case z5 => k_is)
    (case z6 => k_is)
    (case z7 => k_is)
    (case z8 => k_is)
    (case z9 => k_is)
    (case z10 => k_is)
    (case z11 => k_is)
    (case z12 => k_is)
    (case z13 => k_is)
    (case z14 => k_is)
    (case x_ic1 => k_is)
    (case x_ic2 => k_is)
    (case x_ic3 => k_is)
    (case x_ic4 => k_is)
    (case x_ks => kit_is)
#print axioms PySem.Challenge.cw_limbtables_k72_standings_written_and_rea_holds