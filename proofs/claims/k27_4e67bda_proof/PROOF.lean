import PyProof.Rows.All
import Wide.All
import OpenK.AllK
import Wide.FinOn
import Lean
import PyProof.EqAt
import PyProof.EqKinds
import PyProof.TupleCall
import PyProof.ZipIter
import PyProof.Rows.ZipGen
import PyProof.SumWalkG
import PyProof.DictCompW
import PyProof.Rows.SortWalk
import PyProof.EnumMake
import PyProof.EnumFor
import PyProof.Rows.EnumRows
import PyProof.FactsAll.int_6
import PyProof.AutoIntG2
import PyProof.RulesAs
import PyProof.Rows.TopTwo
import PyProof.ExcArgsOwn
import PyProof.ExcBaseAll.ValueError
import OpenK.KDescr
import KE.RegKIsAll
import PyProof.NeKinds
import PySem.Challenge.RW_limbtables_k27_standings_refused
-- CHANGE: your row's module here, as the last of these rows
set_option Elab.async false
set_option linter.all false
set_option maxRecDepth 100000
namespace L2
open PySem PySem.Spec PyProof.Rows
abbrev Key := Sum Int Str
def keyIs : Key → Value → Bool
  | .inl k, v => Value.isInt k v
  | .inr x, v => Value.isStrOf x v
def keyH (w : World) : Key → Int
  | .inl k => hashInt k
  | .inr x => hashStr w x
theorem keyIs_shape : ∀ {k : Key} {v : Value}, keyIs k v = true → (∃ i t, k = Sum.inl i ∧ v = Value.int i t) ∨ (∃ x t, k = Sum.inr x ∧ v = Value.str x t)
  | .inl i, v, h => by
    obtain ⟨t, e⟩ := Value.isInt_shape (k := i) (v := v) h
    exact .inl ⟨i, t, rfl, e⟩
  | .inr x, v, h => by
    obtain ⟨t, e⟩ := Value.isStrOf_shape (x := x) (v := v) h
    exact .inr ⟨x, t, rfl, e⟩
theorem key_ll (a b : Int) : decide ((Sum.inl a : Key) = Sum.inl b) = (a == b) := by
  by_cases e : a = b
  · subst e; simp
  · have h : ¬ (Sum.inl a : Key) = Sum.inl b := fun q => e (Sum.inl.inj q)
    rw [decide_eq_false h]
    exact (beq_eq_false_iff_ne.mpr e).symm
theorem key_rr (a b : Str) : decide ((Sum.inr a : Key) = Sum.inr b) = decide (a = b) := by
  by_cases e : a = b
  · subst e; simp
  · have h : ¬ (Sum.inr a : Key) = Sum.inr b := fun q => e (Sum.inr.inj q)
    rw [decide_eq_false h, decide_eq_false e]
theorem key_lr (a : Int) (b : Str) : decide ((Sum.inl a : Key) = Sum.inr b) = false := decide_eq_false (fun q => nomatch q)
theorem key_rl (a : Str) (b : Int) : decide ((Sum.inr a : Key) = Sum.inl b) = false := decide_eq_false (fun q => nomatch q)
def mixKind (prog : Program) (w : World) : PySem.KeyKind prog w Key where
  is := keyIs
  hash := keyH w
  inj := fun v a b ha hb => by
    rcases keyIs_shape ha with ⟨i, t, rfl, rfl⟩ | ⟨x, t, rfl, rfl⟩
    · rcases keyIs_shape hb with ⟨j, u, rfl, e⟩ | ⟨y, u, rfl, e⟩
      · injection e with e1 _; rw [e1]
      · exact nomatch e
    · rcases keyIs_shape hb with ⟨j, u, rfl, e⟩ | ⟨y, u, rfl, e⟩
      · exact nomatch e
      · injection e with e1 _; rw [e1]
  byValue := fun k v h => by
    rcases keyIs_shape h with ⟨i, t, rfl, rfl⟩ | ⟨x, t, rfl, rfl⟩ <;> rfl
  pyHash := fun hv h => by
    rcases keyIs_shape hv with ⟨i, t, rfl, rfl⟩ | ⟨x, t, rfl, rfl⟩
    · exact wpAny_pyHash_int h
    · exact wpAny_pyHash_str h
  eqBool := fun hu hv h => by
    rcases keyIs_shape hu with ⟨i, t, rfl, rfl⟩ | ⟨x, t, rfl, rfl⟩
    · rcases keyIs_shape hv with ⟨j, u, rfl, rfl⟩ | ⟨y, u, rfl, rfl⟩
      · rw [key_ll] at h; exact wpAny_eqBool_int h
      · rw [key_lr] at h; exact SeqAt.EqAt.int_str i t y u _ _ _ _ h
    · rcases keyIs_shape hv with ⟨j, u, rfl, rfl⟩ | ⟨y, u, rfl, rfl⟩
      · rw [key_rl] at h; exact SeqAt.EqAt.str_int x t j u _ _ _ _ h
      · rw [key_rr] at h; exact wpAny_eqBool_str h
  «strs» := fun k x t v h => by
    rcases keyIs_shape h with ⟨i, u, rfl, e⟩ | ⟨y, u, rfl, e⟩
    · exact nomatch e
    · injection e with e1 _
      subst e1
      cases v <;> rfl
end L2
namespace L2
open PySem PySem.Spec PyProof.Rows
inductive V where
  | non | bl (b : Bool) | int (i : Int) | str (x : Str) | byt (b : Array UInt8) | flt (b : UInt64) | ref (a : Addr) | ty (n : String)
  deriving DecidableEq
def RelV : V → Value → Prop
  | .non, u => u = Value.none
  | .bl b, u => u = Value.bool b
  | .int i, u => ∃ t, u = Value.int i t
  | .str x, u => ∃ t, u = Value.str x t
  | .byt b, u => ∃ t, u = Value.bytes b t
  | .flt b, u => ∃ t, u = Value.float b t
  | .ref a, u => u = Value.ref a
  | .ty n, u => u = Value.type n
abbrev Vals : List V → List Value → Prop := Paired RelV
theorem Vals.length {xs : List V} {us : List Value} (r : Vals xs us) : xs.length = us.length := Paired.length r
theorem Vals.get : ∀ {xs : List V} {us : List Value} {i : Nat} {x : V}, Vals xs us → xs[i]? = some x → ∃ u, us[i]? = some u ∧ RelV x u
  | _, _, _, _, .nil, e => by simp at e
  | _, _, 0, _, .cons r _, e => by simp at e; subst e; exact ⟨_, rfl, r⟩
  | _, _, i + 1, x, .cons _ t, e => by
    obtain ⟨u, h1, h2⟩ := Vals.get (i := i) (x := x) t (by simpa using e)
    exact ⟨u, by simpa using h1, h2⟩
theorem Vals.set {x : V} {u : Value} (r : RelV x u) : ∀ {xs : List V} {us : List Value} (i : Nat), Vals xs us → Vals (xs.set i x) (us.set i u)
  | _, _, _, .nil => .nil
  | _, _, 0, .cons _ t => .cons r t
  | _, _, i + 1, .cons q t => .cons q (Vals.set r i t)
theorem Vals.append : ∀ {xs ys : List V} {us ws : List Value}, Vals xs us → Vals ys ws → Vals (xs ++ ys) (us ++ ws)
  | _, _, _, _, .nil, s => s
  | _, _, _, _, .cons r t, s => .cons r (Vals.append t s)
theorem Vals.take : ∀ {xs : List V} {us : List Value} (n : Nat), Vals xs us → Vals (xs.take n) (us.take n)
  | _, _, 0, _ => .nil
  | _, _, _ + 1, .nil => .nil
  | _, _, n + 1, .cons r t => .cons r (Vals.take n t)
theorem Vals.drop : ∀ {xs : List V} {us : List Value} (n : Nat), Vals xs us → Vals (xs.drop n) (us.drop n)
  | _, _, 0, r => r
  | _, _, _ + 1, .nil => .nil
  | _, _, n + 1, .cons _ t => Vals.drop n t
theorem Vals.none_of : ∀ {xs : List V} {us : List Value} {i : Nat}, Vals xs us → xs[i]? = none → us[i]? = none := fun {xs us i} r e => by
  have h1 := r.length
  have h2 : xs.length ≤ i := List.getElem?_eq_none_iff.mp e
  exact List.getElem?_eq_none_iff.mpr (by omega)
def RelO : Option V → Option Value → Prop
  | some v, some u => RelV v u
  | none, none => True
  | _, _ => False
def KV {κ : Type} : List (κ × V) → List (κ × Value) → Prop := Paired fun (p : κ × V) (q : κ × Value) => p.1 = q.1 ∧ RelV p.2 q.2
def kV : Key → V
  | .inl i => .int i
  | .inr x => .str x
inductive HO where
    | lst (xs : List V)
    | tup (xs : List V)
    | dK (kvs : List (Key × V)) | dT (kvs : List (List Key × V))
    | set (S : Int → Bool) (n : Nat)
    | ins (C dx : Addr) (fs : List (Str × V))
    | own (x : Addr)
    | xd (fs : List (Str × V))
    | met (f x : Addr)
    | rng (lo hi : Int)
    | frz (o : Obj) (u : HO)
    | tbl (ps : Array Value)
    | ext (φ : Heap → Prop)
abbrev Hp := Addr → Option HO
def upd (H : Hp) (a : Addr) (o : HO) : Hp := fun b => if b = a then some o else H b
theorem upd_same {H : Hp} {a : Addr} {o : HO} : upd H a o a = some o := by unfold upd; rw [if_pos rfl]
theorem upd_ne {H : Hp} {a b : Addr} {o : HO} (h : b ≠ a) : upd H a o b = H b := by unfold upd; rw [if_neg h]
theorem upd_upd {H : Hp} {a : Addr} {o u : HO} : upd (upd H a o) a u = upd H a u := by
  funext b; unfold upd; split <;> rfl
theorem ne_of {H : Hp} {a b : Addr} {o u : HO} (h : H a = some o) (h' : H b = some u) (d : o ≠ u) : a ≠ b := by
  intro e; subst e; rw [h] at h'; exact d (Option.some.inj h')
theorem ne_of_none {H : Hp} {a b : Addr} {o : HO} (h : H a = some o) (h' : H b = none) : a ≠ b := by
  intro e; subst e; rw [h] at h'; cases h'
section
variable (P : Program) (w : World)
def ObjOk (H : Hp) (h : Heap) (a : Addr) : HO → Prop
  | .lst xs => xs.length ≤ sizeLine ∧ ∃ (its : List Value) (n : Nat), Vals xs its ∧ h.get? a = some { cls := .type "list", data := .seq its.toArray n }
  | .tup xs => xs.length ≤ sizeLine ∧ ∃ its : List Value, Vals xs its ∧ IsTup h a its.toArray
  | .dK kvs => kvs.length ≤ sizeLine ∧ (a == sysModules) = false ∧ ∃ vs, KV kvs vs ∧ h.DictOf (mixKind P w) a vs
  | .dT kvs => kvs.length ≤ sizeLine ∧ (a == sysModules) = false ∧ ∃ xs : List (List Key × Addr × Value),
      Paired (fun (p : List Key × V) (q : List Key × Addr × Value) => p.1 = q.1 ∧ H q.2.1 = some (.tup (p.1.map kV)) ∧ RelV p.2 q.2.2) kvs xs ∧
      ∃ o es ep, h.get? a = some o ∧ o.ExactDict ∧ o.data = .dict es ep ∧ es.toList = xs.map (entryOfKey (tupleKind (mixKind P w))) ∧ (xs.map (·.1)).Nodup
  | .set S n => h.SetOf (intKind P w) a S n
  | .ins C dx fs => H dx = some (.own a) ∧ fs.length ≤ 1000 ∧ dx ≠ a ∧ h.get? a = some (PySem.W.instObj C dx) ∧
      ∃ mA, h.Ns1 dx mA ∧ (∀ f, RelO (fs.lookup f) (mA f)) ∧ PySem.Within mA (fs.map (·.1))
  | .own _ => ∃ o, h.get? a = some o
  | .xd fs => ∃ mA, h.Ns1 a mA ∧ ∀ f, RelO (fs.lookup f) (mA f)
  | .rng lo hi => ∃ t u v, h.get? a = some { cls := .type "range", data := .fields #[.int lo t, .int hi u, .int 1 v] }
  | .frz o u => h.get? a = some o ∧ ObjOk H h a u
  | .tbl ps => h.get? a = some { cls := .none, data := .fields ps }
  | .met f x => h.get? a = some (PySem.W.methodObj (.ref f) (.ref x))
  | .ext φ => φ h ∧ (∃ o, h.get? a = some o) ∧ ∀ h1 h2 : Heap, φ h1 → (∀ o, h1.get? a = some o → h2.get? a = some o) → φ h2
def HOk (H : Hp) (h : Heap) : Prop := ∀ a o, H a = some o → ObjOk P w H h a o
end
section
variable {P : Program} {w : World} {H H' : Hp} {h h' : Heap} {a : Addr} {o : HO}
theorem ObjOk.lt (x : ObjOk P w H h a o) : a < h.objs.size := by
  cases o with
  | lst xs => obtain ⟨_, _, _, _, e⟩ := x; exact Heap.lt_size e
  | tup xs => obtain ⟨_, _, _, p⟩ := x; exact p.lt
  | dK kvs => obtain ⟨_, _, _, _, o, _, _, e, _⟩ := x; exact Heap.lt_size e
  | dT kvs => obtain ⟨_, _, _, _, o, _, _, e, _⟩ := x; exact Heap.lt_size e
  | set S n => obtain ⟨o, _, _, _, e, _⟩ := x; exact Heap.lt_size e
  | ins C dx fs => obtain ⟨_, _, _, e, _⟩ := x; exact Heap.lt_size e
  | own y => obtain ⟨_, e⟩ := x; exact Heap.lt_size e
  | xd fs => obtain ⟨_, ⟨_, _, _, e, _⟩, _⟩ := x; exact Heap.lt_size e
  | rng lo hi => obtain ⟨_, _, _, e⟩ := x; exact Heap.lt_size e
  | frz ob u => obtain ⟨e, _⟩ := x; exact Heap.lt_size e
  | tbl ps => exact Heap.lt_size (show h.get? a = some _ from x)
  | met f y => exact Heap.lt_size (show h.get? a = some _ from x)
  | ext φ => obtain ⟨_, ⟨_, e⟩, _⟩ := x; exact Heap.lt_size e
theorem Paired.mapP {α β : Type} {F G : α → β → Prop} : ∀ {l₁ : List α} {l₂ : List β}, Paired F l₁ l₂ → (∀ a b, F a b → G a b) → Paired G l₁ l₂
  | _, _, .nil, _ => .nil
  | _, _, .cons r t, f => .cons (f _ _ r) (Paired.mapP t f)
theorem ObjOk.stay (x : ObjOk P w H h a o) (k : ∀ b u, (b = a ∨ H b = some (.own a)) → h.get? b = some u → h'.get? b = some u)
    (ho : ∀ b, H b = some (.own a) → H' b = some (.own a)) (ht : ∀ b xs, H b = some (.tup xs) → H' b = some (.tup xs)) : ObjOk P w H' h' a o := by
  induction o with
  | lst xs => obtain ⟨z, its, n, r, e⟩ := x; exact ⟨z, its, n, r, k _ _ (.inl rfl) e⟩
  | tup xs => obtain ⟨z, its, r, ob, e, c⟩ := x; exact ⟨z, its, r, ob, k _ _ (.inl rfl) e, c⟩
  | dK kvs => obtain ⟨z, y, vs, r, ob, es, ep, e, c⟩ := x; exact ⟨z, y, vs, r, ob, es, ep, k _ _ (.inl rfl) e, c⟩
  | dT kvs =>
    obtain ⟨z, y, xs, r, ob, es, ep, e, c⟩ := x
    exact ⟨z, y, xs, Paired.mapP r fun p q z => ⟨z.1, ht _ _ z.2.1, z.2.2⟩, ob, es, ep, k _ _ (.inl rfl) e, c⟩
  | set S n => obtain ⟨ob, es, ep, t, e, c⟩ := x; exact ⟨ob, es, ep, t, k _ _ (.inl rfl) e, c⟩
  | ins C dx fs =>
    obtain ⟨d, z, ne, e, mA, ⟨od, es, ep, e2, c⟩, r⟩ := x
    exact ⟨ho _ d, z, ne, k _ _ (.inl rfl) e, mA, ⟨od, es, ep, k _ _ (.inr d) e2, c⟩, r⟩
  | own y => obtain ⟨ob, e⟩ := x; exact ⟨ob, k _ _ (.inl rfl) e⟩
  | xd fs => obtain ⟨mA, ⟨od, es, ep, e, c⟩, r⟩ := x; exact ⟨mA, ⟨od, es, ep, k _ _ (.inl rfl) e, c⟩, r⟩
  | rng lo hi => obtain ⟨t, u, v, e⟩ := x; exact ⟨t, u, v, k _ _ (.inl rfl) e⟩
  | frz ob u ih => obtain ⟨e, q⟩ := x; exact ⟨k _ _ (.inl rfl) e, ih q⟩
  | tbl ps =>
    have e : h.get? a = some { cls := .none, data := .fields ps } := x
    show h'.get? a = some { cls := .none, data := .fields ps }
    exact k a _ (.inl rfl) e
  | met f y =>
    have e : h.get? a = some (PySem.W.methodObj (.ref f) (.ref y)) := x
    show h'.get? a = some (PySem.W.methodObj (.ref f) (.ref y))
    exact k a _ (.inl rfl) e
  | ext φ => obtain ⟨p, ⟨o, e⟩, st⟩ := x; exact ⟨st _ _ p fun o q => k _ _ (.inl rfl) q, ⟨o, k _ _ (.inl rfl) e⟩, st⟩
theorem HOk.lt (x : HOk P w H h) (e : H a = some o) : a < h.objs.size := (x a o e).lt
theorem HOk.fresh (x : HOk P w H h) (e : h.objs.size ≤ a) : H a = none := by
  cases q : H a with
  | none => rfl
  | some u => exact absurd (Nat.lt_of_lt_of_le (x.lt q) e) (Nat.lt_irrefl _)
theorem HOk.kept (x : HOk P w H h) (k : ∀ b u, h.get? b = some u → h'.get? b = some u) : HOk P w H h' := fun a o e =>
  (x a o e).stay (fun b u _ q => k b u q) (fun _ q => q) fun _ _ q => q
theorem HOk.laid (x : HOk P w H h) (k : ∀ b u, h.get? b = some u → h'.get? b = some u) (hp : h.objs.size ≤ a) (new : ObjOk P w (upd H a o) h' a o) : HOk P w (upd H a o) h' := fun b u e => by
  have hn := x.fresh hp
  by_cases hb : b = a
  · subst hb; rw [upd_same] at e; cases e; exact new
  · rw [upd_ne hb] at e
    exact (x b u e).stay (fun c v _ q => k c v q) (fun c q => by rw [upd_ne (ne_of_none q hn)]; exact q) fun c xs q => by rw [upd_ne (ne_of_none q hn)]; exact q
end
def Rd (H : Hp) (a : Addr) (u : HO) : Prop := H a = some u ∨ ∃ o, H a = some (.frz o u)
theorem Rd.of {H : Hp} {a : Addr} {u : HO} (h : H a = some u) : Rd H a u := .inl h
theorem Rd.ok {P : Program} {w : World} {H : Hp} {h : Heap} {a : Addr} {u : HO} (r : Rd H a u) (x : HOk P w H h) : ObjOk P w H h a u := by
  rcases r with r | ⟨o, r⟩
  · exact x a u r
  · obtain ⟨_, q⟩ := x a _ r
    exact q
def Mut : Option HO → Prop
  | some (.lst _) => True
  | some (.dK _) => True
  | some (.dT _) => True
  | some (.set _ _) => True
  | some (.ins _ _ _) => True
  | some (.ext _) => True
  | _ => False
section
variable {P : Program} {w : World} {H : Hp} {h h' : Heap} {x e : Addr} {o' : HO}
theorem HOk.write (ok : HOk P w H h) (mu : Mut (H x)) (he : e = x ∨ H e = some (.own x)) (k : ∀ b u, b ≠ e → h.get? b = some u → h'.get? b = some u) (heo : ∃ u, h'.get? e = some u)
    (new : ObjOk P w (upd H x o') h' x o') : HOk P w (upd H x o') h' := fun b u q => by
  have nown : ∀ c y, H c = some (.own y) → c ≠ x := fun c y r z => by subst z; rw [r] at mu; exact mu
  have ntup : ∀ c xs, H c = some (.tup xs) → c ≠ x := fun c xs r z => by subst z; rw [r] at mu; exact mu
  by_cases hb : b = x
  · subst hb; rw [upd_same] at q; cases q; exact new
  · rw [upd_ne hb] at q
    by_cases hbe : b = e
    · have q' : H b = some (.own x) := by
        rcases he with z | z
        · exact absurd (hbe.trans z) hb
        · rw [hbe]; exact z
      rw [q] at q'; cases q'
      obtain ⟨v, hv⟩ := heo
      exact ⟨v, by rw [hbe]; exact hv⟩
    · refine (ok b u q).stay (fun c v hc r => k c v ?_ r) (fun c r => by rw [upd_ne (nown c b r)]; exact r) fun c xs r => by rw [upd_ne (ntup c xs r)]; exact r
      rcases hc with rfl | hc
      · exact hbe
      · rintro rfl
        rcases he with z | z
        · exact nown c b hc z
        · rw [hc] at z; cases z; exact hb rfl
end
structure Un (fs ex : List Addr) (H H' : Hp) (h h' : Heap) : Prop where
  keep : ∀ b o, h.get? b = some o → H b = none → b ∉ fs → b ∉ ex → h'.get? b = some o
  slot : ∀ b o, h.get? b = some o → H b = none → b ∈ fs → b ∉ ex → ∃ sl, h'.get? b = some { o with slots := sl }
  free : ∀ b o, h.get? b = some o → H b = none → b ∉ ex → H' b = none
  there : ∀ b o, h.get? b = some o → b ∉ ex → ∃ o', h'.get? b = some o'
  tups : ∀ b xs, H b = some (.tup xs) → H' b = some (.tup xs)
  frzs : ∀ b o u, H b = some (.frz o u) → H' b = some (.frz o u)
  tbls : ∀ b ps, H b = some (.tbl ps) → ∃ more, H' b = some (.tbl (ps ++ more))
section
variable {fs fs' ex ex' : List Addr} {H H1 H2 : Hp} {h h1 h2 h' : Heap} {a x e : Addr} {o : HO}
theorem Un.any (u : Un fs ex H H1 h h1) {b : Addr} {ob : Obj} (q : h.get? b = some ob) (n : H b = none) (hx : b ∉ ex) : ∃ sl, h1.get? b = some { ob with slots := sl } := by
  by_cases hb : b ∈ fs
  · exact u.slot b ob q n hb hx
  · exact ⟨ob.slots, u.keep b ob q n hb hx⟩
theorem Un.trans (a : Un fs ex H H1 h h1) (b : Un fs ex H1 H2 h1 h2) : Un fs ex H H2 h h2 where
  keep := fun c ob q n hc hx => b.keep c ob (a.keep c ob q n hc hx) (a.free c ob q n hx) hc hx
  slot := fun c ob q n hc hx => by
    obtain ⟨sl, e1⟩ := a.slot c ob q n hc hx
    obtain ⟨sl', e2⟩ := b.slot c _ e1 (a.free c ob q n hx) hc hx
    exact ⟨sl', e2⟩
  free := fun c ob q n hx => by
    obtain ⟨o', e1⟩ := a.there c ob q hx
    exact b.free c o' e1 (a.free c ob q n hx) hx
  there := fun c ob q hx => by
    obtain ⟨o', e1⟩ := a.there c ob q hx
    exact b.there c o' e1 hx
  tups := fun c xs q => b.tups c xs (a.tups c xs q)
  frzs := fun c ob xs q => b.frzs c ob xs (a.frzs c ob xs q)
  tbls := fun c ps q => by
    obtain ⟨m1, e1⟩ := a.tbls c ps q
    obtain ⟨m2, e2⟩ := b.tbls c _ e1
    exact ⟨m1 ++ m2, by rw [e2, Array.append_assoc]⟩
theorem Un.kept (k : ∀ b u, h.get? b = some u → h'.get? b = some u) : Un fs ex H H h h' :=
  ⟨fun b ob q _ _ _ => k b ob q, fun b ob q _ _ _ => ⟨ob.slots, k b ob q⟩, fun _ _ _ n _ => n, fun b ob q _ => ⟨ob, k b ob q⟩, fun _ _ q => q, fun _ _ _ q => q, fun _ ps q => ⟨#[], by rw [q]; simp⟩⟩
theorem Un.refl : Un fs ex H H h h := Un.kept fun _ _ q => q
theorem Un.laid (k : ∀ b u, h.get? b = some u → h'.get? b = some u) (hp : h.objs.size ≤ a) (hn : H a = none) : Un fs ex H (upd H a o) h h' where
  keep := fun b u q _ _ _ => k b u q
  slot := fun b u q _ _ _ => ⟨u.slots, k b u q⟩
  free := fun b u q n _ => by rw [upd_ne (Nat.ne_of_lt (Nat.lt_of_lt_of_le (Heap.lt_size q) hp))]; exact n
  there := fun b u q _ => ⟨u, k b u q⟩
  tups := fun b xs q => by rw [upd_ne (ne_of_none q hn)]; exact q
  frzs := fun b u xs q => by rw [upd_ne (ne_of_none q hn)]; exact q
  tbls := fun b ps q => ⟨#[], by rw [upd_ne (ne_of_none q hn), q]; simp⟩
theorem Un.write (mu : Mut (H x)) (he : e = x ∨ H e = some (.own x)) (k : ∀ b u, b ≠ e → h.get? b = some u → h'.get? b = some u) (heo : ∃ u, h'.get? e = some u) : Un fs ex H (upd H x o) h h' := by
  have hx : ∀ b, H b = none → b ≠ x := fun b n z => by subst z; rw [n] at mu; exact mu
  have hb : ∀ b, H b = none → b ≠ e := fun b n z => by
    subst z
    rcases he with r | r
    · exact hx b n r
    · rw [n] at r; cases r
  have hm : ∀ b u, H b = some u → ¬ Mut (some u) → b ≠ x := fun b u q nm z => by subst z; rw [q] at mu; exact nm mu
  refine ⟨fun b u q n _ _ => k b u (hb b n) q, fun b u q n _ _ => ⟨u.slots, k b u (hb b n) q⟩, fun b u q n _ => by rw [upd_ne (hx b n)]; exact n, fun b u q _ => ?_,
    fun b xs q => by rw [upd_ne (hm b _ q fun z => z)]; exact q, fun b u xs q => by rw [upd_ne (hm b _ q fun z => z)]; exact q, fun b ps q => ⟨#[], by rw [upd_ne (hm b _ q fun z => z), q]; simp⟩⟩
  by_cases hbe : b = e
  · subst hbe; exact heo
  · exact ⟨u, k b u hbe q⟩
theorem Un.mono (u : Un fs ex H H1 h h1) (hs : ∀ b ∈ fs, b ∈ fs') (hx : ∀ b ∈ ex, b ∈ ex') : Un fs' ex' H H1 h h1 :=
  ⟨fun b ob q n hb he => u.keep b ob q n (fun z => hb (hs b z)) fun z => he (hx b z), fun _ _ q n _ he => u.any q n fun z => he (hx _ z), fun b ob q n he => u.free b ob q n fun z => he (hx b z), fun b ob q he => u.there b ob q fun z => he (hx b z), u.tups, u.frzs, u.tbls⟩
end
def trk (h : Heap) (H : Hp) : List Addr := (List.range h.objs.size).filter fun a => (H a).isSome
def hidT (h : Heap) (H : Hp) : Heap := PySem.W.hideAll h (trk h H)
theorem hidT_size (h : Heap) (H : Hp) : (hidT h H).objs.size = h.objs.size := PySem.W.hideAll_size _ _
theorem hidT_get {h : Heap} {H : Hp} {b : Addr} {o : Obj} (e : h.get? b = some o) (n : H b = none) : (hidT h H).get? b = some o :=
  PySem.W.hideAll_get _ e fun hm => by
    have q : (H b).isSome = true := (List.mem_filter.mp hm).2
    rw [n] at q; simp at q
theorem of_hidT {h : Heap} {H : Hp} {b : Addr} {o : Obj} (e : (hidT h H).get? b = some o) : h.get? b = some o ∧ H b = none := by
  have e' : h.get? b = some o := PySem.W.of_hideAll (trk h H) e
  refine ⟨e', ?_⟩
  cases q : H b with
  | none => rfl
  | some x =>
    have hm : b ∈ trk h H := List.mem_filter.mpr ⟨List.mem_range.mpr (Heap.lt_size e'), by simp [q]⟩
    have z : (hidT h H).get? b = none := PySem.W.hideAll_none (trk h H) hm
    rw [z] at e; cases e
def allNews (g h : Heap) (L : Addr) : List (Addr × Obj) := (List.range h.objs.size).filterMap fun a => if a = L ∨ (g.get? a).isSome = true then none else (h.get? a).map fun o => (a, o)
def rest (g h : Heap) (L d : Addr) : List (Addr × Obj) := (allNews g h L).filter fun p => decide (p.1 ≠ d)
end L2
namespace L2
open PySem PySem.Spec PyProof.Rows
structure Mod (K : PySem.W.Frag) (mg : Str → Option Value) (base : Heap) : Prop where
  kin : K.In base
  glob : base.Ns mainGlobals mg
  blt : ∃ mb, base.Ns builtinsNs mb ∧ ∀ x : Str, x ≠ "__name__" → mb x = bootBuiltins x
  nolimit : base.NoLimit
structure Cx where
  prog : Program
  w : World
  K : PySem.W.Frag
  mg : Str → Option Value
  base : Heap
  A : Around
  N : List Str
  s₀ : Shared
  H₀ : Hp
  env : Env
  outer : List Env
  stack : List Env
  ex : List Addr
  fn : Str → Bool
  calm : Bool
  pn : List (Addr × Obj)
  xe : Value → Shared → Prop
def frs (l : List Env) : List Addr := l.filterMap (·.frame)
abbrev Cx.fs (X : Cx) : List Addr := frs X.outer
def Vis (sc : Scope) (x : Str) : Prop := sc.names.lookup x = some .local ∨ sc.names.lookup x = some .cell ∨ sc.names.lookup x = some .free
def Loc (sc : Scope) (x : Str) : Prop := sc.names.lookup x = some .local ∨ sc.names.lookup x = some .cell
def Look (env : Env) (h : Heap) (m : Str → Option Value) (x : Str) (u : Value) : Prop :=
  (env.kindOf x = some .local ∧ m x = some u) ∨ ((env.kindOf x = some .cell ∨ env.kindOf x = some .free) ∧ ∃ c, env.cells.lookup x = some c ∧ h.IsCell c (some u))
structure Cx.Ok (X : Cx) : Prop where
  mod : Mod X.K X.mg X.base
  kind : X.env.scope.kind = .function
  glob : X.env.globals = mainGlobals
  blt : X.env.builtins = builtinsNs
  above : X.s₀.heap.objs.size ≤ X.env.locals
  inj : ∀ x y c, X.env.cells.lookup x = some c → X.env.cells.lookup y = some c → x = y
  has : ∀ x, (X.env.kindOf x = some .cell ∨ X.env.kindOf x = some .free) → ∃ c, X.env.cells.lookup x = some c
  cab : ∀ x c, X.fn x = true → X.env.cells.lookup x = some c → X.s₀.heap.objs.size ≤ c
  hd : X.calm = true → X.A.handled = none
  frames : X.A.frames = some X.stack
  stk : X.stack = X.outer ∨ (X.stack = X.env :: X.outer ∧ X.env.frame = some X.env.locals)
  exf : ∀ b ∈ X.ex, b ≠ X.env.locals ∧ ∀ x c, X.env.cells.lookup x = some c → c ≠ b
  bs : ∀ b o, X.base.get? b = some o → X.s₀.heap.get? b = some o ∧ X.H₀ b = none
  bsz : X.base.objs.size ≤ X.s₀.heap.objs.size
  noex : ∀ b o, X.base.get? b = some o → b ∉ X.ex
  exfs : ∀ b ∈ X.ex, b ∉ X.fs
  funs : X.s₀.heap.FunFrames X.base X.outer
  frf : ∀ b ∈ X.fs, X.H₀ b = none
structure Inv (X : Cx) (pins : List (Addr × Obj)) (σ : List (Option V)) (H : Hp) (s : Shared) : Prop where
  ok : X.Ok
  os : s.os = X.s₀.os
  bare : AllBare s.gens
  base : Un X.fs X.ex X.H₀ H X.s₀.heap s.heap
  loc : ∃ m, s.heap.Ns X.env.locals m ∧ ∀ (i : Nat) (x : Str) (v : V), X.N[i]? = some x → σ[i]? = some (some v) → Vis X.env.scope x → ∃ u, RelV v u ∧ Look X.env s.heap m x u
  cell : ∀ x c, X.env.cells.lookup x = some c → ∃ v, s.heap.IsCell c v
  free : H X.env.locals = none
  freeC : ∀ x c, X.env.cells.lookup x = some c → H c = none
  pin : ∀ p ∈ X.pn ++ pins, s.heap.get? p.1 = some p.2 ∧ H p.1 = none ∧ p.1 ≠ X.env.locals ∧ p.1 ∉ X.fs ∧ ∀ v, p.2.data ≠ .cell v
  hok : HOk X.prog X.w H s.heap
  len : σ.length = X.N.length
section
variable {X : Cx} {pins : List (Addr × Obj)} {σ : List (Option V)} {H H' : Hp} {s : Shared} {h' : Heap}
theorem Cx.Ok.nofr (ok : X.Ok) {b : Addr} {o : Obj} (e : X.base.get? b = some o) : b ∉ X.fs := fun hb => by
  have := (ok.funs.mem hb).1
  rw [e] at this; cases this
theorem Inv.bs (I : Inv X pins σ H s) : ∀ b o, X.base.get? b = some o → s.heap.get? b = some o ∧ H b = none := fun b o e =>
  ⟨I.base.keep b o (I.ok.bs b o e).1 (I.ok.bs b o e).2 (I.ok.nofr e) (I.ok.noex b o e), I.base.free b o (I.ok.bs b o e).1 (I.ok.bs b o e).2 (I.ok.noex b o e)⟩
theorem Inv.bk (I : Inv X pins σ H s) : ∀ b o, X.base.get? b = some o → s.heap.get? b = some o := fun b o e => (I.bs b o e).1
theorem Inv.mod (I : Inv X pins σ H s) : Mod X.K X.mg X.base := I.ok.mod
theorem Inv.kIn (I : Inv X pins σ H s) : X.K.In s.heap := I.ok.mod.kin.keeps I.bk
theorem Inv.nolimit (I : Inv X pins σ H s) : s.heap.NoLimit := I.ok.mod.nolimit.keeps I.bk
theorem Inv.fr (I : Inv X pins σ H s) : ∃ m, Fr X.base X.env.locals s.heap m :=
  let ⟨m, hn, _⟩ := I.loc
  ⟨m, hn, I.bk, Nat.le_trans I.ok.bsz I.ok.above⟩
theorem Inv.lt (I : Inv X pins σ H s) : X.env.locals < s.heap.objs.size := let ⟨_, hn, _⟩ := I.loc; hn.lt
theorem Inv.sz (I : Inv X pins σ H s) : X.s₀.heap.objs.size ≤ s.heap.objs.size := Nat.le_trans I.ok.above (Nat.le_of_lt I.lt)
theorem Inv.nofs (I : Inv X pins σ H s) {a : Addr} (h : s.heap.objs.size ≤ a) : a ∉ X.fs := fun hb => by
  obtain ⟨_, o, ho, _⟩ := I.ok.funs.mem hb
  exact absurd (Nat.lt_of_lt_of_le (Heap.lt_size ho) (Nat.le_trans I.sz h)) (Nat.lt_irrefl _)
theorem Inv.cne (I : Inv X pins σ H s) : ∀ x c, X.env.cells.lookup x = some c → c ≠ X.env.locals := fun x c e z => by
  obtain ⟨v, o, ho, hd⟩ := I.cell x c e
  obtain ⟨m, ⟨o', es, ep, ho', hd', _⟩, _⟩ := I.loc
  rw [z, ho'] at ho; cases ho; rw [hd'] at hd; cases hd
theorem Inv.funs (I : Inv X pins σ H s) : s.heap.FunFrames X.base X.outer := by
  have all : ∀ (l : List Env), (∀ b ∈ frs l, b ∈ X.fs) → X.s₀.heap.FunFrames X.base l → s.heap.FunFrames X.base l := by
    intro l
    induction l with
    | nil => intro _ _; trivial
    | cons env r ih =>
      intro hs hl
      obtain ⟨hk, ⟨L, o, hf, hn, ho, hd⟩, hr⟩ := hl
      have hL : L ∈ X.fs := hs L (by unfold frs; rw [List.filterMap_cons, hf]; exact List.mem_cons_self)
      obtain ⟨sl, e⟩ := I.base.slot L o ho (I.ok.frf L hL) hL fun z => I.ok.exfs L z hL
      exact ⟨hk, ⟨L, _, hf, hn, e, hd⟩, ih (fun b hb => hs b (by unfold frs; rw [List.filterMap_cons, hf]; exact List.mem_cons_of_mem _ hb)) hr⟩
  exact all X.outer (fun _ hb => hb) I.ok.funs
theorem Inv.stack (I : Inv X pins σ H s) : s.heap.FunFrames X.base X.stack := by
  rcases I.ok.stk with e | ⟨e, hf⟩
  · rw [e]; exact I.funs
  · rw [e]
    obtain ⟨m, hn, _⟩ := I.loc
    refine .cons (by rw [I.ok.kind]; decide) hf hn ?_ I.funs
    exact Heap.get?_none_of_le (Nat.le_trans I.ok.bsz I.ok.above)
theorem Inv.stkSub (I : Inv X pins σ H s) : ∀ b ∈ frs X.stack, b ∈ X.env.locals :: X.fs := fun b hb => by
  rcases I.ok.stk with e | ⟨e, hf⟩
  · rw [e] at hb; exact List.mem_cons_of_mem _ hb
  · rw [e] at hb
    unfold frs at hb
    rw [List.filterMap_cons, hf] at hb
    exact hb
theorem Inv.stkFree (I : Inv X pins σ H s) : ∀ b ∈ frs X.stack, H b = none := fun b hb => by
  rcases List.mem_cons.mp (I.stkSub b hb) with e | hb
  · rw [e]; exact I.free
  · obtain ⟨_, o, ho, _⟩ := I.ok.funs.mem hb
    exact I.base.free b o ho (I.ok.frf b hb) fun z => I.ok.exfs b z hb
theorem Inv.step {g' : Array GenState} {t' : Nat} {d' : Drawn} {ch : List Addr} (I : Inv X pins σ H s)
    (hch : ∀ b ∈ ch, (b ∈ X.ex ∨ X.s₀.heap.objs.size ≤ b) ∧ b ≠ X.env.locals ∧ (∀ x c, X.env.cells.lookup x = some c → c ≠ b) ∧ ∀ p ∈ X.pn ++ pins, p.1 ≠ b)
    (keep : ∀ b o, b ≠ X.env.locals → b ∉ X.fs → b ∉ ch → s.heap.get? b = some o → H b = none → h'.get? b = some o)
    (slot : ∀ b o, b ≠ X.env.locals → b ∈ X.fs → b ∉ ch → s.heap.get? b = some o → H b = none → ∃ sl, h'.get? b = some { o with slots := sl }) (free : ∀ b o, b ∉ ch → s.heap.get? b = some o → H b = none → H' b = none)
    (there : ∀ b o, b ∉ ch → s.heap.get? b = some o → ∃ o', h'.get? b = some o')
    (tups : ∀ b xs, H b = some (.tup xs) → H' b = some (.tup xs)) (frzs : ∀ b o u, H b = some (.frz o u) → H' b = some (.frz o u)) (tbls : ∀ b ps, H b = some (.tbl ps) → ∃ more, H' b = some (.tbl (ps ++ more)))
    (ns : ∀ m, s.heap.Ns X.env.locals m → h'.Ns X.env.locals m) (hok : HOk X.prog X.w H' h') (hg : AllBare g') :
    Inv X pins σ H' { s with heap := h', gens := g', drawn := d', toks := t' } := by
  have neL : ∀ b o, X.s₀.heap.get? b = some o → b ≠ X.env.locals := fun b o e => Nat.ne_of_lt (Nat.lt_of_lt_of_le (Heap.lt_size e) I.ok.above)
  have neC : ∀ b o, X.s₀.heap.get? b = some o → b ∉ X.ex → b ∉ ch := fun b o e hx hb => by
    rcases (hch b hb).1 with z | z
    · exact hx z
    · exact absurd (Nat.lt_of_lt_of_le (Heap.lt_size e) z) (Nat.lt_irrefl _)
  have cellK : ∀ x c, X.env.cells.lookup x = some c → ∀ v, s.heap.IsCell c v → h'.IsCell c v := fun x c e v ⟨o, ho, hd⟩ => by
    have nch : c ∉ ch := fun z => (hch c z).2.2.1 x c e rfl
    by_cases hc : c ∈ X.fs
    · obtain ⟨sl, q⟩ := slot c o (I.cne x c e) hc nch ho (I.freeC x c e)
      exact ⟨_, q, hd⟩
    · exact ⟨o, keep c o (I.cne x c e) hc nch ho (I.freeC x c e), hd⟩
  refine ⟨I.ok, I.os, hg, ⟨fun b o e n hb hx => ?_, fun b o e n hb hx => ?_, fun b o e n hx => ?_, fun b o e hx => ?_, fun b xs e => tups b xs (I.base.tups b xs e), fun b o xs e => frzs b o xs (I.base.frzs b o xs e), fun b ps e => ?_⟩, ?_, fun x c e => ?_, ?_, fun x c e => ?_, fun p hp => ?_, hok, I.len⟩
  · exact keep b o (neL b o e) hb (neC b o e hx) (I.base.keep b o e n hb hx) (I.base.free b o e n hx)
  · obtain ⟨sl, e1⟩ := I.base.slot b o e n hb hx
    obtain ⟨sl', e2⟩ := slot b _ (neL b o e) hb (neC b o e hx) e1 (I.base.free b o e n hx)
    exact ⟨sl', e2⟩
  · obtain ⟨o', e1⟩ := I.base.there b o e hx
    exact free b o' (neC b o e hx) e1 (I.base.free b o e n hx)
  · obtain ⟨o', e1⟩ := I.base.there b o e hx
    exact there b o' (neC b o e hx) e1
  · obtain ⟨m1, e1⟩ := I.base.tbls b ps e
    obtain ⟨m2, e2⟩ := tbls b _ e1
    exact ⟨m1 ++ m2, by rw [e2, Array.append_assoc]⟩
  · obtain ⟨m, hn, hl⟩ := I.loc
    refine ⟨m, ns m hn, fun i x v e1 e2 e3 => ?_⟩
    obtain ⟨u, r, l⟩ := hl i x v e1 e2 e3
    refine ⟨u, r, ?_⟩
    rcases l with l | ⟨k, c, e, z⟩
    · exact .inl l
    · exact .inr ⟨k, c, e, cellK x c e _ z⟩
  · obtain ⟨v, z⟩ := I.cell x c e
    exact ⟨v, cellK x c e v z⟩
  · obtain ⟨m, ⟨o, _, _, ho, _⟩, _⟩ := I.loc
    exact free _ o (fun z => (hch _ z).2.1 rfl) ho I.free
  · obtain ⟨v, o, ho, hd⟩ := I.cell x c e
    exact free c o (fun z => (hch c z).2.2.1 x c e rfl) ho (I.freeC x c e)
  · obtain ⟨e, n, ne, nf, d⟩ := I.pin p hp
    have nch : p.1 ∉ ch := fun z => (hch p.1 z).2.2.2 p hp rfl
    exact ⟨keep p.1 p.2 ne nf nch e n, free p.1 p.2 nch e n, ne, nf, d⟩
theorem Inv.un {t' : Nat} (I : Inv X pins σ H s) (u : Un X.fs [] H H' s.heap h') (hok : HOk X.prog X.w H' h') : Inv X pins σ H' { s with heap := h', toks := t' } := by
  obtain ⟨m, ⟨o, es, ep, ho, r⟩, _⟩ := id I.loc
  obtain ⟨sl, hL⟩ := u.any ho I.free (by simp)
  exact I.step (g' := s.gens) (d' := s.drawn) (ch := []) (fun _ z => nomatch z) (fun b o _ hb _ e n => u.keep b o e n hb (by simp)) (fun b o _ hb _ e n => u.slot b o e n hb (by simp)) (fun b o _ e n => u.free b o e n (by simp)) (fun b o _ e => u.there b o e (by simp)) u.tups u.frzs u.tbls (fun m' hm => by
    obtain ⟨o', es', ep', ho', r'⟩ := hm
    rw [ho] at ho'; cases ho'
    exact ⟨_, es', ep', hL, r'⟩) hok I.bare
theorem Inv.call {g' : Array GenState} {t' : Nat} {d' : Drawn} {ch : List Addr} (I : Inv X pins σ H s) (u : Un (frs X.stack) ch H H' s.heap h') (hok : HOk X.prog X.w H' h') (hg : AllBare g')
    (hch : ∀ b ∈ ch, (b ∈ X.ex ∨ X.s₀.heap.objs.size ≤ b) ∧ b ≠ X.env.locals ∧ (∀ x c, X.env.cells.lookup x = some c → c ≠ b) ∧ ∀ p ∈ X.pn ++ pins, p.1 ≠ b) :
    Inv X pins σ H' { s with heap := h', gens := g', drawn := d', toks := t' } := by
  obtain ⟨m, ⟨o, es, ep, ho, r⟩, _⟩ := id I.loc
  obtain ⟨sl, hL⟩ := u.any ho I.free fun z => (hch _ z).2.1 rfl
  exact I.step (ch := ch) hch (fun b o hL hb hc e n => u.keep b o e n (fun z => (List.mem_cons.mp (I.stkSub b z)).elim hL hb) hc) (fun b o _ _ hc e n => u.any e n hc) (fun b o hc e n => u.free b o e n hc) (fun b o hc e => u.there b o e hc) u.tups u.frzs u.tbls (fun m' hm => by
    obtain ⟨o', es', ep', ho', r'⟩ := hm
    rw [ho] at ho'; cases ho'
    exact ⟨_, es', ep', hL, r'⟩) hok hg
theorem Inv.turned {t' : Nat} {it : Addr} (I : Inv X pins σ H s) (k : ∀ b o, b ≠ it → s.heap.get? b = some o → h'.get? b = some o) (hn : H it = none) (hL : it ≠ X.env.locals)
    (h1 : it ∈ X.ex ∨ X.s₀.heap.objs.size ≤ it) (h2 : ∀ x c, X.env.cells.lookup x = some c → c ≠ it) (h3 : ∀ p ∈ X.pn ++ pins, p.1 ≠ it) : Inv X pins σ H { s with heap := h', toks := t' } := by
  have nit : ∀ b u, H b = some u → b ≠ it := fun b u e z => by rw [z, hn] at e; cases e
  refine I.step (g' := s.gens) (d' := s.drawn) (ch := [it]) (fun b hb => ?_) (fun b o _ _ hc e _ => k b o (fun z => hc (by simp [z])) e) (fun b o _ _ hc e _ => ⟨o.slots, k b o (fun z => hc (by simp [z])) e⟩) (fun _ _ _ _ n => n)
    (fun b o hc e => ⟨o, k b o (fun z => hc (by simp [z])) e⟩) (fun _ _ e => e) (fun _ _ _ e => e) (fun b ps e => ⟨#[], by rw [e]; simp⟩) (fun m hm => ?_) (fun b u e => ?_) I.bare
  · have e : b = it := by simpa using hb
    subst e
    exact ⟨h1, hL, h2, h3⟩
  · obtain ⟨o, es, ep, ho, r⟩ := hm
    exact ⟨o, es, ep, k _ o (Ne.symm hL) ho, r⟩
  · refine (I.hok b u e).stay (fun c v hc q => k c v ?_ q) (fun _ q => q) fun _ _ q => q
    rcases hc with z | z
    · rw [z]; exact nit b u e
    · exact nit c _ z
theorem Inv.tok (I : Inv X pins σ H s) (t : Nat) : Inv X pins σ H { s with toks := t } := I.un (h' := s.heap) (t' := t) Un.refl I.hok
theorem Inv.kept {t' : Nat} (I : Inv X pins σ H s) (k : ∀ b u, s.heap.get? b = some u → h'.get? b = some u) : Inv X pins σ H { s with heap := h', toks := t' } := I.un (Un.kept k) (I.hok.kept k)
theorem Inv.laid {a : Addr} {o : HO} {t' : Nat} (I : Inv X pins σ H s) (k : ∀ b u, s.heap.get? b = some u → h'.get? b = some u) (hp : s.heap.objs.size ≤ a) (new : ObjOk X.prog X.w (upd H a o) h' a o) :
    Inv X pins σ (upd H a o) { s with heap := h', toks := t' } := I.un (Un.laid k hp (I.hok.fresh hp)) (I.hok.laid k hp new)
theorem Inv.write {x e : Addr} {o : HO} {t' : Nat} (I : Inv X pins σ H s) (mu : Mut (H x)) (he : e = x ∨ H e = some (.own x)) (k : ∀ b u, b ≠ e → s.heap.get? b = some u → h'.get? b = some u) (heo : ∃ u, h'.get? e = some u)
    (new : ObjOk X.prog X.w (upd H x o) h' x o) : Inv X pins σ (upd H x o) { s with heap := h', toks := t' } := I.un (Un.write mu he k heo) (I.hok.write mu he k heo new)
theorem Inv.weak {σ' : List (Option V)} (I : Inv X pins σ H s) (hl : σ'.length = σ.length) (w : ∀ (i : Nat) v, σ'[i]? = some (some v) → σ[i]? = some (some v)) : Inv X pins σ' H s :=
  ⟨I.ok, I.os, I.bare, I.base, let ⟨m, hn, hl'⟩ := I.loc; ⟨m, hn, fun i x v e1 e2 e3 => hl' i x v e1 (w i v e2) e3⟩, I.cell, I.free, I.freeC, I.pin, I.hok, hl.trans I.len⟩
theorem Inv.pins_of {pins' : List (Addr × Obj)} (I : Inv X pins σ H s) (h : ∀ p ∈ pins', s.heap.get? p.1 = some p.2 ∧ H p.1 = none ∧ p.1 ≠ X.env.locals ∧ p.1 ∉ X.fs ∧ ∀ v, p.2.data ≠ .cell v) : Inv X pins' σ H s :=
  ⟨I.ok, I.os, I.bare, I.base, I.loc, I.cell, I.free, I.freeC, fun p hp => (List.mem_append.mp hp).elim (fun z => I.pin p (List.mem_append_left _ z)) (h p), I.hok, I.len⟩
theorem nodup_ix {N : List Str} (hN : N.Nodup) {i j : Nat} {x : Str} (a : N[i]? = some x) (b : N[j]? = some x) : i = j := by
  obtain ⟨h1, e1⟩ := List.getElem?_eq_some_iff.mp a
  obtain ⟨h2, e2⟩ := List.getElem?_eq_some_iff.mp b
  exact (List.getElem_inj hN).mp (e1.trans e2.symm)
theorem store_ok2 {M : Model} {A : Around} {E : Value → Shared → Prop} {i : Nat} {x : Str} {v : V} {u : Value} {Q : Unit → Shared → Prop} (I : Inv X pins σ H s) (hN : X.N.Nodup) (hi : X.N[i]? = some x) (hx : Loc X.env.scope x) (r : RelV v u)
    (h : ∀ s', Inv X pins (σ.set i (some v)) H s' → (∃ a, Heap.SameBut a s.heap s'.heap ∧ (a = X.env.locals ∨ X.env.cells.lookup x = some a)) → Q () s') (hf : X.fn x = true ∨ X.env.scope.names.lookup x = some .local := by first | exact .inl rfl | exact .inr rfl | assumption) : wpAny M A (storeName X.env x u) Q E s := by
  obtain ⟨m, hn, hl⟩ := id I.loc
  have hcls : (X.env.scope.kind == .class || (X.env.scope.kind == .module && X.env.locals != X.env.globals)) = false := by rw [I.ok.kind]; rfl
  have hiσ : i < σ.length := by rw [I.len]; exact (List.getElem?_eq_some_iff.mp hi).1
  have cne := I.cne
  have tracked : ∀ {a : Addr} {h' : Heap}, (∃ o, s.heap.get? a = some o ∧ H a = none) → Heap.SameBut a s.heap h' → HOk X.prog X.w H h' := fun {a h'} ha hs b ob e => by
    obtain ⟨_, _, hfree⟩ := ha
    refine (I.hok b ob e).stay (fun c w' hc q => (hs.2 c ?_).trans q) (fun _ q => q) fun _ _ q => q
    rintro rfl
    rcases hc with rfl | hc
    · rw [hfree] at e; cases e
    · rw [hfree] at hc; cases hc
  rcases hx with hk | hk
  · refine wpAny_storeName_local hk hn (fun h' hn' hs => ?_) hcls
    obtain ⟨oL, _, _, hoL, _⟩ := id hn
    refine h _ ⟨I.ok, I.os, I.bare, ⟨fun b o e n hb hx => ?_, fun b o e n hb hx => ?_, I.base.free, fun b o e hx => ?_, I.base.tups, I.base.frzs, I.base.tbls⟩, ⟨_, hn', fun j y v' e1 e2 e3 => ?_⟩, fun y c e => ?_, I.free, I.freeC, fun p hp => ?_, tracked ⟨oL, hoL, I.free⟩ hs, by simpa using I.len⟩ ⟨_, hs, .inl rfl⟩
    · exact (hs.2 b (Nat.ne_of_lt (Nat.lt_of_lt_of_le (Heap.lt_size e) I.ok.above))).trans (I.base.keep b o e n hb hx)
    · obtain ⟨sl, e1⟩ := I.base.slot b o e n hb hx
      exact ⟨sl, (hs.2 b (Nat.ne_of_lt (Nat.lt_of_lt_of_le (Heap.lt_size e) I.ok.above))).trans e1⟩
    · obtain ⟨o', e1⟩ := I.base.there b o e hx
      exact ⟨o', (hs.2 b (Nat.ne_of_lt (Nat.lt_of_lt_of_le (Heap.lt_size e) I.ok.above))).trans e1⟩
    · by_cases hj : j = i
      · subst hj
        rw [hi] at e1; cases e1
        rw [List.getElem?_set_self hiσ] at e2
        cases e2
        exact ⟨u, r, .inl ⟨hk, by simp⟩⟩
      · rw [List.getElem?_set_ne (Ne.symm hj)] at e2
        obtain ⟨u', r', q⟩ := hl j y v' e1 e2 e3
        refine ⟨u', r', ?_⟩
        rcases q with ⟨k, e⟩ | ⟨k, c, e, z⟩
        · refine .inl ⟨k, ?_⟩
          have : y ≠ x := fun e => hj (nodup_ix hN e1 (e ▸ hi))
          simp [this, e]
        · exact .inr ⟨k, c, e, z.sameBut hs (cne y c e)⟩
    · obtain ⟨w', z⟩ := I.cell y c e
      exact ⟨w', z.sameBut hs (cne y c e)⟩
    · obtain ⟨e, n, ne, nf, d⟩ := I.pin p hp
      exact ⟨(hs.2 p.1 ne).trans e, n, ne, nf, d⟩
  · have hfn : X.fn x = true := by
      rcases hf with z | z
      · exact z
      · rw [z] at hk; cases hk
    obtain ⟨c, hc⟩ := I.ok.has x (.inl hk)
    obtain ⟨w', z⟩ := I.cell x c hc
    refine wpAny_storeName_cell I.ok.kind hk hc z (fun h' hc' hs => ?_)
    obtain ⟨oc, hoc, hocd⟩ := id z
    refine h { s with heap := h' } ⟨I.ok, I.os, I.bare, ⟨fun b o e n hb hx => ?_, fun b o e n hb hx => ?_, I.base.free, fun b o e hx => ?_, I.base.tups, I.base.frzs, I.base.tbls⟩, ⟨m, hn.sameBut hs (Ne.symm (cne x c hc)), fun j y v' e1 e2 e3 => ?_⟩, fun y c' e => ?_, I.free, I.freeC, fun p hp => ?_, tracked ⟨oc, hoc, I.freeC x c hc⟩ hs, by simpa using I.len⟩ ⟨c, hs, .inr hc⟩
    · exact (hs.2 b (Nat.ne_of_lt (Nat.lt_of_lt_of_le (Heap.lt_size e) (I.ok.cab x c hfn hc)))).trans (I.base.keep b o e n hb hx)
    · obtain ⟨sl, e1⟩ := I.base.slot b o e n hb hx
      exact ⟨sl, (hs.2 b (Nat.ne_of_lt (Nat.lt_of_lt_of_le (Heap.lt_size e) (I.ok.cab x c hfn hc)))).trans e1⟩
    · obtain ⟨o', e1⟩ := I.base.there b o e hx
      exact ⟨o', (hs.2 b (Nat.ne_of_lt (Nat.lt_of_lt_of_le (Heap.lt_size e) (I.ok.cab x c hfn hc)))).trans e1⟩
    · by_cases hj : j = i
      · subst hj
        rw [hi] at e1; cases e1
        rw [List.getElem?_set_self hiσ] at e2
        cases e2
        exact ⟨u, r, .inr ⟨.inl hk, c, hc, hc'⟩⟩
      · rw [List.getElem?_set_ne (Ne.symm hj)] at e2
        obtain ⟨u', r', q⟩ := hl j y v' e1 e2 e3
        refine ⟨u', r', ?_⟩
        rcases q with q | ⟨k, c', e, z'⟩
        · exact .inl q
        · refine .inr ⟨k, c', e, z'.sameBut hs ?_⟩
          rintro rfl
          exact hj (nodup_ix hN e1 (I.ok.inj _ _ _ e hc ▸ hi))
    · by_cases hcc : c' = c
      · subst hcc; exact ⟨_, hc'⟩
      · obtain ⟨w2, z2⟩ := I.cell y c' e
        exact ⟨w2, z2.sameBut hs hcc⟩
    · obtain ⟨e, n, ne, nf, d⟩ := I.pin p hp
      refine ⟨(hs.2 p.1 ?_).trans e, n, ne, nf, d⟩
      intro q
      rw [q, hoc] at e
      have q' : oc = p.2 := Option.some.inj e
      exact d w' (by rw [← q']; exact hocd)
theorem store_ok {M : Model} {A : Around} {E : Value → Shared → Prop} {i : Nat} {x : Str} {v : V} {u : Value} {Q : Unit → Shared → Prop} (I : Inv X pins σ H s) (hN : X.N.Nodup) (hi : X.N[i]? = some x) (hx : Loc X.env.scope x) (r : RelV v u)
    (h : ∀ s', Inv X pins (σ.set i (some v)) H s' → Q () s') (hf : X.fn x = true ∨ X.env.scope.names.lookup x = some .local := by first | exact .inl rfl | exact .inr rfl | assumption) : wpAny M A (storeName X.env x u) Q E s :=
  store_ok2 I hN hi hx r (fun s' I' _ => h s' I') hf
theorem Inv.call' {s' : Shared} {ch : List Addr} (I : Inv X pins σ H s) (ho : s'.os = s.os) (u : Un (frs X.stack) ch H H' s.heap s'.heap) (hok : HOk X.prog X.w H' s'.heap) (hg : AllBare s'.gens)
    (hch : ∀ b ∈ ch, (b ∈ X.ex ∨ X.s₀.heap.objs.size ≤ b) ∧ b ≠ X.env.locals ∧ (∀ x c, X.env.cells.lookup x = some c → c ≠ b) ∧ ∀ p ∈ X.pn ++ pins, p.1 ≠ b) : Inv X pins σ H' s' := by
  obtain ⟨h', g', d', t', o'⟩ := s'
  have e : o' = s.os := ho
  subst e
  exact I.call (g' := g') (t' := t') (d' := d') u hok hg hch
end
abbrev XK := Value → Option Addr → Hp → Prop
abbrev St := List (Option V)
abbrev VK := V → Hp → Prop
abbrev TE := St → Hp → VK → Prop
abbrev TT := St → Hp → (Bool → Hp → Prop) → Prop
abbrev TA := St → Hp → (List V → Hp → Prop) → Prop
structure Ends where
  nx : St → Hp → Prop
  rt : VK
  bk : St → Hp → Prop := fun _ _ => False
  ct : St → Hp → Prop := fun _ _ => False
abbrev TS := Ends → St → Hp → Prop
def EP (X : Cx) (pins : List (Addr × Obj)) (σ : St) (Q : VK) (u : Value) (s' : Shared) : Prop := ∃ v H', Inv X pins σ H' s' ∧ RelV v u ∧ Q v H'
def TP (X : Cx) (pins : List (Addr × Obj)) (σ : St) (Q : Bool → Hp → Prop) (b : Bool) (s' : Shared) : Prop := ∃ H', Inv X pins σ H' s' ∧ Q b H'
def AP (X : Cx) (pins : List (Addr × Obj)) (σ : St) (Q : List V → Hp → Prop) (us : List Value) (s' : Shared) : Prop := ∃ vs H', Inv X pins σ H' s' ∧ Vals vs us ∧ Q vs H'
def SP (X : Cx) (pins : List (Addr × Obj)) (D : Ends) (f : Flow) (s' : Shared) : Prop :=
  match f with
  | .next => ∃ σ' H', Inv X pins σ' H' s' ∧ D.nx σ' H'
  | .brk => ∃ σ' H', Inv X pins σ' H' s' ∧ D.bk σ' H'
  | .cont => ∃ σ' H', Inv X pins σ' H' s' ∧ D.ct σ' H'
  | .ret u => ∃ v σ' H', Inv X pins σ' H' s' ∧ RelV v u ∧ D.rt v H'
def PE (X : Cx) (e : Expr) (t : TE) : Prop :=
  ∀ (pins : List (Addr × Obj)) (s : Shared) (σ : St) (H : Hp) (Q : VK), Inv X pins σ H s → t σ H Q → wpAny (model X.prog X.w) X.A (eval e X.env) (EP X pins σ Q) X.xe s
def PT (X : Cx) (e : Expr) (t : TT) : Prop :=
  ∀ (pins : List (Addr × Obj)) (s : Shared) (σ : St) (H : Hp) (Q : Bool → Hp → Prop), Inv X pins σ H s → t σ H Q → wpAny (model X.prog X.w) X.A (isTrue e X.env (eval e X.env)) (TP X pins σ Q) X.xe s
def PW (X : Cx) (e : Expr) (t : TT) : Prop :=
  ∀ (whole : Sem Value) (pins : List (Addr × Obj)) (s : Shared) (σ : St) (H : Hp) (Q : Bool → Hp → Prop), Inv X pins σ H s → t σ H Q → wpAny (model X.prog X.w) X.A (isTrue e X.env whole) (TP X pins σ Q) X.xe s
theorem PW.pt {X : Cx} {e : Expr} {t : TT} (h : PW X e t) : PT X e t := h _
def PA (X : Cx) (es : List Expr) (t : TA) : Prop :=
  ∀ (pos : Pos) (pins : List (Addr × Obj)) (s : Shared) (σ : St) (H : Hp) (Q : List V → Hp → Prop), Inv X pins σ H s → t σ H Q → wpAny (model X.prog X.w) X.A (spliced (backTo pos (starEach es X.env))) (AP X pins σ Q) X.xe s
def PS (X : Cx) (st : Stmt) (t : TS) : Prop :=
  ∀ (pins : List (Addr × Obj)) (s : Shared) (σ : St) (H : Hp) (D : Ends), Inv X pins σ H s → t D σ H → wpAny (model X.prog X.w) X.A (exec st X.env) (SP X pins D) X.xe s
def PSs (X : Cx) (st : List Stmt) (t : TS) : Prop :=
  ∀ (pins : List (Addr × Obj)) (s : Shared) (σ : St) (H : Hp) (D : Ends), Inv X pins σ H s → t D σ H → wpAny (model X.prog X.w) X.A (execs st X.env) (SP X pins D) X.xe s
theorem thn {α : Type} {t : Sem α} {Q Q' : α → Shared → Prop} {M : Model} {A : Around} {E : Value → Shared → Prop} {s : Shared} (h : wpAny M A t Q E s) (hQ : ∀ a s, Q a s → Q' a s) : wpAny M A t Q' E s := wpAny_mono h hQ fun _ _ x => x
end L2
namespace L2
open PySem PySem.Spec PyProof.Rows
section
variable {X : Cx}
theorem bin {a b : Expr} {ta tb : TE} (ha : PE X a ta) (hb : PE X b tb) {pins : List (Addr × Obj)} {s : Shared} {σ : St} {H : Hp} {R : V → V → Hp → Prop} (I : Inv X pins σ H s) (h : ta σ H fun x H1 => tb σ H1 fun y H2 => R x y H2)
    {α : Type} {Q : α → Shared → Prop} {f : Value → Value → Sem α}
    (hf : ∀ v u s2 x y H2, Inv X pins σ H2 s2 → RelV x v → RelV y u → R x y H2 → wpAny (model X.prog X.w) X.A (f v u) Q X.xe s2) :
    wpAny (model X.prog X.w) X.A (eval a X.env) (fun v s₁ => wpAny (model X.prog X.w) X.A (eval b X.env) (fun u s₂ => wpAny (model X.prog X.w) X.A (f v u) Q X.xe s₂) X.xe s₁) X.xe s := by
  refine thn (ha pins s σ H _ I h) fun v s1 ⟨x, H1, I1, r1, q1⟩ => ?_
  refine thn (hb pins s1 σ H1 _ I1 q1) fun u s2 ⟨y, H2, I2, r2, q2⟩ => ?_
  exact hf v u s2 x y H2 I2 r1 r2 q2
def tVar (i : Nat) : TE := fun σ H Q => ∃ v, σ[i]? = some (some v) ∧ Q v H
def tC (v : V) : TE := fun _ H Q => Q v H
theorem pe_var {i : Nat} {x : Str} {pos : Pos} (hN : X.N[i]? = some x) (hv : Vis X.env.scope x) (hd : (x == ("__debug__" : Str)) = false := by decide) (hcd : (x == ("__classdict__" : Str)) = false := by decide) : PE X (.Name x pos) (tVar i) := by
  intro pins s σ H Q I h
  obtain ⟨v, e, h⟩ := h
  obtain ⟨m, hn, hl⟩ := I.loc
  obtain ⟨u, r, l⟩ := hl i x v hN e hv
  have fin : EP X pins σ Q u s := ⟨v, H, I, r, h⟩
  rcases l with ⟨hk, hm⟩ | ⟨hk, c, hc, hcell⟩
  · exact wpAny_Name (wpAny_loadName_local I.ok.kind hk hn hm fin) hd
  · rcases hk with hk | hk
    · exact wpAny_Name (wpAny_loadName_cell I.ok.kind hk hc hcell fin) hd
    · exact wpAny_Name (wpAny_loadName_free I.ok.kind hk hc hcell fin hcd) hd
theorem pe_int {i j pos} : PE X (.Constant (.int i) j pos) (tC (.int i)) := fun _ _ _ H _ I h => wpAny_Constant_int ⟨.int i, H, I.tok _, ⟨_, rfl⟩, h⟩
theorem pe_bl {b j pos} : PE X (.Constant (.bool b) j pos) (tC (.bl b)) := fun _ _ _ H _ I h => Constant_bool ⟨.bl b, H, I, rfl, h⟩
theorem pe_non {j pos} : PE X (.Constant .none j pos) (tC .non) := fun _ _ _ H _ I h => Constant_none ⟨.non, H, I, rfl, h⟩
theorem pe_str {x j pos} : PE X (.Constant (.str x) j pos) (tC (.str x)) := fun _ _ _ H _ I h => Calls.Constant_str ⟨.str x, H, I.tok _, ⟨_, rfl⟩, h⟩
def Gl (X : Cx) (x : Str) : Prop := X.env.kindOf x = some .globalImplicit
theorem ld_glob {E : Value → Shared → Prop} {pins : List (Addr × Obj)} {s : Shared} {σ : St} {H : Hp} {x : Str} {u : Value} {pos : Pos} {Q : Value → Shared → Prop} (I : Inv X pins σ H s) (hg : Gl X x) (hm : X.mg x = some u) (h : Q u s)
    (hd : (x == ("__debug__" : Str)) = false := by decide) : wpAny (model X.prog X.w) X.A (eval (.Name x pos) X.env) Q E s :=
  Calls.Name_function_global I.ok.kind hg (Calls.loadGlobal_global (by rw [I.ok.glob]; exact I.mod.glob.keeps I.bk) hm h) hd
theorem ld_blt {E : Value → Shared → Prop} {pins : List (Addr × Obj)} {s : Shared} {σ : St} {H : Hp} {x : Str} {u : Value} {pos : Pos} {Q : Value → Shared → Prop} (I : Inv X pins σ H s) (hg : Gl X x) (hm : X.mg x = none) (hv : bootBuiltins x = some u) (h : Q u s)
    (hn : x ≠ "__name__" := by decide) (hd : (x == ("__debug__" : Str)) = false := by decide) : wpAny (model X.prog X.w) X.A (eval (.Name x pos) X.env) Q E s := by
  obtain ⟨mb, h1, h2⟩ := I.mod.blt
  exact Calls.Name_function_global I.ok.kind hg (Calls.loadGlobal_builtin (by rw [I.ok.glob]; exact I.mod.glob.keeps I.bk) hm (by rw [I.ok.blt]; exact h1.keeps I.bk) ((h2 x hn).trans hv) h) hd
theorem pe_glob {x : Str} {v : V} {u : Value} {pos : Pos} (hg : Gl X x) (hm : X.mg x = some u) (r : RelV v u) (hd : (x == ("__debug__" : Str)) = false := by decide) : PE X (.Name x pos) (tC v) :=
  fun _ _ _ H _ I h => ld_glob I hg hm ⟨v, H, I, r, h⟩ hd
theorem pe_bltn {x : Str} {v : V} {u : Value} {pos : Pos} (hg : Gl X x) (hm : X.mg x = none) (hv : bootBuiltins x = some u) (r : RelV v u) (hn : x ≠ "__name__" := by decide) (hd : (x == ("__debug__" : Str)) = false := by decide) : PE X (.Name x pos) (tC v) :=
  fun _ _ _ H _ I h => ld_blt I hg hm hv ⟨v, H, I, r, h⟩ hn hd
def t2I (ta tb : TE) (k : Int → Int → Hp → Prop) : St → Hp → Prop := fun σ H => ta σ H fun x H1 => tb σ H1 fun y H2 => ∃ i j, x = .int i ∧ y = .int j ∧ k i j H2
def tAdd (ta tb : TE) : TE := fun σ H Q => t2I ta tb (fun i j H2 => Q (.int (i + j)) H2) σ H
def tSub (ta tb : TE) : TE := fun σ H Q => t2I ta tb (fun i j H2 => Q (.int (i - j)) H2) σ H
def tMul (ta tb : TE) : TE := fun σ H Q => t2I ta tb (fun i j H2 => (-(2 ^ 64) < i ∧ i < 2 ^ 64) ∧ Q (.int (i * j)) H2) σ H
variable {a b : Expr} {ta tb : TE} {pos : Pos}
def PC (X : Cx) (op : CmpOp) (a b : Expr) (t : TE) : Prop :=
  ∀ (pins : List (Addr × Obj)) (s : Shared) (σ : St) (H : Hp) (Q : VK), Inv X pins σ H s → t σ H Q →
    wpAny (model X.prog X.w) X.A (eval a X.env) (fun v s₁ => wpAny (model X.prog X.w) X.A (eval b X.env) (fun u s₂ => wpAny (model X.prog X.w) X.A (compareOp op v u) (EP X pins σ Q) X.xe s₂) X.xe s₁) X.xe s
theorem nobehind (b : Expr) {op : CmpOp} (h : op ≠ .In) (h2 : op ≠ .NotIn) : behindInMarks op b = false := by
  have e1 : (op == CmpOp.In) = false := by cases op <;> first | rfl | exact absurd rfl h
  have e2 : (op == CmpOp.NotIn) = false := by cases op <;> first | rfl | exact absurd rfl h2
  cases b <;> simp [behindInMarks, e1, e2]
def tCmp (p : Int → Int → Bool) (ta tb : TE) : TE := fun σ H Q => t2I ta tb (fun i j H2 => Q (.bl (p i j)) H2) σ H
abbrev tLt : TE → TE → TE := tCmp fun i j => decide (i < j)
abbrev tLe : TE → TE → TE := tCmp fun i j => decide (i ≤ j)
abbrev tGt : TE → TE → TE := tCmp fun i j => decide (j < i)
abbrev tGe : TE → TE → TE := tCmp fun i j => decide (j ≤ i)
abbrev tEqI : TE → TE → TE := tCmp fun i j => decide (i = j)
abbrev tNeI : TE → TE → TE := tCmp fun i j => !decide (i = j)
def tIsN (ta : TE) : TE := fun σ H Q => ta σ H fun x H1 => Q (.bl (decide (x = .non))) H1
def tNotN (ta : TE) : TE := fun σ H Q => ta σ H fun x H1 => Q (.bl (!decide (x = .non))) H1
def tB (t : TE) : TT := fun σ H Q => t σ H fun x H1 => ∃ c, x = .bl c ∧ Q c H1
theorem pt_cmp {op : CmpOp} {t : TE} (h : PC X op a b t) (h1 : behindInMarks op b = false := by first | exact nobehind _ (by decide) (by decide) | rfl) : PT X (.Compare a [op] [b] pos) (tB t) := by
  intro pins s σ H Q I hw
  refine wpAny_isTrue_Compare1 (thn (h pins s σ H _ I hw) fun v s1 h1 => thn h1 fun u s2 h2 => thn h2 fun c s3 ⟨x, H1, I1, r1, q1⟩ => ?_) h1
  obtain ⟨d, rfl, q⟩ := q1
  cases r1
  exact wpAny_truthy_bool ⟨H1, I1, q⟩
theorem pt_val {e : Expr} {t : TE} (h : PE X e t) (he : ∀ whole, isTrue e X.env whole = (do let v ← whole; standAt e.pos; holding [v] (truthy v)) := by intro _; rfl) : PT X e (tB t) := by
  intro pins s σ H Q I hw
  refine isTrue_plain (thn (h pins s σ H _ I hw) fun v s1 ⟨x, H1, I1, r1, q1⟩ => ?_) (he _)
  obtain ⟨d, rfl, q⟩ := q1
  cases r1
  exact wpAny_truthy_bool ⟨H1, I1, q⟩
variable {tA tB' : TT} {rest : List Expr}
def tAnd (t u : TT) : TT := fun σ H Q => t σ H fun c H1 => if c = true then u σ H1 Q else Q false H1
def tOr (t u : TT) : TT := fun σ H Q => t σ H fun c H1 => if c = true then Q true H1 else u σ H1 Q
def tNot (t : TT) : TT := fun σ H Q => t σ H fun c H1 => Q (!c) H1
theorem pw_and1 (ha : PT X a tA) : PW X (.BoolOp .And [a] pos) tA := by
  intro wh pins s σ H Q I h
  refine isTrue_and (thn (ha pins s σ H Q I h) fun c s1 e => ?_)
  cases c with
  | true => exact isTrue_and_nil e
  | false => exact e
theorem pw_or1 (ha : PT X a tA) : PW X (.BoolOp .Or [a] pos) tA := by
  intro wh pins s σ H Q I h
  refine isTrue_or (thn (ha pins s σ H Q I h) fun c s1 e => ?_)
  cases c with
  | false => exact isTrue_or_nil e
  | true => exact e
theorem pw_and (ha : PT X a tA) (hb : PW X (.BoolOp .And (b :: rest) pos) tB') : PW X (.BoolOp .And (a :: b :: rest) pos) (tAnd tA tB') := by
  intro wh pins s σ H Q I h
  refine isTrue_and (thn (ha pins s σ H _ I h) fun c s1 ⟨H1, I1, q1⟩ => ?_)
  cases c with
  | true => exact hb wh pins s1 σ H1 Q I1 q1
  | false => exact ⟨H1, I1, q1⟩
theorem pw_or (ha : PT X a tA) (hb : PW X (.BoolOp .Or (b :: rest) pos) tB') : PW X (.BoolOp .Or (a :: b :: rest) pos) (tOr tA tB') := by
  intro wh pins s σ H Q I h
  refine isTrue_or (thn (ha pins s σ H _ I h) fun c s1 ⟨H1, I1, q1⟩ => ?_)
  cases c with
  | true => exact ⟨H1, I1, q1⟩
  | false => exact hb wh pins s1 σ H1 Q I1 q1
theorem pt_not (ha : PT X a tA) : PT X (.UnaryOp .Not a pos) (tNot tA) := by
  intro pins s σ H Q I h
  exact isTrue_not (ha pins s σ H (fun c H1 => Q (!c) H1) I h)
def tAndV (ta tb : TE) : TE := fun σ H Q => ta σ H fun x H1 => ∃ c, x = .bl c ∧ if c = true then tb σ H1 Q else Q (.bl false) H1
def tOrV (ta tb : TE) : TE := fun σ H Q => ta σ H fun x H1 => ∃ c, x = .bl c ∧ if c = true then Q (.bl true) H1 else tb σ H1 Q
def tNotV (ta : TE) : TE := fun σ H Q => ta σ H fun x H1 => ∃ c, x = .bl c ∧ Q (.bl (!c)) H1
theorem pe_one {op} {t : TE} (h : PE X a t) : PE X (.BoolOp op [a] pos) t := fun pins s σ H Q I hw => BoolOp_one (h pins s σ H Q I hw)
theorem pe_and (ha : PE X a ta) (hb : PE X (.BoolOp .And (b :: rest) pos) tb) : PE X (.BoolOp .And (a :: b :: rest) pos) (tAndV ta tb) := by
  intro pins s σ H Q I h
  refine BoolOp_and (thn (ha pins s σ H _ I h) fun v s1 ⟨x, H1, I1, r1, q1⟩ => ?_)
  obtain ⟨c, rfl, q1⟩ := q1
  cases r1
  refine wpAny_truthy_bool ?_
  cases c with
  | true => exact hb pins s1 σ H1 Q I1 q1
  | false => exact ⟨.bl false, H1, I1, rfl, q1⟩
theorem pe_or (ha : PE X a ta) (hb : PE X (.BoolOp .Or (b :: rest) pos) tb) : PE X (.BoolOp .Or (a :: b :: rest) pos) (tOrV ta tb) := by
  intro pins s σ H Q I h
  refine BoolOp_or (thn (ha pins s σ H _ I h) fun v s1 ⟨x, H1, I1, r1, q1⟩ => ?_)
  obtain ⟨c, rfl, q1⟩ := q1
  cases r1
  refine wpAny_truthy_bool ?_
  cases c with
  | false => exact hb pins s1 σ H1 Q I1 q1
  | true => exact ⟨.bl true, H1, I1, rfl, q1⟩
theorem pe_not (ha : PE X a ta) : PE X (.UnaryOp .Not a pos) (tNotV ta) := by
  intro pins s σ H Q I h
  refine UnaryOp_ (thn (ha pins s σ H _ I h) fun v s1 ⟨x, H1, I1, r1, q1⟩ => ?_)
  obtain ⟨c, rfl, q1⟩ := q1
  cases r1
  exact not_of (wpAny_truthy_bool ⟨.bl (!c), H1, I1, rfl, q1⟩)
def tIf (t : TT) (ta tb : TE) : TE := fun σ H Q => t σ H fun c H1 => if c = true then ta σ H1 Q else tb σ H1 Q
end
end L2
namespace L2
open PySem PySem.Spec PyProof.Rows
def SqL (K : PySem.W.Frag) (H : Hp) (a : Addr) (xs : List V) : Prop :=
  Rd H a (.lst xs) ∨
    ∃ (o : Obj) (its : Array Value) (n : Nat), K.lookup a = some o ∧ o.cls = .type "list" ∧ o.dict = none ∧ o.data = .seq its n ∧ its.size ≤ sizeLine ∧ Vals xs its.toList
def SqT (K : PySem.W.Frag) (H : Hp) (a : Addr) (xs : List V) : Prop :=
  Rd H a (.tup xs) ∨
    ∃ (o : Obj) (its : Array Value) (n : Nat), K.lookup a = some o ∧ o.cls = .type "tuple" ∧ o.data = .seq its n ∧ its.size ≤ sizeLine ∧ Vals xs its.toList
def absV : Value → Option V
  | .none => some .non
  | .bool b => some (.bl b)
  | .int i _ => some (.int i)
  | .str x _ => some (.str x)
  | .bytes b _ => some (.byt b)
  | .float b _ => some (.flt b)
  | .ref a => some (.ref a)
  | .type n => some (.ty n)
  | _ => none
theorem RelV.abs {x : V} {u : Value} (r : RelV x u) : absV u = some x := by
  cases x with
  | non => cases r; rfl
  | bl _ => cases r; rfl
  | int _ => obtain ⟨t, rfl⟩ := r; rfl
  | str _ => obtain ⟨t, rfl⟩ := r; rfl
  | byt _ => obtain ⟨t, rfl⟩ := r; rfl
  | flt _ => obtain ⟨t, rfl⟩ := r; rfl
  | ref _ => cases r; rfl
  | ty _ => cases r; rfl
theorem RelV.inj {x y : V} {u : Value} (r : RelV x u) (q : RelV y u) : x = y := Option.some.inj (r.abs.symm.trans q.abs)
theorem Vals.inj : ∀ {xs ys : List V} {us : List Value}, Vals xs us → Vals ys us → xs = ys
  | _, _, _, .nil, .nil => rfl
  | _, _, _, .cons r t, .cons r' t' => by rw [r.inj r', Vals.inj t t']
section
variable {X : Cx} {pins : List (Addr × Obj)} {σ : St} {H : Hp} {s : Shared} {a : Addr} {xs ys : List V}
theorem SqL.of {K : PySem.W.Frag} (h : H a = some (.lst xs)) : SqL K H a xs := .inl (.inl h)
theorem SqT.of {K : PySem.W.Frag} (h : H a = some (.tup xs)) : SqT K H a xs := .inl (.inl h)
theorem Inv.list (I : Inv X pins σ H s) (h : SqL X.K H a xs) : ∃ its : List Value, Vals xs its ∧ PlainL s.heap a its.toArray ∧ xs.length ≤ sizeLine := by
  rcases h with h | ⟨o, its, n, hk, hc, hd, hs, hz, r⟩
  · obtain ⟨z, its, n, r, e⟩ := h.ok I.hok
    exact ⟨its, r, ⟨_, n, e, rfl, rfl, rfl⟩, z⟩
  · refine ⟨its.toList, r, ⟨o, n, I.kIn a o hk, hc, hd, by simpa using hs⟩, ?_⟩
    have e := r.length
    simp only [Array.length_toList] at e
    omega
theorem Inv.tuple (I : Inv X pins σ H s) (h : SqT X.K H a xs) : ∃ its : List Value, Vals xs its ∧ IsTup s.heap a its.toArray ∧ xs.length ≤ sizeLine := by
  rcases h with h | ⟨o, its, n, hk, hc, hs, hz, r⟩
  · obtain ⟨z, its, r, p⟩ := h.ok I.hok
    exact ⟨its, r, p, z⟩
  · refine ⟨its.toList, r, ⟨o, I.kIn a o hk, hc, n, by simpa using hs⟩, ?_⟩
    have e := r.length
    simp only [Array.length_toList] at e
    omega
theorem Inv.list_inj (I : Inv X pins σ H s) (h : SqL X.K H a xs) (h' : SqL X.K H a ys) : xs = ys := by
  obtain ⟨its, r, ⟨o, n, e, _, _, d⟩, _⟩ := I.list h
  obtain ⟨its', r', ⟨o', n', e', _, _, d'⟩, _⟩ := I.list h'
  rw [e] at e'; cases e'
  rw [d] at d'
  injection d' with d1 _
  have : its = its' := by simpa using congrArg Array.toList d1
  subst this
  exact r.inj r'
theorem Inv.tuple_inj (I : Inv X pins σ H s) (h : SqT X.K H a xs) (h' : SqT X.K H a ys) : xs = ys := by
  obtain ⟨its, r, ⟨o, e, _, n, d⟩, _⟩ := I.tuple h
  obtain ⟨its', r', ⟨o', e', _, n', d'⟩, _⟩ := I.tuple h'
  rw [e] at e'; cases e'
  rw [d] at d'
  injection d' with d1 _
  have : its = its' := by simpa using congrArg Array.toList d1
  subst this
  exact r.inj r'
end
abbrev Cx.wish (X : Cx) (E : Value → Shared → Prop) : Cx := { X with xe := E }
abbrev Cx.nox (X : Cx) : Cx := X.wish fun _ _ => False
theorem Cx.Ok.wish {X : Cx} (ok : X.Ok) (E : Value → Shared → Prop) : (X.wish E).Ok :=
  ⟨ok.mod, ok.kind, ok.glob, ok.blt, ok.above, ok.inj, ok.has, ok.cab, ok.hd, ok.frames, ok.stk, ok.exf, ok.bs, ok.bsz, ok.noex, ok.exfs, ok.funs, ok.frf⟩
theorem Cx.Ok.unwish {X : Cx} {E : Value → Shared → Prop} (ok : (X.wish E).Ok) : X.Ok :=
  ⟨ok.mod, ok.kind, ok.glob, ok.blt, ok.above, ok.inj, ok.has, ok.cab, ok.hd, ok.frames, ok.stk, ok.exf, ok.bs, ok.bsz, ok.noex, ok.exfs, ok.funs, ok.frf⟩
section
variable {X : Cx} {pins : List (Addr × Obj)} {σ : St} {H : Hp} {s : Shared} {E : Value → Shared → Prop}
theorem Inv.wish (I : Inv X pins σ H s) (E : Value → Shared → Prop) : Inv (X.wish E) pins σ H s := ⟨I.ok.wish E, I.os, I.bare, I.base, I.loc, I.cell, I.free, I.freeC, I.pin, I.hok, I.len⟩
theorem Inv.unwish (I : Inv (X.wish E) pins σ H s) : Inv X pins σ H s := ⟨I.ok.unwish, I.os, I.bare, I.base, I.loc, I.cell, I.free, I.freeC, I.pin, I.hok, I.len⟩
theorem SP.unwish {D : Ends} {f : Flow} {s' : Shared} (h : SP (X.wish E) pins D f s') : SP X pins D f s' := by
  cases f with
  | next => obtain ⟨σ', H', I, q⟩ := h; exact ⟨σ', H', I.unwish, q⟩
  | brk => obtain ⟨σ', H', I, q⟩ := h; exact ⟨σ', H', I.unwish, q⟩
  | cont => obtain ⟨σ', H', I, q⟩ := h; exact ⟨σ', H', I.unwish, q⟩
  | ret u => obtain ⟨v, σ', H', I, r, q⟩ := h; exact ⟨v, σ', H', I.unwish, r, q⟩
theorem PE.nox {e : Expr} {t : TE} (h : PE X.nox e t) : PE X e t := fun pins s σ H Q I hw =>
  wpAny_mono (h pins s σ H Q (I.wish _) hw) (fun _ _ ⟨v, H', I', r, q⟩ => ⟨v, H', I'.unwish, r, q⟩) fun _ _ z => False.elim z
theorem PT.nox {e : Expr} {t : TT} (h : PT X.nox e t) : PT X e t := fun pins s σ H Q I hw =>
  wpAny_mono (h pins s σ H Q (I.wish _) hw) (fun _ _ ⟨H', I', q⟩ => ⟨H', I'.unwish, q⟩) fun _ _ z => False.elim z
theorem PSs.nox {st : List Stmt} {t : TS} (h : PSs X.nox st t) : PSs X st t := fun pins s σ H D I hw =>
  wpAny_mono (h pins s σ H D (I.wish _) hw) (fun _ _ q => q.unwish) fun _ _ z => False.elim z
end
section
variable {X : Cx} {st : Stmt} {rest : List Stmt} {t u : TS} {e : Expr} {te : TE} {pos : Pos}
def tNext : TS := fun D σ H => D.nx σ H
def tSeq (t u : TS) : TS := fun D σ H => t { D with nx := u D } σ H
theorem pss_nil : PSs X [] tNext := fun _ _ σ H _ I h => wpAny_execs_nil ⟨σ, H, I, h⟩
theorem pss_cons (h1 : PS X st t) (h2 : PSs X rest u) : PSs X (st :: rest) (tSeq t u) := by
  intro pins s σ H D I h
  refine wpAny_execs_cons (thn (h1 pins s σ H { D with nx := u D } I h) fun f s1 q => ?_)
  cases f with
  | next =>
    obtain ⟨σ', H', I', q⟩ := q
    exact h2 pins s1 σ' H' D I' q
  | ret v => exact q
  | brk => exact q
  | cont => exact q
theorem pss_one (h1 : PS X st t) : PSs X [st] t := by
  intro pins s σ H D I h
  refine wpAny_execs_cons (thn (h1 pins s σ H D I h) fun f s1 q => ?_)
  cases f with
  | next => exact wpAny_execs_nil q
  | ret v => exact q
  | brk => exact q
  | cont => exact q
def tBreak : TS := fun D σ H => D.bk σ H
def tCont : TS := fun D σ H => D.ct σ H
theorem Inv.quiet {pins : List (Addr × Obj)} {σ : St} {H : Hp} {s : Shared} (I : Inv X pins σ H s) : interactive X.env = false := by simp [interactive, I.ok.kind]
def tDrop (te : TE) : TS := fun D σ H => te σ H fun _ H1 => D.nx σ H1
theorem ps_expr (he : PE X e te) (hs : swapsWith e none pos.line X.env = pure false := by rfl) : PS X (.Expr e pos) (tDrop te) := by
  intro pins s σ H D I h
  exact wpAny_Expr_any (thn (he pins s σ H _ I h) fun v s1 ⟨x, H1, I1, r1, q1⟩ => ⟨σ, H1, I1, q1⟩) I.quiet hs
def tRet (te : TE) : TS := fun D σ H => te σ H D.rt
theorem ps_ret (he : PE X e te) : PS X (.Return (some e) pos) (tRet te) := by
  intro pins s σ H D I h
  exact wpAny_Return_some (thn (he pins s σ H _ I h) fun v s1 ⟨x, H1, I1, r1, q1⟩ => ⟨x, σ, H1, I1, r1, q1⟩)
def tRetN : TS := fun D _ H => D.rt .non H
def tIfS (c : TT) (t u : TS) : TS := fun D σ H => c σ H fun b H1 => if b = true then t D σ H1 else u D σ H1
theorem ps_if {c : Expr} {a b : List Stmt} {tc : TT} (hc : PT X c tc) (ha : PSs X a t) (hb : PSs X b u) : PS X (.If c a b pos) (tIfS tc t u) := by
  intro pins s σ H D I h
  refine wpAny_If (thn (hc pins s σ H _ I h) fun d s1 ⟨H1, I1, q1⟩ => ?_)
  cases d with
  | true => exact ha pins s1 σ H1 D I1 q1
  | false => exact hb pins s1 σ H1 D I1 q1
def tNever : TS := fun _ _ _ => False
theorem ps_never : PS X st tNever := fun _ _ _ _ _ _ h => h.elim
end
abbrev TG := V → St → Hp → (St → Hp → Prop) → Prop
abbrev TGs := List V → St → Hp → (St → Hp → Prop) → Prop
def PG (X : Cx) (target : Expr) (t : TG) : Prop :=
  ∀ (pins : List (Addr × Obj)) (s : Shared) (σ : St) (H : Hp) (v : V) (u : Value) (Q : St → Hp → Prop), Inv X pins σ H s → RelV v u → t v σ H Q →
    wpAny (model X.prog X.w) X.A (assign target X.env u) (fun _ s' => ∃ σ' H', Inv X pins σ' H' s' ∧ Q σ' H') X.xe s
def PGs (X : Cx) (ts : List Expr) (t : TGs) : Prop :=
  ∀ (pins : List (Addr × Obj)) (s : Shared) (σ : St) (H : Hp) (vs : List V) (us : List Value) (Q : St → Hp → Prop), Inv X pins σ H s → Vals vs us → t vs σ H Q →
    wpAny (model X.prog X.w) X.A (assignInOrder ((assignEach ts X.env).map (·.2)) us) (fun _ s' => ∃ σ' H', Inv X pins σ' H' s' ∧ Q σ' H') X.xe s
abbrev TSet := V → V → V → Hp → (Hp → Prop) → Prop
def PSet (X : Cx) (t : TSet) : Prop :=
  ∀ (pins : List (Addr × Obj)) (s : Shared) (σ : St) (H : Hp) (o i v : V) (ov iv u : Value) (Q : Hp → Prop), Inv X pins σ H s → RelV o ov → RelV i iv → RelV v u → t o i v H Q →
    wpAny (model X.prog X.w) X.A (setItem ov iv u) (fun _ s' => ∃ H', Inv X pins σ H' s' ∧ Q H') X.xe s
abbrev TIp := V → V → Hp → VK → Prop
def PIp (X : Cx) (op : Operator) (t : TIp) : Prop :=
  ∀ (pins : List (Addr × Obj)) (s : Shared) (σ : St) (H : Hp) (x y : V) (v u : Value) (Q : VK), Inv X pins σ H s → RelV x v → RelV y u → t x y H Q →
    wpAny (model X.prog X.w) X.A (inplaceOp op v u) (EP X pins σ Q) X.xe s
section
variable {X : Cx} {pos : Pos}
def gName (i : Nat) : TG := fun v σ H Q => Q (σ.set i (some v)) H
theorem pg_name {i : Nat} {x : Str} (hN : X.N.Nodup) (hi : X.N[i]? = some x) (hx : Loc X.env.scope x) (hf : X.fn x = true ∨ X.env.scope.names.lookup x = some .local := by first | exact .inl rfl | exact .inr rfl | assumption) : PG X (.Name x pos) (gName i) := by
  intro pins s σ H v u Q I r h
  exact wpAny_assign_Name (store_ok I hN hi hx r (fun s' I' => ⟨_, H, I', h⟩) hf)
def gNil : TGs := fun vs σ H Q => vs = [] ∧ Q σ H
def gCons (t : TG) (u : TGs) : TGs := fun vs σ H Q => ∃ v r, vs = v :: r ∧ t v σ H fun σ' H' => u r σ' H' Q
theorem pgs_nil : PGs X [] gNil := by
  intro pins s σ H vs us Q I r h
  obtain ⟨e, h⟩ := h
  subst e
  cases r
  exact assignInOrder_nil ⟨σ, H, I, h⟩
theorem pgs_cons {e : Expr} {es : List Expr} {t : TG} {u : TGs} (h1 : PG X e t) (h2 : PGs X es u)
    (hs : (assignEach (e :: es) X.env).map (·.2) = assign e X.env :: (assignEach es X.env).map (·.2) := by rfl) : PGs X (e :: es) (gCons t u) := by
  intro pins s σ H vs us Q I r h
  obtain ⟨v, vr, e1, h⟩ := h
  subst e1
  cases r with
  | cons r rr =>
    rw [hs]
    refine assignInOrder_cons (thn (h1 pins s σ H _ _ _ I r h) fun _ s1 ⟨σ1, H1, I1, q1⟩ => ?_)
    exact h2 pins s1 σ1 H1 _ _ Q I1 rr q1
def gTup (K : PySem.W.Frag) (n : Nat) (t : TGs) : TG := fun v σ H Q => ∃ a xs, v = .ref a ∧ SqT K H a xs ∧ xs.length = n ∧ t xs σ H Q
theorem pg_tup {es : List Expr} {k : Nat} {t : TGs} {n : Nat} (hc : X.calm = true) (h : PGs X es t)
    (hn : (assignEach es X.env).length = n := by rfl) (hst : (assignEach es X.env).findIdx? (·.1) = none := by rfl) : PG X (.Tuple es k pos) (gTup X.K n t) := by
  intro pins s σ H v u Q I r hw
  obtain ⟨a, xs, e1, hq, hl, hw⟩ := hw
  subst e1
  cases r
  obtain ⟨its, rv, ht, hz⟩ := I.tuple hq
  refine assign_Tuple_tuple (I.ok.hd hc) ht (by simp [hn, ← hl, rv.length]) hst fun h' hx => ?_
  have I1 : Inv X pins σ H { s with heap := h' } := I.kept (t' := s.toks) fun b o e => hx b o (Nat.ne_of_lt (Heap.lt_size e)) e
  exact h pins _ σ H xs _ Q I1 (by simpa using rv) hw
def gSub (to ti : TE) (t : TSet) : TG := fun v σ H Q => to σ H fun o H1 => ti σ H1 fun i H2 => t o i v H2 fun H3 => Q σ H3
theorem pg_sub {o i : Expr} {to ti : TE} {t : TSet} (ho : PE X o to) (hi : PE X i ti) (hs : PSet X t)
    (ha : ∀ v, assign (.Subscript o i pos) X.env v = (do
      let ov ← holding [v] (eval o X.env)
      let iv ← holding [v, ov] (eval i X.env)
      standAt pos
      holding [v, ov, iv] (setItem ov iv v)
      release [v, ov, iv] []) := by intro _; rfl) : PG X (.Subscript o i pos) (gSub to ti t) := by
  intro pins s σ H v u Q I r h
  rw [ha]
  refine wpAny_bind (wpAny_holding (thn (ho pins s σ H _ I h) fun ov s1 ⟨x, H1, I1, r1, q1⟩ => ?_))
  refine wpAny_bind (wpAny_holding (thn (hi pins s1 σ H1 _ I1 q1) fun iv s2 ⟨y, H2, I2, r2, q2⟩ => ?_))
  refine wpAny_bind (wpAny_standAt (wpAny_bind (wpAny_holding (thn (hs pins s2 σ H2 x y v ov iv u _ I2 r1 r2 r q2) fun _ s3 ⟨H3, I3, q3⟩ => ?_))))
  exact wpAny_release ⟨σ, H3, I3, q3⟩
def tAsg (te : TE) (g : TG) : TS := fun D σ H => te σ H fun x H1 => g x σ H1 D.nx
theorem ps_asg {tg e : Expr} {te : TE} {g : TG} (he : PE X e te) (hg : PG X tg g) (hs : swapsWithSole [tg] e pos.line X.env = pure false := by rfl) (hw : swappedStores [tg] e X.env = pure none := by rfl)
    (h1 : (assignEach [tg] X.env).map (·.2) = [assign tg X.env] := by rfl) : PS X (.Assign [tg] e pos) (tAsg te g) := by
  intro pins s σ H D I h
  refine wpAny_Assign_stores (thn (he pins s σ H _ I h) fun v s1 ⟨x, H1, I1, r1, q1⟩ => ?_) hs hw
  rw [h1]
  exact thn (hg pins s1 σ H1 x v _ I1 r1 q1) fun _ s2 q => q
theorem ps_set {i : Nat} {x : Str} {e : Expr} {te : TE} {pos' : Pos} (hN : X.N.Nodup) (hi : X.N[i]? = some x) (hx : Loc X.env.scope x) (he : PE X e te) (hs : swapsWith e (some (.Name x pos')) pos.line X.env = pure false := by rfl) (hf : X.fn x = true ∨ X.env.scope.names.lookup x = some .local := by first | exact .inl rfl | exact .inr rfl | assumption) :
    PS X (.Assign [.Name x pos'] e pos) (tAsg te (gName i)) := by
  intro pins s σ H D I h
  refine wpAny_Assign_Name (thn (he pins s σ H _ I h) fun v s1 ⟨y, H1, I1, r1, q1⟩ => ?_) hs
  exact store_ok I1 hN hi hx r1 (fun s2 I2 => ⟨_, H1, I2, q1⟩) hf
def tPar (i j : Nat) (ta : TA) : TS := fun D σ H => ta σ H fun vs H1 => ∃ v w, vs = [v, w] ∧ D.nx ((σ.set i (some v)).set j (some w)) H1
theorem ps_par {i j : Nat} {x y : Str} {a b : Expr} {ta : TA} {px py pt : Pos} {kt k2 pt2} (hc : X.calm = true) (hN : X.N.Nodup) (hi : X.N[i]? = some x) (hj : X.N[j]? = some y) (hij : i ≠ j)
    (hx : X.env.scope.names.lookup x = some .local) (hy : X.env.scope.names.lookup y = some .local) (ha : PA X [a, b] ta)
    (hw : swappedStores [.Tuple [.Name x px, .Name y py] kt pt] (.Tuple [a, b] k2 pt2) X.env = pure (some [x, y]))
    (hs : swapsWithSole [.Tuple [.Name x px, .Name y py] kt pt] (.Tuple [a, b] k2 pt2) pos.line X.env = pure false := by rfl) :
    PS X (.Assign [.Tuple [.Name x px, .Name y py] kt pt] (.Tuple [a, b] k2 pt2) pos) (tPar i j ta) := by
  intro pins s σ H D I h
  rw [exec_Assign_arm]
  refine wpAny_bind (wpAny_standAt ?_)
  rw [hs]
  refine wpAny_bind (wpAny_pure ?_)
  rw [if_neg (by decide)]
  refine wpAny_bind (Tuple_ (thn (ha _ pins s σ H _ I h) fun us s1 ⟨vs, H1, I1, r1, q1⟩ => ?_))
  obtain ⟨v, w, e1, q1⟩ := q1
  subst e1
  obtain ⟨u1, u2, rfl, rv, rw'⟩ : ∃ u1 u2, us = [u1, u2] ∧ RelV v u1 ∧ RelV w u2 := by
    cases r1 with
    | cons p q =>
      cases q with
      | cons p' q' =>
        cases q'
        exact ⟨_, _, rfl, p, p'⟩
  refine wpAny_newObj_type ?_ (by show 2 ≤ sizeLine; decide)
  have I2 : Inv X pins σ H1 { s1 with heap := s1.heap.push { cls := .type "tuple", data := .seq [u1, u2].toArray } } := I1.kept (t' := s1.toks) fun b o e => Heap.get?_push_of_some _ e
  rw [hw]
  refine wpAny_bind (wpAny_pure ?_)
  show wpAny (model X.prog X.w) X.A (do rule "assign.swapped-stores"; let items ← unpackItems (.ref s1.heap.objs.size) 2 none; assignInOrder [fun v => bindName X.env y v, fun v => bindName X.env x v] items.reverse; pure Flow.next) _ _ _
  refine wpAny_bind (wpAny_rule (wpAny_bind (unpackItems_tuple (items := #[u1, u2]) (I.ok.hd hc) (IsTup.new s1.heap _) fun h' hx' => ?_)))
  have I3 := I2.kept (h' := h') (t' := s1.toks) fun b o e => hx' b o (Nat.ne_of_lt (Heap.lt_size e)) e
  show wpAny _ _ (assignInOrder [fun v => bindName X.env y v, fun v => bindName X.env x v] [u2, u1] >>= fun _ => pure Flow.next) _ _ _
  refine wpAny_bind (assignInOrder_cons (wpAny_bindName (store_ok I3 hN hj (.inl hy) rw' (fun s2 I4 => ?_) (.inr hy))))
  refine assignInOrder_cons (wpAny_bindName (store_ok I4 hN hi (.inl hx) rv (fun s3 I5 => assignInOrder_nil (wpAny_pure ?_)) (.inr hx)))
  rw [List.set_comm _ _ (Ne.symm hij)] at I5
  exact ⟨_, H1, I5, q1⟩
def tAug (i : Nat) (te : TE) (ti : TIp) : TS := fun D σ H => ∃ x, σ[i]? = some (some x) ∧ te σ H fun y H1 => ti x y H1 fun z H2 => D.nx (σ.set i (some z)) H2
def tAugS (to ti te : TE) (tget : V → V → Hp → VK → Prop) (tip : TIp) (tset : TSet) : TS := fun D σ H => to σ H fun o H1 => ti σ H1 fun i H2 => tget o i H2 fun x H3 => te σ H3 fun y H4 => tip x y H4 fun z H5 => tset o i z H5 fun H6 => D.nx σ H6
def PGet (X : Cx) (t : V → V → Hp → VK → Prop) : Prop :=
  ∀ (pins : List (Addr × Obj)) (s : Shared) (σ : St) (H : Hp) (o i : V) (ov iv : Value) (Q : VK), Inv X pins σ H s → RelV o ov → RelV i iv → t o i H Q →
    wpAny (model X.prog X.w) X.A (getItem ov iv) (EP X pins σ Q) X.xe s
def ipI (f : Int → Int → Int) : TIp := fun x y H Q => ∃ i j, x = .int i ∧ y = .int j ∧ Q (.int (f i j)) H
end
section
variable {X : Cx} {pos : Pos}
def tWhile (c : TT) (tb : TS) : TS := fun D σ H => ∃ W : Nat → St → Hp → Prop, (∃ m, W m σ H) ∧ ∀ m σ H, W m σ H →
  c σ H fun b H1 => if b = true then ∃ N : St → Hp → Prop, (∀ σ' H', N σ' H' → ∃ m', m' < m ∧ W m' σ' H') ∧ tb { D with nx := N, ct := N, bk := D.nx } σ H1 else D.nx σ H1
theorem ps_while {c : Expr} {body : List Stmt} {tc : TT} {tb : TS} (hp : PassesOwn (model X.prog X.w) X.A X.env X.xe) (hc : PT X c tc) (hb : PSs X body tb) : PS X (.While c body [] pos) (tWhile tc tb) := by
  intro pins s σ H D I h
  obtain ⟨W, ⟨m0, w0⟩, turn⟩ := h
  refine wpAny_While (codeAny_whileLoop (fun n s' => ∃ σ' H', Inv X pins σ' H' s' ∧ W n σ' H') ?_ m0 ⟨σ, H, I, w0⟩)
  rintro n s1 ⟨σ1, H1, I1, w1⟩
  refine wpAny_passesOwn hp (thn (hc pins s1 σ1 H1 _ I1 (turn n σ1 H1 w1)) fun b s2 ⟨H2, I2, q2⟩ => ?_)
  cases b with
  | true =>
    obtain ⟨N, hN, q2⟩ := q2
    rw [if_pos rfl]
    refine wpAny_passesOwn hp (thn (hb pins s2 σ1 H2 _ I2 q2) fun f s3 q3 => ?_)
    cases f with
    | next =>
      obtain ⟨σ3, H3, I3, n3⟩ := q3
      obtain ⟨m', hm, w3⟩ := hN σ3 H3 n3
      exact ⟨m', hm, σ3, H3, I3, w3⟩
    | cont =>
      obtain ⟨σ3, H3, I3, n3⟩ := q3
      obtain ⟨m', hm, w3⟩ := hN σ3 H3 n3
      exact ⟨m', hm, σ3, H3, I3, w3⟩
    | brk => exact q3
    | ret v => exact q3
  | false =>
    rw [if_neg Bool.false_ne_true]
    exact wpAny_execs_nil ⟨σ1, H2, I2, q2⟩
end
structure It where
  go : Nat → Hp → Prop
  yld : Nat → Hp → V → Hp → Prop
  stop : Nat → Hp → Prop
def FpOk (X : Cx) (pins : List (Addr × Obj)) (H : Hp) (b : Addr) : Prop :=
  H b = none ∧ b ≠ X.env.locals ∧ b ∉ X.fs ∧ (b ∈ X.ex ∨ X.s₀.heap.objs.size ≤ b) ∧ (∀ x c, X.env.cells.lookup x = some c → c ≠ b) ∧ ∀ p ∈ X.pn ++ pins, p.1 ≠ b
theorem Inv.fpOk {X : Cx} {pins : List (Addr × Obj)} {σ : St} {H H' : Hp} {s : Shared} {b : Addr} (I : Inv X pins σ H s) (hb : s.heap.objs.size ≤ b) (hn : H' b = none) : FpOk X pins H' b := by
  refine ⟨hn, Nat.ne_of_gt (Nat.lt_of_lt_of_le I.lt hb), I.nofs hb, .inr (Nat.le_trans I.sz hb), fun x c e z => ?_, fun p hp z => ?_⟩
  · obtain ⟨v, q⟩ := I.cell x c e
    exact absurd (Nat.lt_of_lt_of_le q.lt (by rw [z]; exact hb)) (Nat.lt_irrefl _)
  · exact absurd (Nat.lt_of_lt_of_le (Heap.lt_size (I.pin p hp).1) (by rw [z]; exact hb)) (Nat.lt_irrefl _)
structure Turn (P : Program) (w : World) (K : PySem.W.Frag) (tg : Expr) (J : It) (fp : List Addr) (it : Addr) (tn : Nat → Heap → Prop) : Prop where
  mem : it ∈ fp
  obj : ∀ i h, tn i h → ∀ b ∈ fp, ∃ o, h.get? b = some o ∧ ∀ v, o.data ≠ .cell v
  keep : ∀ i h h', tn i h → (∀ b ∈ fp, ∀ o, h.get? b = some o → h'.get? b = some o) → tn i h'
  item : ∀ (X : Cx), X.prog = P → X.w = w → X.K = K → X.calm = true → ∀ (i : Nat) (pins : List (Addr × Obj)) (s : Shared) (σ : St) (H : Hp) (E : Value → Shared → Prop), Inv X pins σ H s → (∀ b ∈ fp, FpOk X pins H b) → tn i s.heap → J.go i H →
    wpAny (model P w) X.A (pyNext (.ref it)) (fun r s1 => ∃ u, r = some u ∧
      wpAny (model P w) X.A (letOwnedTupleGo tg (.ref it) u) (fun _ s2 => ∃ x H', Inv X pins σ H' s2 ∧ RelV x u ∧ J.yld i H x H' ∧ tn (i + 1) s2.heap ∧ ∀ b ∈ fp, H' b = none) E s1) E s
  done : ∀ (X : Cx), X.prog = P → X.w = w → X.K = K → X.calm = true → ∀ (i : Nat) (pins : List (Addr × Obj)) (s : Shared) (σ : St) (H : Hp) (E : Value → Shared → Prop), Inv X pins σ H s → (∀ b ∈ fp, FpOk X pins H b) → tn i s.heap → J.stop i H →
    wpAny (model P w) X.A (pyNext (.ref it)) (fun r s1 => r = none ∧ Inv X pins σ H s1) E s
  self : ∀ (A : Around) (i : Nat) (s : Shared) (Q : Value → Shared → Prop) (E : Value → Shared → Prop), tn i s.heap → Q (.ref it) s → wpAny (model P w) A (pyIter (.ref it)) Q E s
abbrev TI := St → Hp → (It → Hp → Prop) → Prop
def PIE (X : Cx) (pins : List (Addr × Obj)) (σ : St) (tg : Expr) (R : It → Hp → Prop) (itv : Value) (s2 : Shared) : Prop :=
  ∃ (it : Addr) (fp : List Addr) (tn : Nat → Heap → Prop) (J : It) (H' : Hp), itv = .ref it ∧ Inv X pins σ H' s2 ∧ Turn X.prog X.w X.K tg J fp it tn ∧ tn 0 s2.heap ∧ (∀ b ∈ fp, FpOk X pins H' b) ∧ R J H'
def PI (X : Cx) (tg iter : Expr) (wi : TI) : Prop :=
  ∀ (pins : List (Addr × Obj)) (s : Shared) (σ : St) (H : Hp) (R : It → Hp → Prop), Inv X pins σ H s → wi σ H R →
    wpAny (model X.prog X.w) X.A (eval iter X.env) (fun v s1 => wpAny (model X.prog X.w) X.A (pyIter v) (PIE X pins σ tg R) X.xe s1) X.xe s
theorem go_of {M : Model} {A : Around} {E : Value → Shared → Prop} {s : Shared} {tg : Expr} {it : Addr} {u : Value} {o : Obj} {n : String} {vs : Array Value} {Q : Unit → Shared → Prop} (ho : s.heap.get? it = some o) (hc : o.cls = .type n) (hd : o.data = .fields vs)
    (hn : ["enumerate", "zip", "dict_itemiterator", "dict_reverseitemiterator", "odict_iterator", "itertools.zip_longest", "itertools.pairwise"].contains n = false) (hQ : Q () s) : wpAny M A (letOwnedTupleGo tg (.ref it) u) Q E s := by
  unfold letOwnedTupleGo
  cases tg <;> first
    | exact wpAny_pure hQ
    | (cases u <;> first
        | exact wpAny_pure hQ
        | (refine wpAny_bind (wpAny_load ho ?_)
           rw [hc, hd]
           show wpAny M A (if (["enumerate", "zip", "dict_itemiterator", "dict_reverseitemiterator", "odict_iterator", "itertools.zip_longest", "itertools.pairwise"].contains n && vs[0]? == some (rawInt _)) = true then _ else _) Q E s
           rw [if_neg (by intro h; rw [hn, Bool.false_and] at h; cases h)]
           exact wpAny_pure hQ))
def Itl (K : PySem.W.Frag) (a : Addr) : It :=
  ⟨fun i H => ∃ xs x, SqL K H a xs ∧ xs[i]? = some x, fun i H x H' => H' = H ∧ ∀ xs, SqL K H a xs → xs[i]? = some x, fun i H => ∃ xs, SqL K H a xs ∧ xs.length ≤ i⟩
def Itt (K : PySem.W.Frag) (a : Addr) : It :=
  ⟨fun i H => ∃ xs x, SqT K H a xs ∧ xs[i]? = some x, fun i H x H' => H' = H ∧ ∀ xs, SqT K H a xs → xs[i]? = some x, fun i H => ∃ xs, SqT K H a xs ∧ xs.length ≤ i⟩
def Itr (lo : Int) (n : Nat) : It := ⟨fun i _ => i < n, fun i H x H' => H' = H ∧ x = .int (lo + i), fun i _ => n ≤ i⟩
theorem turn_list {P : Program} {w : World} {K : PySem.W.Frag} {tg : Expr} (a it : Addr) : Turn P w K tg (Itl K a) [it] it (fun i h => h.IsListIter it a i) where
  mem := by simp
  obj := fun i h st b hb => by
    have e : b = it := by simpa using hb
    subst e
    obtain ⟨o, e, c, d⟩ := st
    exact ⟨o, e, fun v z => by rw [d] at z; cases z⟩
  keep := fun i h h' st k => st.at fun o e => k it (by simp) o e
  item := by
    intro X hP hw hK hc i pins s σ H E I hf st hg
    subst hP hw hK
    obtain ⟨xs, x, hq, hx⟩ := hg
    obtain ⟨its, rv, p, hz⟩ := I.list hq
    obtain ⟨u, hu, ru⟩ := rv.get hx
    obtain ⟨f0, f1, f2, f3, f4, f5⟩ := hf it (by simp)
    refine wpAny_pyNext_list_item st p.isList (x := u) (by simpa using hu) fun h' st' sb => ?_
    have I1 : Inv X pins σ H { s with heap := h' } := I.turned (t' := s.toks) (fun b o hb e => (sb.2 b hb).trans e) f0 f1 f3 f4 f5
    obtain ⟨o, e, c, d⟩ := id st'
    exact ⟨u, rfl, go_of (s := { s with heap := h' }) e c d (by decide) ⟨x, H, I1, ru, ⟨rfl, fun ys hy => by rw [I.list_inj hy hq]; exact hx⟩, st', fun b hb => (hf b hb).1⟩⟩
  done := by
    intro X hP hw hK hc i pins s σ H E I hf st hg
    subst hP hw hK
    obtain ⟨xs, hq, hx⟩ := hg
    obtain ⟨its, rv, p, hz⟩ := I.list hq
    obtain ⟨f0, f1, f2, f3, f4, f5⟩ := hf it (by simp)
    have hl := rv.length
    exact wpAny_pyNext_list_end (I.ok.hd hc) st p.isList (by simp; omega) fun h' eb => ⟨rfl, I.turned (t' := s.toks) (fun b o hb e => eb b o hb e) f0 f1 f3 f4 f5⟩
  self := fun _ _ _ _ _ st h => wpAny_pyIter_listiter st h
theorem turn_tuple {P : Program} {w : World} {K : PySem.W.Frag} {tg : Expr} (a it : Addr) : Turn P w K tg (Itt K a) [it] it (fun i h => h.IsTupleIter it a i) where
  mem := by simp
  obj := fun i h st b hb => by
    have e : b = it := by simpa using hb
    subst e
    obtain ⟨o, e, c, d⟩ := st
    exact ⟨o, e, fun v z => by rw [d] at z; cases z⟩
  keep := fun i h h' st k => st.at fun o e => k it (by simp) o e
  item := by
    intro X hP hw hK hc i pins s σ H E I hf st hg
    subst hP hw hK
    obtain ⟨xs, x, hq, hx⟩ := hg
    obtain ⟨its, rv, p, hz⟩ := I.tuple hq
    obtain ⟨u, hu, ru⟩ := rv.get hx
    obtain ⟨f0, f1, f2, f3, f4, f5⟩ := hf it (by simp)
    refine wpAny_pyNext_tuple_item st (show s.heap.IsTuple a its.toArray from p) (x := u) (by simpa using hu) fun h' st' sb => ?_
    have I1 : Inv X pins σ H { s with heap := h' } := I.turned (t' := s.toks) (fun b o hb e => (sb.2 b hb).trans e) f0 f1 f3 f4 f5
    obtain ⟨o, e, c, d⟩ := id st'
    exact ⟨u, rfl, go_of (s := { s with heap := h' }) e c d (by decide) ⟨x, H, I1, ru, ⟨rfl, fun ys hy => by rw [I.tuple_inj hy hq]; exact hx⟩, st', fun b hb => (hf b hb).1⟩⟩
  done := by
    intro X hP hw hK hc i pins s σ H E I hf st hg
    subst hP hw hK
    obtain ⟨xs, hq, hx⟩ := hg
    obtain ⟨its, rv, p, hz⟩ := I.tuple hq
    obtain ⟨f0, f1, f2, f3, f4, f5⟩ := hf it (by simp)
    have hl := rv.length
    exact wpAny_pyNext_tuple_end (I.ok.hd hc) st (show s.heap.IsTuple a its.toArray from p) (by simp; omega) fun h' eb => ⟨rfl, I.turned (t' := s.toks) (fun b o hb e => eb b o hb e) f0 f1 f3 f4 f5⟩
  self := fun _ _ _ _ _ st h => wpAny_pyIter_tupleiter st h
theorem turn_range {P : Program} {w : World} {K : PySem.W.Frag} {tg : Expr} (it : Addr) (lo : Int) (n : Nat) : Turn P w K tg (Itr lo n) [it] it (fun i h => IsRangeIter h it (lo + (i : Nat) * 1) ((n : Int) - (i : Nat)) 1) where
  mem := by simp
  obj := fun i h st b hb => by
    have e : b = it := by simpa using hb
    subst e
    exact ⟨_, st, fun v z => by
      have z' : Data.fields _ = Data.cell v := z
      cases z'⟩
  keep := fun i h h' st k => k it (by simp) _ st
  item := by
    intro X hP hw hK hc i pins s σ H E I hf st hg
    subst hP hw hK
    obtain ⟨f0, f1, f2, f3, f4, f5⟩ := hf it (by simp)
    have W := Walks.range (prog := X.prog) (w := X.w) (I.ok.hd hc) it lo 1 n
    refine W.item i s _ _ hg st fun v h' tk hv st' kk => ?_
    obtain ⟨t, rfl⟩ := hv
    have I1 : Inv X pins σ H { s with heap := h', toks := tk } := I.turned (fun b o hb e => kk b o (by simpa using hb) e) f0 f1 f3 f4 f5
    refine ⟨_, rfl, go_of (s := { s with heap := h', toks := tk }) (n := "range_iterator") st' rfl rfl (by decide) ⟨.int (lo + i), H, I1, ⟨t, ?_⟩, ⟨rfl, rfl⟩, st', fun b hb => (hf b hb).1⟩⟩
    rw [Int.mul_one]
  done := by
    intro X hP hw hK hc i pins s σ H E I hf st hg
    subst hP hw hK
    obtain ⟨f0, f1, f2, f3, f4, f5⟩ := hf it (by simp)
    exact wpAny_pyNext_range_end (I.ok.hd hc) st (by have : n ≤ i := hg; omega) fun h' eb => ⟨rfl, I.turned (t' := s.toks) (fun b o hb e => eb b o hb e) f0 f1 f3 f4 f5⟩
  self := fun _ _ _ _ _ st h => wpAny_pyIter_rangeiter st h
end L2
namespace L2
open PySem PySem.Spec PyProof.Rows
section
variable {X : Cx} {tg : Expr}
def iList (K : PySem.W.Frag) (tl : TE) : TI := fun σ H R => tl σ H fun x H1 => ∃ a, x = .ref a ∧ (∃ xs, SqL K H1 a xs) ∧ R (Itl K a) H1
def iTup (K : PySem.W.Frag) (tl : TE) : TI := fun σ H R => tl σ H fun x H1 => ∃ a, x = .ref a ∧ (∃ xs, SqT K H1 a xs) ∧ R (Itt K a) H1
theorem pi_list {l : Expr} {tl : TE} (hl : PE X l tl) : PI X tg l (iList X.K tl) := by
  intro pins s σ H R I h
  refine thn (hl pins s σ H _ I h) fun v s1 ⟨x, H1, I1, r1, q1⟩ => ?_
  obtain ⟨a, e, ⟨xs, hq⟩, q⟩ := q1
  subst e
  cases r1
  obtain ⟨its, rv, p, hz⟩ := I1.list hq
  refine wpAny_pyIter_list p.isList ?_
  refine ⟨s1.heap.objs.size, [s1.heap.objs.size], _, _, H1, rfl, I1.kept (t' := s1.toks) fun b o e => Heap.get?_push_of_some _ e, turn_list a _, ⟨_, Heap.get?_push_size _ rfl, rfl, rfl⟩, fun b hb => ?_, q⟩
  have e : b = s1.heap.objs.size := by simpa using hb
  subst e
  exact I1.fpOk (Nat.le_refl _) (I1.hok.fresh (Nat.le_refl _))
theorem pi_tup {l : Expr} {tl : TE} (hl : PE X l tl) : PI X tg l (iTup X.K tl) := by
  intro pins s σ H R I h
  refine thn (hl pins s σ H _ I h) fun v s1 ⟨x, H1, I1, r1, q1⟩ => ?_
  obtain ⟨a, e, ⟨xs, hq⟩, q⟩ := q1
  subst e
  cases r1
  obtain ⟨its, rv, p, hz⟩ := I1.tuple hq
  refine wpAny_pyIter_tuple (show s1.heap.IsTuple a its.toArray from p) ?_
  refine ⟨s1.heap.objs.size, [s1.heap.objs.size], _, _, H1, rfl, I1.kept (t' := s1.toks) fun b o e => Heap.get?_push_of_some _ e, turn_tuple a _, ⟨_, Heap.get?_push_size _ rfl, rfl, rfl⟩, fun b hb => ?_, q⟩
  have e : b = s1.heap.objs.size := by simpa using hb
  subst e
  exact I1.fpOk (Nat.le_refl _) (I1.hok.fresh (Nat.le_refl _))
theorem range_it {pins : List (Addr × Obj)} {σ : St} {H : Hp} {s : Shared} {R : It → Hp → Prop} {E : Value → Shared → Prop} {lo hi : Int} {t u v : Tok} {tk : Nat} (I : Inv X pins σ H s) (h1 : -(2 ^ 62) ≤ lo) (h2 : lo < 2 ^ 62) (h3 : -(2 ^ 62) ≤ hi) (h4 : hi < 2 ^ 62)
    (q : R (Itr lo (hi - lo).toNat) H) : wpAny (model X.prog X.w) X.A (pyIter (.ref s.heap.objs.size)) (PIE X pins σ tg R) E { s with heap := s.heap.push { cls := .type "range", data := .fields #[.int lo t, .int hi u, .int 1 v] }, toks := tk } := by
  refine wpAny_pyIter_range (IsRange.new ..) (small_one h1 h2 h3 h4) ?_
  have I1 : Inv X pins σ H { s with heap := s.heap.push { cls := .type "range", data := .fields #[.int lo t, .int hi u, .int 1 v] }, toks := tk } := I.kept fun b o e => Heap.get?_push_of_some _ e
  refine ⟨(s.heap.push { cls := .type "range", data := .fields #[.int lo t, .int hi u, .int 1 v] }).objs.size, [(s.heap.push { cls := .type "range", data := .fields #[.int lo t, .int hi u, .int 1 v] }).objs.size], _, _, H, rfl,
    I1.kept (t' := tk) fun b o e => Heap.get?_push_of_some _ e, turn_range _ lo (hi - lo).toNat, ?_, fun b hb => ?_, q⟩
  · have e1 : lo + ((0 : Nat) : Int) * 1 = lo := by simp
    have e2 : (((hi - lo).toNat : Nat) : Int) - ((0 : Nat) : Int) = Builtin.Range.rangeSize lo hi 1 := by rw [rangeSize_one]; split <;> omega
    show IsRangeIter _ _ (lo + ((0 : Nat) : Int) * 1) ((((hi - lo).toNat : Nat) : Int) - ((0 : Nat) : Int)) 1
    rw [e1, e2]
    exact Heap.get?_push_size _ rfl
  · have e : b = (s.heap.push { cls := .type "range", data := .fields #[.int lo t, .int hi u, .int 1 v] }).objs.size := by simpa using hb
    subst e
    exact I1.fpOk (Nat.le_refl _) (I1.hok.fresh (Nat.le_refl _))
def iRng1 (ta : TA) : TI := fun σ H R => ta σ H fun vs H1 => ∃ j : Int, vs = [.int j] ∧ -(2 ^ 62) ≤ j ∧ j < 2 ^ 62 ∧ R (Itr 0 j.toNat) H1
def iRng2 (ta : TA) : TI := fun σ H R => ta σ H fun vs H1 => ∃ i j : Int, vs = [.int i, .int j] ∧ (-(2 ^ 62) ≤ i ∧ i < 2 ^ 62 ∧ -(2 ^ 62) ≤ j ∧ j < 2 ^ 62) ∧ R (Itr i (j - i).toNat) H1
theorem pi_range1 {a : Expr} {ta : TA} {p pos : Pos} (hg : Gl X "range") (hm : X.mg "range" = none) (ha : PA X [a] ta) (hs : starEach [a] X.env = [(false, eval a X.env)] := by rfl) : PI X tg (.Call (.Name "range" p) [a] [] pos) (iRng1 ta) := by
  intro pins s σ H R I h
  refine Call_ (ld_blt I hg hm boot_range (PyProof.Rows.callWith_type1 (thn (ha pos pins s σ H _ I h) fun us s1 ⟨vs, H1, I1, r1, q1⟩ => ?_) hs rfl))
  obtain ⟨j, e, q1, q2, q⟩ := q1
  subst e
  cases r1 with
  | cons r rr =>
    cases rr
    obtain ⟨t, rfl⟩ := r
    exact call_range_1 (range_it I1 (by omega) (by omega) q1 q2 (by simpa using q))
theorem pi_range2 {a b : Expr} {ta : TA} {p pos : Pos} (hg : Gl X "range") (hm : X.mg "range" = none) (ha : PA X [a, b] ta) (hs : starEach [a, b] X.env = [(false, eval a X.env), (false, eval b X.env)] := by rfl) (hs2 : starEach [b] X.env = [(false, eval b X.env)] := by rfl) :
    PI X tg (.Call (.Name "range" p) [a, b] [] pos) (iRng2 ta) := by
  intro pins s σ H R I h
  refine Call_ (ld_blt I hg hm boot_range (PyProof.Rows.callWith_type1 (thn (ha pos pins s σ H _ I h) fun us s1 ⟨vs, H1, I1, r1, q1⟩ => ?_) (by rw [hs, hs2]) (by rw [hs2]; rfl)))
  obtain ⟨i, j, e, ⟨q1, q2, q3, q4⟩, q⟩ := q1
  subst e
  cases r1 with
  | cons r rr =>
    cases rr with
    | cons r' rr =>
      cases rr
      obtain ⟨t, rfl⟩ := r
      obtain ⟨t', rfl⟩ := r'
      exact call_range_2 (range_it I1 q1 q2 q3 q4 q)
def tFor (wi : TI) (g : TG) (tb : TS) : TS := fun D σ H => wi σ H fun J H1 => ∃ W : Nat → Nat → St → Hp → Prop, (∃ m, W 0 m σ H1) ∧ ∀ i m σ H, W i m σ H →
  (J.stop i H ∧ D.nx σ H) ∨ (J.go i H ∧ ∃ N : St → Hp → Prop, (∀ σ' H', N σ' H' → ∃ m', m' < m ∧ W (i + 1) m' σ' H') ∧ ∀ x H', J.yld i H x H' → g x σ H' fun σ2 H2 => tb { D with nx := N, ct := N, bk := D.nx } σ2 H2)
def pinsAt (fp : List Addr) (h : Heap) : List (Addr × Obj) := fp.filterMap fun b => (h.get? b).map fun o => (b, o)
theorem mem_pinsAt {fp : List Addr} {h : Heap} {b : Addr} {o : Obj} (hb : b ∈ fp) (e : h.get? b = some o) : (b, o) ∈ pinsAt fp h := List.mem_filterMap.mpr ⟨b, hb, by rw [e]; rfl⟩
theorem of_pinsAt {fp : List Addr} {h : Heap} {p : Addr × Obj} (hp : p ∈ pinsAt fp h) : p.1 ∈ fp ∧ h.get? p.1 = some p.2 := by
  obtain ⟨b, hb, e⟩ := List.mem_filterMap.mp hp
  cases q : h.get? b with
  | none => rw [q] at e; cases e
  | some o =>
    rw [q] at e
    have e' : (b, o) = p := Option.some.inj e
    subst e'
    exact ⟨hb, q⟩
theorem Inv.pinned {pins : List (Addr × Obj)} {σ : St} {H : Hp} {s : Shared} {fp : List Addr} (I : Inv X pins σ H s) (hf : ∀ b ∈ fp, FpOk X pins H b) (ho : ∀ b ∈ fp, ∃ o, s.heap.get? b = some o ∧ ∀ v, o.data ≠ .cell v) : Inv X (pins ++ pinsAt fp s.heap) σ H s :=
  I.pins_of fun p hp => (List.mem_append.mp hp).elim (fun z => I.pin p (List.mem_append_right _ z)) fun z => by
    obtain ⟨hb, e⟩ := of_pinsAt z
    obtain ⟨f0, f1, f2, _⟩ := hf p.1 hb
    obtain ⟨o, e', d⟩ := ho p.1 hb
    rw [e] at e'; cases e'
    exact ⟨e, f0, f1, f2, d⟩
theorem Inv.unpinned {pins pl : List (Addr × Obj)} {σ : St} {H : Hp} {s : Shared} (I : Inv X (pins ++ pl) σ H s) : Inv X pins σ H s := I.pins_of fun p hp => I.pin p (List.mem_append_right _ (List.mem_append_left _ hp))
theorem ps_for {iter : Expr} {body : List Stmt} {wi : TI} {g : TG} {tb : TS} {pos : Pos} (hp : PassesOwn (model X.prog X.w) X.A X.env X.xe) (hc : X.calm = true) (hi : PI X tg iter wi) (hg : PG X tg g) (hb : PSs X body tb)
    (hs : ∀ x, foldedSetIterable iter X.env x = pure x := by intro _; rfl) : PS X (.For tg iter body [] pos) (tFor wi g tb) := by
  intro pins s σ H D I h
  refine wpAny_For (thn (hi pins s σ H _ I h) fun v s1 h1 => thn h1 fun itv s2 h2 => ?_) hs
  obtain ⟨it, fp, tn, J, H2, e, I2, T, st2, f2, W, ⟨m0, w0⟩, turn⟩ := h2
  subst e
  -- what stays true of the iterator's objects through the loop
  have stat : ∀ {H' : Hp}, (∀ b ∈ fp, H' b = none) → ∀ b ∈ fp, FpOk X pins H' b := fun hn b hb => ⟨hn b hb, (f2 b hb).2⟩
  refine codeAny_forLoop_any (fun n s' => ∃ i σ' H', Inv X pins σ' H' s' ∧ tn i s'.heap ∧ (∀ b ∈ fp, H' b = none) ∧ W i n σ' H') ?_ m0 ⟨0, σ, H2, I2, st2, fun b hb => (f2 b hb).1, w0⟩
  rintro n s3 ⟨i, σ3, H3, I3, st3, fr3, w3⟩
  rcases turn i n σ3 H3 w3 with ⟨stop, qn⟩ | ⟨go, N, hN, step⟩
  · refine wpAny_passesOwn hp (thn (T.done X rfl rfl rfl hc i pins s3 σ3 H3 X.xe I3 (stat fr3) st3 stop) fun r s4 ⟨hr, I4⟩ => ?_)
    subst hr
    exact wpAny_execs_nil ⟨σ3, H3, I4, qn⟩
  · refine wpAny_passesOwn hp (thn (T.item X rfl rfl rfl hc i pins s3 σ3 H3 X.xe I3 (stat fr3) st3 go) fun r s4 ⟨u, hr, h4⟩ => ?_)
    subst hr
    refine wpAny_passesOwn hp (thn h4 fun _ s5 ⟨x, H5, I5, r5, y5, st5, fr5⟩ => ?_)
    have I5' := I5.pinned (stat fr5) (T.obj _ _ st5)
    refine wpAny_passesOwn hp (thn (hg _ s5 σ3 H5 x u _ I5' r5 (step x H5 y5)) fun _ s6 ⟨σ6, H6, I6, q6⟩ => ?_)
    refine wpAny_passesOwn hp (thn (hb _ s6 σ6 H6 _ I6 q6) fun f s7 q7 => ?_)
    have again : ∀ {σ7 : St} {H7 : Hp}, Inv X (pins ++ pinsAt fp s5.heap) σ7 H7 s7 → N σ7 H7 → ∃ m, m < n ∧ ∃ i σ' H', Inv X pins σ' H' s7 ∧ tn i s7.heap ∧ (∀ b ∈ fp, H' b = none) ∧ W i m σ' H' := fun {σ7 H7} I7 n7 => by
      obtain ⟨m', hm, w7⟩ := hN σ7 H7 n7
      refine ⟨m', hm, i + 1, σ7, H7, I7.unpinned, T.keep _ _ _ st5 fun b hb o e => (I7.pin (b, o) (List.mem_append_right _ (List.mem_append_right _ (mem_pinsAt hb e)))).1, fun b hb => ?_, w7⟩
      obtain ⟨o, e, d⟩ := T.obj _ _ st5 b hb
      exact (I7.pin (b, o) (List.mem_append_right _ (List.mem_append_right _ (mem_pinsAt hb e)))).2.1
    cases f with
    | next => obtain ⟨σ7, H7, I7, n7⟩ := q7; exact again I7 n7
    | cont => obtain ⟨σ7, H7, I7, n7⟩ := q7; exact again I7 n7
    | brk => obtain ⟨σ7, H7, I7, q7⟩ := q7; exact ⟨σ7, H7, I7.unpinned, q7⟩
    | ret v => obtain ⟨x7, σ7, H7, I7, r7, q7⟩ := q7; exact ⟨x7, σ7, H7, I7.unpinned, r7, q7⟩
end
theorem for_list {K : PySem.W.Frag} {a : Addr} {xs : List V} {g : TG} {tb : TS} {D : Ends} {σ : St} {H : Hp} (Pv : Nat → St → Hp → Prop) (h0 : Pv 0 σ H) (hl : ∀ i σ H, i ≤ xs.length → Pv i σ H → SqL K H a xs)
    (hs : ∀ i x σ H, xs[i]? = some x → Pv i σ H → g x σ H fun σ2 H2 => tb { D with nx := Pv (i + 1), ct := Pv (i + 1), bk := D.nx } σ2 H2) (hd : ∀ σ H, Pv xs.length σ H → D.nx σ H) :
    ∃ W : Nat → Nat → St → Hp → Prop, (∃ m, W 0 m σ H) ∧ ∀ i m σ H, W i m σ H →
      ((Itl K a).stop i H ∧ D.nx σ H) ∨ ((Itl K a).go i H ∧ ∃ N : St → Hp → Prop, (∀ σ' H', N σ' H' → ∃ m', m' < m ∧ W (i + 1) m' σ' H') ∧ ∀ x H', (Itl K a).yld i H x H' → g x σ H' fun σ2 H2 => tb { D with nx := N, ct := N, bk := D.nx } σ2 H2) := by
  refine ⟨fun i m σ H => m = xs.length - i ∧ i ≤ xs.length ∧ Pv i σ H, ⟨xs.length, by simp, Nat.zero_le _, h0⟩, ?_⟩
  rintro i m σ H ⟨rfl, hi, p⟩
  have q := hl i σ H hi p
  by_cases hlt : i < xs.length
  · refine .inr ⟨⟨xs, xs[i], q, by simp [hlt]⟩, Pv (i + 1), fun σ' H' p' => ⟨xs.length - (i + 1), by omega, rfl, hlt, p'⟩, fun x H' y => ?_⟩
    obtain ⟨e, y⟩ := y
    subst e
    exact hs i x σ _ (y xs q) p
  · have e : i = xs.length := by omega
    subst e
    exact .inl ⟨⟨xs, q, Nat.le_refl _⟩, hd σ H p⟩
theorem for_range {lo : Int} {n : Nat} {g : TG} {tb : TS} {D : Ends} {σ : St} {H : Hp} (Pv : Nat → St → Hp → Prop) (h0 : Pv 0 σ H)
    (hs : ∀ i σ H, i < n → Pv i σ H → g (.int (lo + i)) σ H fun σ2 H2 => tb { D with nx := Pv (i + 1), ct := Pv (i + 1), bk := D.nx } σ2 H2) (hd : ∀ σ H, Pv n σ H → D.nx σ H) :
    ∃ W : Nat → Nat → St → Hp → Prop, (∃ m, W 0 m σ H) ∧ ∀ i m σ H, W i m σ H →
      ((Itr lo n).stop i H ∧ D.nx σ H) ∨ ((Itr lo n).go i H ∧ ∃ N : St → Hp → Prop, (∀ σ' H', N σ' H' → ∃ m', m' < m ∧ W (i + 1) m' σ' H') ∧ ∀ x H', (Itr lo n).yld i H x H' → g x σ H' fun σ2 H2 => tb { D with nx := N, ct := N, bk := D.nx } σ2 H2) := by
  refine ⟨fun i m σ H => m = n - i ∧ i ≤ n ∧ Pv i σ H, ⟨n, by simp, Nat.zero_le _, h0⟩, ?_⟩
  rintro i m σ H ⟨rfl, hi, p⟩
  by_cases hlt : i < n
  · refine .inr ⟨hlt, Pv (i + 1), fun σ' H' p' => ⟨n - (i + 1), by omega, rfl, hlt, p'⟩, fun x H' y => ?_⟩
    obtain ⟨e, y⟩ := y
    subst e y
    exact hs i σ _ hlt p
  · have e : i = n := by omega
    subst e
    exact .inl ⟨Nat.le_refl _, hd σ H p⟩
end L2
namespace L2
open PySem PySem.Spec PyProof.Rows
abbrev R2 := V → V → Hp → VK → Prop
def OpR (X : Cx) (f : Value → Value → Sem Value) (r : R2) : Prop :=
  ∀ (pins : List (Addr × Obj)) (s : Shared) (σ : St) (H : Hp) (x y : V) (v u : Value) (Q : VK), Inv X pins σ H s → RelV x v → RelV y u → r x y H Q →
    wpAny (model X.prog X.w) X.A (f v u) (EP X pins σ Q) X.xe s
def UnR (X : Cx) (f : Value → Sem Value) (r : V → Hp → VK → Prop) : Prop :=
  ∀ (pins : List (Addr × Obj)) (s : Shared) (σ : St) (H : Hp) (x : V) (v : Value) (Q : VK), Inv X pins σ H s → RelV x v → r x H Q →
    wpAny (model X.prog X.w) X.A (f v) (EP X pins σ Q) X.xe s
def CallR (X : Cx) (f : Value) (r : List V → Hp → VK → Prop) : Prop :=
  ∀ (pins : List (Addr × Obj)) (s : Shared) (σ : St) (H : Hp) (xs : List V) (us : List Value) (Q : VK), Inv X pins σ H s → Vals xs us → r xs H Q →
    wpAny (model X.prog X.w) X.A (call f us) (EP X pins σ Q) X.xe s
def TruR (X : Cx) (r : V → Hp → (Bool → Hp → Prop) → Prop) : Prop :=
  ∀ (pins : List (Addr × Obj)) (s : Shared) (σ : St) (H : Hp) (x : V) (v : Value) (Q : Bool → Hp → Prop), Inv X pins σ H s → RelV x v → r x H Q →
    wpAny (model X.prog X.w) X.A (truthy v) (TP X pins σ Q) X.xe s
def tOp (r : R2) (ta tb : TE) : TE := fun σ H Q => ta σ H fun x H1 => tb σ H1 fun y H2 => r x y H2 Q
def tUn (r : V → Hp → VK → Prop) (ta : TE) : TE := fun σ H Q => ta σ H fun x H1 => r x H1 Q
def rI (C : Int → Int → Prop) (g : Int → Int → V) : R2 := fun x y H Q => ∃ i j, x = .int i ∧ y = .int j ∧ C i j ∧ Q (g i j) H
def rI0 (g : Int → Int → V) : R2 := fun x y H Q => ∃ i j, x = .int i ∧ y = .int j ∧ Q (g i j) H
def rU (g : Int → V) : V → Hp → VK → Prop := fun x H Q => ∃ i, x = .int i ∧ Q (g i) H
section
variable {X : Cx} {a b c : Expr} {ta tb tc : TE} {pos : Pos}
theorem binT (ha : PE X a ta) (hb : PE X b tb) {pins : List (Addr × Obj)} {s : Shared} {σ : St} {H : Hp} {R : V → V → Hp → Prop} (I : Inv X pins σ H s)
    (h : ta σ H fun x H1 => tb σ H1 fun y H2 => R x y H2) {Q : Value → Shared → Prop} {f : Value → Value → Sem Value}
    (hf : ∀ v u s2 x y H2, Inv X pins σ H2 s2 → RelV x v → RelV y u → R x y H2 → wpAny (model X.prog X.w) X.A (f v u) Q X.xe s2) :
    wpAny (model X.prog X.w) X.A (eval a X.env) (fun v s₁ => wpAny (model X.prog X.w) X.A (eval b X.env) (fun u s₂ => wpAny (model X.prog X.w) X.A (f v u) Q X.xe s₂) X.xe s₁) X.xe s := by
  refine thn (ha pins s σ H _ I h) fun v s1 ⟨x, H1, I1, r1, q1⟩ => ?_
  refine thn (hb pins s1 σ H1 _ I1 q1) fun u s2 ⟨y, H2, I2, r2, q2⟩ => ?_
  exact hf v u s2 x y H2 I2 r1 r2 q2
theorem pe_op {op : Operator} {r : R2} (ho : OpR X (binaryOp op) r) (ha : PE X a ta) (hb : PE X b tb) : PE X (.BinOp a op b pos) (tOp r ta tb) := by
  intro pins s σ H Q I h
  exact wpAny_BinOp (binT ha hb I h fun v u s2 x y H2 I2 rx ry q => ho pins s2 σ H2 x y v u Q I2 rx ry q)
theorem pe_un {op : UnaryOp} {r : V → Hp → VK → Prop} (ho : UnR X (unaryOp op) r) (ha : PE X a ta) : PE X (.UnaryOp op a pos) (tUn r ta) := by
  intro pins s σ H Q I h
  exact UnaryOp_ (thn (ha pins s σ H _ I h) fun v s1 ⟨x, H1, I1, r1, q1⟩ => ho pins s1 σ H1 x v Q I1 r1 q1)
theorem opI {f : Value → Value → Sem Value} {C : Int → Int → Prop} {g : Int → Int → Int}
    (rule : ∀ (i j : Int) (t u : Tok) (s : Shared) (Q : Value → Shared → Prop) (E : Value → Shared → Prop), C i j → Q (.int (g i j) s.toks) { s with toks := s.toks + 1 } → wpAny (model X.prog X.w) X.A (f (.int i t) (.int j u)) Q E s) :
    OpR X f (rI C fun i j => .int (g i j)) := by
  intro pins s σ H x y v u Q I rx ry h
  obtain ⟨i, j, rfl, rfl, hc, q⟩ := h
  obtain ⟨t, rfl⟩ := rx
  obtain ⟨t', rfl⟩ := ry
  exact rule i j t t' s _ _ hc ⟨.int (g i j), H, I.tok _, ⟨_, rfl⟩, q⟩
theorem opI0 {f : Value → Value → Sem Value} {g : Int → Int → Int}
    (rule : ∀ (i j : Int) (t u : Tok) (s : Shared) (Q : Value → Shared → Prop) (E : Value → Shared → Prop), Q (.int (g i j) s.toks) { s with toks := s.toks + 1 } → wpAny (model X.prog X.w) X.A (f (.int i t) (.int j u)) Q E s) :
    OpR X f (rI0 fun i j => .int (g i j)) := by
  intro pins s σ H x y v u Q I rx ry h
  obtain ⟨i, j, rfl, rfl, q⟩ := h
  obtain ⟨t, rfl⟩ := rx
  obtain ⟨t', rfl⟩ := ry
  exact rule i j t t' s _ _ ⟨.int (g i j), H, I.tok _, ⟨_, rfl⟩, q⟩
theorem opB0 {f : Value → Value → Sem Value} {g : Int → Int → Bool}
    (rule : ∀ (i j : Int) (t u : Tok) (s : Shared) (Q : Value → Shared → Prop) (E : Value → Shared → Prop), Q (.bool (g i j)) s → wpAny (model X.prog X.w) X.A (f (.int i t) (.int j u)) Q E s) :
    OpR X f (rI0 fun i j => .bl (g i j)) := by
  intro pins s σ H x y v u Q I rx ry h
  obtain ⟨i, j, rfl, rfl, q⟩ := h
  obtain ⟨t, rfl⟩ := rx
  obtain ⟨t', rfl⟩ := ry
  exact rule i j t t' s _ _ ⟨.bl (g i j), H, I, rfl, q⟩
def CDiv (i j : Int) : Prop := 0 < j ∧ j < 1073741824
def CDivN (i j : Int) : Prop := j ≠ 0 ∧ j.natAbs < 1073741824
def CPow (i j : Int) : Prop := 0 ≤ j ∧ j ≤ 1000000 ∧ i.natAbs < 2 ^ 64
def CMul (i j : Int) : Prop := (-(2 ^ 64) < i ∧ i < 2 ^ 64) ∨ (-(2 ^ 64) < j ∧ j < 2 ^ 64)
theorem CMul.ok {i j : Int} (h : CMul i j) : IntMulOk i j := by
  rcases h with ⟨h1, h2⟩ | ⟨h1, h2⟩
  · exact .of_left (intBits_le_64 h1 h2)
  · exact .of_right (intBits_le_64 h1 h2)
theorem op_add : OpR X (binaryOp .Add) (rI0 fun i j => .int (i + j)) := opI0 fun _ _ _ _ _ _ _ q => add_int q
theorem op_sub : OpR X (binaryOp .Sub) (rI0 fun i j => .int (i - j)) := opI0 fun _ _ _ _ _ _ _ q => sub_int q
theorem op_mul : OpR X (binaryOp .Mult) (rI CMul fun i j => .int (i * j)) := opI fun _ _ _ _ _ _ _ hc q => mul_int q hc.ok
theorem op_fdiv : OpR X (binaryOp .FloorDiv) (rI CDiv fun i j => .int (i / j)) := opI fun i j _ _ _ _ _ hc q => by
  have h1 : (0 : Int) < j := hc.1
  have h2 : j < 1073741824 := hc.2
  exact floordiv_int (by omega) (by rw [Int.fdiv_eq_ediv_of_nonneg i (by omega)]; exact q) (.inl (PyProof.noPylong_small (by omega)))
theorem op_mod : OpR X (binaryOp .Mod) (rI (fun _ j => 0 < j) fun i j => .int (i % j)) := opI fun i j _ _ _ _ _ hc q => by
  have h1 : (0 : Int) < j := hc
  exact mod_int' (by omega) (by rw [Int.fmod_eq_emod_of_nonneg i (by omega)]; exact q)
theorem op_pow : OpR X (binaryOp .Pow) (rI CPow fun i j => .int (i ^ j.toNat)) := opI fun _ _ _ _ _ _ _ hc q => pow_int_small hc.1 hc.2.1 hc.2.2 q
theorem unI {f : Value → Sem Value} {g : Int → Int}
    (rule : ∀ (i : Int) (t : Tok) (s : Shared) (Q : Value → Shared → Prop) (E : Value → Shared → Prop), Q (.int (g i) s.toks) { s with toks := s.toks + 1 } → wpAny (model X.prog X.w) X.A (f (.int i t)) Q E s) :
    UnR X f (rU fun i => .int (g i)) := by
  intro pins s σ H x v Q I rx h
  obtain ⟨i, rfl, q⟩ := h
  obtain ⟨t, rfl⟩ := rx
  exact rule i t s _ _ ⟨.int (g i), H, I.tok _, ⟨_, rfl⟩, q⟩
theorem un_neg : UnR X (unaryOp .USub) (rU fun i => .int (-i)) := unI fun _ _ _ _ _ q => neg_int q
end
def scal : V → V → Bool
  | .non, .non => true | .non, .int _ => true | .int _, .non => true | .non, .bl _ => true | .bl _, .non => true | .non, .str _ => true | .str _, .non => true
  | .int _, .int _ => true | .bl _, .bl _ => true | .str _, .str _ => true | .byt _, .byt _ => true
  | .int _, .str _ => true | .str _, .int _ => true | .bl _, .str _ => true | .str _, .bl _ => true
  | _, _ => false
def rEq : R2 := fun x y H Q => scal x y = true ∧ Q (.bl (decide (x = y))) H
def rNe : R2 := fun x y H Q => scal x y = true ∧ Q (.bl (!decide (x = y))) H
theorem dec_int {i j : Int} : decide (V.int i = V.int j) = (i == j) := by
  rw [Bool.eq_iff_iff]
  simp
theorem dec_bl {i j : Bool} : decide (V.bl i = V.bl j) = (i == j) := by
  rw [Bool.eq_iff_iff]
  simp
theorem dec_str {i j : Str} : decide (V.str i = V.str j) = (i == j) := by
  rw [Bool.eq_iff_iff]
  simp
theorem dec_byt {i j : Array UInt8} : decide (V.byt i = V.byt j) = (i.toList == j.toList) := by
  rw [Bool.eq_iff_iff]
  cases i
  cases j
  simp
section
variable {X : Cx} {a b c : Expr} {ta tb tc : TE} {pos : Pos}
theorem fin_bl {pins : List (Addr × Obj)} {σ : St} {H : Hp} {s : Shared} {Q : VK} {k k' : Bool} (I : Inv X pins σ H s) (q : Q (.bl k) H) (e : k = k') : EP X pins σ Q (.bool k') s := by
  subst e
  exact ⟨.bl k, H, I, rfl, q⟩
theorem op_eq : OpR X (compareOp .Eq) rEq := by
  intro pins s σ H x y v u Q I rx ry h
  obtain ⟨hs, q⟩ := h
  cases x with
  | non =>
    cases rx
    cases y with
    | non => cases ry; exact PySem.EqNone.eq_none_none (fin_bl I q (by simp))
    | bl j => cases ry; exact PySem.EqNone.eq_none_bool (fin_bl I q (by simp))
    | int j => obtain ⟨t', rfl⟩ := ry; exact PySem.EqNone.eq_none_int (fin_bl I q (by simp))
    | str j => obtain ⟨t', rfl⟩ := ry; exact PySem.EqNone.eq_none_str (fin_bl I q (by simp))
    | _ => exact absurd (show false = true from hs) Bool.false_ne_true
  | bl i =>
    cases rx
    cases y with
    | non => cases ry; exact PySem.EqNone.eq_bool_none (fin_bl I q (by simp))
    | bl j => cases ry; exact eq_bool (fin_bl I q dec_bl)
    | str j => obtain ⟨t', rfl⟩ := ry; exact PySem.EqMixed.eq_bool_str (fin_bl I q (by simp))
    | _ => exact absurd (show false = true from hs) Bool.false_ne_true
  | int i =>
    obtain ⟨t, rfl⟩ := rx
    cases y with
    | non => cases ry; exact PySem.EqNone.eq_int_none (fin_bl I q (by simp))
    | int j => obtain ⟨t', rfl⟩ := ry; exact eq_int (fin_bl I q dec_int)
    | str j => obtain ⟨t', rfl⟩ := ry; exact PySem.EqMixed.eq_int_str (fin_bl I q (by simp))
    | _ => exact absurd (show false = true from hs) Bool.false_ne_true
  | str i =>
    obtain ⟨t, rfl⟩ := rx
    cases y with
    | non => cases ry; exact PySem.EqNone.eq_str_none (fin_bl I q (by simp))
    | bl j => cases ry; exact PySem.EqMixed.eq_str_bool (fin_bl I q (by simp))
    | int j => obtain ⟨t', rfl⟩ := ry; exact PySem.EqMixed.eq_str_int (fin_bl I q (by simp))
    | str j => obtain ⟨t', rfl⟩ := ry; exact eq_str (fin_bl I q dec_str)
    | _ => exact absurd (show false = true from hs) Bool.false_ne_true
  | byt i =>
    obtain ⟨t, rfl⟩ := rx
    cases y with
    | byt j => obtain ⟨t', rfl⟩ := ry; exact PySem.W.eq_bytes (fin_bl I q dec_byt)
    | _ => exact absurd (show false = true from hs) Bool.false_ne_true
  | _ => cases y <;> exact absurd (show false = true from hs) Bool.false_ne_true
theorem op_ne : OpR X (compareOp .NotEq) rNe := by
  intro pins s σ H x y v u Q I rx ry h
  obtain ⟨hs, q⟩ := h
  cases x with
  | non =>
    cases rx
    cases y with
    | non => cases ry; exact PySem.EqNone.ne_none_none (fin_bl I q (by simp))
    | bl j => cases ry; exact PySem.EqNone.ne_none_bool (fin_bl I q (by simp))
    | int j => obtain ⟨t', rfl⟩ := ry; exact PySem.EqNone.ne_none_int (fin_bl I q (by simp))
    | str j => obtain ⟨t', rfl⟩ := ry; exact PySem.EqNone.ne_none_str (fin_bl I q (by simp))
    | _ => exact absurd (show false = true from hs) Bool.false_ne_true
  | bl i =>
    cases rx
    cases y with
    | non => cases ry; exact PySem.EqNone.ne_bool_none (fin_bl I q (by simp))
    | bl j => cases ry; exact ne_bool (fin_bl I q (congrArg not dec_bl))
    | str j => obtain ⟨t', rfl⟩ := ry; exact PySem.EqMixed.ne_bool_str (fin_bl I q (by simp))
    | _ => exact absurd (show false = true from hs) Bool.false_ne_true
  | int i =>
    obtain ⟨t, rfl⟩ := rx
    cases y with
    | non => cases ry; exact PySem.EqNone.ne_int_none (fin_bl I q (by simp))
    | int j => obtain ⟨t', rfl⟩ := ry; exact ne_int (fin_bl I q (congrArg not dec_int))
    | str j => obtain ⟨t', rfl⟩ := ry; exact PySem.EqMixed.ne_int_str (fin_bl I q (by simp))
    | _ => exact absurd (show false = true from hs) Bool.false_ne_true
  | str i =>
    obtain ⟨t, rfl⟩ := rx
    cases y with
    | non => cases ry; exact PySem.EqNone.ne_str_none (fin_bl I q (by simp))
    | bl j => cases ry; exact PySem.EqMixed.ne_str_bool (fin_bl I q (by simp))
    | int j => obtain ⟨t', rfl⟩ := ry; exact PySem.EqMixed.ne_str_int (fin_bl I q (by simp))
    | str j => obtain ⟨t', rfl⟩ := ry; exact ne_str (fin_bl I q (congrArg not dec_str))
    | _ => exact absurd (show false = true from hs) Bool.false_ne_true
  | byt i =>
    obtain ⟨t, rfl⟩ := rx
    cases y with
    | byt j => obtain ⟨t', rfl⟩ := ry; exact PySem.W.ne_bytes (fin_bl I q (congrArg not dec_byt))
    | _ => exact absurd (show false = true from hs) Bool.false_ne_true
  | _ => cases y <;> exact absurd (show false = true from hs) Bool.false_ne_true
theorem op_lt : OpR X (compareOp .Lt) (rI0 fun i j => .bl (decide (i < j))) := opB0 fun _ _ _ _ _ _ _ q => lt_int q
theorem op_le : OpR X (compareOp .LtE) (rI0 fun i j => .bl (decide (i ≤ j))) := opB0 fun _ _ _ _ _ _ _ q => le_int q
theorem op_gt : OpR X (compareOp .Gt) (rI0 fun i j => .bl (decide (j < i))) := opB0 fun _ _ _ _ _ _ _ q => gt_int q
theorem op_ge : OpR X (compareOp .GtE) (rI0 fun i j => .bl (decide (j ≤ i))) := opB0 fun _ _ _ _ _ _ _ q => ge_int q
def isObj : HO → Bool
  | .lst _ => true
  | .ins _ _ _ => true
  | _ => false
theorem OpR.or {f : Value → Value → Sem Value} {r r' : R2} (h : OpR X f r) (h' : OpR X f r') : OpR X f (fun x y H Q => r x y H Q ∨ r' x y H Q) := by
  intro pins s σ H x y v u Q I rx ry q
  rcases q with q | q
  · exact h pins s σ H x y v u Q I rx ry q
  · exact h' pins s σ H x y v u Q I rx ry q
theorem nomark (b : Expr) {op : CmpOp} (h : op ≠ .In := by decide) (h2 : op ≠ .NotIn := by decide) : behindInMarks op b = false := by
  have e1 : (op == CmpOp.In) = false := by cases op <;> first | rfl | exact absurd rfl h
  have e2 : (op == CmpOp.NotIn) = false := by cases op <;> first | rfl | exact absurd rfl h2
  cases b <;> simp [behindInMarks, e1, e2]
theorem pe_cmpR {op : CmpOp} {r : R2} (ho : OpR X (compareOp op) r) (ha : PE X a ta) (hb : PE X b tb) (hm : behindInMarks op b = false) : PE X (.Compare a [op] [b] pos) (tOp r ta tb) := by
  intro pins s σ H Q I h
  exact wpAny_Compare1 (binT ha hb I h fun v u s2 x y H2 I2 rx ry q => ho pins s2 σ H2 x y v u Q I2 rx ry q) hm
def tTest (t : TE) : TT := fun σ H Q => t σ H fun x H' => ∃ k, x = .bl k ∧ Q k H'
theorem pt_cmpR {op : CmpOp} {r : R2} (ho : OpR X (compareOp op) r) (ha : PE X a ta) (hb : PE X b tb) (hm : behindInMarks op b = false) : PT X (.Compare a [op] [b] pos) (tTest (tOp r ta tb)) := by
  intro pins s σ H Q I h
  refine wpAny_isTrue_Compare1 (thn (ha pins s σ H _ I h) fun v s1 ⟨x, H1, I1, r1, q1⟩ => thn (hb pins s1 σ H1 _ I1 q1) fun u s2 ⟨y, H2, I2, r2, q2⟩ =>
    thn (ho pins s2 σ H2 x y v u _ I2 r1 r2 q2) fun c s3 ⟨z, H3, I3, r3, k, e, q3⟩ => ?_) hm
  subst e
  cases r3
  exact wpAny_truthy_bool ⟨H3, I3, q3⟩
def tChain (r r' : R2) (ta tb tc : TE) : TE := fun σ H Q => ta σ H fun x H1 => tb σ H1 fun y H2 => r x y H2 fun z H3 => ∃ k, z = .bl k ∧
  (if k = true then tc σ H3 fun w' H4 => r' y w' H4 Q else Q (.bl false) H3)
theorem pe_chain {op op' : CmpOp} {r r' : R2} (ho : OpR X (compareOp op) r) (ho' : OpR X (compareOp op') r') (ha : PE X a ta) (hb : PE X b tb) (hc : PE X c tc)
    (hm : lastMarks [op, op'] [b, c] = false := by with_unfolding_all rfl) : PE X (.Compare a [op, op'] [b, c] pos) (tChain r r' ta tb tc) := by
  intro pins s σ H Q I h
  refine Compare_chain (thn (ha pins s σ H _ I h) fun v s1 ⟨x, H1, I1, r1, q1⟩ => chain_link (thn (hb pins s1 σ H1 _ I1 q1) fun u s2 ⟨y, H2, I2, r2, q2⟩ =>
    thn (ho pins s2 σ H2 x y v u _ I2 r1 r2 q2) fun d s3 ⟨z, H3, I3, r3, k, e, q3⟩ => ?_)) hm
  subst e
  cases r3
  refine wpAny_truthy_bool ?_
  cases k with
  | false => exact ite_ff ⟨.bl false, H3, I3, rfl, q3⟩
  | true => exact ite_tt (chain_last (thn (hc pins s3 σ H3 _ I3 q3) fun w' s4 ⟨z', H4, I4, r4, q4⟩ => ho' pins s4 σ H4 y z' u w' Q I4 r2 r4 q4))
theorem pt_chain {op op' : CmpOp} {r r' : R2} (ho : OpR X (compareOp op) r) (ho' : OpR X (compareOp op') r') (ha : PE X a ta) (hb : PE X b tb) (hc : PE X c tc)
    (hm : lastMarks [op, op'] [b, c] = false := by with_unfolding_all rfl) : PT X (.Compare a [op, op'] [b, c] pos) (tTest (tChain r r' ta tb tc)) := by
  intro pins s σ H Q I h
  refine isTrue_chain (thn (ha pins s σ H _ I h) fun v s1 ⟨x, H1, I1, r1, q1⟩ => test_link (thn (hb pins s1 σ H1 _ I1 q1) fun u s2 ⟨y, H2, I2, r2, q2⟩ =>
    thn (ho pins s2 σ H2 x y v u _ I2 r1 r2 q2) fun d s3 ⟨z, H3, I3, r3, k, e, q3⟩ => ?_)) hm
  subst e
  cases r3
  refine wpAny_truthy_bool ?_
  cases k with
  | false =>
    obtain ⟨k', e', q'⟩ := q3
    cases e'
    exact ite_ff ⟨H3, I3, q'⟩
  | true =>
    refine ite_tt (test_last (thn (hc pins s3 σ H3 _ I3 q3) fun w' s4 ⟨z', H4, I4, r4, q4⟩ => thn (ho' pins s4 σ H4 y z' u w' _ I4 r2 r4 q4) fun d' s5 ⟨z2, H5, I5, r5, k2, e2, q5⟩ => ?_))
    subst e2
    cases r5
    exact wpAny_truthy_bool ⟨H5, I5, q5⟩
def TruV (K : PySem.W.Frag) (x : V) (H : Hp) (k : Bool) : Prop :=
  match x with
  | .non => k = false
  | .bl b => k = b
  | .int i => k = (i != 0)
  | .str y => y.length ≤ sizeLine ∧ k = ((y.length : Int) != 0)
  | .byt y => y.size ≤ sizeLine ∧ k = ((y.size : Int) != 0)
  | .ref p => (∃ xs, SqL K H p xs ∧ k = !xs.isEmpty) ∨ (∃ xs, SqT K H p xs ∧ k = !xs.isEmpty) ∨ ∃ kvs, H p = some (.dK kvs) ∧ k = !kvs.isEmpty
  | _ => False
theorem line63 : (sizeLine : Nat) < 2 ^ 63 := by rw [sizeLine_eq]; decide
def PlainIxT (b : Expr) : Prop := ∀ o i, subscripted b false o i = operate [o, i] (getItem o i)
theorem vals1 {x : V} {us : List Value} (r : Vals [x] us) : ∃ u, us = [u] ∧ RelV x u := by
  cases r with
  | cons r1 r2 => cases r2; exact ⟨_, rfl, r1⟩
theorem vals2 {x y : V} {us : List Value} (r : Vals [x, y] us) : ∃ u w', us = [u, w'] ∧ RelV x u ∧ RelV y w' := by
  cases r with
  | cons r1 r2 =>
    cases r2 with
    | cons r3 r4 => cases r4; exact ⟨_, _, rfl, r1, r3⟩
theorem call_abs : CallR X (.builtin "abs") (fun xs H Q => ∃ i, xs = [.int i] ∧ Q (.int (if i < 0 then -i else i)) H) := by
  intro pins s σ H xs us Q I r h
  obtain ⟨i, rfl, q⟩ := h
  obtain ⟨u, rfl, t, rfl⟩ := vals1 r
  exact call_abs_int fun u tk => ⟨.int (if i < 0 then -i else i), H, I.tok _, ⟨_, rfl⟩, q⟩
theorem call_min2 (hc : X.calm = true) : CallR X (.builtin "min") (fun xs H Q => ∃ i j, xs = [.int i, .int j] ∧ Q (.int (if j < i then j else i)) H) := by
  intro pins s σ H xs us Q I r h
  obtain ⟨i, j, rfl, q⟩ := h
  obtain ⟨u, w', rfl, ⟨t, rfl⟩, ⟨t', rfl⟩⟩ := vals2 r
  refine min_two_ints (I.ok.hd hc) fun h' tk k => ⟨_, H, I.kept k, ?_, q⟩
  by_cases hj : j < i
  · rw [if_pos hj, if_pos hj]; exact ⟨_, rfl⟩
  · rw [if_neg hj, if_neg hj]; exact ⟨_, rfl⟩
theorem call_int1 : CallR X (.type "int") (fun xs H Q => (∃ i, xs = [.int i] ∧ Q (.int i) H) ∨ ∃ k, xs = [.bl k] ∧ Q (.int (if k then 1 else 0)) H) := by
  intro pins s σ H xs us Q I r h
  rcases h with ⟨i, rfl, q⟩ | ⟨k, rfl, q⟩
  · obtain ⟨u, rfl, t, rfl⟩ := vals1 r
    exact call_int_int ⟨.int i, H, I, ⟨_, rfl⟩, q⟩
  · obtain ⟨u, rfl, r1⟩ := vals1 r
    cases r1
    exact call_int_bool ⟨.int (if k then 1 else 0), H, I.tok _, ⟨_, rfl⟩, q⟩
def LenV (K : PySem.W.Frag) (x : V) (H : Hp) (n : Nat) : Prop :=
  match x with
  | .str y => y.length ≤ sizeLine ∧ n = y.length
  | .byt y => y.size ≤ sizeLine ∧ n = y.size
  | .ref p => (∃ xs, SqL K H p xs ∧ n = xs.length) ∨ ∃ xs, SqT K H p xs ∧ n = xs.length
  | _ => False
end
end L2
namespace L2
open PySem PySem.Spec PyProof.Rows
structure ObjM (h : Heap) (x dx C : Addr) (mA : Str → Option Value) : Prop where
  obj : h.get? x = some (PySem.W.instObj C dx)
  ns : h.Ns1 dx mA
  ne : dx ≠ x
theorem lookIn_ns {h : Heap} {dx : Addr} {mA : Str → Option Value} (n : h.Ns1 dx mA) : ∃ od, h.get? dx = some od ∧ ∀ name, PySem.W.lookIn name od = some (mA name) := by
  obtain ⟨o, es, ep, ho, hd, hk, _, hm⟩ := n
  refine ⟨o, ho, fun name => ?_⟩
  have e := hm name
  unfold nsFind findBy at e
  rw [← Array.find?_toList] at e
  unfold PySem.W.lookIn
  rw [hd]
  dsimp only
  split
  · rename_i y q
    rw [q] at e
    exact congrArg some e
  · rename_i q
    rw [q] at e
    have a : es.toList.any (·.refKey) = false := by
      rw [List.any_eq_false]
      intro y hy
      obtain ⟨z, t, hkey⟩ := hk y (Array.mem_toList_iff.mp hy)
      simp [DictEntry.refKey, hkey]
    have a' : ¬ es.toList.any (·.refKey) = true := by rw [a]; exact Bool.false_ne_true
    rw [if_neg a']
    exact congrArg some e
theorem ObjM.look {h : Heap} {x dx C : Addr} {mA : Str → Option Value} (I : ObjM h x dx C mA) : ∃ od, PySem.W.InstAt h x (PySem.W.instObj C dx) C (some od) ∧ ∀ name, PySem.W.lookIn name od = some (mA name) :=
  let ⟨od, ho, hl⟩ := lookIn_ns I.ns
  ⟨od, ⟨I.obj, rfl, rfl, ho⟩, hl⟩
section
variable {prog : Program} {w : World} {A : Around} {E : Value → Shared → Prop} {s : Shared} {K : PySem.W.Frag} {x dx C f : Addr} {mA : Str → Option Value} {name : Str} {v : Value}
theorem get_map {expr : Bool} {Q : Value → Shared → Prop} (X : K.In s.heap) (I : ObjM s.heap x dx C mA) (hg : PySem.W.plainGet K C name = true) (hh : PySem.W.hasDictIn K C = true)
    (ha : PySem.W.findIn K (.ref C) name = some none) (hv : mA name = some v) (hv' : PySem.W.handedIn v = true) (h : Q v { s with toks := s.toks + 1 }) :
    wpAny (model prog w) A (getAttr (.ref x) name expr) Q E s := by
  obtain ⟨od, J, hl⟩ := I.look
  exact PySem.W.get_value X J (PySem.W.plainGet_of hg).1 (PySem.W.findObj_own hh ha rfl (by rw [hl, hv])) hv' h
theorem get_meth {pl : Sem Bool} {Q : Value × List Value → Shared → Prop} (X : K.In s.heap) (I : ObjM s.heap x dx C mA) (hg : PySem.W.plainGet K C name = true)
    (hf : PySem.W.findIn K (.ref C) name = some (some (.ref f))) (ht : PySem.W.isFn K (.ref f) = true) (hv : mA name = none) (h : Q (.ref f, [.ref x]) s) :
    wpAny (model prog w) A (getMethod (.ref x) name pl) Q E s := by
  obtain ⟨od, J, hl⟩ := I.look
  exact PySem.W.method_fn X J (PySem.W.plainGet_of hg).1 (PySem.W.plainGet_of hg).2 hf (beq_iff_eq.mp ht) (by show (PySem.W.lookIn name od).map (·.isSome) = some false; rw [hl, hv]; rfl) h
theorem set_map {ns : List Str} {Q : Unit → Shared → Prop} (X : K.In s.heap) (I : ObjM s.heap x dx C mA)
    (hs : PySem.W.findIn K (.ref C) "__setattr__" = some (some (.builtin "object.__setattr__"))) (hp : PySem.W.plainOver K C = true) (ht : PySem.W.takerIn K C name = some none) (hh : PySem.W.hasDictIn K C = true)
    (hw : PySem.Within mA ns) (hsz : ns.length ≤ sizeLine)
    (h : ∀ h', ObjM h' x dx C (fun y => if y = name then some v else mA y) → Heap.SameBut dx s.heap h' → Q () { s with heap := h', toks := s.toks + 2 }) :
    wpAny (model prog w) A (setAttr (.ref x) name v) Q E s := by
  obtain ⟨od, J, hl⟩ := I.look
  refine PySem.W.set_plain X J hs (PySem.W.osa_open (s := { s with toks := s.toks + 1 }) (r := none) X J hp ht fun b => ?_)
  obtain ⟨cd, hc, hd'⟩ := PySem.W.any_some hh
  have hx : s.heap.get? x = some ⟨.ref C, some dx, .plain, #[]⟩ := I.obj
  refine wpAny_bind (wpAny_pure (wpAny_bind (wpAny_bind (wpAny_loadPart hx (wpAny_bind (PySem.W.Looks.here (s := { s with toks := s.toks + 1 }) (PySem.W.looks_clsIn X hc) ?_))))))
  rw [hd']
  refine wpAny_pure (a := some dx) (wpAny_bind (wpAny_pure (wpAny_bind ?_)))
  refine wpAny_nsSet1 (s := { s with toks := s.toks + 1 }) I.ns fun h' hn2 hs2 => ?_
  obtain ⟨oD, esD, epD, hoD, hdD, hcD⟩ := hn2.count (PySem.Within.cons name v hw)
  refine wpAny_bind (wpAny_lookBehind hoD (by rw [hdD]; exact pastItsLine_dict (Nat.le_trans hcD (by rw [List.length_cons]; omega))) ?_)
  exact wpAny_pure (h _ ⟨(hs2.2 _ (Ne.symm I.ne)).trans I.obj, hn2, I.ne⟩ hs2)
theorem make_map {R : Result → Shared → Prop} {vs : List Value} {kw : List (Str × Value)} (X : K.In s.heap) (hm : PySem.W.makesIn K C = true)
    (hi : PySem.W.findIn K (.ref C) "__init__" = some (some (.ref f))) (hf : PySem.W.typeIn K (.ref f) = some (.type "function"))
    (h : codeAny (model prog w) (A.under (.builtin "type.__call__" ⟨.ref C :: vs, kw⟩)) (.call (.ref f) ⟨.ref (s.heap.objs.size + 1) :: vs, kw⟩) (PySem.W.InitBack (s.heap.objs.size + 1) R)
      { s with heap := (s.heap.push PySem.W.emptyDict).push (PySem.W.instObj C s.heap.objs.size) }) :
    codeAny (model prog w) A (.call (.ref C) ⟨vs, kw⟩) R s := by
  obtain ⟨hh, g, d, t, os⟩ := s
  exact PySem.W.make_core (PySem.W.makes_of X hm) (PySem.W.looks_findIn X hi) (fun self => PySem.W.bind_fn X self hf) (.inl rfl) h
end
def putF (f : Str) (v : V) : List (Str × V) → List (Str × V)
  | [] => [(f, v)]
  | (g, x) :: r => if g = f then (g, v) :: r else (g, x) :: putF f v r
theorem lookup_putF (f g : Str) (v : V) : ∀ fs : List (Str × V), (putF f v fs).lookup g = if g = f then some v else fs.lookup g
  | [] => by
    show List.lookup g [(f, v)] = _
    by_cases h : g = f
    · have hb : (g == f) = true := beq_iff_eq.mpr h
      simp only [List.lookup, hb, if_pos h]
    · have hb : (g == f) = false := beq_eq_false_iff_ne.mpr h
      simp only [List.lookup, hb, if_neg h]
  | (k, x) :: r => by
    have ih := lookup_putF f g v r
    rw [show putF f v ((k, x) :: r) = (if k = f then (k, v) :: r else (k, x) :: putF f v r) from rfl]
    by_cases hk : k = f
    · rw [if_pos hk]
      by_cases h : g = k
      · have hb : (g == k) = true := beq_iff_eq.mpr h
        simp only [List.lookup, hb, if_pos (h.trans hk)]
      · have hb : (g == k) = false := beq_eq_false_iff_ne.mpr h
        simp only [List.lookup, hb, if_neg (fun e : g = f => h (e.trans hk.symm))]
    · rw [if_neg hk]
      by_cases h : g = k
      · have hb : (g == k) = true := beq_iff_eq.mpr h
        simp only [List.lookup, hb, if_neg (fun e : g = f => hk (h.symm.trans e))]
      · have hb : (g == k) = false := beq_eq_false_iff_ne.mpr h
        simp only [List.lookup, hb]
        exact ih
theorem keys_putF (f : Str) (v : V) : ∀ fs : List (Str × V), f ∈ (putF f v fs).map (·.1) ∧ ∀ g, g ∈ fs.map (·.1) → g ∈ (putF f v fs).map (·.1)
  | [] => ⟨by simp [putF], fun g h => by simp at h⟩
  | (k, x) :: r => by
    obtain ⟨i1, i2⟩ := keys_putF f v r
    rw [show putF f v ((k, x) :: r) = (if k = f then (k, v) :: r else (k, x) :: putF f v r) from rfl]
    by_cases hk : k = f
    · rw [if_pos hk]
      subst hk
      exact ⟨by simp, fun g h => by simpa using h⟩
    · rw [if_neg hk]
      refine ⟨?_, fun g h => ?_⟩
      · rw [List.map_cons]
        exact List.mem_cons_of_mem _ i1
      · rw [List.map_cons] at h ⊢
        rcases List.mem_cons.mp h with e | e
        · exact List.mem_cons.mpr (.inl e)
        · exact List.mem_cons_of_mem _ (i2 g e)
theorem length_putF (f : Str) (v : V) : ∀ fs : List (Str × V), (putF f v fs).length ≤ fs.length + 1
  | [] => by simp [putF]
  | (k, x) :: r => by
    have ih := length_putF f v r
    rw [show putF f v ((k, x) :: r) = (if k = f then (k, v) :: r else (k, x) :: putF f v r) from rfl]
    by_cases hk : k = f
    · rw [if_pos hk, List.length_cons, List.length_cons]; omega
    · rw [if_neg hk, List.length_cons, List.length_cons]; omega
theorem RelO.some_of {v : V} {o : Option Value} (r : RelO (some v) o) : ∃ u, o = some u ∧ RelV v u := by
  cases o with
  | none => exact (show False from r).elim
  | some u => exact ⟨u, rfl, r⟩
theorem RelO.none_of {o : Option Value} (r : RelO none o) : o = none := by
  cases o with
  | none => rfl
  | some u => exact (show False from r).elim
theorem handed_of {v : V} {u : Value} (r : RelV v u) : PySem.W.handedIn u = true := by
  cases v with
  | non => cases (show u = Value.none from r); rfl
  | bl b => cases (show u = Value.bool b from r); rfl
  | int i => obtain ⟨t, e⟩ := (show ∃ t, u = Value.int i t from r); cases e; rfl
  | str x => obtain ⟨t, e⟩ := (show ∃ t, u = Value.str x t from r); cases e; rfl
  | byt b => obtain ⟨t, e⟩ := (show ∃ t, u = Value.bytes b t from r); cases e; rfl
  | flt b => obtain ⟨t, e⟩ := (show ∃ t, u = Value.float b t from r); cases e; rfl
  | ref a => cases (show u = Value.ref a from r); rfl
  | ty n => cases (show u = Value.type n from r); rfl
section
variable {P : Program} {w : World} {H H' : Hp} {h h' : Heap} {a C dx : Addr} {fs fs' : List (Str × V)}
theorem ins_get (hok : HOk P w H h) (e : H a = some (.ins C dx fs)) : ∃ mA, ObjM h a dx C mA ∧ (∀ f, RelO (fs.lookup f) (mA f)) ∧ PySem.Within mA (fs.map (·.1)) ∧ fs.length ≤ 1000 ∧ H dx = some (.own a) := by
  obtain ⟨d, z, ne, ob, mA, n, r, q⟩ := (show ObjOk P w H h a (.ins C dx fs) from hok a _ e)
  exact ⟨mA, ⟨ob, n, ne⟩, r, q, z, d⟩
end
structure Cls (K : PySem.W.Frag) (C : Addr) : Prop where
  pg : PySem.W.plainGet K C Str.empty = true
  hd : PySem.W.hasDictIn K C = true
  po : PySem.W.plainOver K C = true
  sa : PySem.W.findIn K (.ref C) "__setattr__" = some (some (.builtin "object.__setattr__"))
theorem Cls.get {K : PySem.W.Frag} {C : Addr} (c : Cls K C) (f : Str) : PySem.W.plainGet K C f = true := c.pg
def NoAttr (K : PySem.W.Frag) (C : Addr) (f : Str) : Prop := PySem.W.findIn K (.ref C) f = some none
theorem NoAttr.taker {K : PySem.W.Frag} {C : Addr} {f : Str} (n : NoAttr K C f) : PySem.W.takerIn K C f = some none := by
  unfold PySem.W.takerIn
  rw [show PySem.W.findIn K (.ref C) f = some none from n]
  rfl
structure Con (K : PySem.W.Frag) (C : Addr) (f : Str) (v : V) (u : Value) : Prop where
  at_ : PySem.W.findIn K (.ref C) f = some (some u)
  rel : RelV v u
  get : PySem.W.specialIn K u "__get__" = some none
  cp : PySem.W.copiedNames.contains f = false
structure Meth (K : PySem.W.Frag) (C : Addr) (m : Str) (f : Addr) : Prop where
  at_ : PySem.W.findIn K (.ref C) m = some (some (.ref f))
  fn : PySem.W.isFn K (.ref f) = true
  kp : PySem.W.keepIn K (.ref f) = true
section
variable {X : Cx} {pins : List (Addr × Obj)} {σ : St} {H : Hp} {s : Shared} {a C dx : Addr} {fs : List (Str × V)} {f : Str} {v : V} {A : Around} {E : Value → Shared → Prop}
theorem getattr_ok {b : Bool} {Q : Value → Shared → Prop} (I : Inv X pins σ H s) (e : H a = some (.ins C dx fs)) (c : Cls X.K C) (n : NoAttr X.K C f) (l : fs.lookup f = some v)
    (h : ∀ u s', Inv X pins σ H s' → RelV v u → Q u s') : wpAny (model X.prog X.w) A (getAttr (.ref a) f b) Q E s := by
  obtain ⟨mA, O, r, _, _, _⟩ := ins_get I.hok e
  obtain ⟨u, hu, ru⟩ := RelO.some_of (v := v) (o := mA f) (by rw [← l]; exact r f)
  exact get_map I.kIn O (c.get f) c.hd n hu (handed_of ru) (h u _ (I.tok _) ru)
theorem getmeth_ok {m : Str} {g : Addr} {pl : Sem Bool} {Q : Value × List Value → Shared → Prop} (I : Inv X pins σ H s) (e : H a = some (.ins C dx fs)) (c : Cls X.K C) (k : Meth X.K C m g) (l : fs.lookup m = none)
    (h : Q (.ref g, [.ref a]) s) : wpAny (model X.prog X.w) A (getMethod (.ref a) m pl) Q E s := by
  obtain ⟨mA, O, r, _, _, _⟩ := ins_get I.hok e
  have hn : mA m = none := RelO.none_of (by rw [← l]; exact r m)
  exact get_meth I.kIn O (c.get m) k.at_ k.fn hn h
theorem setattr_ok {y : V} {u : Value} {Q : Unit → Shared → Prop} (I : Inv X pins σ H s) (e : H a = some (.ins C dx fs)) (c : Cls X.K C) (n : NoAttr X.K C f) (hl : fs.length < 1000) (ry : RelV y u)
    (h : ∀ s', Inv X pins σ (upd H a (.ins C dx (putF f y fs))) s' → Q () s') : wpAny (model X.prog X.w) A (setAttr (.ref a) f u) Q E s := by
  obtain ⟨mA, O, r, wi, _, ho⟩ := ins_get I.hok e
  have hz : (fs.map (·.1)).length ≤ sizeLine := by rw [List.length_map, sizeLine_eq]; omega
  refine set_map I.kIn O c.sa c.po n.taker c.hd wi hz fun h' O' sb => h _ ?_
  have hd : ∃ o, h'.get? dx = some o := let ⟨o, _, _, e', _⟩ := O'.ns; ⟨o, e'⟩
  refine I.write (x := a) (e := dx) (by rw [e]; exact True.intro) (.inr ho) (fun b q hb z => (sb.2 b hb).trans z) hd ?_
  refine ⟨by rw [upd_ne O.ne]; exact ho, ?_, O.ne, O'.obj, _, O'.ns, fun g => ?_, fun g hg => ?_⟩
  · have := length_putF f y fs; omega
  · show RelO ((putF f y fs).lookup g) (if g = f then some u else mA g)
    rw [lookup_putF]
    by_cases q : g = f
    · rw [if_pos q, if_pos q]; exact ry
    · rw [if_neg q, if_neg q]; exact r g
  · by_cases q : g = f
    · rw [q]; exact (keys_putF f y fs).1
    · refine (keys_putF f y fs).2 g (wi g fun z => hg ?_)
      show (if g = f then some u else mA g) = none
      rw [if_neg q]; exact z
theorem Inv.made (I : Inv X pins σ H s) : Inv X pins σ (upd (upd H s.heap.objs.size (.own (s.heap.objs.size + 1))) (s.heap.objs.size + 1) (.ins C s.heap.objs.size []))
    { s with heap := (s.heap.push PySem.W.emptyDict).push (PySem.W.instObj C s.heap.objs.size) } := by
  have e1 : (s.heap.push PySem.W.emptyDict).get? s.heap.objs.size = some PySem.W.emptyDict := Heap.get?_push_size s.heap rfl
  have e2 : ((s.heap.push PySem.W.emptyDict).push (PySem.W.instObj C s.heap.objs.size)).get? (s.heap.objs.size + 1) = some (PySem.W.instObj C s.heap.objs.size) := by
    have := Heap.get?_push_size (s.heap.push PySem.W.emptyDict) (o := PySem.W.instObj C s.heap.objs.size) rfl
    rwa [Heap.size_push] at this
  have e3 : (s.heap.push PySem.W.emptyDict).Ns s.heap.objs.size (fun _ => none) := ⟨PySem.W.emptyDict, #[], _, e1, rfl, (fun e he => absurd he (by simp)), fun _ => rfl⟩
  have I1 := I.laid (a := s.heap.objs.size) (o := .own (s.heap.objs.size + 1)) (h' := s.heap.push PySem.W.emptyDict) (t' := s.toks) (fun b u q => Heap.get?_push_of_some _ q) (Nat.le_refl _) ⟨_, e1⟩
  refine I1.laid (a := s.heap.objs.size + 1) (o := .ins C s.heap.objs.size []) (t' := s.toks) (fun b u q => Heap.get?_push_of_some _ q) (Nat.le_of_eq (Heap.size_push _ _)) ?_
  have ne : s.heap.objs.size ≠ s.heap.objs.size + 1 := Nat.ne_of_lt (Nat.lt_succ_self _)
  refine ⟨by rw [upd_ne ne, upd_same], Nat.zero_le _, ne, e2, fun _ => none, (Heap.Ns1.of_empty e3).at fun o q => Heap.get?_push_of_some _ q, fun _ => True.intro, fun y hy => absurd rfl hy⟩
theorem attr_of {prog : Program} {w : World} {env : Env} {e : Expr} {f : Str} {pos : Pos} {s : Shared} {Q : Value → Shared → Prop} (hb : attributeBase e f env (eval e env) = eval e env)
    (h : wpAny (model prog w) A (eval e env) (fun o s₁ => wpAny (model prog w) A (getAttr o f true) Q E s₁) E s) : wpAny (model prog w) A (eval (.Attribute e f pos) env) Q E s :=
  Attribute_any_ h (by rw [arm_eval_Attribute, hb])
end
def tFld (K : PySem.W.Frag) (ta : TE) (f : Str) : TE := fun σ H Q => ta σ H fun x H1 => ∃ a C dx fs v, x = .ref a ∧ H1 a = some (.ins C dx fs) ∧ Cls K C ∧ NoAttr K C f ∧ fs.lookup f = some v ∧ Q v H1
def tCon (K : PySem.W.Frag) (ta : TE) (f : Str) : TE := fun σ H Q => ta σ H fun x H1 => ∃ a C dx fs v u, x = .ref a ∧ H1 a = some (.ins C dx fs) ∧ Cls K C ∧ Con K C f v u ∧ fs.lookup f = none ∧ Q v H1
def sFld (K : PySem.W.Frag) (ta tv : TE) (f : Str) : TS := fun D σ H => tv σ H fun y H1 => ta σ H1 fun x H2 => ∃ a C dx fs, x = .ref a ∧ H2 a = some (.ins C dx fs) ∧ Cls K C ∧ NoAttr K C f ∧ fs.length < 1000 ∧
  D.nx σ (upd H2 a (.ins C dx (putF f y fs)))
def InOp (X : Cx) (op : Operator) (rd : V → V → Hp → VK → Prop) : Prop :=
  ∀ (pins : List (Addr × Obj)) (s : Shared) (σ : St) (H : Hp) (x y : V) (u v : Value) (Q : VK), Inv X pins σ H s → RelV x u → RelV y v → rd x y H Q → wpAny (model X.prog X.w) X.A (inplaceOp op u v) (EP X pins σ Q) X.xe s
def sFldAug (K : PySem.W.Frag) (ta tv : TE) (rd : V → V → Hp → VK → Prop) (f : Str) : TS := fun D σ H => ta σ H fun x H1 => ∃ a C dx fs v, x = .ref a ∧ H1 a = some (.ins C dx fs) ∧ Cls K C ∧ NoAttr K C f ∧ fs.lookup f = some v ∧
  tv σ H1 fun y H2 => rd v y H2 fun z H3 => ∃ dx' fs', H3 a = some (.ins C dx' fs') ∧ fs'.length < 1000 ∧ D.nx σ (upd H3 a (.ins C dx' (putF f z fs')))
section
variable {X : Cx} {o e value : Expr} {f : Str} {pos pos' tpos : Pos} {ta tv : TE}
theorem pe_fld (he : PE X e ta) (hb : attributeBase e f X.env (eval e X.env) = eval e X.env) : PE X (.Attribute e f pos) (tFld X.K ta f) := by
  intro pins s σ H Q I h
  refine attr_of hb (thn (he pins s σ H _ I h) fun u s1 ⟨x, H1, I1, rx, a, C, dx, fs, v, ex, ea, c, n, l, q⟩ => ?_)
  subst ex
  obtain rfl : u = Value.ref a := rx
  exact getattr_ok I1 ea c n l fun u' s2 I2 ru => ⟨v, H1, I2, ru, q⟩
theorem ps_fld (ha : PE X o ta) (hv : PE X value tv) (hs : swapsWith value (some (.Attribute o f pos')) pos.line X.env = pure false) : PS X (.Assign [.Attribute o f pos'] value pos) (sFld X.K ta tv f) := by
  intro pins s σ H D I h
  refine plainObj_wpAny_Assign_Attribute (thn (hv pins s σ H _ I h) fun u s1 ⟨y, H1, I1, ry, q⟩ => thn (ha pins s1 σ H1 _ I1 q) fun ov s2 ⟨x, H2, I2, rx, a, C, dx, fs, ex, ea, c, n, l, q2⟩ => ?_) hs
  subst ex
  obtain rfl : ov = Value.ref a := rx
  exact setattr_ok I2 ea c n l ry fun s3 I3 => ⟨σ, _, I3, q2⟩
def rAdd : V → V → Hp → VK → Prop := fun x y H Q => ∃ i j, x = .int i ∧ y = .int j ∧ Q (.int (i + j)) H
def rSub : V → V → Hp → VK → Prop := fun x y H Q => ∃ i j, x = .int i ∧ y = .int j ∧ Q (.int (i - j)) H
theorem methcall_of {pl : Sem Bool} {m : Str} {apos : Pos} {args : List Expr} {pins : List (Addr × Obj)} {s : Shared} {σ : St} {H : Hp} {Q : Value → Shared → Prop} {te : TE} (he : PE X e te) (I : Inv X pins σ H s)
    (h : te σ H fun x H1 => ∃ a C dx fs g, x = .ref a ∧ H1 a = some (.ins C dx fs) ∧ Cls X.K C ∧ Meth X.K C m g ∧ fs.lookup m = none ∧
      ∀ s1, Inv X pins σ H1 s1 → wpAny (model X.prog X.w) X.A (callWith pos (.ref g) [.ref a] (backTo pos (starEach args X.env)) (backToKw pos (keywordEach [] X.env))) Q X.xe s1)
    (ht : eval (.Call (.Attribute e m apos) args [] pos) X.env = (do
      let ov ← eval e X.env
      standAt apos.atName
      let (f, first) ← holding [ov] (getMethod ov m pl)
      callWith pos f first (backTo pos (starEach args X.env)) (backToKw pos (keywordEach [] X.env)))) :
    wpAny (model X.prog X.w) X.A (eval (.Call (.Attribute e m apos) args [] pos) X.env) Q X.xe s := by
  refine PySem.W.methodCall_KW (pl := pl) (thn (he pins s σ H _ I h) fun u s1 ⟨x, H1, I1, rx, a, C, dx, fs, g, ex, ea, c, k, l, q⟩ => ?_) ht
  subst ex
  obtain rfl : u = Value.ref a := rx
  exact getmeth_ok I1 ea c k l (q s1 I1)
end
section
variable {X : Cx} {pins : List (Addr × Obj)} {σ : St} {H : Hp} {s : Shared} {A : Around} {E : Value → Shared → Prop} {Q : Value → Shared → Prop} {c : Value} {b : Bool}
inductive TyOf (K : PySem.W.Frag) (H : Hp) : V → Value → Prop where
  | non : TyOf K H .non (.type "NoneType")
  | bl (x : Bool) : TyOf K H (.bl x) (.type "bool")
  | int (i : Int) : TyOf K H (.int i) (.type "int")
  | str (x : Str) : TyOf K H (.str x) (.type "str")
  | flt (x : UInt64) : TyOf K H (.flt x) (.type "float")
  | lst {a : Addr} {xs : List V} (e : H a = some (.lst xs)) : TyOf K H (.ref a) (.type "list")
  | frz {a : Addr} {o : Obj} {xs : List V} (e : H a = some (.frz o (.lst xs))) : TyOf K H (.ref a) (.type "list")
  | tup {a : Addr} {xs : List V} (e : H a = some (.tup xs)) : TyOf K H (.ref a) (.type "tuple")
  | dK {a : Addr} {kvs : List (Key × V)} (e : H a = some (.dK kvs)) : TyOf K H (.ref a) (.type "dict")
  | dT {a : Addr} {kvs : List (List Key × V)} (e : H a = some (.dT kvs)) : TyOf K H (.ref a) (.type "dict")
  | ins {a C dx : Addr} {fs : List (Str × V)} (e : H a = some (.ins C dx fs)) (cl : Cls K C) (ha : PySem.W.findIn K (.ref C) "__class__" = some (some (.builtin "object.__class__")))
      (hn : PySem.W.specialIn K (.builtin "object.__class__") "__get__" = some (some (.builtin "getset_descriptor.__get__"))) (htk : PySem.W.takesIn K (.builtin "object.__class__") = some true)
      (hm : PySem.W.mroIn K C (.type "object") = some true) : TyOf K H (.ref a) (.ref C)
theorem isinst_ok {x : V} {u t : Value} (I : Inv X pins σ H s) (rx : RelV x u) (ty : TyOf X.K H x t) (e : PySem.W.kitOne X.K t c = some b) (h : ∀ tk, Q (.bool b) { s with toks := tk }) :
    wpAny (model X.prog X.w) A (call (.builtin "isinstance") [u, c]) Q E s := by
  cases ty with
  | non => cases (show u = Value.none from rx); exact PySem.W.kia_one PySem.W.kitx_none I.kIn True.intro e (fun z => nomatch z) h
  | bl y => cases (show u = Value.bool y from rx); exact PySem.W.kia_one PySem.W.kitx_bool I.kIn True.intro e (fun z => nomatch z) h
  | int i => obtain ⟨t, q⟩ := (show ∃ t, u = Value.int i t from rx); cases q; exact PySem.W.kia_one PySem.W.kitx_int I.kIn True.intro e (fun z => nomatch z) h
  | str y => obtain ⟨t, q⟩ := (show ∃ t, u = Value.str y t from rx); cases q; exact PySem.W.kia_one PySem.W.kitx_str I.kIn True.intro e (fun z => nomatch z) h
  | flt y => obtain ⟨t, q⟩ := (show ∃ t, u = Value.float y t from rx); cases q; exact PySem.W.kia_one PySem.W.kitx_float I.kIn True.intro e (fun z => nomatch z) h
  | @lst a xs ea =>
    cases (show u = Value.ref a from rx)
    obtain ⟨_, _, n, _, h1⟩ := (show ObjOk X.prog X.w H s.heap a (.lst xs) from I.hok a _ ea)
    exact PySem.W.kia_one PySem.W.kitx_list I.kIn ⟨_, h1, rfl⟩ e (fun z => nomatch z) h
  | @frz a ob xs ea =>
    cases (show u = Value.ref a from rx)
    obtain ⟨_, _, _, n, _, h1⟩ := (show ObjOk X.prog X.w H s.heap a (.frz ob (.lst xs)) from I.hok a _ ea)
    exact PySem.W.kia_one PySem.W.kitx_list I.kIn ⟨_, h1, rfl⟩ e (fun z => nomatch z) h
  | @tup a xs ea =>
    cases (show u = Value.ref a from rx)
    obtain ⟨_, _, _, p⟩ := (show ObjOk X.prog X.w H s.heap a (.tup xs) from I.hok a _ ea)
    obtain ⟨o, h1, h2, _⟩ := p
    exact PySem.W.kia_one PySem.W.kitx_tuple I.kIn ⟨o, h1, h2⟩ e (fun z => nomatch z) h
  | @dK a kvs ea =>
    cases (show u = Value.ref a from rx)
    obtain ⟨_, _, vs, _, p⟩ := (show ObjOk X.prog X.w H s.heap a (.dK kvs) from I.hok a _ ea)
    obtain ⟨o, es, ep, h1, h2, _⟩ := p
    exact PySem.W.kia_one PySem.W.kitx_dict I.kIn ⟨o, h1, h2.1⟩ e (fun z => nomatch z) h
  | @dT a kvs ea =>
    cases (show u = Value.ref a from rx)
    obtain ⟨_, _, xs, _, o, es, ep, h1, h2, _⟩ := (show ObjOk X.prog X.w H s.heap a (.dT kvs) from I.hok a _ ea)
    exact PySem.W.kia_one PySem.W.kitx_dict I.kIn ⟨o, h1, h2.1⟩ e (fun z => nomatch z) h
  | @ins a C dx fs ea cl ha hn htk hm =>
    cases (show u = Value.ref a from rx)
    obtain ⟨mA, O, _⟩ := ins_get I.hok ea
    obtain ⟨od, J, _⟩ := O.look
    exact PySem.W.kia_one (PySem.W.kitx_own (cl.get _) cl.hd ha hn htk hm) I.kIn J e (fun z => nomatch z) h
end
end L2
namespace L2
open PySem PySem.Spec PyProof.Rows
structure Room (k : Nat) (A : Around) : Prop where
  hd : A.handled = none
  dp : A.depth + 3 * k + 5 < recursionLimit
  un : A.units + 16 * k + 200 < cLine
theorem Room.mono {j k : Nat} {A : Around} (r : Room k A) (h : j ≤ k) : Room j A := ⟨r.hd, by have := r.dp; omega, by have := r.un; omega⟩
theorem Room.deeper {k : Nat} {A : Around} (r : Room (k + 1) A) (env : Env) : Room k (A.deeper env) :=
  ⟨r.hd, by have := r.dp; show A.depth + 1 + 3 * k + 5 < _; omega, by have := r.un; show A.units + 3 + 16 * k + 200 < _; omega⟩
theorem Room.in1 {k : Nat} {A : Around} (r : Room (k + 1) A) : Room k A.in1 :=
  ⟨r.hd, by have := r.dp; show A.depth + 3 * k + 5 < _; omega, by have := r.un; show A.units + 1 + 16 * k + 200 < _; omega⟩
theorem make_depth {A : Around} {C : Addr} {us : List Value} {kw : List (Str × Value)} : (A.under (.builtin "type.__call__" ⟨.ref C :: us, kw⟩)).depth = A.depth + 1 := by
  first | rfl | simp [Around.under, Code.weight, Code.isCreation, Code.isGuard, Code.isCaller, Code.frames, Code.isFrame, guardIds]
theorem make_units {A : Around} {C : Addr} {us : List Value} {kw : List (Str × Value)} : (A.under (.builtin "type.__call__" ⟨.ref C :: us, kw⟩)).units = A.units + 1 := by
  first | rfl | simp [Around.under, Code.cUnits, Code.frames, Code.isFrame]
theorem Room.make {k : Nat} {A : Around} (r : Room (k + 1) A) (C : Addr) (us : List Value) (kw : List (Str × Value)) : Room k (A.under (.builtin "type.__call__" ⟨.ref C :: us, kw⟩)) :=
  ⟨r.hd, by have := r.dp; rw [make_depth]; omega, by have := r.un; rw [make_units]; omega⟩
theorem Room.depth {k : Nat} {A : Around} (r : Room k A) : A.depth < recursionLimit := by have := r.dp; omega
theorem Room.units {k : Nat} {A : Around} (r : Room k A) : A.units + 64 < cLine := by have := r.un; omega
def tNil : TA := fun _ H Q => Q [] H
def tCons (ta : TE) (tr : TA) : TA := fun σ H Q => ta σ H fun x H1 => tr σ H1 fun xs H2 => Q (x :: xs) H2
section
variable {X : Cx} {e : Expr} {es : List Expr} {te : TE} {t : TA} {pos : Pos}
theorem pa_nil : PA X [] tNil := fun _ _ _ _ H Q I h => Calls.spliced_nil ⟨[], H, I, .nil, h⟩
theorem pa_cons (ha : PE X e te) (hr : PA X es t) (hs : starEach (e :: es) X.env = (false, eval e X.env) :: starEach es X.env := by rfl) : PA X (e :: es) (tCons te t) := by
  intro pos pins s σ H Q I h
  rw [hs]
  show wpAny _ _ (spliced ((false, eval e X.env) :: backTo pos (starEach es X.env))) _ _ s
  refine Calls.spliced_cons (thn (ha pins s σ H _ I h) fun u s1 ⟨x, H1, I1, r1, q1⟩ => ?_)
  exact thn (hr pos pins s1 σ H1 _ I1 q1) fun us s2 ⟨xs, H2, I2, r2, q2⟩ => ⟨x :: xs, H2, I2, .cons r1 r2, q2⟩
def tTup (t : TA) : TE := fun σ H Q => t σ H fun xs H1 => xs.length ≤ sizeLine ∧ ∀ p, H1 p = none → Q (.ref p) (upd H1 p (.tup xs))
def tLst (t : TA) : TE := fun σ H Q => t σ H fun xs H1 => xs.length ≤ sizeLine ∧ ∀ p, H1 p = none → Q (.ref p) (upd H1 p (.lst xs))
theorem pe_tup {x1} (h : PA X es t) : PE X (.Tuple es x1 pos) (tTup t) := by
  intro pins s σ H Q I hq
  refine wpAny_Tuple_spliced (thn (h pos pins s σ H _ I hq) fun us s1 ⟨xs, H1, I1, r, z, q⟩ => ⟨by rw [← r.length]; exact z, ?_⟩)
  have hf : H1 s1.heap.objs.size = none := I1.hok.fresh (Nat.le_refl _)
  refine ⟨.ref s1.heap.objs.size, upd H1 s1.heap.objs.size (.tup xs), I1.laid (t' := s1.toks) (fun b u e => Heap.get?_push_of_some _ e) (Nat.le_refl _) ?_, rfl, q _ hf⟩
  exact ⟨z, us, r, ⟨_, Heap.get?_push_size _ rfl, rfl, _, rfl⟩⟩
theorem pe_lst (h : PA X es t) : PE X (.List es pos) (tLst t) := by
  intro pins s σ H Q I hq
  refine wpAny_List_spliced (thn (h pos pins s σ H _ I hq) fun us s1 ⟨xs, H1, I1, r, z, q⟩ => ⟨by rw [← r.length]; exact z, ?_⟩)
  have hf : H1 s1.heap.objs.size = none := I1.hok.fresh (Nat.le_refl _)
  refine ⟨.ref s1.heap.objs.size, upd H1 s1.heap.objs.size (.lst xs), I1.laid (t' := s1.toks) (fun b u e => Heap.get?_push_of_some _ e) (Nat.le_refl _) ?_, rfl, q _ hf⟩
  exact ⟨z, us, 0, r, Heap.get?_push_size _ rfl⟩
end
abbrev Sp := List V → Hp → VK → XK → Prop
abbrev CXT := List Env → Hp → Shared → XK → Value → Shared → Prop
structure Env0 (P : Program) (w : World) (K : PySem.W.Frag) (mg : Str → Option Value) (base : Heap) (A : Around) (outer : List Env) (s : Shared) (H : Hp) : Prop where
  frames : A.frames = some outer
  mod : Mod K mg base
  bs : ∀ b o, base.get? b = some o → s.heap.get? b = some o ∧ H b = none
  bsz : base.objs.size ≤ s.heap.objs.size
  funs : s.heap.FunFrames base outer
  frf : ∀ b ∈ frs outer, H b = none
  hok : HOk P w H s.heap
  bare : AllBare s.gens
def CE (outer : List Env) (P : Program) (w : World) (H : Hp) (s : Shared) (Q : VK) (u : Value) (s' : Shared) : Prop :=
  ∃ v H', s'.os = s.os ∧ AllBare s'.gens ∧ Un (frs outer) [] H H' s.heap s'.heap ∧ HOk P w H' s'.heap ∧ RelV v u ∧ Q v H'
def CR (CX : CXT) (outer : List Env) (P : Program) (w : World) (H : Hp) (s : Shared) (Q : VK) (E : XK) (r : Result) (s' : Shared) : Prop :=
  match r with
  | .ok (.ret u) => CE outer P w H s Q u s'
  | .ok _ => False
  | .error e => CX outer H s E e s'
structure FnOk (P : Program) (w : World) (K : PySem.W.Frag) (mg : Str → Option Value) (base : Heap) (CX : CXT) (k : Nat) (f : Addr) (fd : FuncData) (ps : List Str) (sp : Sp) : Prop where
  len : ∀ vs H Q E, sp vs H Q E → vs.length = ps.length
  run : ∀ (A : Around) (outer : List Env) (s : Shared) (H : Hp) (args : Args) (us : List Value) (vs : List V) (Q : VK) (E : XK), Room k A → Env0 P w K mg base A outer s H → BindsTo s fd args (ps.zip us) → Vals vs us → sp vs H Q E →
    codeAny (model P w) A (.call (.ref f) args) (CR CX outer P w H s Q E) s
theorem FnOk.mono {P : Program} {w : World} {K : PySem.W.Frag} {mg : Str → Option Value} {base : Heap} {CX : CXT} {j k : Nat} {f : Addr} {fd : FuncData} {ps : List Str} {sp : Sp} (F : FnOk P w K mg base CX j f fd ps sp) (h : j ≤ k) :
    FnOk P w K mg base CX k f fd ps sp := ⟨F.len, fun A outer s H args us vs Q E hr => F.run A outer s H args us vs Q E (hr.mono h)⟩
theorem Env0.make {P : Program} {w : World} {K : PySem.W.Frag} {mg : Str → Option Value} {base : Heap} {A : Around} {outer : List Env} {s : Shared} {H : Hp} (e : Env0 P w K mg base A outer s H) (C : Addr) (us : List Value) (kw : List (Str × Value)) :
    Env0 P w K mg base (A.under (.builtin "type.__call__" ⟨.ref C :: us, kw⟩)) outer s H := ⟨by first | exact e.frames | (simpa [Around.under, Code.envs, Code.isFrame, pushEnvs] using e.frames), e.mod, e.bs, e.bsz, e.funs, e.frf, e.hok, e.bare⟩
theorem Env0.in1 {P : Program} {w : World} {K : PySem.W.Frag} {mg : Str → Option Value} {base : Heap} {A : Around} {outer : List Env} {s : Shared} {H : Hp} (e : Env0 P w K mg base A outer s H) :
    Env0 P w K mg base A.in1 outer s H := ⟨e.frames, e.mod, e.bs, e.bsz, e.funs, e.frf, e.hok, e.bare⟩
section
variable {X : Cx} {pins : List (Addr × Obj)} {σ : St} {H : Hp} {s s' : Shared}
theorem Inv.env0 (I : Inv X pins σ H s) : Env0 X.prog X.w X.K X.mg X.base X.A X.stack s H :=
  ⟨I.ok.frames, I.ok.mod, I.bs, Nat.le_trans I.ok.bsz I.sz, I.stack, I.stkFree, I.hok, I.bare⟩
theorem Inv.after {Q : VK} {u : Value} (I : Inv X pins σ H s) (h : CE X.stack X.prog X.w H s Q u s') : EP X pins σ Q u s' := by
  obtain ⟨v, H', os, bare, un, hok, r, q⟩ := h
  obtain ⟨hh, g, d, t, os'⟩ := s'
  obtain rfl : os' = s.os := os
  exact ⟨v, H', I.call (h' := hh) (g' := g) (d' := d) (t' := t) (ch := []) un hok bare (fun b z => absurd z (by simp)), r, q⟩
end
def tCall (sp : Sp) (dvs : List V) (E : XK) (t : TA) : TE := fun σ H Q => t σ H fun vs H1 => sp (vs ++ dvs) H1 Q E
def tMeth (C : Addr) (m : Str) (sp : Sp) (dvs : List V) (E : XK) (ta : TE) (t : TA) : TE := fun σ H Q => ta σ H fun x H1 => ∃ a dx fs, x = .ref a ∧ H1 a = some (.ins C dx fs) ∧ fs.lookup m = none ∧
  t σ H1 fun vs H2 => sp (x :: (vs ++ dvs)) H2 Q E
def tMake (C : Addr) (sp : Sp) (dvs : List V) (E : XK) (t : TA) : TE := fun σ H Q => t σ H fun vs H1 => ∀ x dx, H1 x = none → H1 dx = none → dx ≠ x →
  sp (.ref x :: (vs ++ dvs)) (upd (upd H1 dx (.own x)) x (.ins C dx [])) (fun v H2 => v = .non ∧ Q (.ref x) H2) E
def Binds (K : PySem.W.Frag) (fd : FuncData) (ps : List Str) (ds : List Value) : Prop :=
  ∀ (s : Shared) (us : List Value), K.In s.heap → (us ++ ds).length = ps.length → BindsTo s fd ⟨us, []⟩ (ps.zip (us ++ ds))
theorem Binds.all {K : PySem.W.Frag} {fd : FuncData} {ps : List Str} (h : ∀ us : List Value, us.length = ps.length → bindArgs fd ⟨us, []⟩ = pure (ps.zip us)) : Binds K fd ps [] := fun s us _ hl => by
  rw [List.append_nil] at hl ⊢
  exact .of_eq (h us hl)
def Passes (CX : CXT) (X : Cx) (E : XK) : Prop := ∀ (pins : List (Addr × Obj)) (σ : St) (H : Hp) (s : Shared) (e : Value) (s' : Shared), Inv X pins σ H s → CX X.stack H s E e s' → X.xe e s'
section
variable {X : Cx} {CX : CXT} {k : Nat} {f C : Addr} {fd : FuncData} {ps : List Str} {sp : Sp} {dvs : List V} {ds : List Value} {E : XK} {x m : Str} {p pos apos : Pos} {e o : Expr} {es : List Expr} {ta : TE} {t : TA}
theorem run_fn {pins : List (Addr × Obj)} {σ : St} {H : Hp} {s : Shared} {Q : VK} {us : List Value} {vs : List V} (F : FnOk X.prog X.w X.K X.mg X.base CX k f fd ps sp) (hr : Room k X.A) (hb : Binds X.K fd ps ds) (hd : Vals dvs ds) (hx : Passes CX X E)
    (I : Inv X pins σ H s) (r : Vals vs us) (h : sp (vs ++ dvs) H Q E) : wpAny (model X.prog X.w) X.A (call (.ref f) us) (EP X pins σ Q) X.xe s := by
  have r2 : Vals (vs ++ dvs) (us ++ ds) := r.append hd
  have hl : (us ++ ds).length = ps.length := by rw [← r2.length]; exact F.len _ _ _ _ h
  refine wpAny_call (codeAny_mono (F.run X.A X.stack s H ⟨us, []⟩ (us ++ ds) (vs ++ dvs) Q E hr I.env0 (hb s us I.kIn hl) r2 h) fun r s' hq => ?_)
  cases r with
  | error e => exact hx pins σ H s e s' I hq
  | ok fl =>
    cases fl with
    | ret u => exact I.after hq
    | next => exact False.elim hq
    | brk => exact False.elim hq
    | cont => exact False.elim hq
theorem pe_call (F : FnOk X.prog X.w X.K X.mg X.base CX k f fd ps sp) (hr : Room k X.A) (hg : Gl X x) (hm : X.mg x = some (.ref f)) (hk : PySem.W.keepIn X.K (.ref f) = true) (hb : Binds X.K fd ps ds) (hd : Vals dvs ds) (hx : Passes CX X E)
    (ha : PA X (e :: es) t) (hdb : (x == ("__debug__" : Str)) = false := by decide) (he : starEach (e :: es) X.env = (false, eval e X.env) :: starEach es X.env := by rfl) (hpl : (backTo pos (starEach es X.env)).any (·.1) = false := by rfl) :
    PE X (.Call (.Name x p) (e :: es) [] pos) (tCall sp dvs E t) := by
  intro pins s σ H Q I h
  refine wpAny_Call_Name_kw (ld_glob I hg hm ?_ hdb)
  refine PySem.W.callWith_K (h₀ := X.base) I.ok.mod.kin hk (thn (ha pos pins s σ H _ I h) fun us s1 ⟨vs, H1, I1, r, q⟩ => ⟨I1.kIn, ?_⟩) he hpl
  exact run_fn F hr hb hd hx I1 r q
theorem pe_meth {pl : Sem Bool} (he : PE X o ta) (c : Cls X.K C) (hm : Meth X.K C m f) (F : FnOk X.prog X.w X.K X.mg X.base CX k f fd ps sp) (hr : Room k X.A) (hb : Binds X.K fd ps ds) (hd : Vals dvs ds) (hx : Passes CX X E) (ha : PA X (e :: es) t)
    (hst : starEach (e :: es) X.env = (false, eval e X.env) :: starEach es X.env := by rfl) (hpl : (backTo pos (starEach es X.env)).any (·.1) = false := by rfl)
    (ht : eval (.Call (.Attribute o m apos) (e :: es) [] pos) X.env = (do
      let ov ← eval o X.env
      standAt apos.atName
      let (f, first) ← holding [ov] (getMethod ov m pl)
      callWith pos f first (backTo pos (starEach (e :: es) X.env)) (backToKw pos (keywordEach [] X.env))) := by rfl) :
    PE X (.Call (.Attribute o m apos) (e :: es) [] pos) (tMeth C m sp dvs E ta t) := by
  intro pins s σ H Q I h
  refine PySem.W.methodCall_KW (pl := pl) (thn (he pins s σ H _ I h) fun u s1 ⟨x, H1, I1, rx, a, dx, fs, ex, ea, l, q⟩ => ?_) ht
  subst ex
  obtain rfl : u = Value.ref a := rx
  refine getmeth_ok I1 ea c hm l ?_
  refine PySem.W.callWith_K (first := [.ref a]) (h₀ := X.base) I.ok.mod.kin hm.kp (thn (ha pos pins s1 σ H1 _ I1 q) fun us s2 ⟨vs, H2, I2, r, q2⟩ => ⟨I2.kIn, ?_⟩) hst hpl
  exact run_fn (us := .ref a :: us) (vs := .ref a :: vs) F hr hb hd hx I2 (.cons rfl r) q2
structure Mk (K : PySem.W.Frag) (C f : Addr) : Prop where
  makes : PySem.W.makesIn K C = true
  init : PySem.W.findIn K (.ref C) "__init__" = some (some (.ref f))
  fn : PySem.W.isFn K (.ref f) = true
  kp : PySem.W.keepIn K (.ref C) = true
theorem run_make {pins : List (Addr × Obj)} {σ : St} {H : Hp} {s : Shared} {Q : VK} {us : List Value} {vs : List V} (M : Mk X.K C f) (F : FnOk X.prog X.w X.K X.mg X.base CX k f fd ps sp) (hr : Room (k + 1) X.A) (hb : Binds X.K fd ps ds) (hd : Vals dvs ds)
    (hx : Passes CX X E) (I : Inv X pins σ H s) (r : Vals vs us)
    (h : ∀ x dx, H x = none → H dx = none → dx ≠ x → sp (.ref x :: (vs ++ dvs)) (upd (upd H dx (.own x)) x (.ins C dx [])) (fun v H2 => v = .non ∧ Q (.ref x) H2) E) :
    wpAny (model X.prog X.w) X.A (call (.ref C) us) (EP X pins σ Q) X.xe s := by
  have hq := h (s.heap.objs.size + 1) s.heap.objs.size (I.hok.fresh (Nat.le_succ _)) (I.hok.fresh (Nat.le_refl _)) (Nat.ne_of_lt (Nat.lt_succ_self _))
  have I2 := Inv.made (C := C) I
  have r2 : Vals (V.ref (s.heap.objs.size + 1) :: (vs ++ dvs)) (Value.ref (s.heap.objs.size + 1) :: (us ++ ds)) := .cons rfl (r.append hd)
  have hl : (Value.ref (s.heap.objs.size + 1) :: us ++ ds).length = ps.length := by
    have e := r2.length
    rw [F.len _ _ _ _ hq] at e
    exact e.symm
  refine wpAny_call (make_map (f := f) I.kIn M.makes M.init (beq_iff_eq.mp M.fn) (codeAny_mono (F.run _ X.stack _ _ ⟨Value.ref (s.heap.objs.size + 1) :: us, []⟩ (Value.ref (s.heap.objs.size + 1) :: (us ++ ds)) _ _ E (hr.make C us [])
    (I2.env0.make C us []) (hb _ (Value.ref (s.heap.objs.size + 1) :: us) I2.kIn hl) r2 hq) fun r s' hq' => ?_))
  cases r with
  | error e => exact hx pins σ _ _ e s' I2 hq'
  | ok fl =>
    cases fl with
    | ret u =>
      obtain ⟨v, H', I3, rv, ev, q3⟩ := I2.after hq'
      subst ev
      exact ⟨rv, ⟨V.ref (s.heap.objs.size + 1), H', I3, rfl, q3⟩⟩
    | next => exact False.elim hq'
    | brk => exact False.elim hq'
    | cont => exact False.elim hq'
theorem pe_make (M : Mk X.K C f) (F : FnOk X.prog X.w X.K X.mg X.base CX k f fd ps sp) (hr : Room (k + 1) X.A) (hg : Gl X x) (hm : X.mg x = some (.ref C)) (hb : Binds X.K fd ps ds) (hd : Vals dvs ds) (hx : Passes CX X E)
    (ha : PA X (e :: es) t) (hdb : (x == ("__debug__" : Str)) = false := by decide) (he : starEach (e :: es) X.env = (false, eval e X.env) :: starEach es X.env := by rfl) (hpl : (backTo pos (starEach es X.env)).any (·.1) = false := by rfl) :
    PE X (.Call (.Name x p) (e :: es) [] pos) (tMake C sp dvs E t) := by
  intro pins s σ H Q I h
  refine wpAny_Call_Name_kw (ld_glob I hg hm ?_ hdb)
  refine PySem.W.callWith_K (h₀ := X.base) I.ok.mod.kin M.kp (thn (ha pos pins s σ H _ I h) fun us s1 ⟨vs, H1, I1, r, q⟩ => ⟨I1.kIn, ?_⟩) he hpl
  exact run_make M F hr hb hd hx I1 r q
end
def PK (X : Cx) (kws : List Keyword) (t : TA) : Prop :=
  ∀ (pos : Pos) (pins : List (Addr × Obj)) (s : Shared) (σ : St) (H : Hp) (Q : List V → Hp → Prop), Inv X pins σ H s → t σ H Q → wpAny (model X.prog X.w) X.A (evalAll ((backToKw pos (keywordEach kws X.env)).map (·.2))) (AP X pins σ Q) X.xe s
section
variable {X : Cx} {CX : CXT} {k : Nat} {f C : Addr} {fd : FuncData} {ps ks : List Str} {sp : Sp} {E : XK} {x m : Str} {p pos apos kpos : Pos} {e o : Expr} {es : List Expr} {kws : List Keyword} {te ta : TE} {t tk : TA} {nm : Option Str}
structure KBinds (K : PySem.W.Frag) (fd : FuncData) (ps ks : List Str) (g : List Value → List Value → List Value) (gV : List V → List V → List V) : Prop where
  to : ∀ (s : Shared) (us ws : List Value), K.In s.heap → (g us ws).length = ps.length → BindsTo s fd ⟨us, ks.zip ws⟩ (ps.zip (g us ws))
  rel : ∀ {vs : List V} {us : List Value} {zs : List V} {ws : List Value}, Vals vs us → Vals zs ws → Vals (gV vs zs) (g us ws)
def tCallK (sp : Sp) (gV : List V → List V → List V) (E : XK) (t tk : TA) : TE := fun σ H Q => t σ H fun vs H1 => tk σ H1 fun zs H2 => sp (gV vs zs) H2 Q E
variable {g : List Value → List Value → List Value} {gV : List V → List V → List V}
end
structure FnScope (N P : List Str) (sc : Scope) : Prop where
  kind : sc.kind = .function
  co : sc.isCoroutine = false
  gen : sc.isGenerator = false
  nd : N.Nodup
  pre : N.take P.length = P
  par : ∀ x ∈ P, sc.names.lookup x = some .local ∨ sc.names.lookup x = some .cell
  nofree : ∀ y ∈ sc.names, y.2 ≠ .free
theorem bindL_out {kindOf : Str → Option NameKind} {x : Str} : ∀ {binds : List (Str × Value)} {m : Str → Option Value}, (∀ v, (x, v) ∉ binds) → bindL kindOf binds m x = m x
  | [], _, _ => rfl
  | (n, v) :: r, m, h => by
    unfold bindL
    rw [bindL_out fun w hw => h w (List.mem_cons_of_mem _ hw)]
    split
    · have : x ≠ n := by rintro rfl; exact h v List.mem_cons_self
      simp [this]
    · rfl
theorem bindC_out {kindOf : Str → Option NameKind} {x : Str} : ∀ {binds : List (Str × Value)} {m : Str → Option Value}, (∀ v, (x, v) ∉ binds) → bindC kindOf binds m x = m x
  | [], _, _ => rfl
  | (n, v) :: r, m, h => by
    unfold bindC
    rw [bindC_out fun w hw => h w (List.mem_cons_of_mem _ hw)]
    split
    · rfl
    · have : x ≠ n := by rintro rfl; exact h v List.mem_cons_self
      simp [this]
theorem bindL_get {kindOf : Str → Option NameKind} {x : Str} {v : Value} : ∀ {P : List Str} {vs : List Value} {i : Nat} {m : Str → Option Value}, P.Nodup → P[i]? = some x → vs[i]? = some v → kindOf x = some .local →
    bindL kindOf (P.zip vs) m x = some v
  | [], _, _, _, _, h, _, _ => by simp at h
  | _ :: _, [], _, _, _, _, h, _ => by simp at h
  | p :: P, w :: vs, 0, m, nd, h1, h2, hk => by
    simp at h1 h2; subst h1; subst h2
    show bindL kindOf ((p, w) :: P.zip vs) m p = _
    unfold bindL
    rw [bindL_out fun v hv => (List.nodup_cons.mp nd).1 (List.of_mem_zip hv).1, if_pos hk]
    simp
  | p :: P, w :: vs, i + 1, m, nd, h1, h2, hk => by
    show bindL kindOf ((p, w) :: P.zip vs) m x = _
    unfold bindL
    exact bindL_get (i := i) (List.nodup_cons.mp nd).2 (by simpa using h1) (by simpa using h2) hk
theorem bindC_get {kindOf : Str → Option NameKind} {x : Str} {v : Value} : ∀ {P : List Str} {vs : List Value} {i : Nat} {m : Str → Option Value}, P.Nodup → P[i]? = some x → vs[i]? = some v → kindOf x ≠ some .local →
    bindC kindOf (P.zip vs) m x = some v
  | [], _, _, _, _, h, _, _ => by simp at h
  | _ :: _, [], _, _, _, _, h, _ => by simp at h
  | p :: P, w :: vs, 0, m, nd, h1, h2, hk => by
    simp at h1 h2; subst h1; subst h2
    show bindC kindOf ((p, w) :: P.zip vs) m p = _
    unfold bindC
    rw [bindC_out fun v hv => (List.nodup_cons.mp nd).1 (List.of_mem_zip hv).1, if_neg hk]
    simp
  | p :: P, w :: vs, i + 1, m, nd, h1, h2, hk => by
    show bindC kindOf ((p, w) :: P.zip vs) m x = _
    unfold bindC
    exact bindC_get (i := i) (List.nodup_cons.mp nd).2 (by simpa using h1) (by simpa using h2) hk
def start (N : List Str) (vs : List V) : St := vs.map some ++ List.replicate (N.length - vs.length) none
def cxOf (CX : CXT) (P : Program) (w : World) (K : PySem.W.Frag) (mg : Str → Option Value) (base : Heap) (N : List Str) (qual : Str) (scope : Scope) (f : Addr) (cd : Value) (A : Around) (outer : List Env) (s : Shared) (H : Hp) (E : XK) : Cx where
  prog := P
  w := w
  K := K
  mg := mg
  base := base
  A := A.deeper (envOfC qual scope s.heap.objs.size f cd)
  N := N
  s₀ := s
  H₀ := H
  env := envOfC qual scope s.heap.objs.size f cd
  outer := outer
  stack := envOfC qual scope s.heap.objs.size f cd :: outer
  ex := []
  calm := true
  fn := fun _ => true
  pn := []
  xe := fun e s' => wpAny (model P w) (A.deeper (envOfC qual scope s.heap.objs.size f cd)) (leaving (envOfC qual scope s.heap.objs.size f cd) e) (fun _ s'' => CX outer H s E e s'') (fun e' s'' => CX outer H s E e' s'') s'
theorem cell_has {sc : Scope} {n : Nat} {x : Str} (h : sc.names.lookup x = some .cell) : ∃ c, (cellsFrom n sc.names []).lookup x = some c := by
  have q := PySem.W.cellsFrom_some sc.names n [] (.inl h)
  exact Option.isSome_iff_exists.mp q
theorem inv_start {CX : CXT} {P : Program} {w : World} {K : PySem.W.Frag} {mg : Str → Option Value} {base : Heap} {N ps : List Str} {qual : Str} {scope : Scope} {f : Addr} {cd : Value} {A : Around} {outer : List Env} {s s1 : Shared} {H : Hp} {E : XK} {us : List Value} {vs : List V}
    (S : FnScope N ps scope) (hd : A.handled = none) (e0 : Env0 P w K mg base A outer s H) (hl : vs.length = ps.length) (r : Vals vs us)
    (x : InCallC s s.heap.objs.size (bindL (envOfC qual scope s.heap.objs.size f cd).kindOf (ps.zip us) fun _ => none) (cellsFrom (s.heap.objs.size + 1) scope.names []) (bindC (envOfC qual scope s.heap.objs.size f cd).kindOf (ps.zip us) fun _ => none) s1) :
    Inv (cxOf CX P w K mg base N qual scope f cd A outer s H E) [] (start N vs) H s1 := by
  have hpl : ps.length ≤ N.length := by have := congrArg List.length S.pre; rw [List.length_take] at this; omega
  obtain ⟨h1, tk, rfl, hk⟩ := x.done
  have noA : ∀ b : Addr, b ∉ (cxOf CX P w K mg base N qual scope f cd A outer s H E).ex := fun b z => absurd (show b ∈ ([] : List Addr) from z) (by simp)
  refine ⟨⟨e0.mod, S.kind, rfl, rfl, Nat.le_refl _, fun y z c h1 h2 => ?_, fun y hy => ?_, fun y c _ h => ?_, fun _ => hd, Around.frames_deeper e0.frames, .inr ⟨rfl, rfl⟩, fun b z => absurd z (noA b), e0.bs, e0.bsz, fun b _ _ => noA b, fun b z => absurd z (noA b), e0.funs, e0.frf⟩,
    rfl, e0.bare, Un.kept hk, ⟨_, x.toInCall.ns, fun i y v h1 h2 h3 => ?_⟩, fun y c h => ⟨_, x.cell y c h⟩, e0.hok.fresh (Nat.le_refl _), fun y c h => ?_, fun p hp => absurd (show p ∈ ([] : List (Addr × Obj)) from hp) (by simp), e0.hok.kept hk, ?_⟩
  · exact name_of_addr x.apart (PySem.mem_of_lookup h1) (PySem.mem_of_lookup h2)
  · have hy : scope.names.lookup y = some .cell ∨ scope.names.lookup y = some .free := hy
    rcases hy with hy | hy
    · exact cell_has hy
    · exact absurd rfl (S.nofree _ (PySem.mem_of_lookup hy))
  · exact Nat.le_of_lt (x.above y c (PySem.mem_of_lookup h))
  · have hi : i < vs.length := by
      unfold start at h2
      by_cases hi : i < vs.length
      · exact hi
      · rw [List.getElem?_append_right (by simpa using hi)] at h2
        rw [List.getElem?_replicate] at h2
        split at h2 <;> cases h2
    have ha : vs[i]? = some v := by
      unfold start at h2
      rw [List.getElem?_append_left (by simpa using hi), List.getElem?_map] at h2
      cases e : vs[i]? with
      | none => rw [e] at h2; cases h2
      | some a => rw [e] at h2; cases h2; rfl
    obtain ⟨u, hu, rv⟩ := r.get ha
    have hp : ps[i]? = some y := by
      rw [← S.pre, List.getElem?_take_of_lt (by omega)]; exact h1
    have ndP : ps.Nodup := by rw [← S.pre]; exact S.nd.sublist (List.take_sublist _ _)
    refine ⟨u, rv, ?_⟩
    rcases S.par y (List.mem_of_getElem? hp) with k | k
    · exact .inl ⟨k, bindL_get ndP hp hu k⟩
    · obtain ⟨c, e⟩ := cell_has (n := s.heap.objs.size + 1) k
      refine .inr ⟨.inl k, c, e, ?_⟩
      have q := x.cell y c e
      rw [bindC_get ndP hp hu (by show scope.names.lookup y ≠ _; rw [k]; decide)] at q
      exact q
  · exact e0.hok.fresh (Nat.le_of_lt (x.above y c (PySem.mem_of_lookup h)))
  · unfold start
    show _ = N.length
    rw [List.length_append, List.length_map, List.length_replicate]
    omega
theorem fn_of {CX : CXT} {P : Program} {w : World} {K : PySem.W.Frag} {mg : Str → Option Value} {base : Heap} {k : Nat} {f : Addr} {name qual : Str} {params : Arguments} {body : List Stmt} {scope : Scope} {dV kV doc pm cdv ct oc : Value} {an od : Option Addr}
    {osl : Array (Option Value)} {N ps : List Str} {sp : Sp} (lk : K.lookup f = some ⟨oc, od, .func (PySem.W.fnOf name qual params body scope dV kV doc pm an cdv ct), osl⟩) (hcd : PySem.W.codeIn K cdv qual = true) (S : FnScope N ps scope)
    (len : ∀ vs H Q E, sp vs H Q E → vs.length = ps.length)
    (hbody : ∀ (A : Around) (outer : List Env) (s : Shared) (H : Hp) (vs : List V) (Q : VK) (E : XK), Room k (A.deeper (envOfC qual scope s.heap.objs.size f cdv)) → sp vs H Q E →
      ∃ t, PSs (cxOf CX P w K mg base N qual scope f cdv A outer s H E) body t ∧ t { nx := fun _ H' => Q .non H', rt := Q } (start N vs) H) :
    FnOk P w K mg base CX (k + 1) f (PySem.W.fnOf name qual params body scope dV kV doc pm an cdv ct) ps sp := by
  refine ⟨len, fun A outer s H args us vs Q E hr e0 hb r hsp => ?_⟩
  have hl := len _ _ _ _ hsp
  have KX : K.In s.heap := e0.mod.kin.keeps fun b o e => (e0.bs b o e).1
  have lim : s.heap.NoLimit := e0.mod.nolimit.keeps fun b o e => (e0.bs b o e).1
  have hkind : ∀ y ∈ ps.zip us, scope.names.lookup y.1 = some .local ∨ (scope.names.lookup y.1 = some .cell ∧ ((cellsFrom (s.heap.objs.size + 1) scope.names []).lookup y.1).isSome = true) := fun ⟨n, v⟩ hy => by
    rcases S.par n (List.of_mem_zip hy).1 with q | q
    · exact .inl q
    · exact .inr ⟨q, PySem.W.cellsFrom_some _ _ _ (.inl q)⟩
  refine codeAny_call_function hr.depth (KX _ _ lk) rfl S.co S.gen rfl (PySem.W.codeRec_of KX hcd) (hb _ _ _ _ ?_)
  refine wpAny_newFunctionEnv_cells S.kind hkind fun env he s1 x => ?_
  subst he
  refine ⟨lim.keeps x.toInCall.keep, codeAny_func ?_⟩
  obtain ⟨t, ht, hq⟩ := hbody A outer s H vs Q E (hr.deeper _) hsp
  have I : Inv (cxOf CX P w K mg base N qual scope f cdv A outer s H E) [] (start N vs) H s1 := inv_start S hr.hd e0 hl r x
  refine wpAny_mono (ht [] s1 (start N vs) H _ I hq) (fun fl s' hs => ?_) fun e s' hs => hs
  have fin : ∀ {σ' : St} {H' : Hp} {v : V} {u : Value}, Inv (cxOf CX P w K mg base N qual scope f cdv A outer s H E) [] σ' H' s' → RelV v u → Q v H' → CE outer P w H s Q u s' :=
    fun {σ' H' v u} J rv q => ⟨v, H', J.os, J.bare, J.base, J.hok, rv, q⟩
  cases fl with
  | ret u =>
    obtain ⟨v, σ', H', J, rv, q⟩ := hs
    exact fin J rv q
  | next =>
    obtain ⟨σ', H', J, q⟩ := hs
    exact fin (v := V.non) (u := Value.none) J rfl q
  | brk =>
    obtain ⟨_, _, _, q⟩ := hs
    exact False.elim q
  | cont =>
    obtain ⟨_, _, _, q⟩ := hs
    exact False.elim q
end L2
namespace L2
open PySem PySem.Spec PyProof.Rows
section
variable {X : Cx} {x : Str} {p pos : Pos} {e : Expr} {es : List Expr} {t : TA} {id T : String} {r : List V → Hp → VK → Prop}
def tCB (r : List V → Hp → VK → Prop) (t : TA) : TE := fun σ H Q => t σ H fun vs H1 => r vs H1 Q
theorem pe_callB (hc : CallR X (.builtin id) r) (hg : Gl X x) (hm : X.mg x = none) (hv : bootBuiltins x = some (.builtin id)) (ha : PA X (e :: es) t) (hn : x ≠ "__name__" := by decide) (hdb : (x == ("__debug__" : Str)) = false := by decide)
    (he : starEach (e :: es) X.env = (false, eval e X.env) :: starEach es X.env := by rfl) (hpl : (backTo pos (starEach es X.env)).any (·.1) = false := by rfl) : PE X (.Call (.Name x p) (e :: es) [] pos) (tCB r t) := by
  intro pins s σ H Q I h
  refine wpAny_Call_Name_kw (ld_blt I hg hm hv ?_ hn hdb)
  exact PyProof.Rows.callWith_builtin1 (thn (ha pos pins s σ H _ I h) fun us s1 ⟨vs, H1, I1, r1, q1⟩ => hc pins s1 σ H1 vs us Q I1 r1 q1) he hpl
theorem pe_callTy (hc : CallR X (.type T) r) (hg : Gl X x) (hm : X.mg x = none) (hv : bootBuiltins x = some (.type T)) (ha : PA X (e :: es) t) (hn : x ≠ "__name__" := by decide) (hdb : (x == ("__debug__" : Str)) = false := by decide)
    (he : starEach (e :: es) X.env = (false, eval e X.env) :: starEach es X.env := by rfl) (hpl : (backTo pos (starEach es X.env)).any (·.1) = false := by rfl) : PE X (.Call (.Name x p) (e :: es) [] pos) (tCB r t) := by
  intro pins s σ H Q I h
  refine wpAny_Call_Name_kw (ld_blt I hg hm hv ?_ hn hdb)
  exact PyProof.Rows.callWith_type1 (thn (ha pos pins s σ H _ I h) fun us s1 ⟨vs, H1, I1, r1, q1⟩ => hc pins s1 σ H1 vs us Q I1 r1 q1) he hpl
end
end L2
namespace HT
open PySem PyProof.Rows
def lexLt : List Int → List Int → Bool
  | [], [] => false
  | [], _ :: _ => true
  | _ :: _, [] => false
  | x :: xs, y :: ys => if x = y then lexLt xs ys else decide (x < y)
section
open PySem.SeqAt
open PySem.AutoSeq1 (wpAny_loadPart')
open PySem.MeetsSeq PySem.MeetsSeq2 PySem.MeetsSeq3
end
section
variable {prog : Program} {w : World} {A : Around} {E : Value → Shared → Prop} {s : Shared}
def sIx (n d : Nat) : Option Int → Nat
  | none => d
  | some v => if v < 0 then (v + (n : Int)).toNat else min v.toNat n
end
end HT
namespace L2
open PySem PySem.Spec PyProof.Rows
abbrev TO := St → Hp → (Option Int → Hp → Prop) → Prop
def PO (X : Cx) (e : Option Expr) (t : TO) : Prop :=
  ∀ (pins : List (Addr × Obj)) (s : Shared) (σ : St) (H : Hp) (Q : Option Int → Hp → Prop), Inv X pins σ H s → t σ H Q →
    wpAny (model X.prog X.w) X.A (evalPart e X.env) (fun u s' => ∃ o H', Inv X pins σ H' s' ∧ IsPart u o ∧ Q o H') X.xe s
def tNoPart : TO := fun _ H Q => Q none H
def tPart (t : TE) : TO := fun σ H Q => t σ H fun x H1 => ∃ i, x = .int i ∧ Q (some i) H1
section
variable {X : Cx} {e : Expr} {te : TE} {lo hi : Option Expr} {tl th : TO} {pos p2 : Pos}
theorem po_none : PO X none tNoPart := by
  intro pins s σ H Q I h
  rw [evalPart_none]
  exact wpAny_pure ⟨none, H, I, .none, h⟩
theorem po_some (h : PE X e te) : PO X (some e) (tPart te) := by
  intro pins s σ H Q I hw
  rw [evalPart_some]
  refine thn (h pins s σ H _ I hw) fun u s1 ⟨x, H1, I1, r1, q1⟩ => ?_
  obtain ⟨i, rfl, q⟩ := q1
  obtain ⟨t, rfl⟩ := r1
  exact ⟨some i, H1, I1, .int i t, q⟩
def SlR (X : Cx) (r : V → Option Int → Option Int → Hp → VK → Prop) : Prop :=
  ∀ (pins : List (Addr × Obj)) (s : Shared) (σ : St) (H : Hp) (x : V) (v vl vu : Value) (lo hi : Option Int) (sl : Addr) (Q : VK), Inv X pins σ H s → RelV x v → s.heap.IsSliceOf sl vl vu .none → IsPart vl lo → IsPart vu hi → r x lo hi H Q →
    ∃ T id, typeLookup (.type T) "__getitem__" = pure (some (.builtin id)) ∧ s.TypeIs v T ∧ wpAny (model X.prog X.w) X.A (getItem v (.ref sl)) (EP X pins σ Q) X.xe s
theorem SlR.or {r r' : V → Option Int → Option Int → Hp → VK → Prop} (h : SlR X r) (h' : SlR X r') : SlR X (fun x lo hi H Q => r x lo hi H Q ∨ r' x lo hi H Q) := by
  intro pins s σ H x v vl vu lo hi sl Q I rx hs pl pu q
  rcases q with q | q
  · exact h pins s σ H x v vl vu lo hi sl Q I rx hs pl pu q
  · exact h' pins s σ H x v vl vu lo hi sl Q I rx hs pl pu q
def tSl (r : V → Option Int → Option Int → Hp → VK → Prop) (te : TE) (tl th : TO) : TE := fun σ H Q => te σ H fun x H1 => tl σ H1 fun l H2 => th σ H2 fun u H3 => r x l u H3 Q
theorem pe_slice {r : V → Option Int → Option Int → Hp → VK → Prop} (hr : SlR X r) (he : PE X e te) (hl : PO X lo tl) (hu : PO X hi th) : PE X (.Subscript e (.Slice lo hi none p2) pos) (tSl r te tl th) := by
  intro pins s σ H Q I h
  refine Subscript_ (thn (he pins s σ H _ I h) fun v s1 ⟨x, H1, I1, r1, q1⟩ => ?_)
  refine wpAny_Slice (thn (hl pins s1 σ H1 _ I1 q1) fun vl s2 ⟨l, H2, I2, pl, q2⟩ => thn (hu pins s2 σ H2 _ I2 q2) fun vu s3 ⟨u, H3, I3, pu, q3⟩ => ?_)
  rw [evalPart_none]
  refine wpAny_pure ?_
  have I4 : Inv X pins σ H3 { s3 with heap := s3.heap.push { cls := .type "slice", data := .fields #[vl, vu, .none] } } := I3.kept (t' := s3.toks) fun b ob q => Heap.get?_push_of_some _ q
  obtain ⟨T, id, hT, ht, hg⟩ := hr pins { s3 with heap := s3.heap.push { cls := .type "slice", data := .fields #[vl, vu, .none] } } σ H3 x v vl vu l u s3.heap.objs.size Q I4 r1 (Heap.IsSliceOf.new ..) pl pu q3
  show wpAny (model X.prog X.w) X.A (subscriptTail e (.Slice lo hi none p2) v (.ref s3.heap.objs.size)) (EP X pins σ Q) X.xe { s3 with heap := s3.heap.push { cls := .type "slice", data := .fields #[vl, vu, .none] } }
  exact tail_any (ops := [.ref s3.heap.objs.size, v]) ht hT hg (by with_unfolding_all rfl)
def cutV (xs : List V) (lo hi : Option Int) : List V := (xs.drop (HT.sIx xs.length 0 lo)).take (HT.sIx xs.length xs.length hi - HT.sIx xs.length 0 lo)
theorem cutV_length (xs : List V) (lo hi : Option Int) : (cutV xs lo hi).length ≤ xs.length := by
  unfold cutV
  rw [List.length_take, List.length_drop]
  omega
def rSlT (K : PySem.W.Frag) : V → Option Int → Option Int → Hp → VK → Prop := fun x lo hi H Q => ∃ a xs, x = .ref a ∧ SqT K H a xs ∧
  ¬ (HT.sIx xs.length 0 lo = 0 ∧ HT.sIx xs.length xs.length hi = xs.length) ∧ ∀ p, H p = none → Q (.ref p) (upd H p (.tup (cutV xs lo hi)))
def rLtT (K : PySem.W.Frag) : R2 := fun x y H Q => ∃ a b ns ms, x = .ref a ∧ y = .ref b ∧ SqT K H a (ns.map V.int) ∧ SqT K H b (ms.map V.int) ∧ Q (.bl (HT.lexLt ns ms)) H
def rCatT (K : PySem.W.Frag) : R2 := fun x y H Q => ∃ a b xs ys, x = .ref a ∧ y = .ref b ∧ SqT K H a xs ∧ SqT K H b ys ∧ xs ≠ [] ∧ xs.length + ys.length ≤ sizeLine ∧
  (ys = [] → Q (.ref a) H) ∧ (ys ≠ [] → ∀ p, H p = none → Q (.ref p) (upd H p (.tup (xs ++ ys))))
end
end L2
namespace L2
open PySem PySem.Spec PyProof.Rows
def ixN (n : Nat) (i : Int) : Option Nat := if 0 ≤ i then (if i < n then some i.toNat else none) else if -(n : Int) ≤ i then some (i + n).toNat else none
def atI {α : Type} (xs : List α) (i : Int) : Option α := (ixN xs.length i).bind fun j => xs[j]?
theorem ixN_seq {n : Nat} {i : Int} {j : Nat} (h : ixN n i = some j) : seqIndex? i n = some j ∧ j < n ∧ -(n : Int) ≤ i ∧ i < n := by
  unfold ixN at h
  by_cases h0 : 0 ≤ i
  · rw [if_pos h0] at h
    by_cases h1 : i < n
    · rw [if_pos h1] at h
      have e : i.toNat = j := Option.some.inj h
      exact ⟨by rw [seqIndex_of h0 h1, e], by omega, by omega, h1⟩
    · rw [if_neg h1] at h; cases h
  · rw [if_neg h0] at h
    by_cases h1 : -(n : Int) ≤ i
    · rw [if_pos h1] at h
      have e : (i + n).toNat = j := Option.some.inj h
      exact ⟨by rw [seqIndex_neg (by omega) h1, e], by omega, h1, by omega⟩
    · rw [if_neg h1] at h; cases h
theorem atI_get {α : Type} {xs : List α} {i : Int} {v : α} (h : atI xs i = some v) : ∃ j, seqIndex? i xs.length = some j ∧ xs[j]? = some v ∧ j < xs.length ∧ -(xs.length : Int) ≤ i ∧ i < xs.length := by
  unfold atI at h
  cases e : ixN xs.length i with
  | none => rw [e] at h; cases h
  | some j =>
    rw [e] at h
    obtain ⟨h1, h2, h3, h4⟩ := ixN_seq e
    exact ⟨j, h1, h, h2, h3, h4⟩
theorem atI_nat {α : Type} {xs : List α} {j : Nat} {v : α} (h : xs[j]? = some v) : atI xs (j : Int) = some v := by
  have hj : j < xs.length := (List.getElem?_eq_some_iff.mp h).1
  have e : ixN xs.length (j : Int) = some j := by
    unfold ixN
    rw [if_pos (by omega), if_pos (by omega)]; simp
  unfold atI; rw [e]; exact h
def PlainIx (b : Expr) : Prop := ∀ o i, subscripted b false o i = operate [o, i] (getItem o i)
def IxR (X : Cx) (r : R2) : Prop :=
  ∀ (value slice : Expr) (pins : List (Addr × Obj)) (s : Shared) (σ : St) (H : Hp) (x y : V) (v u : Value) (Q : VK), Inv X pins σ H s → RelV x v → RelV y u → r x y H Q →
    subscripted slice false v u = operate [v, u] (getItem v u) → wpAny (model X.prog X.w) X.A (subscriptTail value slice v u) (EP X pins σ Q) X.xe s
def MtR (X : Cx) (id : String) (r : V → List V → Hp → VK → Prop) : Prop :=
  ∀ (pins : List (Addr × Obj)) (s : Shared) (σ : St) (H : Hp) (x : V) (xs : List V) (v : Value) (us : List Value) (Q : VK), Inv X pins σ H s → RelV x v → Vals xs us → r x xs H Q →
    wpAny (model X.prog X.w) X.A (call (.builtin id) (v :: us)) (EP X pins σ Q) X.xe s
section
variable {X : Cx} {a b : Expr} {ta tb : TE} {pos : Pos}
theorem IxR.or {r r' : R2} (h : IxR X r) (h' : IxR X r') : IxR X (fun x y H Q => r x y H Q ∨ r' x y H Q) := by
  intro value slice pins s σ H x y v u Q I rx ry q hs
  rcases q with q | q
  · exact h value slice pins s σ H x y v u Q I rx ry q hs
  · exact h' value slice pins s σ H x y v u Q I rx ry q hs
theorem MtR.or {id : String} {r r' : V → List V → Hp → VK → Prop} (h : MtR X id r) (h' : MtR X id r') : MtR X id (fun x xs H Q => r x xs H Q ∨ r' x xs H Q) := by
  intro pins s σ H x xs v us Q I rx rs q
  rcases q with q | q
  · exact h pins s σ H x xs v us Q I rx rs q
  · exact h' pins s σ H x xs v us Q I rx rs q
theorem pe_ix {r : R2} (hr : IxR X r) (ha : PE X a ta) (hb : PE X b tb) (hs : PlainIx b) : PE X (.Subscript a b pos) (tOp r ta tb) := by
  intro pins s σ H Q I h
  exact Subscript_ (binT ha hb I h fun v u s2 x y H2 I2 rx ry q => hr a b pins s2 σ H2 x y v u Q I2 rx ry q (hs _ _))
def rIxL (K : PySem.W.Frag) : R2 := fun x y H Q => ∃ p xs i v, x = .ref p ∧ y = .int i ∧ SqL K H p xs ∧ atI xs i = some v ∧ Q v H
def rIxT (K : PySem.W.Frag) : R2 := fun x y H Q => ∃ p xs i v, x = .ref p ∧ y = .int i ∧ SqT K H p xs ∧ atI xs i = some v ∧ Q v H
def rIxS : R2 := fun x y H Q => ∃ z i c, x = .str z ∧ y = .int i ∧ z.length ≤ sizeLine ∧ atI z.cps.toList i = some c ∧ Q (.str ⟨#[c]⟩) H
theorem ix_list : IxR X (rIxL X.K) := by
  intro value slice pins s σ H x y v u Q I rx ry h hs
  obtain ⟨p, xs, i, z, rfl, rfl, hq, he, q⟩ := h
  cases rx
  obtain ⟨t, rfl⟩ := ry
  obtain ⟨its, r, pl, hz⟩ := I.list hq
  obtain ⟨j, h1, h2, h3, h4, h5⟩ := atI_get he
  obtain ⟨w, ew, rw'⟩ := r.get h2
  have hl := r.length
  have hn := line63
  have fin : EP X pins σ Q w s := ⟨z, H, I, rw', q⟩
  by_cases h0 : 0 ≤ i
  · have hj : i.toNat = j := by
      rw [seqIndex_of h0 h5] at h1
      exact Option.some.inj h1
    exact item_listR pl.isList h0 (by omega) (by rw [hj]; simpa using ew) fin hs
  · have hj : (i + (its.toArray.size : Int)).toNat = j := by
      rw [seqIndex_neg (by omega) h4] at h1
      rw [List.size_toArray, ← hl]
      exact Option.some.inj h1
    exact subscriptTail_builtinR (x := w) pl.isList.typeIs slot_list_getitem.lookup
      (wpAny_getItem_list_neg (Q := fun r s' => r = w ∧ EP X pins σ Q r s') pl.isList (by omega) (by rw [List.size_toArray] <;> omega) (by omega) (by rw [hj]; simpa using ew) ⟨rfl, fin⟩) hs
theorem ix_tup : IxR X (rIxT X.K) := by
  intro value slice pins s σ H x y v u Q I rx ry h hs
  obtain ⟨p, xs, i, z, rfl, rfl, hq, he, q⟩ := h
  cases rx
  obtain ⟨t, rfl⟩ := ry
  obtain ⟨its, r, pl, hz⟩ := I.tuple hq
  obtain ⟨j, h1, h2, h3, h4, h5⟩ := atI_get he
  obtain ⟨w, ew, rw'⟩ := r.get h2
  have hl := r.length
  have hn := line63
  have fin : EP X pins σ Q w s := ⟨z, H, I, rw', q⟩
  exact subscriptTail_builtinR (x := w) pl.typeIs slot_tuple_getitem.lookup
    (getItem_tuple (j := j) (Q := fun r s' => r = w ∧ EP X pins σ Q r s') pl (by omega) (by omega) (by rw [List.size_toArray, ← hl]; exact h1) (by simpa using ew) ⟨rfl, fin⟩) hs
def rIx (K : PySem.W.Frag) : R2 := fun x y H Q => rIxL K x y H Q ∨ rIxT K x y H Q ∨ rIxS x y H Q
theorem mapSeq_set (its : List Value) (n j : Nat) (u : Value) : Obj.mapSeq (·.setIfInBounds j u) { cls := .type "list", data := .seq its.toArray n } = { cls := .type "list", data := .seq (its.set j u).toArray n } := by
  simp [Obj.mapSeq]
theorem Inv.lst {pins : List (Addr × Obj)} {σ : St} {H : Hp} {s : Shared} {p : Addr} {xs : List V} (I : Inv X pins σ H s) (h : H p = some (.lst xs)) :
    ∃ (its : List Value) (n : Nat), Vals xs its ∧ s.heap.get? p = some { cls := .type "list", data := .seq its.toArray n } ∧ xs.length ≤ sizeLine := by
  obtain ⟨z, its, n, r, e⟩ := I.hok p _ h
  exact ⟨its, n, r, e, z⟩
theorem Inv.lstUpd {pins : List (Addr × Obj)} {σ : St} {H : Hp} {s : Shared} {p : Addr} {xs ys : List V} {its its' : List Value} {n n' : Nat} {f : Obj → Obj} (I : Inv X pins σ H s) (h : H p = some (.lst xs))
    (ho : s.heap.get? p = some { cls := .type "list", data := .seq its.toArray n }) (hf : f { cls := .type "list", data := .seq its.toArray n } = { cls := .type "list", data := .seq its'.toArray n' }) (r : Vals ys its') (hz : ys.length ≤ sizeLine) (t : Nat) :
    Inv X pins σ (upd H p (.lst ys)) { s with heap := s.heap.update p f, toks := t } := by
  have e : (s.heap.update p f).get? p = some { cls := .type "list", data := .seq its'.toArray n' } := by
    rw [Heap.get?_update_self f ho (by rw [hf] <;> rfl), hf]
  refine I.write (x := p) (e := p) (by rw [h]; trivial) (.inl rfl) (fun b u hb q => (Heap.get?_update_other _ _ (Ne.symm hb)).trans q) ⟨_, e⟩ ?_
  exact ⟨hz, its', n', r, e⟩
def rSetL : V → V → V → Hp → (Hp → Prop) → Prop := fun o i v H Q => ∃ p xs k j, o = .ref p ∧ i = .int k ∧ H p = some (.lst xs) ∧ ixN xs.length k = some j ∧ Q (upd H p (.lst (xs.set j v)))
theorem set_list : PSet X rSetL := by
  intro pins s σ H o i v ov iv u Q I ro ri rv h
  obtain ⟨p, xs, k, j, rfl, rfl, hp, hj, q⟩ := h
  cases ro
  obtain ⟨t, rfl⟩ := ri
  obtain ⟨its, n, r, ho, hz⟩ := I.lst hp
  obtain ⟨h1, h2, h3, h4⟩ := ixN_seq hj
  have hl := r.length
  have hn := line63
  have I' : Inv X pins σ (upd H p (.lst (xs.set j v))) { s with heap := s.heap.update p (Obj.mapSeq (·.setIfInBounds j u)) } :=
    I.lstUpd hp ho (mapSeq_set its n j u) (r.set rv j) (by rw [List.length_set]; exact hz) s.toks
  by_cases h0 : 0 ≤ k
  · have hk : k.toNat = j := by
      rw [seqIndex_of h0 h4] at h1
      exact Option.some.inj h1
    exact PySem.W.ki_setAt ho h0 (by omega) (by rw [List.size_toArray, ← hl]; exact h4) (by rw [hk]; exact ⟨_, I', q⟩)
  · have hk : (k + (its.toArray.size : Int)).toNat = j := by
      rw [seqIndex_neg (by omega) h3] at h1
      rw [List.size_toArray, ← hl]
      exact Option.some.inj h1
    exact PySem.W.ki_setBack ho (by omega) (by rw [List.size_toArray, ← hl]; exact h3) (by omega) (by rw [hk]; exact ⟨_, I', q⟩)
theorem slice_bounds (lo hi : Option Int) (n : Nat) : (sliceBounds lo hi none n).1 = ((HT.sIx n 0 lo : Nat) : Int) ∧ (sliceBounds lo hi none n).2.1 = ((HT.sIx n n hi : Nat) : Int) ∧ (sliceBounds lo hi none n).2.2 = 1 := by
  refine ⟨?_, ?_, rfl⟩
  · cases lo with
    | none => simp [sliceBounds, HT.sIx]
    | some i =>
      simp only [sliceBounds, HT.sIx, Option.getD_none, show (1 : Int) > 0 by decide, if_true]
      by_cases h : i < 0
      · simp only [h, if_true] <;> omega
      · simp only [h, if_false] <;> omega
  · cases hi with
    | none => simp [sliceBounds, HT.sIx]
    | some i =>
      simp only [sliceBounds, HT.sIx, Option.getD_none, show (1 : Int) > 0 by decide, if_true]
      by_cases h : i < 0
      · simp only [h, if_true] <;> omega
      · simp only [h, if_false] <;> omega
theorem slicePick_cut (its : List Value) (lo hi : Option Int) : slicePick its.toArray lo hi none = ((its.drop (HT.sIx its.length 0 lo)).take (HT.sIx its.length its.length hi - HT.sIx its.length 0 lo)).toArray := by
  obtain ⟨h1, h2, h3⟩ := slice_bounds lo hi its.toArray.size
  unfold slicePick
  rw [h1, h2, h3]
  simp only [sliceRange_one, pick_run, List.size_toArray] <;> rfl
def rSlL (K : PySem.W.Frag) : V → Option Int → Option Int → Hp → VK → Prop := fun x lo hi H Q => ∃ a xs, x = .ref a ∧ SqL K H a xs ∧ ∀ p, H p = none → Q (.ref p) (upd H p (.lst (cutV xs lo hi)))
theorem sl_list : SlR X (rSlL X.K) := by
  intro pins s σ H x v vl vu lo hi sl Q I rx hs pl pu h
  obtain ⟨a, xs, rfl, hx, q⟩ := h
  cases rx
  obtain ⟨its, r, ht, hz⟩ := I.list hx
  have hlen := r.length
  refine ⟨"list", _, slot_list_getitem.lookup, ht.isList.typeIs, ?_⟩
  refine wpAny_getItem_list_slice ht.isList hs pl pu .none (by simp) ?_ (by rw [List.size_toArray] <;> omega)
  rw [slicePick_cut, ← hlen]
  refine ⟨.ref s.heap.objs.size, _, I.laid (t' := s.toks) (o := .lst (cutV xs lo hi)) (fun b ob q => Heap.get?_push_of_some _ q) (Nat.le_refl _) ?_, rfl, q _ (I.hok.fresh (Nat.le_refl _))⟩
  exact ⟨Nat.le_trans (cutV_length xs lo hi) hz, _, 0, (r.drop (HT.sIx xs.length 0 lo)).take (HT.sIx xs.length xs.length hi - HT.sIx xs.length 0 lo), Heap.get?_push_size _ rfl⟩
def flatV : V → Bool
  | .non => true
  | .bl _ => true
  | .int _ => true
  | .str _ => true
  | _ => false
def eqV : V → V → Bool
  | .non, .non => true
  | .bl a, .bl b => a == b
  | .bl a, .int b => (if a then 1 else 0) == b
  | .int a, .bl b => a == (if b then 1 else 0)
  | .int a, .int b => a == b
  | .str a, .str b => a == b
  | _, _ => false
theorem eqAt_V {A : Around} {s : Shared} {y x : V} {u v : Value} (ry : RelV y u) (rx : RelV x v) (fy : flatV y = true) (fx : flatV x = true) : SeqAt.EqAt A s u v (eqV y x) := by
  cases y with
  | non =>
    cases ry
    cases x with
    | non => cases rx; exact SeqAt.EqAt.same _
    | bl b => cases rx; exact SeqAt.EqAt.none_bool b
    | int b => obtain ⟨t, rfl⟩ := rx; exact SeqAt.EqAt.none_int b t
    | str b => obtain ⟨t, rfl⟩ := rx; exact SeqAt.EqAt.none_str b t
    | _ => exact absurd (show false = true from fx) Bool.false_ne_true
  | bl a =>
    cases ry
    cases x with
    | non => cases rx; exact SeqAt.EqAt.bool_none a
    | bl b => cases rx; exact SeqAt.EqAt.bool_bool a b
    | int b => obtain ⟨t, rfl⟩ := rx; exact SeqAt.EqAt.bool_int a b t
    | str b => obtain ⟨t, rfl⟩ := rx; exact SeqAt.EqAt.bool_str a b t
    | _ => exact absurd (show false = true from fx) Bool.false_ne_true
  | int a =>
    obtain ⟨t', rfl⟩ := ry
    cases x with
    | non => cases rx; exact SeqAt.EqAt.int_none a t'
    | bl b => cases rx; exact SeqAt.EqAt.int_bool a t' b
    | int b => obtain ⟨t, rfl⟩ := rx; exact SeqAt.EqAt.int_int a t' b t
    | str b => obtain ⟨t, rfl⟩ := rx; exact SeqAt.EqAt.int_str a t' b t
    | _ => exact absurd (show false = true from fx) Bool.false_ne_true
  | str a =>
    obtain ⟨t', rfl⟩ := ry
    cases x with
    | non => cases rx; exact SeqAt.EqAt.str_none a t'
    | bl b => cases rx; exact SeqAt.EqAt.str_bool a t' b
    | int b => obtain ⟨t, rfl⟩ := rx; exact SeqAt.EqAt.str_int a t' b t
    | str b => obtain ⟨t, rfl⟩ := rx; exact SeqAt.EqAt.str_str a t' b t
    | _ => exact absurd (show false = true from fx) Bool.false_ne_true
  | _ => exact absurd (show false = true from fy) Bool.false_ne_true
def eqU (x : V) (u : Value) : Bool := match u with
  | .none => eqV .non x
  | .bool b => eqV (.bl b) x
  | .int i _ => eqV (.int i) x
  | .str z _ => eqV (.str z) x
  | _ => false
def inV (x : V) (xs : List V) : Bool := xs.any fun y => eqV y x
def rIn (K : PySem.W.Frag) (neg : Bool) : R2 := fun x y H Q => ∃ p xs, y = .ref p ∧ (SqL K H p xs ∨ SqT K H p xs) ∧ flatV x = true ∧ xs.all flatV = true ∧ Q (.bl (if neg then !inV x xs else inV x xs)) H
theorem call_len_seq : CallR X (.builtin "len") (fun xs H Q => ∃ p ys, xs = [.ref p] ∧ (SqL X.K H p ys ∨ SqT X.K H p ys) ∧ Q (.int ys.length) H) := by
  intro pins s σ H xs us Q I r h
  obtain ⟨p, ys, rfl, hq, q⟩ := h
  obtain ⟨u, rfl, rx⟩ := vals1 r
  cases rx
  have hn := line63
  rcases hq with hq | hq
  · obtain ⟨its, r', pl, hz⟩ := I.list hq
    have hlen := r'.length
    exact Calls.call_len_list pl.isList (by simp only [List.size_toArray] <;> omega) ⟨.int ys.length, H, I.tok _, ⟨s.toks + 1, by rw [List.size_toArray, hlen]⟩, q⟩
  · obtain ⟨its, r', pl, hz⟩ := I.tuple hq
    have hlen := r'.length
    exact len_tuple pl (by simp only [List.size_toArray] <;> omega) ⟨.int ys.length, H, I.tok _, ⟨s.toks + 1, by rw [List.size_toArray, hlen]⟩, q⟩
theorem CallR.or {f : Value} {r r' : List V → Hp → VK → Prop} (h : CallR X f r) (h' : CallR X f r') : CallR X f (fun xs H Q => r xs H Q ∨ r' xs H Q) := by
  intro pins s σ H xs us Q I rs q
  rcases q with q | q
  · exact h pins s σ H xs us Q I rs q
  · exact h' pins s σ H xs us Q I rs q
theorem call_list_of : CallR X (.type "list") (fun xs H Q => ∃ p ys, xs = [.ref p] ∧ (SqL X.K H p ys ∨ SqT X.K H p ys) ∧ ∀ l, H l = none → Q (.ref l) (upd H l (.lst ys))) := by
  intro pins s σ H xs us Q I r h
  obtain ⟨p, ys, rfl, hq, q⟩ := h
  obtain ⟨u, rfl, rx⟩ := vals1 r
  cases rx
  have fin : ∀ (its : List Value), Vals ys its → ys.length ≤ sizeLine → ∀ (h' : Heap) (c' : Nat), (∀ b o', s.heap.get? b = some o' → h'.get? b = some o') →
      h'.get? s.heap.objs.size = some { cls := .type "list", dict := none, data := .seq its.toArray c', slots := #[] } → EP X pins σ Q (.ref s.heap.objs.size) { s with heap := h' } := fun its r' hz h' c' kp e =>
    ⟨.ref s.heap.objs.size, _, I.laid (t' := s.toks) kp (Nat.le_refl _) (show ObjOk X.prog X.w _ h' _ (.lst ys) from ⟨hz, its, c', r', e⟩), rfl, q _ (I.hok.fresh (Nat.le_refl _))⟩
  rcases hq with hq | hq
  · obtain ⟨its, r', pl, hz⟩ := I.list hq
    have hlen := r'.length
    obtain ⟨o, ho, hc, n, hd⟩ := pl.isList
    exact call_list_seq p (.inl rfl) ho hc hd (fun h' c' kp e => fin its r' hz h' c' kp e) (by simp only [List.size_toArray] <;> omega)
  · obtain ⟨its, r', pl, hz⟩ := I.tuple hq
    have hlen := r'.length
    obtain ⟨o, ho, hc, n, hd⟩ := pl
    exact call_list_seq p (.inr rfl) ho hc hd (fun h' c' kp e => fin its r' hz h' c' kp e) (by simp only [List.size_toArray] <;> omega)
theorem call_tuple_of : CallR X (.type "tuple") (fun xs H Q => ∃ p ys, xs = [.ref p] ∧ ((SqL X.K H p ys ∧ ∀ l, H l = none → Q (.ref l) (upd H l (.tup ys))) ∨ (SqT X.K H p ys ∧ Q (.ref p) H))) := by
  intro pins s σ H xs us Q I r h
  obtain ⟨p, ys, rfl, h⟩ := h
  obtain ⟨u, rfl, rx⟩ := vals1 r
  cases rx
  rcases h with ⟨hq, q⟩ | ⟨hq, q⟩
  · obtain ⟨its, r', pl, hz⟩ := I.list hq
    have hlen := r'.length
    refine call_tuple_list pl.isList (fun h' kp => ?_) (by simp only [List.size_toArray] <;> omega)
    have I1 : Inv X pins σ H { s with heap := h' } := I.kept (t' := s.toks) kp
    have I2 : Inv X pins σ (upd H h'.objs.size (.tup ys)) { s with heap := h'.push { cls := .type "tuple", data := .seq its.toArray } } :=
      I1.laid (t' := s.toks) (fun b o e => Heap.get?_push_of_some _ e) (Nat.le_refl _) (show ObjOk X.prog X.w _ _ _ (.tup ys) from ⟨hz, its, r', IsTup.new _ _⟩)
    exact ⟨.ref h'.objs.size, _, I2, rfl, q _ (I1.hok.fresh (Nat.le_refl _))⟩
  · obtain ⟨its, r', pl, hz⟩ := I.tuple hq
    exact call_tuple_same pl ⟨.ref p, H, I, rfl, q⟩
def tyV (K : PySem.W.Frag) (T : String) (x : V) (H : Hp) : Prop := match x with
  | .str _ => T = "str"
  | .int _ => T = "int"
  | .ref p => (T = "list" ∧ ∃ xs, SqL K H p xs) ∨ (T = "tuple" ∧ ∃ o, K.lookup p = some o ∧ o.cls = .type "tuple" ∧ o.dict = none) ∨
      (T = "dict" ∧ ((∃ kvs, H p = some (.dK kvs)) ∨ ∃ kvs, H p = some (.dT kvs))) ∨ (T = "set" ∧ ∃ S n, H p = some (.set S n))
  | _ => False
theorem tyV_is {pins : List (Addr × Obj)} {σ : St} {H : Hp} {s : Shared} {T : String} {x : V} {v : Value} (I : Inv X pins σ H s) (r : RelV x v) (ty : tyV X.K T x H) :
    s.TypeIs v T ∧ ∀ a, v = .ref a → ∃ ob, s.heap.get? a = some ob ∧ ob.dict = none := by
  cases x with
  | str z =>
    obtain ⟨t, rfl⟩ := r
    cases (show T = "str" from ty)
    exact ⟨typeIs_str s z t, fun _ e => nomatch e⟩
  | int i =>
    obtain ⟨t, rfl⟩ := r
    cases (show T = "int" from ty)
    exact ⟨typeIs_int s i t, fun _ e => nomatch e⟩
  | ref p =>
    cases r
    rcases ty with ⟨rfl, xs, hq⟩ | ⟨rfl, o, hk, hc, hd⟩ | ⟨rfl, hk⟩ | ⟨rfl, S, n, hk⟩
    · obtain ⟨its, _, pl, _⟩ := I.list hq
      refine ⟨pl.isList.typeIs, fun a e => ?_⟩
      cases e
      obtain ⟨o, n, e, c, hd, _⟩ := pl
      exact ⟨o, e, hd⟩
    · refine ⟨⟨o, I.kIn p o hk, hc⟩, fun a e => ?_⟩
      cases e
      exact ⟨o, I.kIn _ o hk, hd⟩
    · have z : ∃ o, s.heap.get? p = some o ∧ o.ExactDict := by
        rcases hk with ⟨kvs, hk⟩ | ⟨kvs, hk⟩
        · obtain ⟨_, _, _, _, o, _, _, e, ex, _⟩ := I.hok p _ hk
          exact ⟨o, e, ex⟩
        · obtain ⟨_, _, _, _, o, _, _, e, ex, _⟩ := I.hok p _ hk
          exact ⟨o, e, ex⟩
      obtain ⟨o, e, ex⟩ := z
      refine ⟨⟨o, e, ex.1⟩, fun a e2 => ?_⟩
      cases e2
      exact ⟨o, e, ex.2.1⟩
    · obtain ⟨o, _, _, _, e, ex, _⟩ := I.hok p _ hk
      refine ⟨⟨o, e, ex.1⟩, fun a e2 => ?_⟩
      cases e2
      exact ⟨o, e, ex.2.1⟩
  | _ => exact False.elim ty
def tBM0 (K : PySem.W.Frag) (T : String) (r : V → List V → Hp → VK → Prop) (to : TE) : TE := fun σ H Q => to σ H fun x H1 => tyV K T x H1 ∧ r x [] H1 Q
def tBM (K : PySem.W.Frag) (T : String) (r : V → List V → Hp → VK → Prop) (to : TE) (t : TA) : TE := fun σ H Q => to σ H fun x H1 => tyV K T x H1 ∧ t σ H1 fun xs H2 => r x xs H2 Q
variable {o e : Expr} {es : List Expr} {to : TE} {t : TA} {name : Str} {apos cpos : Pos} {T id : String} {r : V → List V → Hp → VK → Prop}
theorem pe_bm0 (pa : PlainAttrs T) (slot : Slot T name id) (hty : typeOf (.builtin id) = pure (.type "method_descriptor")) (hm : MtR X id r) (ho : PE X o to)
    (hbase : attributeBase o name X.env (eval o X.env) = eval o X.env := by rfl) (hline : (apos.endLine == cpos.line) = true := by rfl) : PE X (.Call (.Attribute o name apos) [] [] cpos) (tBM0 X.K T r to) := by
  intro pins s σ H Q I h
  refine wpAny_Call_method0_late hbase hline (thn (ho pins s σ H _ I h) fun v s1 ⟨x, H1, I1, r1, ty, q1⟩ => ?_)
  obtain ⟨h1, h2⟩ := tyV_is I1 r1 ty
  exact ⟨T, id, pa, slot, hty, h1, h2, Calls.callWith_builtin rfl (PySem.evalArgs_none (hm pins s1 σ H1 x [] v [] Q I1 r1 .nil q1))⟩
theorem pe_bm (pa : PlainAttrs T) (slot : Slot T name id) (hty : typeOf (.builtin id) = pure (.type "method_descriptor")) (hm : MtR X id r) (ho : PE X o to) (ha : PA X (e :: es) t)
    (hbase : attributeBase o name X.env (eval o X.env) = eval o X.env := by rfl)
    (hfew : ((backTo cpos (starEach (e :: es) X.env)).all (fun x => !x.1) && (backToKw cpos (keywordEach [] X.env)).all (fun x => x.1.isSome)
      && decide ((e :: es).length + ([] : List Keyword).length + (if ([] : List Keyword).isEmpty then 0 else 1) < 30)) = true := by rfl)
    (hline : (apos.endLine == cpos.line) = true := by rfl) (hs : starEach (e :: es) X.env = (false, eval e X.env) :: starEach es X.env := by rfl) (hplain : (backTo cpos (starEach es X.env)).any (·.1) = false := by rfl) :
    PE X (.Call (.Attribute o name apos) (e :: es) [] cpos) (tBM X.K T r to t) := by
  intro pins s σ H Q I h
  refine wpAny_Call_method_late hbase hfew hline rfl (thn (ho pins s σ H _ I h) fun v s1 ⟨x, H1, I1, r1, ty, q1⟩ => ?_)
  obtain ⟨h1, h2⟩ := tyV_is I1 r1 ty
  refine ⟨T, id, pa, slot, hty, h1, h2, ?_⟩
  have hA := ha cpos pins s1 σ H1 _ I1 q1
  rw [hs] at hA ⊢
  refine Calls.callWith_builtin (by show (false || (backTo cpos (starEach es X.env)).any (·.1)) = false; rw [hplain] <;> rfl) (Calls.evalArgs_plain ?_)
  exact thn hA fun us s2 ⟨vs, H2, I2, r2, q2⟩ => hm pins s2 σ H2 x vs v us Q I2 r1 r2 q2
/- xs.append(e), list.index on a module's tuple .. are MtR facts of 06m -/
end
end L2
namespace L2
open PySem PySem.Spec PyProof.Rows
def MtM (X : Cx) (id : String) (r : V → List V → Hp → VK → Prop) : Prop :=
  ∀ (pins : List (Addr × Obj)) (s : Shared) (σ : St) (H : Hp) (x : V) (xs : List V) (v : Value) (us : List Value) (Q : VK), Inv X pins σ H s → RelV x v → Vals xs us → r x xs H Q →
    wpAny (model X.prog X.w) X.A (call (.builtin id) (v :: us)) (EP X pins σ Q) X.xe s
theorem Vals.one : ∀ {x : V} {us : List Value}, Vals [x] us → ∃ u, us = [u] ∧ RelV x u
  | _, _, .cons r .nil => ⟨_, rfl, r⟩
theorem Vals.two : ∀ {x y : V} {us : List Value}, Vals [x, y] us → ∃ u v, us = [u, v] ∧ RelV x u ∧ RelV y v
  | _, _, _, .cons r (.cons q .nil) => ⟨_, _, rfl, r, q⟩
theorem Vals.zero : ∀ {us : List Value}, Vals [] us → us = []
  | _, .nil => rfl
theorem Vals.dropLast {xs : List V} {us : List Value} (h : Vals xs us) : Vals xs.dropLast us.dropLast := by
  induction h with
  | nil => exact .nil
  | cons r t ih =>
    cases t with
    | nil => exact .nil
    | cons q t' => exact .cons r ih
theorem Vals.eraseIdx : ∀ {xs : List V} {us : List Value} (i : Nat), Vals xs us → Vals (xs.eraseIdx i) (us.eraseIdx i)
  | _, _, _, .nil => .nil
  | _, _, 0, .cons _ t => t
  | _, _, i + 1, .cons r t => .cons r (Vals.eraseIdx i t)
theorem Vals.reverse {xs : List V} {us : List Value} (h : Vals xs us) : Vals xs.reverse us.reverse := by
  induction h with
  | nil => exact .nil
  | cons r t ih => rw [List.reverse_cons, List.reverse_cons]; exact Vals.append ih (.cons r .nil)
section
variable {X : Cx} {pins : List (Addr × Obj)} {σ : St} {H : Hp} {s : Shared} {l b : Addr} {xs ys zs : List V}
theorem Inv.lset {its its' : List Value} {n : Nat} {f : Array Value → Array Value} {t' : Nat} (I : Inv X pins σ H s) (hH : H l = some (.lst xs))
    (e : s.heap.get? l = some { cls := .type "list", data := .seq its.toArray n }) (hf : f its.toArray = its'.toArray) (hv : Vals ys its') (hz : ys.length ≤ sizeLine) :
    Inv X pins σ (upd H l (.lst ys)) { s with heap := s.heap.update l (Obj.mapSeq f), toks := t' } := by
  have q := PySem.IsL.update e f
  rw [hf] at q
  refine I.write (x := l) (e := l) (by rw [hH]; exact trivial) (.inl rfl) (fun b' u hb hu => (Heap.get?_update_other s.heap (Obj.mapSeq f) (Ne.symm hb)).trans hu) ⟨_, q⟩ ?_
  exact ⟨hz, its', _, hv, q⟩
theorem Inv.lnew {its : List Value} {t' : Nat} (I : Inv X pins σ H s) (hv : Vals ys its) (hz : ys.length ≤ sizeLine) :
    Inv X pins σ (upd H s.heap.objs.size (.lst ys)) { s with heap := s.heap.push { cls := .type "list", data := .seq its.toArray }, toks := t' } :=
  I.laid (fun _ _ q => Heap.get?_push_of_some _ q) (Nat.le_refl _) ⟨hz, its, 0, hv, Heap.get?_push_size _ rfl⟩
theorem Inv.fresh (I : Inv X pins σ H s) : H s.heap.objs.size = none := I.hok.fresh (Nat.le_refl _)
theorem Inv.lstM (I : Inv X pins σ H s) (hH : H l = some (.lst xs)) : xs.length ≤ sizeLine ∧ ∃ (its : List Value) (n : Nat), Vals xs its ∧ xs.length = its.length ∧ s.heap.get? l = some { cls := .type "list", data := .seq its.toArray n } := by
  obtain ⟨z, its, n, r, e⟩ := I.hok l _ hH
  exact ⟨z, its, n, r, r.length, e⟩
theorem notLongL {n : Nat} (h : n ≤ sizeLine) : Builtin.List.listTooLong n = false := by
  unfold Builtin.List.listTooLong
  exact decide_eq_false (by omega)
end
section
variable {X : Cx}
def rAppend : V → List V → Hp → VK → Prop := fun x vs H Q => ∃ l xs y, x = .ref l ∧ vs = [y] ∧ H l = some (.lst xs) ∧ xs.length < sizeLine ∧ Q .non (upd H l (.lst (xs ++ [y])))
theorem mt_append : MtM X "list.append" rAppend := by
  intro pins s σ H x vs v us Q I rx rv h
  obtain ⟨l, xs, y, rfl, rfl, hH, hz, q⟩ := h
  cases rx
  obtain ⟨u, rfl, ru⟩ := rv.one
  obtain ⟨z, its, n, r, hl, e⟩ := I.lstM hH
  refine call_meets F.slot_list_append ⟨_, e, rfl⟩ F.entry_list_append (F.args_list_append_2 _ _) (PySem.list_append l its.toArray n u (by rw [List.size_toArray]; omega)) ⟨e, ?_⟩
  refine ⟨.non, _, I.lset (its' := its ++ [u]) hH e (by simp) (r.append (.cons ru .nil)) ?_, rfl, q⟩
  rw [List.length_append, List.length_singleton]
  omega
def rExtend : V → List V → Hp → VK → Prop := fun x vs H Q => ∃ l b xs zs, x = .ref l ∧ vs = [.ref b] ∧ H l = some (.lst xs) ∧ H b = some (.lst zs) ∧ xs.length + zs.length ≤ sizeLine ∧ Q .non (upd H l (.lst (xs ++ zs)))
theorem mt_extend : MtM X "list.extend" rExtend := by
  intro pins s σ H x vs v us Q I rx rv h
  obtain ⟨l, b, xs, zs, rfl, rfl, hH, hB, hz, q⟩ := h
  cases rx
  obtain ⟨u, rfl, ru⟩ := rv.one
  cases ru
  obtain ⟨z, its, n, r, hl, e⟩ := I.lstM hH
  obtain ⟨z2, its2, n2, r2, hl2, e2⟩ := I.lstM hB
  have hsz : its.toArray.size + its2.toArray.size ≤ sizeLine := by rw [List.size_toArray, List.size_toArray]; omega
  have hlong : ¬ (!its.toArray.isEmpty && Builtin.List.listTooLong (its.toArray.size + its2.toArray.size)) = true := by
    rw [notLongL hsz, Bool.and_false]
    exact Bool.false_ne_true
  refine call_meets F.slot_list_extend ⟨_, e, rfl⟩ F.entry_list_extend (F.args_list_extend_2 _ _)
    (AutoSeq1.list_extend_list_list_0 l its.toArray n b its2.toArray n2 hlong (by rw [List.size_toArray]; omega) (by omega)) ⟨e, e2, ?_⟩
  refine ⟨.non, _, I.lset (its' := its ++ its2) hH e (by simp) (r.append r2) ?_, rfl, q⟩
  rw [List.length_append]
  omega
def rPop : V → List V → Hp → VK → Prop := fun x vs H Q => ∃ l xs y, x = .ref l ∧ vs = [] ∧ H l = some (.lst xs) ∧ xs[xs.length - 1]? = some y ∧ Q y (upd H l (.lst xs.dropLast))
def rPopAt : V → List V → Hp → VK → Prop := fun x vs H Q => ∃ l xs i k y, x = .ref l ∧ vs = [.int i] ∧ H l = some (.lst xs) ∧ -(2 ^ 63) ≤ i ∧ i < 2 ^ 63 ∧ seqIndex? i xs.length = some k ∧ xs[k]? = some y ∧ Q y (upd H l (.lst (xs.eraseIdx k)))
def rReverse : V → List V → Hp → VK → Prop := fun x vs H Q => ∃ l xs, x = .ref l ∧ vs = [] ∧ H l = some (.lst xs) ∧ Q .non (upd H l (.lst xs.reverse))
def rClear : V → List V → Hp → VK → Prop := fun x vs H Q => ∃ l xs, x = .ref l ∧ vs = [] ∧ H l = some (.lst xs) ∧ Q .non (upd H l (.lst []))
def rCat : R2 := fun x y H Q => ∃ l b xs zs, x = .ref l ∧ y = .ref b ∧ H l = some (.lst xs) ∧ H b = some (.lst zs) ∧ xs.length + zs.length ≤ sizeLine ∧ ∀ p, H p = none → Q (.ref p) (upd H p (.lst (xs ++ zs)))
theorem op_cat : OpR X (binaryOp .Add) rCat := by
  intro pins s σ H x y v u Q I rx ry h
  obtain ⟨l, b, xs, zs, rfl, rfl, hH, hB, hz, q⟩ := h
  cases rx
  cases ry
  obtain ⟨z, its, n, r, hl, e⟩ := I.lstM hH
  obtain ⟨z2, its2, n2, r2, hl2, e2⟩ := I.lstM hB
  refine PySem.P.add_list e e2 ?_ (by rw [List.size_toArray, List.size_toArray]; omega)
  have ea : its.toArray ++ its2.toArray = (its ++ its2).toArray := by simp
  rw [ea]
  exact ⟨.ref _, _, I.lnew (t' := s.toks) (r.append r2) (by rw [List.length_append]; omega), rfl, q _ I.fresh⟩
def rRep : R2 := fun x y H Q => ∃ l k xs, x = .ref l ∧ y = .int k ∧ H l = some (.lst xs) ∧ -(2 ^ 63) ≤ k ∧ k < 2 ^ 63 ∧ xs.length * k.toNat ≤ sizeLine ∧
  ∀ p, H p = none → Q (.ref p) (upd H p (.lst (List.replicate k.toNat xs).flatten))
end
section
variable {prog : Program} {w : World} {A : Around} {E : Value → Shared → Prop} {s : Shared}
end
section
variable {X : Cx}
end
end L2
namespace Att
open PySem PySem.W PySem.Calls PyProof.Rows
theorem ints_of_wellAll {P : Params} {h : Heap} : ∀ (ns : List Int) (vs : List Value), WellAll P h vs (ns.map WData.int) → IntsAre vs ns := by
  intro ns
  induction ns with
  | nil =>
    intro vs w
    rw [List.map_nil] at w
    cases w
    exact .nil
  | cons n ns ih =>
    intro vs w
    rw [List.map_cons] at w
    cases w with
    | cons a b =>
      cases a
      exact .cons _ _ (ih _ b)
theorem script_of {l : OpenLaw} {n : Nat} (hn : l.most = some n) {P : Params} {h : Heap} {args : List WData} {vals : List Value}
    (hpre : l.row.toRowW.claim.pre args = true) (hwl : WellAll P h vals args) :
    ∃ a vs ns, vals = [Value.ref a] ∧ args = [WData.list (ns.map WData.int)] ∧ h.get? a = some { cls := .type "list", data := .seq vs.toArray } ∧ IntsAre vs ns ∧ ns.length ≤ n := by
  have hsh : WShape.hasAll [] args [.list .int] = true := (pre_splitW hpre).1
  have hc : l.pre.holds [] { args := args } = true := (pre_splitW hpre).2
  obtain ⟨d, r, rfl, h1, h2⟩ := hasAllW_cons hsh
  obtain rfl := hasAllW_nil h2
  obtain ⟨xs, rfl, h3⟩ := hasW_list h1
  obtain ⟨ns, rfl⟩ := items_int h3
  have hlen : ns.length ≤ n := by
    unfold OpenLaw.pre at hc
    have h4 : (WTm.not (.lt (.lit (.int (n : Int))) (.len (.arg 0)))).holds [] { args := [.list (ns.map .int)] } = true := by
      have h4 := (holds_andW hc).1
      rw [hn] at h4
      exact h4
    have h5 := condW_of h4 (w_not (w_lt w_lit (w_len_list (w_arg rfl))))
    rw [List.length_map] at h5
    refine Nat.le_of_not_lt fun q => ?_
    have q' : (n : Int) < ((ns.length : Nat) : Int) := by omega
    first
      | (rw [decide_eq_true q'] at h5; exact absurd h5 (by decide))
      | (simp at h5; omega)
  cases hwl with
  | cons w1 w2 =>
    cases w2
    cases w1 with
    | list ho hall => exact ⟨_, _, ns, rfl, rfl, ho, ints_of_wellAll ns _ hall, hlen⟩
theorem post_true (l : OpenLaw) (args : List WData) : l.row.toRowW.claim.post args (.bool true) args = true :=
  postW_of (r := l.row.toRowW) (X := (true == true))
    (show WShape.has [] (.bool true) .bool = true by first | rfl | decide | simp [WShape.has, WShape.arms, WShape.armsAll])
    (show (WTm.eq .res (.lit (.bool true))).value [] { args := args, res := some (.bool true), after := args } = some (.bool (true == true)) from w_eq_bool (w_res rfl) w_lit) rfl
theorem attach_call {l : OpenLaw} {n : Nat} {q : Program} {loose : List Str} {XP : (Str → Option Value) → Heap → Prop} {YP : World → Heap → Prop} {d : DefRec}
    (hn : l.most = some n) (hdf : d.params.defaults = [])
    (call : ∀ (w : World) (s₀ s₁ : Shared) (mg mb : Str → Option Value) (fa : Addr) (o : Obj) (pm cd doc : Value) (a : Addr) (vs : List Value) (ns : List Int),
      Ground q loose [] XP w s₀ mg mb s₁.heap → YP w s₁.heap →
      s₁.heap.get? fa = some o → o.data = .func (docDef d.name d.params d.body d.scope pm cd doc) → s₁.heap.CodeRec cd d.name → mg d.name = some (.ref fa) →
      s₁.heap.get? a = some { cls := .type "list", data := .seq vs.toArray } → IntsAre vs ns → ns.length ≤ n → s₁.gens = #[] →
      codeAny (model l.prog w) callerA (.call (.ref fa) ⟨[.ref a], []⟩) (fun r s' => r = .ok (.ret (.bool true)) ∧ OldK s₁.heap s'.heap ∧ s'.os = s₁.os ∧ AllBare s'.gens) s₁) :
    WalkO q loose XP YP l.row.toRowW d [] (fun f vs => PySem.call f vs) := by
  intro w s₀ s₁ mg mb G Y fa o pm cd doc dV kV ho hd hcd hD hmg hg args vals as hpre hlay hrd hwl hlo
  obtain rfl : dV = .none := Dflts.none hD hdf
  obtain rfl : kV = .none := Dflts.noKw hD
  obtain ⟨a, vs, ns, rfl, rfl, hobj, hints, hlen⟩ := script_of hn hpre hwl
  refine enter_call (codeAny_mono (call w s₀ s₁ mg mb fa o pm cd doc a vs ns G Y ho (fd_plain hd) hcd hmg hobj hints hlen hg) fun r s' hq => ?_)
  obtain ⟨rfl, h2, h3, h4⟩ := hq
  exact ⟨.inl ⟨.bool true, .bool true, [], rfl, fun _ => rfl, .bool true, post_true l _, fun _ => ⟨List.Pairwise.nil, fun _ hm => (nomatch hm)⟩⟩, h2, h3, h4⟩
section
variable {prog : Program} {w : World} {A : Around} {E : Value → Shared → Prop} {s : Shared} {K : Frag}
def noObjs (h : Heap) : Heap := { h with objs := #[] }
def ledger (h : Heap) (L d : Addr) : List (Addr × Obj) := (List.range h.objs.size).filterMap fun a => if a = L ∨ a = d then none else (h.get? a).map fun o => (a, o)
end
end Att
namespace L2
open PySem PySem.Spec PyProof.Rows
theorem vals_ints : ∀ {vs : List Value} {ns : List Int}, IntsAre vs ns → Vals (ns.map V.int) vs
  | _, _, .nil => .nil
  | _, _, .cons n t h => .cons ⟨t, rfl⟩ (vals_ints h)
def Only (H : Hp) : Prop := ∀ b, H b = none ∨ ∃ o xs, H b = some (.frz o (.lst xs))
theorem law_call {P : Program} {w : World} {K : PySem.W.Frag} {mg mb : Str → Option Value} {CX : CXT} {k : Nat} {fa a : Addr} {fd : FuncData} {x : Str} {sp : Sp} {s₁ : Shared} {vs : List Value} {ns : List Int}
    (KX : K.In s₁.heap) (hns : s₁.heap.Ns mainGlobals mg) (hb : s₁.heap.Ns builtinsNs mb) (hbb : ∀ x : Str, x ≠ "__name__" → mb x = bootBuiltins x) (hlim : s₁.heap.NoLimit) (hg : s₁.gens = #[])
    (ha : s₁.heap.get? a = some { cls := .type "list", data := .seq vs.toArray }) (hi : IntsAre vs ns) (hl : ns.length ≤ sizeLine) (hr : Room k callerA)
    (F : ∀ base : Heap, K.In base → base.Ns mainGlobals mg → FnOk P w K mg base CX k fa fd [x] sp) (hbind : ∀ (s : Shared) (u : Value), BindsTo s fd ⟨[u], []⟩ [(x, u)])
    (hsp : ∀ H : Hp, Only H → SqL K H a (ns.map V.int) → sp [.ref a] H (fun v _ => v = .bl true) fun _ _ _ => False)
    (hCX : ∀ H e s', CX [] H s₁ (fun _ _ _ => False) e s' → False) :
    codeAny (model P w) callerA (.call (.ref fa) ⟨[.ref a], []⟩) (fun r s' => r = .ok (.ret (.bool true)) ∧ OldK s₁.heap s'.heap ∧ s'.os = s₁.os ∧ AllBare s'.gens) s₁ := by
  have rv := vals_ints hi
  have lenV := hi.length
  -- from an abstract heap in which nothing but the script may be tracked
  have core : ∀ H : Hp, Only H → SqL K H a (ns.map V.int) → HOk P w H s₁.heap → (∀ b, H b ≠ none → b = a) → (H a ≠ none → K.lookup a = none) →
      codeAny (model P w) callerA (.call (.ref fa) ⟨[.ref a], []⟩) (fun r s' => r = .ok (.ret (.bool true)) ∧ OldK s₁.heap s'.heap ∧ s'.os = s₁.os ∧ AllBare s'.gens) s₁ := by
    intro H hO hS hok hA hK
    have base_of : ∀ {b : Addr} {o : Obj}, s₁.heap.get? b = some o → H b = none → (hidT s₁.heap H).get? b = some o := fun e n => hidT_get e n
    have noA : ∀ {b : Addr} {o : Obj} {es : Array DictEntry} {ep : Nat}, s₁.heap.get? b = some o → o.data = .dict es ep → H b = none := fun {b o es ep} e d => by
      cases q : H b with
      | none => rfl
      | some u =>
        have e' : b = a := hA b (by rw [q]; simp)
        subst e'
        rw [ha] at e; cases e
        have d' : Data.seq vs.toArray _ = Data.dict es ep := d
        cases d'
    have nsK : ∀ {b : Addr} {m : Str → Option Value}, s₁.heap.Ns b m → (hidT s₁.heap H).Ns b m := fun {b m} ⟨o, es, ep, e, d, r⟩ => ⟨o, es, ep, base_of e (noA e d), d, r⟩
    have hKb : K.In (hidT s₁.heap H) := fun b o e => base_of (KX b o e) (by
      cases q : H b with
      | none => rfl
      | some u =>
        have e' : b = a := hA b (by rw [q]; simp)
        subst e'
        rw [hK (by rw [q]; simp)] at e; cases e)
    have hM : Mod K mg (hidT s₁.heap H) := ⟨hKb, nsK hns, ⟨mb, nsK hb, hbb⟩, let ⟨mc, h1, h2⟩ := hlim; ⟨mc, nsK h1, h2⟩⟩
    have e0 : Env0 P w K mg (hidT s₁.heap H) callerA [] s₁ H := ⟨rfl, hM, fun b o e => of_hidT e, Nat.le_of_eq (hidT_size _ _), trivial, fun b hb => absurd (show b ∈ ([] : List Addr) from hb) (by simp), hok, .of_eq hg⟩
    refine codeAny_mono ((F _ hKb (nsK hns)).run callerA [] s₁ H ⟨[.ref a], []⟩ [.ref a] [.ref a] _ _ hr e0 (hbind s₁ (.ref a)) (.cons rfl .nil) (hsp H hO hS)) fun r s' h => ?_
    cases r with
    | error e => exact (hCX H e s' h).elim
    | ok fl =>
      cases fl with
      | next => exact False.elim h
      | brk => exact False.elim h
      | cont => exact False.elim h
      | ret u =>
        obtain ⟨v, H', os, bare, un, hok', r', q⟩ := h
        have q' : v = .bl true := q
        subst q'
        obtain rfl : u = Value.bool true := r'
        refine ⟨rfl, OldK.of_keep fun b o e => ?_, os, bare⟩
        cases q : H b with
        | none => exact un.keep b o e q (by intro z; exact absurd (show b ∈ ([] : List Addr) from z) (by simp)) (by simp)
        | some u =>
          rcases hO b with z | ⟨ob, xs, z⟩
          · rw [q] at z; cases z
          · have z2 := un.frzs b ob _ z
            obtain ⟨e1, _⟩ := hok b _ z
            obtain ⟨e2, _⟩ := hok' b _ z2
            rw [e] at e1; cases e1
            exact e2
  cases hk : K.lookup a with
  | some o =>
    -- the script is one of the module's own objects
    have e := KX a o hk
    rw [ha] at e
    cases e
    refine core (fun _ => none) (fun _ => .inl rfl) (.inr ⟨_, vs.toArray, _, hk, rfl, rfl, rfl, by rw [List.size_toArray, lenV]; exact hl, by simpa using rv⟩) (fun b u z => by have z' : (none : Option HO) = some u := z; cases z') (fun b z => absurd rfl z) fun z => absurd rfl z
  | none =>
    refine core (fun b => if b = a then some (.frz { cls := .type "list", data := .seq vs.toArray } (.lst (ns.map V.int))) else none) (fun b => ?_) (.inl (.inr ⟨{ cls := .type "list", data := .seq vs.toArray }, if_pos rfl⟩)) (fun b u z => ?_) (fun b z => ?_) fun _ => hk
    · by_cases hb : b = a
      · exact .inr ⟨_, _, if_pos hb⟩
      · exact .inl (if_neg hb)
    · by_cases hb : b = a
      · have z' := (if_pos hb).symm.trans z
        cases z'
        subst hb
        exact ⟨ha, by rw [List.length_map]; exact hl, vs, _, rv, ha⟩
      · have z' := (if_neg hb).symm.trans z
        cases z'
    · by_cases hb : b = a
      · exact hb
      · exact absurd (if_neg hb) z
end L2
namespace L2
open PySem PySem.Spec PyProof.Rows
abbrev KOf {K : PySem.W.Frag} {h : Heap} (_ : K.In h) : PySem.W.Frag := K
theorem walk_of {l : PySem.W.OpenLaw} {n k : Nat} {q : Program} {loose : List Str} {XP : (Str → Option Value) → Heap → Prop} {YP : World → Heap → Prop} {d : DefRec} {K : Params → PySem.W.Frag} {CX : World → CXT} {sp : World → Sp} {x : Str}
    (hn : l.most = some n) (hn2 : n ≤ sizeLine) (hdf : d.params.defaults = []) (hr : Room k callerA)
    (hY : ∀ (w : World) (h : Heap), YP w h → (K w.params).In h)
    (F : ∀ (w : World) (mg : Str → Option Value) (fa : Addr) (h : Heap), (K w.params).In h → h.Ns mainGlobals mg → mg d.name = some (.ref fa) →
      ∃ fd : FuncData, (∀ (s : Shared) (u : Value), BindsTo s fd ⟨[u], []⟩ [(x, u)]) ∧
        ∀ base : Heap, (K w.params).In base → base.Ns mainGlobals mg → FnOk l.prog w (K w.params) mg base (CX w) k fa fd [x] (sp w))
    (hsp : ∀ (w : World) (H : Hp) (a : Addr) (ns : List Int), ns.length ≤ n → Only H → SqL (K w.params) H a (ns.map V.int) → sp w [.ref a] H (fun v _ => v = .bl true) fun _ _ _ => False)
    (hCX : ∀ (w : World) (H : Hp) (s : Shared) (e : Value) (s' : Shared), CX w [] H s (fun _ _ _ => False) e s' → False) :
    PySem.W.WalkO q loose XP YP l.row.toRowW d [] (fun f vs => PySem.call f vs) := by
  refine Att.attach_call hn hdf fun w s₀ s₁ mg mb fa o pm cd doc a vs ns G Y ho hd hcd hmg hobj hints hlen hg => ?_
  have KX := hY w _ Y
  obtain ⟨fd, hb, hF⟩ := F w mg fa _ KX G.T.g hmg
  exact law_call KX G.T.g G.T.b G.T.builtins G.T.nolimit hg hobj hints (Nat.le_trans hlen hn2) hr hF hb (fun H hO hS => hsp w H a ns hlen hO hS) fun H e s' => hCX w H s₁ e s'
end L2
/- THE LAST THEOREM (shape; LID, My.* are yours):
   My.Adr: a structure of the addresses that your layer names (classes, functions); My.Txt K t: a structure (Prop) of the equations over K;
   My.txt_mk : {K} {implicit addresses ..} (e1 : nsIn K mainGlobals "law" = some (some (.ref f))) (e2 : K.lookup f = some ⟨oc, od, .func (fnOf "law" "law" params body scope dV kV doc pm an cdv ct), sl⟩) (e3 : codeIn K cdv "law" = true) .. : ∃ t, My.Txt K t
set_option maxRecDepth 100000 in
set_option maxHeartbeats 0 in
theorem PySem.Challenge.cw_LID_holds : PySem.Challenge.rw_LID.Holds := by
  w_on; o_law; k_head; (case hw => w_witness2)
  k_fill
  refine L2.walk_of (l := PySem.Challenge.rw_LID) (n := 63) (k := 40) (x := "script") (CX := fun w => ..) (sp := fun _ => My.sp_law) rfl (by decide) rfl ⟨rfl, by decide, by decide⟩ (fun w h Y => PySem.W.kIn_of Y) ?F ?S ?C
  case F =>
    intro w mg fa h KX G hmg
    have T : ∃ t, My.Txt (L2.KOf KX) t := by
      dsimp only [L2.KOf]                          -- K must stand as «<heap const> w.params» for k_is
      refine' My.txt_mk ?e1 ?e2 ?e3 ..
      (case e1 => PySem.W.k_is)                    -- in the order: a name -> its address -> its object -> its parts
      (case e2 => PySem.W.k_is)
      ..
    obtain ⟨t, T⟩ := T
    have e0 := hmg.symm.trans (PySem.W.mg_of KX G T.law)
    cases e0                                       -- fa is the law's own address
    exact ⟨_, fun s u => .of_eq rfl, fun base kb nb => My.law_fn T kb nb⟩     -- if «.of_eq rfl» comes too early: refine' ⟨_, ?b, fun base kb nb => My.law_fn T kb nb⟩; exact fun s u => .of_eq rfl
  case S => exact fun w H a ns hl hO hS => ..
  case C => exact ..
(the tactic k_is has no namespace: write k_is) -/
namespace L2
open PySem PySem.Spec PyProof.Rows
def inClass (s : Stmt) (j : Nat) : Stmt := match s with
  | .ClassDef _ _ _ body _ _ _ _ _ _ _ => body.getD j (.Pass ⟨0, 0, 0, 0⟩)
  | _ => .Pass ⟨0, 0, 0, 0⟩
def defArgs (s : Stmt) : Arguments := match s with
  | .FunctionDef _ a _ _ _ _ _ _ _ _ => a
  | _ => { posonlyargs := [], args := [], vararg := none, kwonlyargs := [], kw_defaults := [], kwarg := none, defaults := [] }
def defBody (s : Stmt) : List Stmt := match s with
  | .FunctionDef _ _ b _ _ _ _ _ _ _ => b
  | _ => []
def defScope (s : Stmt) : Scope := match s with
  | .FunctionDef _ _ _ _ _ _ sc _ _ _ => sc
  | _ => { kind := .function, names := [], isGenerator := false, isCoroutine := false }
abbrev CX0 : CXT := fun _ _ _ _ _ _ => False
abbrev E0 : XK := fun _ _ _ => False
theorem pass0 {X : Cx} : Passes CX0 X E0 := fun _ _ _ _ _ _ _ h => h.elim
structure Fun (K : PySem.W.Frag) (x qual : Str) (st : Stmt) (f : Addr) (fd : FuncData) : Prop where
  ex : ∃ (oc : Value) (od : Option Addr) (kV doc pm : Value) (an : Option Addr) (cdv ct : Value) (osl : Array (Option Value)),
    fd = PySem.W.fnOf x qual (defArgs st) (defBody st) (defScope st) .none kV doc pm an cdv ct ∧ K.lookup f = some ⟨oc, od, .func fd, osl⟩ ∧ PySem.W.codeIn K cdv qual = true
  kp : PySem.W.keepIn K (.ref f) = true
section
variable {P : Program} {w : World} {K : PySem.W.Frag} {mg : Str → Option Value} {base : Heap}
theorem Fun.ok {x qual : Str} {st : Stmt} {f : Addr} {fd : FuncData} {N ps : List Str} {k : Nat} {sp : Sp} (F : Fun K x qual st f fd) (S : FnScope N ps (defScope st)) (len : ∀ vs H Q E, sp vs H Q E → vs.length = ps.length)
    (hbody : ∀ (cdv : Value) (A : Around) (outer : List Env) (s : Shared) (H : Hp) (vs : List V) (Q : VK) (E : XK), Room k (A.deeper (envOfC qual (defScope st) s.heap.objs.size f cdv)) → sp vs H Q E →
      ∃ t, PSs (cxOf CX0 P w K mg base N qual (defScope st) f cdv A outer s H E).nox (defBody st) t ∧ t { nx := fun _ H' => Q .non H', rt := Q } (start N vs) H) : FnOk P w K mg base CX0 (k + 1) f fd ps sp := by
  obtain ⟨oc, od, kV, doc, pm, an, cdv, ct, osl, rfl, lk, hcd⟩ := F.ex
  refine fn_of lk hcd S len fun A outer s H vs Q E hr hsp => ?_
  obtain ⟨t, h, q⟩ := hbody cdv A outer s H vs Q E hr hsp
  exact ⟨t, h.nox, q⟩
theorem Fun.binds {x qual : Str} {st : Stmt} {f : Addr} {fd : FuncData} {ps : List Str} (F : Fun K x qual st f fd)
    (h : ∀ (kV doc pm : Value) (an : Option Addr) (cdv ct : Value) (us : List Value), us.length = ps.length → bindArgs (PySem.W.fnOf x qual (defArgs st) (defBody st) (defScope st) .none kV doc pm an cdv ct) ⟨us, []⟩ = pure (ps.zip us)) : Binds K fd ps [] := by
  obtain ⟨oc, od, kV, doc, pm, an, cdv, ct, osl, rfl, lk, hcd⟩ := F.ex
  exact .all (h kV doc pm an cdv ct)
theorem fun_mk {x qual : Str} {st : Stmt} {f : Addr} {oc : Value} {od an : Option Addr} {osl : Array (Option Value)} {kV doc pm cdv ct : Value} (l : K.lookup f = some ⟨oc, od, .func (PySem.W.fnOf x qual (defArgs st) (defBody st) (defScope st) .none kV doc pm an cdv ct), osl⟩)
    (c : PySem.W.codeIn K cdv qual = true) (k : PySem.W.keepIn K (.ref f) = true) : Fun K x qual st f (PySem.W.fnOf x qual (defArgs st) (defBody st) (defScope st) .none kV doc pm an cdv ct) := ⟨⟨oc, od, kV, doc, pm, an, cdv, ct, osl, rfl, l, c⟩, k⟩
end
theorem small1000 {n : Nat} (h : n ≤ 1000) : n < sizeLine := Nat.lt_of_le_of_lt h (by decide)
section
variable {X : Cx}
theorem pv (i : Nat) {x : Str} {pos : Pos} (hN : X.N[i]? = some x := by rfl) (hv : Vis X.env.scope x := by first | exact Or.inl rfl | exact Or.inr (Or.inl rfl) | exact Or.inr (Or.inr rfl)) (hd : (x == ("__debug__" : Str)) = false := by decide)
    (hcd : (x == ("__classdict__" : Str)) = false := by decide) : PE X (.Name x pos) (tVar i) := pe_var hN hv hd hcd
end
theorem iteF {A B : Prop} (h : B) : if false = true then A else B := by
  rw [if_neg Bool.false_ne_true]
  exact h
theorem iteT {A B : Prop} (h : A) : if true = true then A else B := by
  rw [if_pos rfl]
  exact h
theorem ite2 {c A B : Prop} [Decidable c] (h1 : c → A) (h2 : ¬ c → B) : if c then A else B := by
  by_cases h : c
  · rw [if_pos h]
    exact h1 h
  · rw [if_neg h]
    exact h2 h
def Same (H H' : Hp) : Prop := ∀ b o, H b = some o → H' b = some o
theorem Same.refl (H : Hp) : Same H H := fun _ _ h => h
theorem Same.trans {H H1 H2 : Hp} (a : Same H H1) (b : Same H1 H2) : Same H H2 := fun c o h => b c o (a c o h)
theorem Same.free {H H' : Hp} (e : Same H H') {l : Addr} (h : H' l = Option.none) : H l = Option.none := by
  cases q : H l with
  | none => rfl
  | some o =>
    rw [e l o q] at h
    cases h
theorem Same.seq {K : PySem.W.Frag} {H H' : Hp} {a : Addr} {xs : List V} (e : Same H H') (h : SqL K H a xs) : SqL K H' a xs := by
  rcases h with (h | ⟨o, h⟩) | h
  · exact .inl (.inl (e _ _ h))
  · exact .inl (.inr ⟨o, e _ _ h⟩)
  · exact .inr h
end L2
namespace L2
open PySem PySem.Spec PyProof.Rows
theorem cf_or {x : Str} {c : Addr} : ∀ (names : List (Str × NameKind)) (n : Nat) (acc : List (Str × Addr)), (cellsFrom n names acc).lookup x = some c → n ≤ c ∨ acc.lookup x = some c
  | [], _, _, h => .inr h
  | (y, k) :: r, n, acc, h => by
    unfold cellsFrom at h
    split at h
    · rcases cf_or r (n + 1) _ h with z | z
      · exact .inl (Nat.le_of_succ_le z)
      · rw [List.lookup_cons] at z
        cases e : x == y with
        | true => rw [e] at z; cases z; exact .inl (Nat.le_refl _)
        | false => rw [e] at z; exact .inr z
    · exact cf_or r n acc h
theorem cf_own {x : Str} {c : Addr} : ∀ (names : List (Str × NameKind)) (n : Nat) (acc : List (Str × Addr)), (x, NameKind.cell) ∈ names → (cellsFrom n names acc).lookup x = some c → n ≤ c
  | [], _, _, m, _ => nomatch m
  | (y, k) :: r, n, acc, m, h => by
    unfold cellsFrom at h
    split at h
    · by_cases m' : (x, NameKind.cell) ∈ r
      · exact Nat.le_of_succ_le (cf_own r (n + 1) _ m' h)
      · have e : (x, NameKind.cell) = (y, k) := (List.mem_cons.mp m).resolve_right m'
        cases e
        rcases cf_or r (n + 1) _ h with z | z
        · exact Nat.le_of_succ_le z
        · rw [List.lookup_cons, beq_self_eq_true] at z
          cases z
          exact Nat.le_refl _
    · rename_i hk
      have m' : (x, NameKind.cell) ∈ r := by
        rcases List.mem_cons.mp m with e | m'
        · cases e; exact absurd rfl hk
        · exact m'
      exact cf_own r n acc m' h
theorem cf_out {x : Str} : ∀ {names : List (Str × NameKind)} {n : Nat} {acc : List (Str × Addr)}, (x, NameKind.cell) ∉ names → (cellsFrom n names acc).lookup x = acc.lookup x
  | [], _, _, _ => rfl
  | (y, k) :: r, n, acc, h => by
    unfold cellsFrom
    have hr : (x, NameKind.cell) ∉ r := fun m => h (List.mem_cons_of_mem _ m)
    split
    · rename_i hk
      have hy : (x == y) = false := by
        cases e : x == y with
        | false => rfl
        | true =>
          exfalso
          refine h ?_
          rw [beq_iff_eq.mp e, beq_iff_eq.mp hk]
          exact List.mem_cons_self
      rw [cf_out hr, List.lookup_cons, hy]
    · exact cf_out hr
theorem cf_inj : ∀ (names : List (Str × NameKind)) (n : Nat) (acc : List (Str × Addr)), (∀ x c, acc.lookup x = some c → c < n) → (∀ x y c, acc.lookup x = some c → acc.lookup y = some c → x = y) →
    ∀ x y c, (cellsFrom n names acc).lookup x = some c → (cellsFrom n names acc).lookup y = some c → x = y
  | [], _, _, _, hi => hi
  | (z, k) :: r, n, acc, hl, hi => by
    unfold cellsFrom
    split
    · refine cf_inj r (n + 1) _ (fun x c h => ?_) (fun x y c h1 h2 => ?_)
      · rw [List.lookup_cons] at h
        cases e : x == z with
        | true => rw [e] at h; cases h; exact Nat.lt_succ_self _
        | false => rw [e] at h; exact Nat.lt_succ_of_lt (hl x c h)
      · rw [List.lookup_cons] at h1 h2
        cases e1 : x == z with
        | true =>
          rw [e1] at h1
          cases h1
          cases e2 : y == z with
          | true => rw [beq_iff_eq.mp e1, beq_iff_eq.mp e2]
          | false => rw [e2] at h2; exact absurd (hl y _ h2) (Nat.lt_irrefl _)
        | false =>
          rw [e1] at h1
          cases e2 : y == z with
          | true => rw [e2] at h2; cases h2; exact absurd (hl x _ h1) (Nat.lt_irrefl _)
          | false => rw [e2] at h2; exact hi x y c h1 h2
    · exact cf_inj r n acc hl hi
theorem cf_cell {x : Str} {c : Addr} : ∀ (names : List (Str × NameKind)) (h : Heap) (acc : List (Str × Addr)), (cellsFrom h.objs.size names acc).lookup x = some c → (pushCells h names).IsCell c none ∨ acc.lookup x = some c
  | [], _, _, z => .inr z
  | (y, k) :: r, h, acc, z => by
    unfold cellsFrom at z
    unfold pushCells
    split at z
    · rename_i hk
      rw [if_pos hk]
      have z' : (cellsFrom (h.push { cls := .type "cell", data := .cell none }).objs.size r ((y, h.objs.size) :: acc)).lookup x = some c := by rw [Heap.size_push]; exact z
      rcases cf_cell r _ _ z' with q | q
      · exact .inl q
      · rw [List.lookup_cons] at q
        cases e : x == y with
        | true =>
          rw [e] at q
          cases q
          exact .inl ⟨_, pushCells_keeps _ _ _ _ (Heap.get?_push_size _ rfl), rfl⟩
        | false => rw [e] at q; exact .inr q
    · rename_i hk
      rw [if_neg hk]
      exact cf_cell r h acc z
theorem clos_go {env : Env} (f : Str × NameKind → List (Str × Addr) → Sem (ForInStep (List (Str × Addr))))
    (hf : ∀ name kind cs, f (name, kind) cs = if kind == .free then (do let a ← cellOf env name; pure (.yield ((name, a) :: cs))) else pure (.yield cs)) :
    ∀ (names : List (Str × NameKind)) (acc : List (Str × Addr)), (∀ y ∈ names, y.2 = .free → ∃ c, env.cells.lookup y.1 = some c) → (∀ x c, acc.lookup x = some c → env.cells.lookup x = some c) →
    ∃ cl, forIn names acc f = pure cl ∧ (∀ x c, cl.lookup x = some c → env.cells.lookup x = some c) ∧ (∀ y ∈ names, y.2 = .free → ∃ c, cl.lookup y.1 = some c) ∧ ∀ x c, acc.lookup x = some c → ∃ c', cl.lookup x = some c'
  | [], acc, _, ha => ⟨acc, rfl, ha, (fun _ m => nomatch m), fun x c e => ⟨c, e⟩⟩
  | (y, k) :: r, acc, h, ha => by
    rw [List.forIn_cons, hf]
    have hr : ∀ y ∈ r, y.2 = NameKind.free → ∃ c, env.cells.lookup y.1 = some c := fun z m => h z (List.mem_cons_of_mem _ m)
    by_cases hk : (k == NameKind.free) = true
    · obtain ⟨c, hc⟩ := h (y, k) List.mem_cons_self (beq_iff_eq.mp hk)
      have e : cellOf env y = pure c := by unfold cellOf; rw [hc]
      rw [if_pos hk, e, pure_bind, pure_bind]
      have ha' : ∀ x d, ((y, c) :: acc).lookup x = some d → env.cells.lookup x = some d := fun x d e => by
        rw [List.lookup_cons] at e
        cases e1 : x == y with
        | true => rw [e1] at e; cases e; rw [beq_iff_eq.mp e1]; exact hc
        | false => rw [e1] at e; exact ha x d e
      obtain ⟨cl, q1, q2, q3, q4⟩ := clos_go f hf r ((y, c) :: acc) hr ha'
      refine ⟨cl, q1, q2, fun z m hz => ?_, fun x d e => ?_⟩
      · rcases List.mem_cons.mp m with e | m
        · subst e
          exact q4 y c (by rw [List.lookup_cons, beq_self_eq_true])
        · exact q3 z m hz
      · by_cases e1 : (x == y) = true
        · exact q4 x c (by rw [List.lookup_cons, e1])
        · exact q4 x d (by rw [List.lookup_cons]; simp only [e1]; exact e)
    · rw [if_neg hk, pure_bind]
      obtain ⟨cl, q1, q2, q3, q4⟩ := clos_go f hf r acc hr ha
      refine ⟨cl, q1, q2, fun z m hz => ?_, q4⟩
      rcases List.mem_cons.mp m with e | m
      · subst e; exact absurd (beq_iff_eq.mpr hz) hk
      · exact q3 z m hz
theorem clos_ok {scope : Scope} {env : Env} (h : ∀ y ∈ scope.names, y.2 = .free → ∃ c, env.cells.lookup y.1 = some c) :
    ∃ cl, closureFor scope env = pure cl ∧ (∀ x c, cl.lookup x = some c → env.cells.lookup x = some c) ∧ ∀ y ∈ scope.names, y.2 = .free → ∃ c, cl.lookup y.1 = some c := by
  obtain ⟨cl, q1, q2, q3, _⟩ := clos_go (env := env) (fun x cs => if x.2 == .free then (do let a ← cellOf env x.1; pure (.yield ((x.1, a) :: cs))) else pure (.yield cs)) (fun _ _ _ => rfl) scope.names [] h (fun _ _ e => nomatch e)
  refine ⟨cl, ?_, q2, q3⟩
  unfold closureFor
  have e : (fun (x : Str × NameKind) (r : List (Str × Addr)) => (match x with
      | (name, kind) => if (kind == NameKind.free) = true then (do let __do_lift ← cellOf env name; pure (ForInStep.yield ((name, __do_lift) :: r))) else pure (ForInStep.yield r) : Sem (ForInStep (List (Str × Addr))))) =
      fun x cs => if x.2 == .free then (do let a ← cellOf env x.1; pure (.yield ((x.1, a) :: cs))) else pure (.yield cs) := by
    funext x cs
    rfl
  have q : (forIn scope.names ([] : List (Str × Addr)) fun (x : Str × NameKind) (r : List (Str × Addr)) => (match x with
      | (name, kind) => if (kind == NameKind.free) = true then (do let __do_lift ← cellOf env name; pure (ForInStep.yield ((name, __do_lift) :: r))) else pure (ForInStep.yield r) : Sem (ForInStep (List (Str × Addr))))) = pure cl := by
    rw [e]; exact q1
  simpa using q
theorem newEnv_block {M : Model} {A : Around} {E : Value → Shared → Prop} {s : Shared} {scope : Scope} {globals : Addr} {cl : List (Str × Addr)} {qual : Str} {env : Env} {Q : Env → Shared → Prop}
    (hQ : ∀ h', h'.Ns s.heap.objs.size (fun _ => none) → (∀ b o, s.heap.get? b = some o → h'.get? b = some o) →
      (∀ x c, (cellsFrom (s.heap.objs.size + 1) scope.names cl).lookup x = some c → h'.IsCell c none ∨ cl.lookup x = some c) →
      Q { scope, locals := s.heap.objs.size, globals, cells := cellsFrom (s.heap.objs.size + 1) scope.names cl, qual, func := none, code := env.code, frame := env.frame, builtins := env.builtins } { s with heap := h' }) :
    wpAny M A (newFunctionEnv scope globals cl [] qual none .none (some env)) Q E s := by
  simp only [newFunctionEnv, Option.isSome_some, if_true]
  refine wpAny_bind (wpAny_alloc ?_)
  refine wpAny_bind (wpAny_layCells _ (fun name kind cells => by cases hkc : kind == NameKind.cell <;> simp [hkc]) _ _ _ _ ?_)
  have hsz : (s.heap.push { cls := .type "dict", data := .dict #[] }).objs.size = s.heap.objs.size + 1 := Heap.size_push ..
  have q := hQ (pushCells (s.heap.push { cls := .type "dict", data := .dict #[] }) scope.names) ((Heap.Ns.new s.heap (.type "dict")).keeps (pushCells_keeps _ _)) (fun b o e => pushCells_keeps _ _ b o (Heap.get?_push_of_some _ e))
    (fun x c e => cf_cell scope.names (s.heap.push { cls := .type "dict", data := .dict #[] }) cl (by rw [hsz]; exact e))
  show wpAny _ _ _ _ _ _
  rw [show ({ s with heap := s.heap.push { cls := .type "dict", data := .dict #[] } } : Shared).heap.objs.size = s.heap.objs.size + 1 from hsz]
  exact wpAny_bind (wpAny_pure (wpAny_pure q))
theorem relabel_free {env : Env} {x : Str} : ∀ {names : List (Str × NameKind)}, names.lookup x = some .free →
    (names.map fun (n, k) => if (k == NameKind.free && env.scope.kind == .function && env.kindOf n == some .cell) then (n, NameKind.cell) else (n, k)).lookup x = some .cell ∨
    (names.map fun (n, k) => if (k == NameKind.free && env.scope.kind == .function && env.kindOf n == some .cell) then (n, NameKind.cell) else (n, k)).lookup x = some .free
  | [], h => by simp at h
  | (n, k) :: r, h => by
    have ih := @relabel_free env x r
    show List.lookup x ((if (k == NameKind.free && env.scope.kind == .function && env.kindOf n == some .cell) = true then (n, NameKind.cell) else (n, k)) :: _) = _ ∨ List.lookup x ((if (k == NameKind.free && env.scope.kind == .function && env.kindOf n == some .cell) = true then (n, NameKind.cell) else (n, k)) :: _) = _
    cases hx : x == n with
    | true =>
      simp only [List.lookup_cons, hx] at h
      cases h
      split <;> simp [List.lookup_cons, hx]
    | false =>
      simp only [List.lookup_cons, hx] at h
      split <;> (simp only [List.lookup_cons, hx]; exact ih h)
theorem relabel_back {env : Env} {x : Str} {kd : NameKind} : ∀ {names : List (Str × NameKind)},
    (names.map fun (n, k) => if (k == NameKind.free && env.scope.kind == .function && env.kindOf n == some .cell) then (n, NameKind.cell) else (n, k)).lookup x = some kd →
    names.lookup x = some kd ∨ names.lookup x = some .free
  | [], h => by simp at h
  | (n, k) :: r, h => by
    have ih := @relabel_back env x kd r
    have h' : List.lookup x ((if (k == NameKind.free && env.scope.kind == .function && env.kindOf n == some .cell) = true then (n, NameKind.cell) else (n, k)) :: (r.map fun (n, k) => if (k == NameKind.free && env.scope.kind == .function && env.kindOf n == some .cell) then (n, NameKind.cell) else (n, k))) = some kd := h
    cases hx : x == n with
    | true =>
      by_cases hc : (k == NameKind.free && env.scope.kind == .function && env.kindOf n == some .cell) = true
      · have hk : k = .free := by
          have := (Bool.and_eq_true _ _ ▸ (Bool.and_eq_true _ _ ▸ hc).1).1
          exact beq_iff_eq.mp this
        subst hk
        exact .inr (by simp [List.lookup_cons, hx])
      · rw [if_neg hc] at h'
        simp only [List.lookup_cons, hx] at h'
        cases h'
        exact .inl (by simp [List.lookup_cons, hx])
    | false =>
      have h2 : List.lookup x (r.map fun (n, k) => if (k == NameKind.free && env.scope.kind == .function && env.kindOf n == some .cell) then (n, NameKind.cell) else (n, k)) = some kd := by
        split at h' <;> simpa only [List.lookup_cons, hx] using h'
      rcases ih h2 with z | z
      · exact .inl (by simp only [List.lookup_cons, hx]; exact z)
      · exact .inr (by simp only [List.lookup_cons, hx]; exact z)
def cxIn (X : Cx) (N : List Str) (scope : Scope) (cl : List (Str × Addr)) (s : Shared) (H : Hp) (fp : List Addr) : Cx where
  prog := X.prog
  w := X.w
  K := X.K
  mg := X.mg
  base := X.base
  A := X.A
  N := N
  s₀ := s
  H₀ := H
  env := { scope := relabel scope X.env, locals := s.heap.objs.size, globals := X.env.globals, cells := cellsFrom (s.heap.objs.size + 1) scope.names cl, qual := X.env.qual, func := none, code := X.env.code, frame := X.env.frame, builtins := X.env.builtins }
  outer := X.stack
  stack := X.stack
  ex := fp
  fn := fun x => scope.names.lookup x == some .cell
  calm := X.calm
  pn := []
  xe := fun _ _ => False
structure BlScope (X : Cx) (scope : Scope) (own : List Str) (fr : List (Str × Nat)) : Prop where
  kind : scope.kind = .function
  free : ∀ y ∈ scope.names, y.2 = .free → X.env.scope.names.lookup y.1 = some .cell ∨ X.env.scope.names.lookup y.1 = some .free
  loc : ∀ y ∈ scope.names, y.2 = .local → scope.names.lookup y.1 = some .local
  look : ∀ y ∈ scope.names, scope.names.lookup y.1 = some y.2
  cap : ∀ y ∈ fr, scope.names.lookup y.1 = some .free ∧ X.N[y.2]? = some y.1
def capS (k : Nat) (fr : List (Str × Nat)) (σ : St) : St := List.replicate k none ++ fr.map fun y => (σ[y.2]?).getD none
def capN (own : List Str) (fr : List (Str × Nat)) : List Str := own ++ fr.map (·.1)
section
variable {X : Cx} {pins : List (Addr × Obj)} {σ : St} {H : Hp} {s : Shared}
theorem inv_block {scope : Scope} {own : List Str} {fr : List (Str × Nat)} {cl : List (Str × Addr)} {fp : List Addr} {h' : Heap} (I : Inv X pins σ H s) (B : BlScope X scope own fr)
    (hcl : ∀ x c, cl.lookup x = some c → X.env.cells.lookup x = some c) (hcl2 : ∀ y ∈ scope.names, y.2 = .free → ∃ c, cl.lookup y.1 = some c)
    (hfp : ∀ b ∈ fp, FpOk X pins H b) (hfo : ∀ b ∈ fp, ∃ o, s.heap.get? b = some o)
    (hn : h'.Ns s.heap.objs.size (fun _ => none)) (hk : ∀ b o, s.heap.get? b = some o → h'.get? b = some o)
    (hc : ∀ x c, (cellsFrom (s.heap.objs.size + 1) scope.names cl).lookup x = some c → h'.IsCell c none ∨ cl.lookup x = some c) :
    Inv (cxIn X (capN own fr) scope cl s H fp) [] (capS own.length fr σ) H { s with heap := h' } := by
  have clt : ∀ x c, cl.lookup x = some c → c < s.heap.objs.size := fun x c e => by
    obtain ⟨v, z⟩ := I.cell x c (hcl x c e)
    exact z.lt
  have ownC : ∀ x c, (cellsFrom (s.heap.objs.size + 1) scope.names cl).lookup x = some c → s.heap.objs.size + 1 ≤ c ∨ cl.lookup x = some c := fun x c e => cf_or _ _ _ e
  have bsz : X.base.objs.size ≤ s.heap.objs.size := Nat.le_trans I.ok.bsz I.sz
  refine ⟨⟨I.ok.mod, B.kind, I.ok.glob, I.ok.blt, Nat.le_refl _, ?_, ?_, ?_, I.ok.hd, I.ok.frames, .inl rfl, ?_, I.bs, bsz, ?_, ?_, I.stack, I.stkFree⟩, rfl, I.bare, Un.kept hk, ⟨_, hn, ?_⟩, ?_, I.hok.fresh (Nat.le_refl _), ?_, ?_, I.hok.kept hk, ?_⟩
  · exact cf_inj _ _ _ (fun x c e => Nat.lt_succ_of_lt (clt x c e)) fun x y c e1 e2 => I.ok.inj x y c (hcl x c e1) (hcl y c e2)
  · intro x hx
    have hx : (relabel scope X.env).names.lookup x = some .cell ∨ (relabel scope X.env).names.lookup x = some .free := hx
    have q : scope.names.lookup x = some .cell ∨ scope.names.lookup x = some .free := by
      rcases hx with z | z
      · exact relabel_back z
      · exact (relabel_back z).elim .inr .inr
    refine Option.isSome_iff_exists.mp (PySem.W.cellsFrom_some scope.names _ _ ?_)
    rcases q with z | z
    · exact .inl z
    · obtain ⟨c, e⟩ := hcl2 _ (PySem.mem_of_lookup z) rfl
      exact .inr (by rw [e]; rfl)
  · intro x c hf e
    have hf : (scope.names.lookup x == some .cell) = true := hf
    exact Nat.le_of_succ_le (cf_own _ _ _ (PySem.mem_of_lookup (beq_iff_eq.mp hf)) e)
  · intro b hb
    obtain ⟨o, ho⟩ := hfo b hb
    refine ⟨Nat.ne_of_lt (Heap.lt_size ho), fun x c e => ?_⟩
    rcases ownC x c e with z | z
    · intro q
      subst q
      exact absurd (Nat.lt_of_lt_of_le (Heap.lt_size ho) (Nat.le_of_succ_le z)) (Nat.lt_irrefl _)
    · exact (hfp b hb).2.2.2.2.1 x c (hcl x c z)
  · intro b o e hb
    rcases (hfp b hb).2.2.2.1 with z | z
    · exact I.ok.noex b o e z
    · exact absurd (Nat.lt_of_lt_of_le (Heap.lt_size e) (Nat.le_trans I.ok.bsz z)) (Nat.lt_irrefl _)
  · intro b hb z
    rcases List.mem_cons.mp (I.stkSub b z) with q | q
    · exact (hfp b hb).2.1 q
    · exact (hfp b hb).2.2.1 q
  · intro i x v h1 h2 h3
    have h1 : (capN own fr)[i]? = some x := h1
    unfold capN at h1
    unfold capS at h2
    by_cases hi : i < own.length
    · rw [List.getElem?_append_left (by rw [List.length_replicate]; exact hi), List.getElem?_replicate, if_pos hi] at h2
      cases h2
    · have hi' : own.length ≤ i := Nat.le_of_not_lt hi
      rw [List.getElem?_append_right hi', List.getElem?_map] at h1
      rw [List.getElem?_append_right (by rw [List.length_replicate]; exact hi'), List.length_replicate, List.getElem?_map] at h2
      cases e : fr[i - own.length]? with
      | none => rw [e] at h1; cases h1
      | some y =>
        rw [e] at h1 h2
        have hy1 : y.1 = x := Option.some.inj h1
        have hy2 : (σ[y.2]?).getD none = some v := Option.some.inj h2
        obtain ⟨c1, c2⟩ := B.cap y (List.mem_of_getElem? e)
        rw [hy1] at c1 c2
        have hs : σ[y.2]? = some (some v) := by
          cases e2 : σ[y.2]? with
          | none => rw [e2] at hy2; cases hy2
          | some o => rw [e2] at hy2; cases o with
            | none => cases hy2
            | some w => cases hy2; rfl
        obtain ⟨m, hm, hl⟩ := I.loc
        have hfree := B.free _ (PySem.mem_of_lookup c1) rfl
        obtain ⟨u, r, l⟩ := hl y.2 x v c2 hs (hfree.elim (fun z => .inr (.inl z)) fun z => .inr (.inr z))
        refine ⟨u, r, ?_⟩
        obtain ⟨k, c, e3, z⟩ : (X.env.kindOf x = some .cell ∨ X.env.kindOf x = some .free) ∧ ∃ c, X.env.cells.lookup x = some c ∧ s.heap.IsCell c (some u) := by
          rcases l with ⟨k, _⟩ | q
          · have k : X.env.scope.names.lookup x = some .local := k
            rcases hfree with z | z <;> (rw [z] at k; cases k)
          · exact q
        obtain ⟨d, hd⟩ := hcl2 _ (PySem.mem_of_lookup c1) rfl
        have hd' := hcl x d hd
        rw [e3] at hd'
        cases hd'
        obtain ⟨c', hc'⟩ : ∃ c', (cellsFrom (s.heap.objs.size + 1) scope.names cl).lookup x = some c' := Option.isSome_iff_exists.mp (PySem.W.cellsFrom_some scope.names _ _ (.inr (by rw [hd]; rfl)))
        have hcc : c' = c := by
          rcases ownC x c' hc' with q | q
          · -- an own cell of that name: it is free, so no
            exfalso
            have : (x, NameKind.cell) ∉ scope.names := fun m => by
              have := B.look _ m
              rw [c1] at this
              cases this
            exact absurd hc' (by
              rw [cf_out this]
              intro z
              rw [hd] at z
              cases z
              exact absurd (clt x _ hd) (Nat.not_lt.mpr (Nat.le_of_succ_le q)))
          · rw [hd] at q; cases q; rfl
        subst hcc
        refine .inr ⟨?_, c', hc', z.keeps hk⟩
        exact relabel_free c1
  · intro x c e
    rcases hc x c e with z | z
    · exact ⟨_, z⟩
    · obtain ⟨v, q⟩ := I.cell x c (hcl x c z)
      exact ⟨v, q.keeps hk⟩
  · intro x c e
    rcases ownC x c e with z | z
    · exact I.hok.fresh (Nat.le_of_succ_le z)
    · exact I.freeC x c (hcl x c z)
  · intro p hp
    exact absurd (show p ∈ ([] : List (Addr × Obj)) from hp) (by simp)
  · show (capS _ _ _).length = (capN _ _).length
    unfold capS capN
    simp
end
def PTs (X : Cx) (ifs : List Expr) (t : TT) : Prop :=
  ∀ (pins : List (Addr × Obj)) (s : Shared) (σ : St) (H : Hp) (Q : Bool → Hp → Prop), Inv X pins σ H s → t σ H Q →
    wpAny (model X.prog X.w) X.A (forIn ifs true fun c r => if r = true then do let ok ← isTrue c X.env (eval c X.env); pure (ForInStep.yield ok) else pure (ForInStep.yield r)) (TP X pins σ Q) X.xe s
def tYes : TT := fun _ H Q => Q true H
theorem pts_nil {X : Cx} : PTs X [] tYes := fun pins s σ H Q I h => wpAny_tests_nil ⟨H, I, h⟩
section
variable {prog : Program} {w : World} {A : Around} {R : Result → Shared → Prop} {s : Shared}
theorem compLoop_any {elt target iter : Expr} {ifs : List Expr} {scope : Scope} {pos : Pos} {it acc : Value} {env : Env} (I : Nat → Shared → Prop)
    (turn : ∀ n s, I n s → wpAny (model prog w) A (pyNext it) (fun r s₁ => match r with
      | none => R (.ok .next) s₁
      | some v => wpAny (model prog w) A (letOwnedTupleGo target it v) (fun _ s₁ => wpAny (model prog w) A (assign target env v) (fun _ s₂ =>
          wpAny (model prog w) A (forIn ifs true fun c r => if r = true then do let ok ← isTrue c env (eval c env); pure (ForInStep.yield ok) else pure (ForInStep.yield r)) (fun ok s₃ =>
            if ok = true then wpAny (model prog w) A (eval elt env) (fun x s₄ =>
              wpAny (model prog w) A (call (.builtin "list.append") [acc, x]) (fun _ s₅ => ∃ m, m < n ∧ I m s₅) (fun _ _ => False) s₄) (fun _ _ => False) s₃
            else ∃ m, m < n ∧ I m s₃) (fun _ _ => False) s₂) (fun _ _ => False) s₁) (fun _ _ => False) s₁) (fun _ _ => False) s)
    (n : Nat) (h : I n s) :
    codeAny (model prog w) A (.compLoop (.ListComp elt [⟨target, iter, ifs, 0⟩] scope pos) 0 it acc env) R s := by
  refine codeAny_loop rfl I (fun n s hI => ?_) n h
  show wpAny _ A ((compTurn (.ListComp elt [⟨target, iter, ifs, 0⟩] scope pos) 0 it acc env).onRaise (fun x => do noteFrame x env; theTreesLotGoes x)) _ _ s
  refine wpAny_noted ?_
  rw [compTurn_list]
  refine wpAny_bind (wpAny_standAt (wpAny_bind (wpAny_mono (turn n s hI) (fun r s₁ h₁ => ?_) fun _ _ h' => h'.elim)))
  cases r with
  | none => exact wpAny_pure h₁
  | some v =>
    refine wpAny_bind (wpAny_mono h₁ (fun _ s₁' h₁' => ?_) fun _ _ h' => h'.elim)
    refine wpAny_bind (wpAny_mono h₁' (fun _ s₂ h₂ => wpAny_bind (wpAny_mono h₂ (fun ok s₃ h₃ => ?_) fun _ _ h' => h'.elim)) fun _ _ h' => h'.elim)
    cases ok with
    | false => exact wpAny_pure ⟨rfl, h₃⟩
    | true =>
      exact wpAny_bind (wpAny_bind (wpAny_mono h₃ (fun x s₄ h₄ => wpAny_bind (wpAny_mono h₄ (fun _ s₅ h₅ => wpAny_pure (wpAny_pure ⟨rfl, h₅⟩)) fun _ _ h' => h'.elim)) fun _ _ h' => h'.elim))
end
def tBlock (g : TG) (tt : TT) (te : TE) (J : It) (D : Addr) (σ0 : St) (H1 : Hp) (Q : VK) : Prop :=
  ∃ W : Nat → Nat → St → Hp → Prop, (∃ m, W 0 m σ0 (upd H1 D (.lst []))) ∧ ∀ i m σ' H2, W i m σ' H2 →
    (J.stop i H2 ∧ Q (.ref D) H2) ∨ (J.go i H2 ∧ ∀ x H3, J.yld i H2 x H3 → g x σ' H3 fun σ4 H4 => tt σ4 H4 fun b H5 =>
      if b = true then te σ4 H5 fun y H6 => ∃ vs, H6 D = some (.lst vs) ∧ vs.length < sizeLine ∧ ∃ m', m' < m ∧ W (i + 1) m' σ4 (upd H6 D (.lst (vs ++ [y])))
      else ∃ m', m' < m ∧ W (i + 1) m' σ4 H5)
def tComp (k : Nat) (fr : List (Str × Nat)) (wi : TI) (g : TG) (tt : TT) (te : TE) : TE := fun σ H Q => wi σ H fun J H1 => ∀ D, H1 D = none → tBlock g tt te J D (capS k fr σ) H1 Q
section
variable {X : Cx} {tg iter elt : Expr} {ifs : List Expr} {scope : Scope} {pos : Pos} {own : List Str} {fr : List (Str × Nat)} {wi : TI} {g : TG} {tt : TT} {te : TE}
theorem comp_run {pins : List (Addr × Obj)} {s2 : Shared} {σ : St} {H2 : Hp} {it : Addr} {fp : List Addr} {tn : Nat → Heap → Prop} {J : It} {Q : VK} {cl : List (Str × Addr)} {RR : Value → Addr → Result → Shared → Prop} {E : Value → Shared → Prop}
    (hc : X.calm = true) (B : BlScope X scope own fr)
    (hb : ∀ cl s H fp, PG (cxIn X (capN own fr) scope cl s H fp) tg g ∧ PTs (cxIn X (capN own fr) scope cl s H fp) ifs tt ∧ PE (cxIn X (capN own fr) scope cl s H fp) elt te)
    (hcl : ∀ x c, cl.lookup x = some c → X.env.cells.lookup x = some c) (hcl2 : ∀ y ∈ scope.names, y.2 = .free → ∃ c, cl.lookup y.1 = some c)
    (I2 : Inv X pins σ H2 s2) (T : Turn X.prog X.w X.K tg J fp it tn) (st2 : tn 0 s2.heap) (f2 : ∀ b ∈ fp, FpOk X pins H2 b) (q : ∀ D, H2 D = none → tBlock g tt te J D (capS own.length fr σ) H2 Q)
    (hRR : ∀ D C s' H', Inv X pins σ H' s' → Q (.ref D) H' → (∃ m, s'.heap.Ns C m) → C ≠ X.env.locals → (∀ x c, X.env.cells.lookup x = some c → c ≠ C) → (∀ p ∈ X.pn ++ pins, p.1 ≠ C) → X.s₀.heap.objs.size ≤ C → H' C = none → RR (.ref D) C (.ok .next) s') :
    wpAny (model X.prog X.w) X.A (newList []) (fun acc s₃ => wpAny (model X.prog X.w) X.A (newFunctionEnv scope X.env.globals cl [] X.env.qual none .none (some X.env)) (fun cenv s₄ =>
      codeAny (model X.prog X.w) X.A (.compStart (.ListComp elt [⟨tg, iter, ifs, 0⟩] scope pos) 0 (.ref it) acc { cenv with scope := relabel scope X.env }) (RR acc cenv.locals) s₄) E s₃) E s2 := by
  refine wpAny_newObj_type ?_
  have fr0 : H2 s2.heap.objs.size = none := I2.hok.fresh (Nat.le_refl _)
  have I3 := I2.lnew (its := []) (ys := []) (t' := s2.toks) .nil (Nat.zero_le _)
  generalize hs3 : ({ s2 with heap := s2.heap.push { cls := .type "list", data := .seq ([] : List Value).toArray } } : Shared) = s3 at *
  have k23 : ∀ b o, s2.heap.get? b = some o → s3.heap.get? b = some o := fun b o e => by rw [← hs3]; exact Heap.get?_push_of_some _ e
  have sz3 : s3.heap.objs.size = s2.heap.objs.size + 1 := by rw [← hs3]; exact Heap.size_push ..
  have I3' : Inv X pins σ (upd H2 s2.heap.objs.size (.lst [])) s3 := I3
  have fne : ∀ b ∈ fp, b ≠ s2.heap.objs.size := fun b hb z => by
    obtain ⟨o, ho, _⟩ := T.obj 0 _ st2 b hb
    exact absurd (Heap.lt_size ho) (by rw [z]; exact Nat.lt_irrefl _)
  have f3 : ∀ b ∈ fp, FpOk X pins (upd H2 s2.heap.objs.size (.lst [])) b := fun b hb => ⟨by rw [upd_ne (fne b hb)]; exact (f2 b hb).1, (f2 b hb).2⟩
  have st3 : tn 0 s3.heap := T.keep 0 _ _ st2 fun b _ o e => k23 b o e
  have hfo : ∀ b ∈ fp, ∃ o, s3.heap.get? b = some o := fun b hb => let ⟨o, ho, _⟩ := T.obj 0 _ st3 b hb; ⟨o, ho⟩
  refine newEnv_block fun h' hn hk hce => ?_
  have I4 := inv_block (own := own) I3' B hcl hcl2 f3 hfo hn hk hce
  obtain ⟨hg, ht, he⟩ := hb cl s3 (upd H2 s2.heap.objs.size (.lst [])) fp
  have st4 : tn 0 h' := T.keep 0 _ _ st3 fun b _ o e => hk b o e
  have stat : ∀ {H' : Hp}, (∀ b ∈ fp, H' b = none) → ∀ b ∈ fp, FpOk (cxIn X (capN own fr) scope cl s3 (upd H2 s2.heap.objs.size (.lst [])) fp) [] H' b := fun {H'} hnn b hb =>
    ⟨hnn b hb, (I4.ok.exf b hb).1, I4.ok.exfs b hb, .inl hb, (I4.ok.exf b hb).2, fun p hp => absurd (show p ∈ ([] : List (Addr × Obj)) from hp) (by simp)⟩
  obtain ⟨W, ⟨m0, w0⟩, turn⟩ := q s2.heap.objs.size fr0
  have loop : codeAny (model X.prog X.w) X.A (.compLoop (.ListComp elt [⟨tg, iter, ifs, 0⟩] scope pos) 0 (.ref it) (.ref s2.heap.objs.size) (cxIn X (capN own fr) scope cl s3 (upd H2 s2.heap.objs.size (.lst [])) fp).env)
      (RR (.ref s2.heap.objs.size) s3.heap.objs.size) { s3 with heap := h' } := by
    refine compLoop_any (fun n s' => ∃ i σ' H', Inv (cxIn X (capN own fr) scope cl s3 (upd H2 s2.heap.objs.size (.lst [])) fp) [] σ' H' s' ∧ tn i s'.heap ∧ (∀ b ∈ fp, H' b = none) ∧ W i n σ' H') ?_ m0
      ⟨0, _, _, I4, st4, fun b hb => (f3 b hb).1, w0⟩
    rintro n s5 ⟨i, σ5, H5, I5, st5, fr5, w5⟩
    rcases turn i n σ5 H5 w5 with ⟨stop, qn⟩ | ⟨go, step⟩
    · refine thn (T.done (cxIn X (capN own fr) scope cl s3 (upd H2 s2.heap.objs.size (.lst [])) fp) rfl rfl rfl hc i [] s5 σ5 H5 _ I5 (stat fr5) st5 stop) fun r s6 ⟨hr, I6⟩ => ?_
      subst hr
      have I7 : Inv X pins σ H5 s6 := I3'.call' (ch := fp) I6.os I6.base I6.hok I6.bare fun b hb => ⟨(f3 b hb).2.2.2.1, (f3 b hb).2.1, (f3 b hb).2.2.2.2.1, (f3 b hb).2.2.2.2.2⟩
      obtain ⟨m6, hn6, _⟩ := I6.loc
      refine hRR _ _ s6 H5 I7 qn ⟨m6, hn6⟩ (Nat.ne_of_gt I3'.lt) (fun x c e => ?_) (fun p hp => ?_) I3'.sz I6.free
      · obtain ⟨v, z⟩ := I3'.cell x c e
        exact Nat.ne_of_lt z.lt
      · exact Nat.ne_of_lt (Heap.lt_size (I3'.pin p hp).1)
    · refine thn (T.item (cxIn X (capN own fr) scope cl s3 (upd H2 s2.heap.objs.size (.lst [])) fp) rfl rfl rfl hc i [] s5 σ5 H5 _ I5 (stat fr5) st5 go) fun r s6 ⟨u, hr, h6⟩ => ?_
      subst hr
      refine thn h6 fun _ s7 ⟨x, H7, I7, r7, y7, st7, fr7⟩ => ?_
      have I7' := I7.pinned (stat fr7) (T.obj _ _ st7)
      refine thn (hg _ s7 σ5 H7 x u _ I7' r7 (step x H7 y7)) fun _ s8 ⟨σ8, H8, I8, q8⟩ => ?_
      refine thn (ht _ s8 σ8 H8 _ I8 q8) fun b s9 ⟨H9, I9, q9⟩ => ?_
      have again : ∀ {sA : Shared} {σA : St} {HA : Hp} {m' : Nat}, Inv (cxIn X (capN own fr) scope cl s3 (upd H2 s2.heap.objs.size (.lst [])) fp) ([] ++ pinsAt fp s7.heap) σA HA sA → m' < n → W (i + 1) m' σA HA →
          ∃ m, m < n ∧ ∃ i σ' H', Inv (cxIn X (capN own fr) scope cl s3 (upd H2 s2.heap.objs.size (.lst [])) fp) [] σ' H' sA ∧ tn i sA.heap ∧ (∀ b ∈ fp, H' b = none) ∧ W i m σ' H' := fun {sA σA HA m'} IA hm wA => by
        refine ⟨m', hm, i + 1, σA, HA, IA.unpinned, T.keep _ _ _ st7 fun b hb o e => (IA.pin (b, o) (List.mem_append_right _ (List.mem_append_right _ (mem_pinsAt hb e)))).1, fun b hb => ?_, wA⟩
        obtain ⟨o, e, d⟩ := T.obj _ _ st7 b hb
        exact (IA.pin (b, o) (List.mem_append_right _ (List.mem_append_right _ (mem_pinsAt hb e)))).2.1
      cases b with
      | false =>
        obtain ⟨m', hm, w9⟩ := q9
        exact again I9 hm w9
      | true =>
        have q9 : te σ8 H9 _ := q9
        show wpAny _ _ _ _ _ _
        refine thn (he _ s9 σ8 H9 _ I9 q9) fun y sA ⟨vy, HA, IA, rA, vs, hvs, hlen, m', hm, wA⟩ => ?_
        refine thn (mt_append (X := cxIn X (capN own fr) scope cl s3 (upd H2 s2.heap.objs.size (.lst [])) fp) _ sA σ8 HA (.ref s2.heap.objs.size) [vy] (.ref s2.heap.objs.size) [y] (fun _ HB => W (i + 1) m' σ8 HB) IA rfl (.cons rA .nil) ⟨_, vs, vy, rfl, rfl, hvs, hlen, wA⟩) fun _ sB ⟨_, HB, IB, _, wB⟩ => ?_
        exact again IB hm wB
  exact codeAny_compStart_list loop (T.self _ 0 _ _ _ st4 loop)
theorem SameBut.get {a : Addr} {h h' : Heap} (x : Heap.SameBut a h h') : ∀ b o, b ≠ a → h.get? b = some o → h'.get? b = some o := fun b o n e => (x.2 b n).trans e
theorem pe_comp (hc : X.calm = true) (B : BlScope X scope own fr) (hi : PI X tg iter wi)
    (hb : ∀ cl s H fp, PG (cxIn X (capN own fr) scope cl s H fp) tg g ∧ PTs (cxIn X (capN own fr) scope cl s H fp) ifs tt ∧ PE (cxIn X (capN own fr) scope cl s H fp) elt te)
    (hs : ∀ x, foldedSetIterable iter X.env x = pure x := by intro _; rfl) :
    PE X (.ListComp elt [⟨tg, iter, ifs, 0⟩] scope pos) (tComp own.length fr wi g tt te) := by
  intro pins s σ H Q I h
  obtain ⟨cl, hclos, hcl, hcl2⟩ := clos_ok (scope := scope) (env := X.env) fun y hy hf => I.ok.has y.1 (B.free y hy hf)
  rw [eval_ListComp]
  refine wpAny_comprehension_free (use := none) rfl hs hclos B.kind B.loc (thn (hi pins s σ H _ I h) fun v s1 h1 => thn h1 fun itv s2 h2 => ?_)
  obtain ⟨it, fp, tn, J, H2, e, I2, T, st2, f2, q⟩ := h2
  subst e
  refine comp_run (RR := fun acc C => compPost (model X.prog X.w) X.A X.xe none (EP X pins σ Q) acc C) (Q := Q) hc B hb hcl hcl2 I2 T st2 f2 q ?_
  intro D C s' H' I' hq hn n1 n2 n3 n4 n5
  obtain ⟨m, hn⟩ := hn
  refine ⟨m, hn, fun h' hs' => ⟨.ref D, H', I'.turned (it := C) (t' := s'.toks) (fun b o hb e => SameBut.get hs' b o hb e) n5 (Ne.symm (Ne.symm n1)) (.inr n4) n2 n3, rfl, hq⟩⟩
theorem ps_comp {i : Nat} {x : Str} {pos' spos : Pos} (hc : X.calm = true) (B : BlScope X scope own fr) (hi : PI X tg iter wi)
    (hb : ∀ cl s H fp, PG (cxIn X (capN own fr) scope cl s H fp) tg g ∧ PTs (cxIn X (capN own fr) scope cl s H fp) ifs tt ∧ PE (cxIn X (capN own fr) scope cl s H fp) elt te)
    (hN : X.N.Nodup) (hix : X.N[i]? = some x) (hx : X.env.scope.names.lookup x = some .local)
    (hsw : swapsWith (.ListComp elt [⟨tg, iter, ifs, 0⟩] scope pos) (some (.Name x pos')) spos.line X.env = pure true)
    (hs : ∀ x, foldedSetIterable iter X.env x = pure x := by intro _; rfl) :
    PS X (.Assign [.Name x pos'] (.ListComp elt [⟨tg, iter, ifs, 0⟩] scope pos) spos) (tAsg (tComp own.length fr wi g tt te) (gName i)) := by
  intro pins s σ H D I h
  obtain ⟨cl, hclos, hcl, hcl2⟩ := clos_ok (scope := scope) (env := X.env) fun y hy hf => I.ok.has y.1 (B.free y hy hf)
  rw [exec_Assign_Name_used _ _ _ _ hsw]
  refine wpAny_bind (wpAny_standAt (wpAny_bind ?_))
  show wpAny _ _ (do let _ ← comprehension (.ListComp elt [⟨tg, iter, ifs, 0⟩] scope pos) scope X.env _ (newList []) false (eval iter X.env) (some (assign (.Name x pos') X.env))) _ _ s
  refine wpAny_bind (wpAny_mono (wpAny_comprehension_free (use := some (assign (.Name x pos') X.env)) (Q := fun _ s' => SP X pins D .next s') rfl hs hclos B.kind B.loc (thn (hi pins s σ H _ I h) fun v s1 h1 => thn h1 fun itv s2 h2 => ?_))
    (fun _ s' hq => wpAny_pure (wpAny_pure hq)) fun _ _ e => e)
  obtain ⟨it, fp, tn, J, H2, e, I2, T, st2, f2, q⟩ := h2
  subst e
  refine comp_run (RR := fun acc C => compPost (model X.prog X.w) X.A X.xe (some (assign (.Name x pos') X.env)) (fun _ s' => SP X pins D .next s') acc C) (Q := fun v H' => gName i v σ H' D.nx) hc B hb hcl hcl2 I2 T st2 f2 q ?_
  intro DD C s' H' I' hq hn n1 n2 n3 n4 n5
  obtain ⟨m, hn⟩ := hn
  show wpAny _ _ (assign (.Name x pos') X.env (.ref DD)) _ _ s'
  refine wpAny_assign_Name (store_ok2 I' hN hix (.inl hx) (v := .ref DD) rfl (fun s3 I3 ⟨a, hsa, ha⟩ => ?_) (.inr hx))
  have hCa : C ≠ a := by
    rcases ha with z | z
    · rw [z]; exact n1
    · exact (n2 x a z).symm
  refine ⟨m, hn.sameBut hsa hCa, fun h' hs' => ⟨σ.set i (some (.ref DD)), H', I3.turned (it := C) (t' := s3.toks) (fun b o hb e => SameBut.get hs' b o hb e) n5 n1 (.inr n4) n2 n3, hq⟩⟩
end
end L2
namespace L2
open PySem PySem.Spec PyProof.Rows
section
variable {X : Cx}
theorem op_mulG : OpR X (binaryOp .Mult) (rI IntMulOk fun i j => .int (i * j)) :=
  opI fun i j t u s Q E c h => PyProof.Rows.mul_int h c
def cV : V → Option Value
  | .ty n => some (.type n)
  | .ref a => some (.ref a)
  | _ => none
theorem call_isinst : CallR X (.builtin "isinstance") (fun xs H Q => ∃ x y c t b, xs = [x, y] ∧ cV y = some c ∧ TyOf X.K H x t ∧ PySem.W.kitOne X.K t c = some b ∧ Q (.bl b) H) := by
  intro pins s σ H xs us Q I r h
  obtain ⟨x, y, c, t, b, rfl, hc, ty, e, q⟩ := h
  obtain ⟨u, v, rfl, rx, ry⟩ := vals2 r
  have hv : v = c := by
    cases y <;> first | (cases hc; done) | (cases hc; cases ry; rfl)
  subst hv
  exact isinst_ok I rx ty e fun tk => ⟨.bl b, H, I.tok _, rfl, q⟩
theorem all_range (bs : List Bool) : (List.range bs.length).all (fun i => (bs[i]?).getD true) = bs.all id := by
  rw [Bool.eq_iff_iff, List.all_eq_true, List.all_eq_true]
  constructor
  · intro h b hb
    obtain ⟨i, hi, rfl⟩ := List.mem_iff_getElem.mp hb
    have := h i (List.mem_range.mpr hi)
    rw [List.getElem?_eq_getElem hi] at this
    exact this
  · intro h i hi
    have hi := List.mem_range.mp hi
    rw [List.getElem?_eq_getElem hi]
    exact h _ (List.getElem_mem hi)
theorem bools_truth {A : Around} {prog : Program} {w : World} {bs : List Bool} {its : List Value} (r : Vals (bs.map V.bl) its) : TruthOf prog w A (fun i v => its.toArray[i]? = some v) (fun i => (bs[i]?).getD true) := by
  intro i v s Q E hP hQ
  have hP : its[i]? = some v := by simpa using hP
  have hl := r.length
  rw [List.length_map] at hl
  have hi : i < bs.length := by rw [hl]; exact (List.getElem?_eq_some_iff.mp hP).1
  obtain ⟨u, hu, rv⟩ := r.get (i := i) (x := .bl bs[i]) (by rw [List.getElem?_map, List.getElem?_eq_getElem hi]; rfl)
  rw [hP] at hu
  cases hu
  cases rv
  have hQ : Q ((bs[i]?).getD true) s := hQ
  rw [List.getElem?_eq_getElem hi] at hQ
  exact wpAny_truthy_bool hQ
theorem call_all (hc : X.calm = true) : CallR X (.builtin "all") (fun xs H Q => ∃ (p : Addr) (bs : List Bool), xs = [.ref p] ∧ SqL X.K H p (bs.map V.bl) ∧ Q (.bl (bs.all id)) H) := by
  intro pins s σ H xs us Q I r h
  obtain ⟨p, bs, rfl, hq, q⟩ := h
  obtain ⟨u, rfl, rx⟩ := vals1 r
  cases rx
  obtain ⟨its, rv, pl, hz⟩ := I.list hq
  have hl := rv.length
  rw [List.length_map] at hl
  refine call_all_walk (wpAny_pyIter_list pl.isList ?_)
  have hne : p ≠ s.heap.objs.size := fun e => by
    obtain ⟨o, n, ho, _⟩ := pl
    exact absurd (Heap.lt_size ho) (by rw [e]; exact Nat.lt_irrefl _)
  refine ⟨s.heap.objs.size, _, _, _, _, _, fun i => (bs[i]?).getD true, rfl, Walks.list (A := X.A.in1) (I.ok.hd hc) _ p hne its.toArray, ⟨⟨_, Heap.get?_push_size _ rfl, rfl, rfl⟩, pl.isList.at fun o e => Heap.get?_push_of_some _ e⟩, bools_truth rv, fun h' tk kp => ?_⟩
  have e : (List.range its.toArray.size).all (fun i => (bs[i]?).getD true) = bs.all id := by
    rw [List.size_toArray, ← hl]; exact all_range bs
  rw [e]
  have f := I.fpOk (H' := H) (Nat.le_refl s.heap.objs.size) (I.hok.fresh (Nat.le_refl _))
  exact ⟨.bl _, H, (I.kept (h' := s.heap.push { cls := .type "list_iterator", data := .fields #[.ref p, .int 0 0] }) (t' := s.toks) fun b o e => Heap.get?_push_of_some _ e).turned (it := s.heap.objs.size) (t' := tk) (fun b o hb e => kp b o (by simpa using hb) e) f.1 f.2.1 f.2.2.2.1 f.2.2.2.2.1 f.2.2.2.2.2, rfl, q⟩
theorem call_rng1 : CallR X (.type "range") (fun xs H Q => ∃ j, xs = [.int j] ∧ ∀ p, H p = none → Q (.ref p) (upd H p (.rng 0 j))) := by
  intro pins s σ H xs us Q I r h
  obtain ⟨j, rfl, q⟩ := h
  obtain ⟨u, rfl, t, rfl⟩ := vals1 r
  refine call_range_1 ⟨.ref s.heap.objs.size, _, I.laid (a := s.heap.objs.size) (o := .rng 0 j) (fun b o e => Heap.get?_push_of_some _ e) (Nat.le_refl _) ?_, rfl, q _ (I.hok.fresh (Nat.le_refl _))⟩
  exact ⟨_, _, _, Heap.get?_push_size _ rfl⟩
def rngV (lo hi : Int) : List V := (List.range (hi - lo).toNat).map fun i => V.int (lo + (i : Nat))
theorem call_list_rng (hc : X.calm = true) : CallR X (.type "list") (fun xs H Q => ∃ p lo hi, xs = [.ref p] ∧ H p = some (.rng lo hi) ∧ (-(2 ^ 62) ≤ lo ∧ lo < 2 ^ 62 ∧ -(2 ^ 62) ≤ hi ∧ hi < 2 ^ 62) ∧ (hi - lo).toNat ≤ 2 ^ 24 ∧
    ∀ l, H l = none → Q (.ref l) (upd H l (.lst (rngV lo hi)))) := by
  intro pins s σ H xs us Q I r h
  obtain ⟨p, lo, hi, rfl, hp, ⟨h1, h2, h3, h4⟩, hz, q⟩ := h
  obtain ⟨u, rfl, rx⟩ := vals1 r
  cases rx
  obtain ⟨t, u, v, ho⟩ := (show ObjOk X.prog X.w H s.heap p (.rng lo hi) from I.hok p _ hp)
  have hn : Builtin.Range.rangeSize lo hi 1 = (((hi - lo).toNat : Nat) : Int) := by rw [rangeSize_one]; split <;> omega
  refine call_list_range (I.ok.hd hc) (show IsRange s.heap p lo hi 1 t u v from ho) (small_one h1 h2 h3 h4) hn hz fun h' tk acc' c' kp e it => ?_
  refine ⟨.ref s.heap.objs.size, _, I.laid (a := s.heap.objs.size) (o := .lst (rngV lo hi)) (t' := tk) kp (Nat.le_refl _) ?_, rfl, q _ (I.hok.fresh (Nat.le_refl _))⟩
  refine ⟨by unfold rngV; rw [List.length_map, List.length_range]; exact hz, acc'.toList, c', ?_, by simpa using e⟩
  have hlen : acc'.toList.length = (hi - lo).toNat := by rw [Array.length_toList]; exact it.1
  have gen : ∀ (n : Nat) (k : Nat) (us : List Value), us.length = n → (∀ (i : Nat) w', us[i]? = some w' → ∃ t, w' = Value.int (lo + ((k + i : Nat) : Int)) t) → Vals ((List.range' k n).map fun (i : Nat) => V.int (lo + (i : Nat))) us := by
    intro n
    induction n with
    | zero => intro k us hl _; cases us with | nil => exact .nil | cons _ _ => cases hl
    | succ n ih =>
      intro k us hl hv
      cases us with
      | nil => cases hl
      | cons x us =>
        refine .cons ?_ (ih (k + 1) us (by simpa using hl) fun i w' e => ?_)
        · obtain ⟨t, e⟩ := hv 0 x rfl
          exact ⟨t, by simpa using e⟩
        · obtain ⟨t, e'⟩ := hv (i + 1) w' (by simpa using e)
          exact ⟨t, by rw [e', show ((k + (i + 1) : Nat) : Int) = ((k + 1 + i : Nat) : Int) by omega]⟩
  unfold rngV
  rw [List.range_eq_range']
  refine gen _ 0 _ hlen fun i w' e' => ?_
  obtain ⟨t, e2⟩ := it.2 i w' (by simpa using e')
  exact ⟨t, by rw [e2]; congr 1 <;> simp⟩
end
inductive EqD (K : PySem.W.Frag) (H : Hp) : Nat → V → V → Bool → Prop where
  | flat {n : Nat} {x y : V} (hx : flatV x = true) (hy : flatV y = true) : EqD K H n x y (eqV x y)
  | same {n : Nat} {a : Addr} : EqD K H n (.ref a) (.ref a) true
  | list {n : Nat} {a c : Addr} {xs ys : List V} {bs : List Bool} (ne : a ≠ c) (ha : SqL K H a xs) (hc : SqL K H c ys) (hl : xs.length = ys.length) (hb : bs.length = xs.length)
      (he : ∀ (j : Nat) x y b, xs[j]? = some x → ys[j]? = some y → bs[j]? = some b → EqD K H n x y b) : EqD K H (n + 1) (.ref a) (.ref c) (bs.all id)
  | listL {n : Nat} {a c : Addr} {xs ys : List V} (ne : a ≠ c) (ha : SqL K H a xs) (hc : SqL K H c ys) (hl : xs.length ≠ ys.length) : EqD K H (n + 1) (.ref a) (.ref c) false
  | tuple {n : Nat} {a c : Addr} {xs ys : List V} {bs : List Bool} (ne : a ≠ c) (ha : SqT K H a xs) (hc : SqT K H c ys) (hl : xs.length = ys.length) (hb : bs.length = xs.length)
      (he : ∀ (j : Nat) x y b, xs[j]? = some x → ys[j]? = some y → bs[j]? = some b → EqD K H n x y b) : EqD K H (n + 1) (.ref a) (.ref c) (bs.all id)
def ItemsEq (K : PySem.W.Frag) (H : Hp) (n : Nat) (xs ys : List V) (bs : List Bool) : Prop :=
  xs.length = ys.length ∧ bs.length = xs.length ∧ ∀ (j : Nat) x y b, xs[j]? = some x → ys[j]? = some y → bs[j]? = some b → EqD K H n x y b
section
variable {X : Cx} {pins : List (Addr × Obj)} {σ : St} {H : Hp} {s : Shared}
theorem items_at {A : Around} {xs ys : List V} {us vs : List Value} {bs : List Bool} (rx : Vals xs us) (ry : Vals ys vs) (hl : xs.length = ys.length) (hb : bs.length = xs.length)
    (ih : ∀ (j : Nat) x y b, xs[j]? = some x → ys[j]? = some y → bs[j]? = some b → ∀ u v, RelV x u → RelV y v → SeqAt.EqAt A s u v b) :
    ∀ j (h1 : j < us.toArray.size) (h2 : j < vs.toArray.size), SeqAt.EqAt A s us.toArray[j] vs.toArray[j] ((bs[j]?).getD true) := by
  intro j h1 h2
  have e1 := rx.length
  have e2 := ry.length
  have h1' : j < us.length := by simpa using h1
  have h2' : j < vs.length := by simpa using h2
  have g1 : xs[j]? = some (xs[j]'(by omega)) := List.getElem?_eq_getElem _
  have g2 : ys[j]? = some (ys[j]'(by omega)) := List.getElem?_eq_getElem _
  have g3 : bs[j]? = some (bs[j]'(by omega)) := List.getElem?_eq_getElem _
  obtain ⟨u, hu, ru⟩ := rx.get g1
  obtain ⟨v, hv, rv⟩ := ry.get g2
  have eu : us.toArray[j] = u := by
    rw [List.getElem?_eq_getElem h1'] at hu; simpa using hu
  have ev : vs.toArray[j] = v := by
    rw [List.getElem?_eq_getElem h2'] at hv; simpa using hv
  rw [eu, ev, g3]
  exact ih j _ _ _ g1 g2 g3 u v ru rv
theorem EqD.at {n : Nat} {x y : V} {b : Bool} (I : Inv X pins σ H s) (e : EqD X.K H n x y b) : ∀ {A : Around} {u v : Value}, A.units + n < cLine → RelV x u → RelV y v → SeqAt.EqAt A s u v b := by
  induction e with
  | flat hx hy => intro A u v _ ru rv; exact eqAt_V ru rv hx hy
  | same => intro A u v _ ru rv; cases ru; cases rv; exact SeqAt.EqAt.same _
  | @list n a c xs ys bs ne ha hc hl hb he ih =>
    intro A u v hA ru rv
    cases ru
    cases rv
    obtain ⟨its, r1, p1, _⟩ := I.list ha
    obtain ⟨its', r2, p2, _⟩ := I.list hc
    have e1 := r1.length
    have e2 := r2.length
    have q := SeqAt.RcAt.lists (e := fun j => (bs[j]?).getD true) p1.isList p2.isList (by simp; omega) (by omega) (items_at (A := A.in1) r1 r2 hl hb fun j x y b h1 h2 h3 u v ru rv => ih j x y b h1 h2 h3 (show A.units + 1 + n < cLine by omega) ru rv)
    rw [show its.toArray.size = bs.length by simp; omega, all_range] at q
    exact SeqAt.EqAt.of_refs ne q
  | @listL n a c xs ys ne ha hc hl =>
    intro A u v hA ru rv
    cases ru
    cases rv
    obtain ⟨its, r1, p1, _⟩ := I.list ha
    obtain ⟨its', r2, p2, _⟩ := I.list hc
    have e1 := r1.length
    have e2 := r2.length
    exact SeqAt.EqAt.of_refs ne (SeqAt.RcAt.lists_lengths p1.isList p2.isList (by simp; omega) (by omega))
  | @tuple n a c xs ys bs ne ha hc hl hb he ih =>
    intro A u v hA ru rv
    cases ru
    cases rv
    obtain ⟨its, r1, p1, _⟩ := I.tuple ha
    obtain ⟨its', r2, p2, _⟩ := I.tuple hc
    have e1 := r1.length
    have e2 := r2.length
    have q := SeqAt.RcAt.tuples (e := fun j => (bs[j]?).getD true) p1 p2 (by omega) (items_at (A := A.in1) r1 r2 hl hb fun j x y b h1 h2 h3 u v ru rv => ih j x y b h1 h2 h3 (show A.units + 1 + n < cLine by omega) ru rv)
    rw [show min its.toArray.size its'.toArray.size = bs.length by simp; omega, all_range, show (its.toArray.size == its'.toArray.size) = true by simp; omega, Bool.and_true] at q
    exact SeqAt.EqAt.of_refs ne q
def rEqL (K : PySem.W.Frag) (neg : Bool) : R2 := fun x y H Q => ∃ a c xs ys, x = .ref a ∧ y = .ref c ∧ SqL K H a xs ∧ SqL K H c ys ∧
  ((xs.length ≠ ys.length ∧ Q (.bl neg) H) ∨ ∃ bs, ItemsEq K H 6 xs ys bs ∧ Q (.bl (if neg then !bs.all id else bs.all id)) H)
def rEqT (K : PySem.W.Frag) (neg : Bool) : R2 := fun x y H Q => ∃ a c xs ys bs, x = .ref a ∧ y = .ref c ∧ SqT K H a xs ∧ SqT K H c ys ∧ ItemsEq K H 6 xs ys bs ∧ Q (.bl (if neg then !bs.all id else bs.all id)) H
theorem op_eqL (hu : X.A.units + 8 < cLine) : OpR X (compareOp .Eq) (rEqL X.K false) := by
  intro pins s σ H x y v u Q I rx ry h
  obtain ⟨a, c, xs, ys, rfl, rfl, ha, hc, h⟩ := h
  cases rx
  cases ry
  obtain ⟨its, r1, p1, _⟩ := I.list ha
  obtain ⟨its', r2, p2, _⟩ := I.list hc
  have e1 := r1.length
  have e2 := r2.length
  rcases h with ⟨hne, q⟩ | ⟨bs, ⟨hl, hb, he⟩, q⟩
  · exact SeqAt.eq_list_lengthsAt p1.isList p2.isList (by simp; omega) (by omega) ⟨.bl false, H, I, rfl, q⟩
  · refine SeqAt.eq_listAt (e := fun j => (bs[j]?).getD true) p1.isList p2.isList (by simp; omega) (by omega) (items_at (A := X.A.in1) r1 r2 hl hb fun j x y b h1 h2 h3 u v ru rv => (he j x y b h1 h2 h3).at I (show X.A.units + 1 + 6 < cLine by omega) ru rv) ?_
    rw [show its.toArray.size = bs.length by simp; omega, all_range]
    exact ⟨.bl (bs.all id), H, I, rfl, q⟩
theorem op_neL (hu : X.A.units + 8 < cLine) : OpR X (compareOp .NotEq) (rEqL X.K true) := by
  intro pins s σ H x y v u Q I rx ry h
  obtain ⟨a, c, xs, ys, rfl, rfl, ha, hc, h⟩ := h
  cases rx
  cases ry
  obtain ⟨its, r1, p1, _⟩ := I.list ha
  obtain ⟨its', r2, p2, _⟩ := I.list hc
  have e1 := r1.length
  have e2 := r2.length
  rcases h with ⟨hne, q⟩ | ⟨bs, ⟨hl, hb, he⟩, q⟩
  · exact SeqAt.RcNeAt.lists_lengths p1.isList p2.isList (by simp; omega) (by omega) _ _ _ _ ⟨.bl true, H, I, rfl, q⟩
  · refine SeqAt.RcNeAt.lists (e := fun j => (bs[j]?).getD true) p1.isList p2.isList (by simp; omega) (by omega) (items_at (A := X.A.in1) r1 r2 hl hb fun j x y b h1 h2 h3 u v ru rv => (he j x y b h1 h2 h3).at I (show X.A.units + 1 + 6 < cLine by omega) ru rv) _ _ _ _ ?_
    rw [show its.toArray.size = bs.length by simp; omega, all_range]
    exact ⟨.bl (!bs.all id), H, I, rfl, q⟩
theorem op_eqT (hu : X.A.units + 8 < cLine) : OpR X (compareOp .Eq) (rEqT X.K false) := by
  intro pins s σ H x y v u Q I rx ry h
  obtain ⟨a, c, xs, ys, bs, rfl, rfl, ha, hc, ⟨hl, hb, he⟩, q⟩ := h
  cases rx
  cases ry
  obtain ⟨its, r1, p1, _⟩ := I.tuple ha
  obtain ⟨its', r2, p2, _⟩ := I.tuple hc
  have e1 := r1.length
  have e2 := r2.length
  refine SeqAt.eq_tupleAt (e := fun j => (bs[j]?).getD true) p1 p2 (by omega) (items_at (A := X.A.in1) r1 r2 hl hb fun j x y b h1 h2 h3 u v ru rv => (he j x y b h1 h2 h3).at I (show X.A.units + 1 + 6 < cLine by omega) ru rv) ?_
  rw [show min its.toArray.size its'.toArray.size = bs.length by simp; omega, all_range, show (its.toArray.size == its'.toArray.size) = true by simp; omega, Bool.and_true]
  exact ⟨.bl (bs.all id), H, I, rfl, q⟩
theorem op_neT (hu : X.A.units + 8 < cLine) : OpR X (compareOp .NotEq) (rEqT X.K true) := by
  intro pins s σ H x y v u Q I rx ry h
  obtain ⟨a, c, xs, ys, bs, rfl, rfl, ha, hc, ⟨hl, hb, he⟩, q⟩ := h
  cases rx
  cases ry
  obtain ⟨its, r1, p1, _⟩ := I.tuple ha
  obtain ⟨its', r2, p2, _⟩ := I.tuple hc
  have e1 := r1.length
  have e2 := r2.length
  refine SeqAt.RcNeAt.tuples (e := fun j => (bs[j]?).getD true) p1 p2 (by omega) (items_at (A := X.A.in1) r1 r2 hl hb fun j x y b h1 h2 h3 u v ru rv => (he j x y b h1 h2 h3).at I (show X.A.units + 1 + 6 < cLine by omega) ru rv) _ _ _ _ ?_
  rw [show min its.toArray.size its'.toArray.size = bs.length by simp; omega, all_range, show (its.toArray.size == its'.toArray.size) = true by simp; omega, Bool.and_true]
  exact ⟨.bl (!bs.all id), H, I, rfl, q⟩
end
theorem k_int_int (K : PySem.W.Frag) : PySem.W.kitOne K (.type "int") (.type "int") = some true := by rfl
theorem k_int_bool (K : PySem.W.Frag) : PySem.W.kitOne K (.type "int") (.type "bool") = some false := by kernel_rfl
theorem k_bool_bool (K : PySem.W.Frag) : PySem.W.kitOne K (.type "bool") (.type "bool") = some true := by rfl
theorem k_bool_int (K : PySem.W.Frag) : PySem.W.kitOne K (.type "bool") (.type "int") = some true := by kernel_rfl
theorem k_tup_tup (K : PySem.W.Frag) : PySem.W.kitOne K (.type "tuple") (.type "tuple") = some true := by rfl
theorem k_list_list (K : PySem.W.Frag) : PySem.W.kitOne K (.type "list") (.type "list") = some true := by rfl
end L2
namespace L2
open PySem PySem.Spec PyProof.Rows
structure Cal (P : Program) (w : World) (K : PySem.W.Frag) (mg : Str → Option Value) (base : Heap) (x : Str) (k : Nat) (sp : Sp) : Prop where
  ex : ∃ (f : Addr) (fd : FuncData) (ps : List Str), FnOk P w K mg base CX0 k f fd ps sp ∧ mg x = some (.ref f) ∧ PySem.W.keepIn K (.ref f) = true ∧ Binds K fd ps []
theorem pe_cal {X : Cx} {x : Str} {k : Nat} {sp : Sp} {e : Expr} {es : List Expr} {t : TA} {p pos : Pos} (C : Cal X.prog X.w X.K X.mg X.base x k sp) (hr : Room k X.A) (hg : Gl X x) (ha : PA X (e :: es) t)
    (hdb : (x == ("__debug__" : Str)) = false := by decide) (he : starEach (e :: es) X.env = (false, eval e X.env) :: starEach es X.env := by rfl) (hpl : (backTo pos (starEach es X.env)).any (·.1) = false := by rfl) :
    PE X (.Call (.Name x p) (e :: es) [] pos) (tCall sp [] E0 t) := by
  obtain ⟨f, fd, ps, F, hm, hk, hb⟩ := C.ex
  exact pe_call F hr hg hm hk hb .nil pass0 ha hdb he hpl
structure CalM (P : Program) (w : World) (K : PySem.W.Frag) (mg : Str → Option Value) (base : Heap) (C : Addr) (m : Str) (k : Nat) (sp : Sp) : Prop where
  ex : ∃ (f : Addr) (fd : FuncData) (ps : List Str), FnOk P w K mg base CX0 k f fd ps sp ∧ Meth K C m f ∧ Binds K fd ps []
structure CalI (P : Program) (w : World) (K : PySem.W.Frag) (mg : Str → Option Value) (base : Heap) (x : Str) (C : Addr) (k : Nat) (sp : Sp) : Prop where
  ex : ∃ (f : Addr) (fd : FuncData) (ps : List Str), FnOk P w K mg base CX0 k f fd ps sp ∧ Mk K C f ∧ mg x = some (.ref C) ∧ Binds K fd ps []
theorem pe_new {X : Cx} {x : Str} {C : Addr} {k : Nat} {sp : Sp} {e : Expr} {es : List Expr} {t : TA} {p pos : Pos} (M : CalI X.prog X.w X.K X.mg X.base x C k sp) (hr : Room (k + 1) X.A) (hg : Gl X x) (ha : PA X (e :: es) t)
    (hdb : (x == ("__debug__" : Str)) = false := by decide) (he : starEach (e :: es) X.env = (false, eval e X.env) :: starEach es X.env := by rfl) (hpl : (backTo pos (starEach es X.env)).any (·.1) = false := by rfl) :
    PE X (.Call (.Name x p) (e :: es) [] pos) (tMake C sp [] E0 t) := by
  obtain ⟨f, fd, ps, F, hm, hk, hb⟩ := M.ex
  exact pe_make hm F hr hg hk hb .nil pass0 ha hdb he hpl
theorem pe_mth {X : Cx} {m : Str} {C : Addr} {k : Nat} {sp : Sp} {o e : Expr} {es : List Expr} {ta : TE} {t : TA} {apos pos : Pos} {pl : Sem Bool} (c : Cls X.K C) (M : CalM X.prog X.w X.K X.mg X.base C m k sp) (hr : Room k X.A) (ho : PE X o ta) (ha : PA X (e :: es) t)
    (hst : starEach (e :: es) X.env = (false, eval e X.env) :: starEach es X.env := by rfl) (hpl : (backTo pos (starEach es X.env)).any (·.1) = false := by rfl)
    (ht : eval (.Call (.Attribute o m apos) (e :: es) [] pos) X.env = (do
      let ov ← eval o X.env
      standAt apos.atName
      let (f, first) ← holding [ov] (getMethod ov m pl)
      callWith pos f first (backTo pos (starEach (e :: es) X.env)) (backToKw pos (keywordEach [] X.env))) := by rfl) :
    PE X (.Call (.Attribute o m apos) (e :: es) [] pos) (tMeth C m sp [] E0 ta t) := by
  obtain ⟨f, fd, ps, F, hm, hb⟩ := M.ex
  exact pe_meth ho c hm F hr hb .nil pass0 ha hst hpl ht
def blOk (outer : List (Str × NameKind)) (N : List Str) (scope : Scope) (fr : List (Str × Nat)) : Bool :=
  scope.kind == .function && scope.names.all (fun y => y.2 != .free || outer.lookup y.1 == some .cell || outer.lookup y.1 == some .free) && scope.names.all (fun y => scope.names.lookup y.1 == some y.2) &&
  fr.all fun y => scope.names.lookup y.1 == some .free && N[y.2]? == some y.1
theorem bl_of {X : Cx} {scope : Scope} {own : List Str} {fr : List (Str × Nat)} (h : blOk X.env.scope.names X.N scope fr = true) : BlScope X scope own fr := by
  unfold blOk at h
  simp only [Bool.and_eq_true, List.all_eq_true] at h
  obtain ⟨⟨⟨h1, h2⟩, h3⟩, h4⟩ := h
  refine ⟨?_, fun y hy hf => ?_, fun y hy hl => ?_, fun y hy => ?_, fun y hy => ?_⟩
  · cases e : scope.kind <;> rw [e] at h1 <;> first | rfl | (exact absurd h1 (by decide))
  · have := h2 y hy
    rw [hf] at this
    simp only [Bool.or_eq_true, beq_iff_eq] at this
    rcases this with (q | q) | q
    · exact absurd q (by decide)
    · exact .inl q
    · exact .inr q
  · have := h3 y hy
    rw [hl] at this
    exact beq_iff_eq.mp this
  · exact beq_iff_eq.mp (h3 y hy)
  · have := h4 y hy
    exact ⟨beq_iff_eq.mp this.1, beq_iff_eq.mp this.2⟩
def Sh (k : Nat) (cap σ : St) : Prop := ∃ o, o.length = k ∧ σ = o ++ cap
theorem Sh.mk1 {cap : St} {a : Option V} : Sh 1 cap (a :: cap) := ⟨[a], rfl, rfl⟩
theorem Sh.one {cap σ : St} (h : Sh 1 cap σ) : ∃ a, σ = a :: cap := by
  obtain ⟨o, h1, rfl⟩ := h
  match o, h1 with
  | [a], _ => exact ⟨a, rfl⟩
theorem Sh.two {cap σ : St} (h : Sh 2 cap σ) : ∃ a b, σ = a :: b :: cap := by
  obtain ⟨o, h1, rfl⟩ := h
  match o, h1 with
  | [a, b], _ => exact ⟨a, b, rfl⟩
def capOf (fr : List (Str × Nat)) (σ : St) : St := fr.map fun y => (σ[y.2]?).getD none
def Wv (n k : Nat) (cap : St) (Pv : Nat → List V → Hp → Prop) : Nat → Nat → St → Hp → Prop := fun i m σ H => m = n - i ∧ i ≤ n ∧ Sh k cap σ ∧ ∃ vs, Pv i vs H
def Lf (D : Addr) (n k : Nat) (cap : St) (Pv : Nat → List V → Hp → Prop) (i : Nat) (σ4 : St) (y : V) (H6 : Hp) : Prop :=
  ∃ vs, H6 D = some (.lst vs) ∧ vs.length < sizeLine ∧ ∃ m', m' < n - i ∧ Wv n k cap Pv (i + 1) m' σ4 (upd H6 D (.lst (vs ++ [y])))
def Lf0 (n k : Nat) (cap : St) (Pv : Nat → List V → Hp → Prop) (i : Nat) (σ4 : St) (H5 : Hp) : Prop := ∃ m', m' < n - i ∧ Wv n k cap Pv (i + 1) m' σ4 H5
theorem leaf {D : Addr} {n k : Nat} {cap : St} {Pv : Nat → List V → Hp → Prop} {i : Nat} {σ4 : St} {y : V} {H6 : Hp} {vs ws : List V} (hi : i < n) (sh : Sh k cap σ4) (hD : H6 D = some (.lst vs)) (hl : vs.length < sizeLine)
    (p : Pv (i + 1) ws (upd H6 D (.lst (vs ++ [y])))) : Lf D n k cap Pv i σ4 y H6 := ⟨vs, hD, hl, n - (i + 1), by omega, rfl, hi, sh, ws, p⟩
def tTurn (g : TG) (tt : TT) (te : TE) (D : Addr) (n k : Nat) (cap : St) (Pv : Nat → List V → Hp → Prop) (i : Nat) (x : V) (σ' : St) (H : Hp) : Prop :=
  g x σ' H fun σ4 H4 => tt σ4 H4 fun b H5 => if b = true then te σ4 H5 fun y H6 => Lf D n k cap Pv i σ4 y H6 else Lf0 n k cap Pv i σ4 H5
section
variable {K : PySem.W.Frag} {a D : Addr} {xs : List V} {g : TG} {tt : TT} {te : TE} {k : Nat} {fr : List (Str × Nat)} {σ : St} {H1 : Hp} {Q : VK}
theorem sh0 : Sh k (capOf fr σ) (capS k fr σ) := ⟨List.replicate k none, List.length_replicate, rfl⟩
theorem comp_any {J : It} {n : Nat} (it : Nat → V → Prop) (Pv : Nat → List V → Hp → Prop) (h0 : Pv 0 [] (upd H1 D (.lst [])))
    (go : ∀ i vs H, i < n → Pv i vs H → J.go i H ∧ ∀ x H', J.yld i H x H' → H' = H ∧ it i x) (stop : ∀ vs H, Pv n vs H → J.stop n H)
    (hs : ∀ i x vs σ' H, i < n → it i x → Sh k (capOf fr σ) σ' → Pv i vs H → tTurn g tt te D n k (capOf fr σ) Pv i x σ' H) (hd : ∀ vs H, Pv n vs H → Q (.ref D) H) : tBlock g tt te J D (capS k fr σ) H1 Q := by
  refine ⟨Wv n k (capOf fr σ) Pv, ⟨n, by simp, Nat.zero_le _, sh0, [], h0⟩, ?_⟩
  rintro i m σ' H2 ⟨rfl, hi, sh, vs, p⟩
  by_cases hlt : i < n
  · obtain ⟨g1, g2⟩ := go i vs H2 hlt p
    refine .inr ⟨g1, fun x H3 y => ?_⟩
    obtain ⟨rfl, hx⟩ := g2 x H3 y
    exact hs i x vs σ' _ hlt hx sh p
  · have e : i = n := by omega
    subst e
    exact .inl ⟨stop vs H2 p, hd vs H2 p⟩
theorem comp_itl (Pv : Nat → List V → Hp → Prop) (h0 : Pv 0 [] (upd H1 D (.lst []))) (hl : ∀ i vs H, i ≤ xs.length → Pv i vs H → SqL K H a xs)
    (hs : ∀ i x vs σ' H, i < xs.length → xs[i]? = some x → Sh k (capOf fr σ) σ' → Pv i vs H → tTurn g tt te D xs.length k (capOf fr σ) Pv i x σ' H) (hd : ∀ vs H, Pv xs.length vs H → Q (.ref D) H) : tBlock g tt te (Itl K a) D (capS k fr σ) H1 Q :=
  comp_any (fun i x => xs[i]? = some x) Pv h0 (fun i vs H hi p => ⟨⟨xs, xs[i], hl i vs H (Nat.le_of_lt hi) p, by simp [hi]⟩, fun x H' y => ⟨y.1, y.2 xs (hl i vs H (Nat.le_of_lt hi) p)⟩⟩)
    (fun vs H p => ⟨xs, hl _ vs H (Nat.le_refl _) p, Nat.le_refl _⟩) hs hd
theorem comp_itt (Pv : Nat → List V → Hp → Prop) (h0 : Pv 0 [] (upd H1 D (.lst []))) (hl : ∀ i vs H, i ≤ xs.length → Pv i vs H → SqT K H a xs)
    (hs : ∀ i x vs σ' H, i < xs.length → xs[i]? = some x → Sh k (capOf fr σ) σ' → Pv i vs H → tTurn g tt te D xs.length k (capOf fr σ) Pv i x σ' H) (hd : ∀ vs H, Pv xs.length vs H → Q (.ref D) H) : tBlock g tt te (Itt K a) D (capS k fr σ) H1 Q :=
  comp_any (fun i x => xs[i]? = some x) Pv h0 (fun i vs H hi p => ⟨⟨xs, xs[i], hl i vs H (Nat.le_of_lt hi) p, by simp [hi]⟩, fun x H' y => ⟨y.1, y.2 xs (hl i vs H (Nat.le_of_lt hi) p)⟩⟩)
    (fun vs H p => ⟨xs, hl _ vs H (Nat.le_refl _) p, Nat.le_refl _⟩) hs hd
theorem comp_itr {lo : Int} {n : Nat} (Pv : Nat → List V → Hp → Prop) (h0 : Pv 0 [] (upd H1 D (.lst [])))
    (hs : ∀ i x vs σ' H, i < n → x = .int (lo + i) → Sh k (capOf fr σ) σ' → Pv i vs H → tTurn g tt te D n k (capOf fr σ) Pv i x σ' H) (hd : ∀ vs H, Pv n vs H → Q (.ref D) H) : tBlock g tt te (Itr lo n) D (capS k fr σ) H1 Q :=
  comp_any (fun i x => x = .int (lo + i)) Pv h0 (fun i vs H hi p => ⟨hi, fun x H' y => y⟩) (fun vs H p => Nat.le_refl _) hs hd
end
def Ext (l : Addr) (H H' : Hp) : Prop := ∀ b o, b ≠ l → H b = some o → H' b = some o
theorem Ext.refl (l : Addr) (H : Hp) : Ext l H H := fun _ _ _ e => e
theorem Ext.trans {l : Addr} {H H1 H2 : Hp} (a : Ext l H H1) (b : Ext l H1 H2) : Ext l H H2 := fun c o n e => b c o n (a c o n e)
theorem Ext.new {l p : Addr} {H : Hp} {o : HO} (h : H p = none) : Ext l H (upd H p o) := fun c u _ e => by rw [upd_ne (ne_of_none e h)]; exact e
theorem Ext.set {l : Addr} {H : Hp} {o : HO} : Ext l H (upd H l o) := fun c u n e => by rw [upd_ne n]; exact e
theorem Same.ext {l : Addr} {H H' : Hp} (s : Same H H') : Ext l H H' := fun c o _ e => s c o e
theorem Same.new {p : Addr} {H : Hp} {o : HO} (h : H p = none) : Same H (upd H p o) := fun c u e => by rw [upd_ne (ne_of_none e h)]; exact e
theorem Same.upd {p : Addr} {H H' : Hp} {o : HO} (s : Same H H') (h : H p = none) : Same H (upd H' p o) := fun c u e => by rw [upd_ne (ne_of_none e h)]; exact s c u e
theorem Ext.upd {l p : Addr} {H H' : Hp} {o : HO} (s : Ext l H H') (h : H p = none) : Ext l H (upd H' p o) := fun c u n e => by rw [upd_ne (ne_of_none e h)]; exact s c u n e
theorem Ext.free {l p : Addr} {H H' : Hp} (s : Ext l H H') (n : p ≠ l) (h : H' p = none) : H p = none := by
  cases e : H p with
  | none => rfl
  | some o => rw [s p o n e] at h; cases h
theorem cx_K {CX : CXT} {P : Program} {w : World} {K : PySem.W.Frag} {mg : Str → Option Value} {base : Heap} {N : List Str} {qual : Str} {scope : Scope} {f : Addr} {cd : Value} {A : Around} {outer : List Env} {s : Shared} {H : Hp} {E : XK} : (cxOf CX P w K mg base N qual scope f cd A outer s H E).K = K := rfl
theorem in_K {X : Cx} {N : List Str} {scope : Scope} {cl : List (Str × Addr)} {s : Shared} {H : Hp} {fp : List Addr} : (cxIn X N scope cl s H fp).K = X.K := rfl
theorem wish_K {X : Cx} {E : Value → Shared → Prop} : (X.wish E).K = X.K := rfl
theorem pe_globI {X : Cx} {x : Str} {i : Int} {pos : Pos} (hg : Gl X x) (hm : ∃ t, X.mg x = some (.int i t)) (hd : (x == ("__debug__" : Str)) = false := by decide) : PE X (.Name x pos) (tC (.int i)) := by
  obtain ⟨t, e⟩ := hm
  exact pe_glob hg e ⟨t, rfl⟩ hd
theorem atI_at {α : Type} {xs : List α} {i : Int} {v : α} (h0 : 0 ≤ i) (h : xs[i.toNat]? = some v) : atI xs i = some v := by
  have e : ((i.toNat : Nat) : Int) = i := Int.toNat_of_nonneg h0
  rw [← e]
  exact atI_nat h
def isStar : Expr → Bool
  | .Starred _ _ => true
  | _ => false
theorem star_cons {e : Expr} {es : List Expr} {env : Env} (h : isStar e = false) : starEach (e :: es) env = (false, eval e env) :: starEach es env := by
  cases e <;> first | rfl | cases h
theorem star_any {pos : Pos} {env : Env} : ∀ {es : List Expr}, es.all (fun x => !isStar x) = true → (backTo pos (starEach es env)).any (·.1) = false
  | [], _ => rfl
  | e :: es, h => by
    rw [List.all_cons, Bool.and_eq_true] at h
    have h1 : isStar e = false := by simpa using h.1
    rw [star_cons h1]
    show ((false, _).1 || (backTo pos (starEach es env)).any (·.1)) = false
    rw [star_any h.2]
    rfl
section
variable {X : Cx} {x : Str} {p pos : Pos} {e : Expr} {es : List Expr} {te : TE} {t : TA} {id T : String} {r : List V → Hp → VK → Prop}
theorem pa_c (ha : PE X e te) (hr : PA X es t) (h : isStar e = false := by rfl) : PA X (e :: es) (tCons te t) := pa_cons ha hr (star_cons h)
theorem pe_cB (hc : CallR X (.builtin id) r) (hg : Gl X x) (hm : X.mg x = none) (hv : bootBuiltins x = some (.builtin id)) (ha : PA X (e :: es) t) (h : isStar e = false := by rfl) (h2 : es.all (fun x => !isStar x) = true := by rfl)
    (hn : x ≠ "__name__" := by decide) (hdb : (x == ("__debug__" : Str)) = false := by decide) : PE X (.Call (.Name x p) (e :: es) [] pos) (tCB r t) := pe_callB hc hg hm hv ha hn hdb (star_cons h) (star_any h2)
theorem pe_cT (hc : CallR X (.type T) r) (hg : Gl X x) (hm : X.mg x = none) (hv : bootBuiltins x = some (.type T)) (ha : PA X (e :: es) t) (h : isStar e = false := by rfl) (h2 : es.all (fun x => !isStar x) = true := by rfl)
    (hn : x ≠ "__name__" := by decide) (hdb : (x == ("__debug__" : Str)) = false := by decide) : PE X (.Call (.Name x p) (e :: es) [] pos) (tCB r t) := pe_callTy hc hg hm hv ha hn hdb (star_cons h) (star_any h2)
theorem pe_c {k : Nat} {sp : Sp} (C : Cal X.prog X.w X.K X.mg X.base x k sp) (hr : Room k X.A) (hg : Gl X x) (ha : PA X (e :: es) t) (h : isStar e = false := by rfl) (h2 : es.all (fun x => !isStar x) = true := by rfl)
    (hdb : (x == ("__debug__" : Str)) = false := by decide) : PE X (.Call (.Name x p) (e :: es) [] pos) (tCall sp [] E0 t) := pe_cal C hr hg ha hdb (star_cons h) (star_any h2)
theorem pe_n {C : Addr} {k : Nat} {sp : Sp} (M : CalI X.prog X.w X.K X.mg X.base x C k sp) (hr : Room (k + 1) X.A) (hg : Gl X x) (ha : PA X (e :: es) t) (h : isStar e = false := by rfl) (h2 : es.all (fun x => !isStar x) = true := by rfl)
    (hdb : (x == ("__debug__" : Str)) = false := by decide) : PE X (.Call (.Name x p) (e :: es) [] pos) (tMake C sp [] E0 t) := pe_new M hr hg ha hdb (star_cons h) (star_any h2)
theorem pi_r1 {tg a : Expr} {ta : TA} (hg : Gl X "range") (hm : X.mg "range" = none) (ha : PA X [a] ta) (h : isStar a = false := by rfl) : PI X tg (.Call (.Name "range" p) [a] [] pos) (iRng1 ta) := pi_range1 hg hm ha (star_cons h)
theorem pi_r2 {tg a b : Expr} {ta : TA} (hg : Gl X "range") (hm : X.mg "range" = none) (ha : PA X [a, b] ta) (h : isStar a = false := by rfl) (h2 : isStar b = false := by rfl) : PI X tg (.Call (.Name "range" p) [a, b] [] pos) (iRng2 ta) :=
  pi_range2 hg hm ha (by rw [star_cons h, star_cons h2]; rfl) (star_cons h2)
end
theorem scal_ii {i j : Int} : scal (.int i) (.int j) = true := rfl
theorem scal_bb {i j : Bool} : scal (.bl i) (.bl j) = true := rfl
theorem scal_ss {i j : Str} : scal (.str i) (.str j) = true := rfl
theorem pe_ty {X : Cx} {x : Str} {n : String} {pos : Pos} (hg : Gl X x) (hm : X.mg x = none) (hv : bootBuiltins x = some (.type n)) (hn : x ≠ "__name__" := by decide) (hd : (x == ("__debug__" : Str)) = false := by decide) : PE X (.Name x pos) (tC (.ty n)) := pe_bltn (v := .ty n) hg hm hv rfl hn hd
section
variable {X : Cx} (K : PySem.W.Frag) (hK : X.K = K)
include hK
theorem pg_tupK {pos : Pos} {es : List Expr} {k : Nat} {t : TGs} {n : Nat} (hc : X.calm = true) (h : PGs X es t) (hn : (assignEach es X.env).length = n) (hst : (assignEach es X.env).findIdx? (·.1) = none) : PG X (.Tuple es k pos) (gTup K n t) := by subst hK; exact pg_tup hc h hn hst
theorem call_list_ofK : CallR X (.type "list") (fun xs H Q => ∃ p ys, xs = [.ref p] ∧ (SqL K H p ys ∨ SqT K H p ys) ∧ ∀ l, H l = none → Q (.ref l) (upd H l (.lst ys))) := by subst hK; exact call_list_of
theorem ix_listK : IxR X (rIxL K) := by subst hK; exact ix_list
theorem pi_listK {tg l : Expr} {tl : TE} (hl : PE X l tl) : PI X tg l (iList K tl) := by subst hK; exact pi_list hl
end
end L2
set_option maxHeartbeats 1000000
namespace HT
open PySem PySem.Spec PyProof.Rows
section
variable {prog : Program} {w : World} {A : Around} {E : Value → Shared → Prop} {s : Shared}
end
end HT
namespace L2
open PySem PySem.Spec PyProof.Rows
def tRev (K : PySem.W.Frag) (te : TE) : TE := fun σ H Q => te σ H fun x H1 => ∃ a u v, x = .ref a ∧ SqT K H1 a [u, v] ∧ ∀ p, H1 p = none → Q (.ref p) (upd H1 p (.tup [v, u]))
section
variable {X : Cx} {e es : Expr} {te ts : TE} {pos p2 : Pos}
end
end L2
set_option maxHeartbeats 1000000
namespace L2
open PySem PySem.Spec PyProof.Rows
section
variable {X : Cx}
def rGetL (K : PySem.W.Frag) : V → V → Hp → VK → Prop := fun x y H Q => ∃ p xs i v, x = .ref p ∧ y = .int i ∧ 0 ≤ i ∧ SqL K H p xs ∧ xs[i.toNat]? = some v ∧ Q v H
end
def Big (x : Int) : Prop := -(100000000000000000000000000000000) < x ∧ x < 100000000000000000000000000000000
def atZ (ns : List Int) (i : Int) : Int := ns.getD i.toNat 0
def arrZ (a b : List Int) : List (Int × Int) → Int
  | [] => 0
  | q :: ps => arrZ a b ps + atZ a q.1 * atZ b q.2
def arrZ' (a b : List Int) (ps : List (Int × Int)) : Int := arrZ a b ps.reverse
def dotZ (a b : List Int) : Nat → Int
  | 0 => 0
  | n + 1 => dotZ a b n + atZ a n * atZ b n
def formZ (ps : List (Int × Int)) (a b : List Int) : Int := dotZ a b a.length - arrZ' a b ps
def mirS (ns : List Int) (k : Int) : List (Int × Int) → Int
  | [] => 0
  | q :: ps => mirS ns k ps + (if q.1 = k then atZ ns q.2 else if q.2 = k then atZ ns q.1 else 0)
def mirT (ns : List Int) (k : Int) (ps : List (Int × Int)) : Int := mirS ns k ps.reverse
def mirZ (k : Int) (ns : List Int) (ps : List (Int × Int)) : List Int := ns.set k.toNat (mirT ns k ps - atZ ns k)
def NoLoop (ps : List (Int × Int)) : Prop := ∀ q ∈ ps, q.1 ≠ q.2
def NonNeg (ps : List (Int × Int)) : Prop := ∀ q ∈ ps, 0 ≤ q.1 ∧ 0 ≤ q.2
def Med (x : Int) : Prop := -(1000000000000000000000000000000) ≤ x ∧ x ≤ 1000000000000000000000000000000
theorem ints_eq {K : PySem.W.Frag} {H : Hp} (ns : List Int) : ItemsEq K H 6 (ns.map V.int) (ns.map V.int) (List.replicate (ns.map V.int).length true) := by
  refine ⟨rfl, List.length_replicate, fun n y z b h1 h2 h3 => ?_⟩
  have hn : n < (ns.map V.int).length := (List.getElem?_eq_some_iff.mp h1).1
  rw [List.getElem?_replicate, if_pos hn] at h3
  cases h3
  rw [h1] at h2
  cases h2
  rw [List.getElem?_map] at h1
  rw [List.length_map] at hn
  rw [List.getElem?_eq_getElem hn] at h1
  cases h1
  have := EqD.flat (K := K) (H := H) (n := 6) (x := .int ns[n]) (y := .int ns[n]) rfl rfl
  rw [show eqV (.int ns[n]) (.int ns[n]) = true from by simp [eqV]] at this
  exact this
end L2
set_option maxHeartbeats 1000000
namespace L2
open PySem PySem.Spec PyProof.Rows
section
variable {X : Cx} {pins : List (Addr × Obj)} {σ : St} {H : Hp} {s : Shared} {h' : Heap}
theorem Inv.turnedL {t' : Nat} {fp : List Addr} (I : Inv X pins σ H s) (hf : ∀ b ∈ fp, FpOk X pins H b) (k : ∀ b o, b ∉ fp → s.heap.get? b = some o → h'.get? b = some o) : Inv X pins σ H { s with heap := h', toks := t' } := by
  have nit : ∀ b u, H b = some u → b ∉ fp := fun b u e z => by rw [(hf b z).1] at e; cases e
  refine I.step (g' := s.gens) (d' := s.drawn) (ch := fp) (fun b hb => ?_) (fun b o _ _ hc e _ => k b o hc e) (fun b o _ _ hc e _ => ⟨o.slots, k b o hc e⟩) (fun _ _ _ _ n => n)
    (fun b o hc e => ⟨o, k b o hc e⟩) (fun _ _ e => e) (fun _ _ _ e => e) (fun b ps e => ⟨#[], by rw [e]; simp⟩) (fun m hm => ?_) (fun b u e => ?_) I.bare
  · obtain ⟨f0, f1, f2, f3, f4, f5⟩ := hf b hb
    exact ⟨f3, f1, f4, f5⟩
  · obtain ⟨o, es, ep, ho, r⟩ := hm
    exact ⟨o, es, ep, k _ o (fun z => (hf _ z).2.1 rfl) ho, r⟩
  · refine (I.hok b u e).stay (fun c v hc q => k c v ?_ q) (fun _ q => q) fun _ _ q => q
    rcases hc with z | z
    · rw [z]; exact nit b u e
    · exact nit c _ z
theorem Inv.turnedT {t' : Nat} {fp : List Addr} {p : Addr} {o : HO} (I : Inv X pins σ H s) (hf : ∀ b ∈ fp, FpOk X pins H b) (k : ∀ b o, b ∉ fp → s.heap.get? b = some o → h'.get? b = some o) (hp : s.heap.objs.size ≤ p)
    (new : ObjOk X.prog X.w (upd H p o) h' p o) : Inv X pins σ (upd H p o) { s with heap := h', toks := t' } := by
  have hn : H p = none := I.hok.fresh hp
  have nit : ∀ b u, H b = some u → b ∉ fp := fun b u e z => by rw [(hf b z).1] at e; cases e
  have npp : ∀ b u, s.heap.get? b = some u → b ≠ p := fun b u e => Nat.ne_of_lt (Nat.lt_of_lt_of_le (Heap.lt_size e) hp)
  refine I.step (g' := s.gens) (d' := s.drawn) (ch := fp) (fun b hb => ?_) (fun b o _ _ hc e _ => k b o hc e) (fun b o _ _ hc e _ => ⟨o.slots, k b o hc e⟩) (fun b o _ e n => by rw [upd_ne (npp b o e)]; exact n)
    (fun b o hc e => ⟨o, k b o hc e⟩) (fun b xs e => by rw [upd_ne (ne_of_none e hn)]; exact e) (fun b u xs e => by rw [upd_ne (ne_of_none e hn)]; exact e) (fun b ps e => ⟨#[], by rw [upd_ne (ne_of_none e hn), e]; simp⟩) (fun m hm => ?_) (fun b u e => ?_) I.bare
  · obtain ⟨f0, f1, f2, f3, f4, f5⟩ := hf b hb
    exact ⟨f3, f1, f4, f5⟩
  · obtain ⟨o, es, ep, ho, r⟩ := hm
    exact ⟨o, es, ep, k _ o (fun z => (hf _ z).2.1 rfl) ho, r⟩
  · by_cases hb : b = p
    · subst hb; rw [upd_same] at e; cases e; exact new
    · rw [upd_ne hb] at e
      refine (I.hok b u e).stay (fun c v hc q => k c v ?_ q) (fun c q => by rw [upd_ne (ne_of_none q hn)]; exact q) fun c xs q => by rw [upd_ne (ne_of_none q hn)]; exact q
      rcases hc with z | z
      · rw [z]; exact nit b u e
      · exact nit c _ z
end
def Itz (K : PySem.W.Frag) (a b : Addr) : It :=
  ⟨fun i H => ∃ xs ys x y, SqL K H a xs ∧ SqL K H b ys ∧ xs[i]? = some x ∧ ys[i]? = some y,
   fun i H v H' => ∃ x y p, v = .ref p ∧ H p = none ∧ H' = upd H p (.tup [x, y]) ∧ (∀ xs, SqL K H a xs → xs[i]? = some x) ∧ ∀ ys, SqL K H b ys → ys[i]? = some y,
   fun i H => ∃ xs ys, SqL K H a xs ∧ SqL K H b ys ∧ (xs.length ≤ i ∨ ys.length ≤ i)⟩
theorem turn_zip {P : Program} {w : World} {K : PySem.W.Frag} {elts : List Expr} {x1 : Nat} {pos : Pos} {z TI TO i1 i2 a b : Addr} (D : ZipApart z TI TO i1 i2 a b) :
    Turn P w K (.Tuple elts x1 pos) (Itz K a b) [z, TI, TO, i1, i2] z (fun i h => IsZip h z TI TO .none ∧ IsPair h TI (.ref i1) (.ref i2) ∧ (∃ u v, IsPair h TO u v) ∧ h.IsListIter i1 a i ∧ h.IsListIter i2 b i) where
  mem := by simp
  obj := fun i h st c hc => by
    obtain ⟨hz, hTI, ⟨u, v, hTO⟩, ⟨o1, e1, c1, d1⟩, ⟨o2, e2, c2, d2⟩⟩ := st
    simp at hc
    rcases hc with rfl | rfl | rfl | rfl | rfl
    · exact ⟨_, hz, fun v z => by have z' : Data.fields _ = Data.cell v := z; cases z'⟩
    · exact ⟨_, hTI, fun v z => by have z' : Data.seq _ _ = Data.cell v := z; cases z'⟩
    · exact ⟨_, hTO, fun v z => by have z' : Data.seq _ _ = Data.cell v := z; cases z'⟩
    · exact ⟨o1, e1, fun v z => by rw [d1] at z; cases z⟩
    · exact ⟨o2, e2, fun v z => by rw [d2] at z; cases z⟩
  keep := fun i h h' st k => by
    obtain ⟨hz, hTI, ⟨u, v, hTO⟩, h1, h2⟩ := st
    exact ⟨k z (by simp) _ hz, k TI (by simp) _ hTI, ⟨u, v, k TO (by simp) _ hTO⟩, h1.at fun o e => k i1 (by simp) o e, h2.at fun o e => k i2 (by simp) o e⟩
  item := by
    intro X hP hw hK hc i pins s σ H E I hf st hg
    subst hP hw hK
    obtain ⟨xs, ys, x, y, hqa, hqb, hx, hy⟩ := hg
    obtain ⟨its, rv, p, hz1⟩ := I.list hqa
    obtain ⟨its2, rv2, p2, hz2⟩ := I.list hqb
    obtain ⟨u, hu, ru⟩ := rv.get hx
    obtain ⟨u2, hu2, ru2⟩ := rv2.get hy
    obtain ⟨hz, hTI, ⟨c, d, hTO⟩, h1, h2⟩ := st
    refine wpAny_pyNext_zip_item D hz hTI hTO h1 h2 p.isList p2.isList (by simpa using hu) (by simpa using hu2) fun h' a1 a2 a3 a4 a5 a6 a7 => ?_
    refine ⟨_, rfl, wpAny_letOwnedTupleGo_zip a1 fun h'' b1 b2 => ?_⟩
    have nz : s.heap.objs.size ≠ z := Nat.ne_of_gt (Heap.lt_size hz)
    have k2 : ∀ c o, c ∉ [z, TI, TO, i1, i2] → s.heap.get? c = some o → h''.get? c = some o := fun c o hc e => by
      simp at hc
      exact b2.extBut _ _ hc.1 (a7 c o hc.1 hc.2.2.1 hc.2.2.2.1 hc.2.2.2.2 e)
    have I2 : Inv X pins σ (upd H s.heap.objs.size (.tup [x, y])) { s with heap := h'' } := I.turnedT (t' := s.toks) hf k2 (Nat.le_refl _)
      ⟨by show 2 ≤ sizeLine; decide, [u, u2], .cons ru (.cons ru2 .nil), _, b2.extBut _ _ nz a5, rfl, _, rfl⟩
    refine ⟨.ref s.heap.objs.size, _, I2, rfl, ⟨x, y, _, rfl, I.hok.fresh (Nat.le_refl _), rfl, fun xs' hq => by rw [I.list_inj hq hqa]; exact hx, fun ys' hq => by rw [I.list_inj hq hqb]; exact hy⟩,
      ⟨b1, b2.extBut _ _ D.TIz (a7 _ _ D.TIz D.TITO D.TIi1 D.TIi2 hTI), ⟨_, _, b2.extBut _ _ D.TOz a2⟩, a3.extBut b2.extBut D.i1z, a4.extBut b2.extBut D.i2z⟩, fun c hc => ?_⟩
    have hlt : ∀ c ∈ [z, TI, TO, i1, i2], c < s.heap.objs.size := fun c hc => by
      simp at hc
      obtain ⟨o1, e1, _⟩ := h1
      obtain ⟨o2, e2, _⟩ := h2
      rcases hc with rfl | rfl | rfl | rfl | rfl
      · exact Heap.lt_size hz
      · exact Heap.lt_size hTI
      · exact Heap.lt_size hTO
      · exact Heap.lt_size e1
      · exact Heap.lt_size e2
    rw [upd_ne (Nat.ne_of_lt (hlt c hc))]
    exact (hf c hc).1
  done := by
    intro X hP hw hK hc i pins s σ H E I hf st hg
    subst hP hw hK
    obtain ⟨xs, ys, hqa, hqb, hx⟩ := hg
    obtain ⟨its, rv, p, hz1⟩ := I.list hqa
    obtain ⟨its2, rv2, p2, hz2⟩ := I.list hqb
    obtain ⟨hz, hTI, ⟨c, d, hTO⟩, h1, h2⟩ := st
    have l1 := rv.length
    have l2 := rv2.length
    refine wpAny_pyNext_zip_end (I.ok.hd hc) D hz hTI hTO h1 h2 p.isList p2.isList ?_ fun h' kk => ⟨rfl, I.turnedL (t' := s.toks) hf fun c o hc e => ?_⟩
    · rcases hx with hx | hx
      · exact .inl (by simp; omega)
      · exact .inr (by simp; omega)
    · simp at hc
      exact kk c o hc.1 hc.2.2.1 hc.2.2.2.1 hc.2.2.2.2 e
  self := fun _ _ _ _ _ st h => wpAny_pyIter_zip st.1 h
section
variable {X : Cx}
def iZip (K : PySem.W.Frag) (ta : TA) : TI := fun σ H R => ta σ H fun vs H1 => ∃ a b, vs = [.ref a, .ref b] ∧ (∃ xs, SqL K H1 a xs) ∧ (∃ ys, SqL K H1 b ys) ∧ R (Itz K a b) H1
theorem pi_zip {elts : List Expr} {x1 : Nat} {pt p pos : Pos} {a b : Expr} {ta : TA} (hg : Gl X "zip") (hm : X.mg "zip" = none) (ha : PA X [a, b] ta) (h : isStar a = false := by rfl) (h2 : isStar b = false := by rfl) :
    PI X (.Tuple elts x1 pt) (.Call (.Name "zip" p) [a, b] [] pos) (iZip X.K ta) := by
  intro pins s σ H R I hh
  refine Call_ (ld_blt I hg hm boot_zip (PyProof.Rows.callWith_type1 (thn (ha pos pins s σ H _ I hh) fun us s1 ⟨vs, H1, I1, r1, q1⟩ => ?_) (by rw [star_cons h, star_cons h2]) (by rw [star_cons h2]; rfl)))
  obtain ⟨c, d, e, ⟨xs, hq1⟩, ⟨ys, hq2⟩, q⟩ := q1
  subst e
  cases r1 with
  | cons r rr =>
    cases rr with
    | cons r' rr =>
      cases rr
      cases r
      cases r'
      obtain ⟨its, rv, p1, hz1⟩ := I1.list hq1
      obtain ⟨its2, rv2, p2, hz2⟩ := I1.list hq2
      have lt1 : c < s1.heap.objs.size := by obtain ⟨o, ho, _⟩ := p1.isList; exact Heap.lt_size ho
      have lt2 : d < s1.heap.objs.size := by obtain ⟨o, ho, _⟩ := p2.isList; exact Heap.lt_size ho
      refine call_zip_2 p1.isList p2.isList fun h' a1 a2 a3 a4 a5 a6 a7 => wpAny_pyIter_zip (s := { s1 with heap := h' }) a1 ?_
      refine ⟨_, _, _, _, H1, rfl, I1.kept (t' := s1.toks) a7, turn_zip (zipApart_new lt1 lt2), ⟨a1, a2, ⟨_, _, a3⟩, a4, a5⟩, fun b hb => ?_, q⟩
      have hb' : s1.heap.objs.size ≤ b := by
        simp at hb
        rcases hb with rfl | rfl | rfl | rfl | rfl
        · exact Nat.le_add_right _ _
        · exact Nat.le_add_right _ _
        · exact Nat.le_add_right _ _
        · exact Nat.le_refl _
        · exact Nat.le_add_right _ _
      have := (I1.fpOk (H' := H1) hb' (I1.hok.fresh hb'))
      exact this
end
section
variable {K : PySem.W.Frag} {a b D : Addr} {xs ys : List V} {g : TG} {tt : TT} {te : TE} {k : Nat} {fr : List (Str × Nat)} {σ : St} {H1 : Hp} {Q : VK}
theorem comp_itz (Pv : Nat → List V → Hp → Prop) (hlen : ys.length = xs.length) (h0 : Pv 0 [] (upd H1 D (.lst []))) (hl : ∀ i vs H, i ≤ xs.length → Pv i vs H → SqL K H a xs ∧ SqL K H b ys)
    (hs : ∀ i x y p vs σ' H, i < xs.length → xs[i]? = some x → ys[i]? = some y → H p = none → Sh k (capOf fr σ) σ' → Pv i vs H → tTurn g tt te D xs.length k (capOf fr σ) Pv i (.ref p) σ' (upd H p (.tup [x, y]))) (hd : ∀ vs H, Pv xs.length vs H → Q (.ref D) H) :
    tBlock g tt te (Itz K a b) D (capS k fr σ) H1 Q := by
  refine ⟨Wv xs.length k (capOf fr σ) Pv, ⟨xs.length, by simp, Nat.zero_le _, sh0, [], h0⟩, ?_⟩
  rintro i m σ' H2 ⟨rfl, hi, sh, vs, p⟩
  obtain ⟨q1, q2⟩ := hl i vs H2 hi p
  by_cases hlt : i < xs.length
  · refine .inr ⟨⟨xs, ys, xs[i], ys[i]'(by omega), q1, q2, by simp [hlt], by simp [hlen, hlt]⟩, fun x H3 y => ?_⟩
    obtain ⟨u, v, pp, rfl, hp, rfl, e1, e2⟩ := y
    exact hs i u v pp vs σ' _ hlt (e1 _ q1) (e2 _ q2) hp sh p
  · have e : i = xs.length := by omega
    subst e
    exact .inl ⟨⟨xs, ys, q1, q2, .inl (Nat.le_refl _)⟩, hd vs H2 p⟩
end
end L2
set_option maxHeartbeats 1000000
namespace L2
open PySem PySem.Spec PyProof.Rows
def nrm (a b : Int) : Int × Int := (a / (Int.gcd a b : Int), b / (Int.gcd a b : Int))
def Low (x : Int × Int) : Prop := 0 < x.2 ∧ Int.gcd x.1 x.2 = 1
theorem gcd_pos' {a b : Int} (hb : 0 < b) : 0 < (Int.gcd a b : Int) := by
  have : 0 < Int.gcd a b := Int.gcd_pos_of_ne_zero_right a (by omega)
  omega
theorem nrm_fst {a b : Int} : (nrm a b).1 * (Int.gcd a b : Int) = a := Int.ediv_mul_cancel (Int.gcd_dvd_left ..)
theorem nrm_snd {a b : Int} : (nrm a b).2 * (Int.gcd a b : Int) = b := Int.ediv_mul_cancel (Int.gcd_dvd_right ..)
theorem nrm_pos {a b : Int} (hb : 0 < b) : 0 < (nrm a b).2 := by
  have h2 := @nrm_snd a b
  have g0 := gcd_pos' (a := a) hb
  rcases Int.lt_trichotomy 0 (nrm a b).2 with h | h | h
  · exact h
  · rw [← h, Int.zero_mul] at h2; omega
  · have := Int.mul_neg_of_neg_of_pos h g0
    omega
theorem nrm_low {a b : Int} (hb : 0 < b) : Low (nrm a b) := by
  refine ⟨nrm_pos hb, ?_⟩
  have h := Int.gcd_mul_right (nrm a b).1 (Int.gcd a b : Int) (nrm a b).2
  rw [nrm_fst, nrm_snd] at h
  have g0 := gcd_pos' (a := a) hb
  have : Int.gcd a b = Int.gcd (nrm a b).1 (nrm a b).2 * Int.gcd a b := by simpa using h
  have g1 : 0 < Int.gcd a b := by omega
  exact (Nat.eq_of_mul_eq_mul_right g1 (by omega)).symm
theorem natAbs_ediv_le (a : Int) {g : Int} (hg : 0 < g) (hd : g ∣ a) : (a / g).natAbs ≤ a.natAbs := by
  obtain ⟨k, rfl⟩ := hd
  rw [Int.mul_ediv_cancel_left _ (by omega), Int.natAbs_mul]
  exact Nat.le_mul_of_pos_left _ (by omega)
def Bd (B : Nat) (x : Int × Int) : Prop := x.1.natAbs ≤ B ∧ x.2.natAbs ≤ B
theorem nrm_bd {a b : Int} {B : Nat} (hb : 0 < b) (h1 : a.natAbs ≤ B) (h2 : b.natAbs ≤ B) : Bd B (nrm a b) :=
  ⟨Nat.le_trans (natAbs_ediv_le a (gcd_pos' hb) (Int.gcd_dvd_left ..)) h1, Nat.le_trans (natAbs_ediv_le b (gcd_pos' hb) (Int.gcd_dvd_right ..)) h2⟩
def Isn (p : Int) (x : Int × Int) : Prop := (p = 0 ∧ Low x) ∨ (0 < p ∧ 0 ≤ x.1 ∧ x.1 < p ∧ x.2 = 1)
def plusN (p : Int) (x y : Int × Int) : Int × Int := if p = 0 then nrm (x.1 * y.2 + y.1 * x.2) (x.2 * y.2) else ((x.1 + y.1) % p, 1)
def minusN (p : Int) (x y : Int × Int) : Int × Int := if p = 0 then nrm (x.1 * y.2 - y.1 * x.2) (x.2 * y.2) else ((x.1 - y.1) % p, 1)
def timesN (p : Int) (x y : Int × Int) : Int × Int := if p = 0 then nrm (x.1 * y.1) (x.2 * y.2) else (x.1 * y.1 % p, 1)
def intN (p k : Int) : Int × Int := if p = 0 then (k, 1) else (k % p, 1)
theorem Isn.pos {p : Int} {x : Int × Int} (h : Isn p x) : 0 < x.2 := by
  rcases h with ⟨_, h⟩ | ⟨_, _, _, h⟩
  · exact h.1
  · omega
theorem isn_nrm {p a b : Int} (hp : p = 0) (hb : 0 < b) : Isn p (nrm a b) := .inl ⟨hp, nrm_low hb⟩
theorem isn_mod {p a : Int} (hp : 0 < p) : Isn p (a % p, 1) := .inr ⟨hp, Int.emod_nonneg _ (by omega), Int.emod_lt_of_pos _ hp, rfl⟩
theorem isn_plus {p : Int} {x y : Int × Int} (h0 : 0 ≤ p) (hx : Isn p x) (hy : Isn p y) : Isn p (plusN p x y) := by
  unfold plusN
  split
  · rename_i h; exact isn_nrm h (Int.mul_pos hx.pos hy.pos)
  · exact isn_mod (by omega)
theorem isn_int {p k : Int} (h0 : 0 ≤ p) : Isn p (intN p k) := by
  unfold intN
  split
  · rename_i h; exact .inl ⟨h, ⟨by show (0 : Int) < 1; decide, by simp⟩⟩
  · exact isn_mod (by omega)
theorem gcd_step (a b : Int) : Int.gcd b (a % b) = Int.gcd a b := by
  rw [Int.emod_def, Int.sub_eq_add_neg, ← Int.mul_neg, Int.gcd_add_mul_left_right, Int.gcd_comm]
def CDivG (i j : Int) : Prop := 0 < j ∧ j.natAbs ≤ 100000000000000000000000000000000
theorem op_fdivG {X : Cx} : OpR X (binaryOp .FloorDiv) (rI CDivG fun i j => .int (i / j)) := opI fun i j _ _ _ _ _ hc q => by
  have h1 : (0 : Int) < j := hc.1
  have h2 := hc.2
  refine floordiv_int (by omega) (by rw [Int.fdiv_eq_ediv_of_nonneg i (by omega)]; exact q) (.inl (PyProof.noPylong_of_log2 ?_))
  have : j.natAbs.log2 < 200 := (Nat.log2_lt (by omega)).mpr (Nat.lt_of_le_of_lt h2 (by decide +kernel))
  omega
structure FunD (K : PySem.W.Frag) (x qual : Str) (st : Stmt) (f : Addr) (fd : FuncData) (T : Addr) : Prop where
  ex : ∃ (oc : Value) (od : Option Addr) (kV doc pm : Value) (an : Option Addr) (cdv ct : Value) (osl : Array (Option Value)),
    fd = PySem.W.fnOf x qual (defArgs st) (defBody st) (defScope st) (.ref T) kV doc pm an cdv ct ∧ K.lookup f = some ⟨oc, od, .func fd, osl⟩ ∧ PySem.W.codeIn K cdv qual = true
section
variable {P : Program} {w : World} {K : PySem.W.Frag} {mg : Str → Option Value} {base : Heap}
theorem FunD.ok {x qual : Str} {st : Stmt} {f T : Addr} {fd : FuncData} {N ps : List Str} {k : Nat} {sp : Sp} (F : FunD K x qual st f fd T) (S : FnScope N ps (defScope st)) (len : ∀ vs H Q E, sp vs H Q E → vs.length = ps.length)
    (hbody : ∀ (cdv : Value) (A : Around) (outer : List Env) (s : Shared) (H : Hp) (vs : List V) (Q : VK) (E : XK), Room k (A.deeper (envOfC qual (defScope st) s.heap.objs.size f cdv)) → sp vs H Q E →
      ∃ t, PSs (cxOf CX0 P w K mg base N qual (defScope st) f cdv A outer s H E).nox (defBody st) t ∧ t { nx := fun _ H' => Q .non H', rt := Q } (start N vs) H) : FnOk P w K mg base CX0 (k + 1) f fd ps sp := by
  obtain ⟨oc, od, kV, doc, pm, an, cdv, ct, osl, rfl, lk, hcd⟩ := F.ex
  refine fn_of lk hcd S len fun A outer s H vs Q E hr hsp => ?_
  obtain ⟨t, h, q⟩ := hbody cdv A outer s H vs Q E hr hsp
  exact ⟨t, h.nox, q⟩
end
structure CalD (P : Program) (w : World) (K : PySem.W.Frag) (mg : Str → Option Value) (base : Heap) (C : Addr) (m : Str) (k : Nat) (sp : Sp) (dvs : List V) : Prop where
  ex : ∃ (f : Addr) (fd : FuncData) (ps : List Str) (ds : List Value), FnOk P w K mg base CX0 k f fd ps sp ∧ Meth K C m f ∧ Binds K fd ps ds ∧ Vals dvs ds
def rEqN (K : PySem.W.Frag) : R2 := fun x y H Q => rEq x y H Q ∨ rEqT K false x y H Q
def rNeN (K : PySem.W.Frag) : R2 := fun x y H Q => rNe x y H Q ∨ rEqT K true x y H Q
end L2
namespace L2
open PySem PySem.Spec PyProof.Rows
def rBits : V → List V → Hp → VK → Prop := fun x vs H Q => ∃ i : Int, x = .int i ∧ vs = [] ∧ Q (.int ((Builtin.Int.intBits i : Nat) : Int)) H
theorem mt_bits {X : Cx} : MtM X "int.bit_length" rBits := by
  intro pins s σ H x vs v us Q I rx rv h
  obtain ⟨i, rfl, rfl, q⟩ := h
  obtain ⟨t, rfl⟩ := rx
  have hus := rv.zero
  subst hus
  exact call_gives F.slot_int_bit_length (typeIs_int s i t) F.entry_int_bit_length (F.args_int_bit_length_1 _) (AutoIntG2.int_bit_length_int_0 i t) ⟨.int ((Builtin.Int.intBits i : Nat) : Int), H, I.tok _, ⟨_, rfl⟩, q⟩
theorem bits_le {i : Int} {n : Nat} (h : i.natAbs < 2 ^ n) : Builtin.Int.intBits i ≤ n := by
  unfold Builtin.Int.intBits
  split
  · exact Nat.zero_le _
  · rename_i h0
    have h1 : i.natAbs ≠ 0 := by
      intro e
      exact h0 (by simp [Int.natAbs_eq_zero.mp e])
    exact (Nat.log2_lt h1).mpr h
end L2
namespace L2
open PySem PySem.Spec PyProof.Rows
section
variable {κ : Type} [DecidableEq κ]
def valV (kvs : List (κ × V)) (k : κ) : Option V := (kvs.find? fun kv => decide (kv.1 = k)).map (·.2)
def putK (kvs : List (κ × V)) (k : κ) (v : V) : List (κ × V) :=
  if (kvs.any fun kv => decide (kv.1 = k)) = true then kvs.map (fun kv => if kv.1 = k then (kv.1, v) else kv) else kvs ++ [(k, v)]
def dropK (kvs : List (κ × V)) (k : κ) : List (κ × V) := kvs.filter fun kv => decide (kv.1 ≠ k)
theorem valV_pos {p : κ × V} {r : List (κ × V)} {k : κ} (e : p.1 = k) : valV (p :: r) k = some p.2 := by simp [valV, List.find?_cons, e]
theorem valV_neg {p : κ × V} {r : List (κ × V)} {k : κ} (e : ¬ p.1 = k) : valV (p :: r) k = valV r k := by simp [valV, List.find?_cons, e]
theorem valV_any (k : κ) : ∀ kvs : List (κ × V), (kvs.any fun kv => decide (kv.1 = k)) = (valV kvs k).isSome
  | [] => rfl
  | p :: r => by
    rw [List.any_cons]
    by_cases e : p.1 = k
    · simp only [valV_pos e, decide_eq_true e, Bool.true_or, Option.isSome_some]
    · rw [valV_neg e, decide_eq_false e, Bool.false_or]; exact valV_any k r
theorem RelO.isSome_eq {o : Option V} {u : Option Value} (r : RelO o u) : o.isSome = u.isSome := by
  cases o with
  | none => cases u with
    | none => rfl
    | some _ => exact (show False from r).elim
  | some _ => cases u with
    | none => exact (show False from r).elim
    | some _ => rfl
theorem RelO.getD {o : Option V} {u : Option Value} {d : V} {d' : Value} (r : RelO o u) (rd : RelV d d') : RelV (o.getD d) (u.getD d') := by
  cases o with
  | none => cases u with
    | none => exact rd
    | some _ => exact (show False from r).elim
  | some _ => cases u with
    | none => exact (show False from r).elim
    | some _ => exact r
theorem KV.val {kvs : List (κ × V)} {vs : List (κ × Value)} (r : KV kvs vs) (k : κ) : RelO (valV kvs k) (valueAt vs k) := by
  unfold KV at r
  induction r with
  | nil => exact True.intro
  | @cons p q ps qs h t ih =>
    obtain ⟨h1, h2⟩ := h
    by_cases e : p.1 = k
    · have e' : q.1 = k := h1.symm.trans e
      have b : valueAt (q :: qs) k = some q.2 := by simp [valueAt, List.find?_cons, e']
      rw [valV_pos e, b]; exact h2
    · have e' : ¬ q.1 = k := fun z => e (h1.trans z)
      have b : valueAt (q :: qs) k = valueAt qs k := by simp [valueAt, List.find?_cons, e']
      rw [valV_neg e, b]; exact ih
theorem KV.any {kvs : List (κ × V)} {vs : List (κ × Value)} (r : KV kvs vs) (k : κ) : (kvs.any fun kv => decide (kv.1 = k)) = vs.any fun kv => decide (kv.1 = k) := by
  unfold KV at r
  induction r with
  | nil => rfl
  | cons h t ih => rw [List.any_cons, List.any_cons, ih, h.1]
theorem KV.repl {kvs : List (κ × V)} {vs : List (κ × Value)} (r : KV kvs vs) (k : κ) {y : V} {u : Value} (ry : RelV y u) :
    KV (kvs.map fun kv => if kv.1 = k then (kv.1, y) else kv) (vs.map fun kv => if kv.1 = k then (kv.1, u) else kv) := by
  unfold KV at r ⊢
  induction r with
  | nil => exact .nil
  | @cons p q ps qs h t ih =>
    rw [List.map_cons, List.map_cons]
    refine .cons ?_ ih
    obtain ⟨h1, h2⟩ := h
    by_cases e : p.1 = k
    · rw [if_pos e, if_pos (h1.symm.trans e)]; exact ⟨h1, ry⟩
    · rw [if_neg e, if_neg (fun z => e (h1.trans z))]; exact ⟨h1, h2⟩
theorem KV.put {kvs : List (κ × V)} {vs : List (κ × Value)} (r : KV kvs vs) (k : κ) {y : V} {u : Value} (ry : RelV y u) : KV (putK kvs k y) (stored vs k u) := by
  unfold putK stored
  rw [r.any k]
  by_cases e : (vs.any fun kv => decide (kv.1 = k)) = true
  · rw [if_pos e, if_pos e]; exact r.repl k ry
  · rw [if_neg e, if_neg e]; exact Paired.snoc r ⟨rfl, ry⟩
theorem KV.drop {kvs : List (κ × V)} {vs : List (κ × Value)} (r : KV kvs vs) (k : κ) : KV (dropK kvs k) (without vs k) := by
  unfold KV at r ⊢
  unfold dropK without
  induction r with
  | nil => exact .nil
  | @cons p q ps qs h t ih =>
    obtain ⟨h1, h2⟩ := h
    rw [List.filter_cons, List.filter_cons]
    by_cases e : p.1 = k
    · have a : ¬ decide (p.1 ≠ k) = true := by simp [e]
      have b : ¬ decide (q.1 ≠ k) = true := by simp [h1.symm.trans e]
      rw [if_neg a, if_neg b]; exact ih
    · have e' : ¬ q.1 = k := fun z => e (h1.trans z)
      have a : decide (p.1 ≠ k) = true := by simp [e]
      have b : decide (q.1 ≠ k) = true := by simp [e']
      rw [if_pos a, if_pos b]; exact .cons ⟨h1, h2⟩ ih
theorem KV.keys {kvs : List (κ × V)} {vs : List (κ × Value)} (r : KV kvs vs) : kvs.map (·.1) = vs.map (·.1) := by
  unfold KV at r
  induction r with
  | nil => rfl
  | cons h t ih => rw [List.map_cons, List.map_cons, ih, h.1]
theorem KV.length {kvs : List (κ × V)} {vs : List (κ × Value)} (r : KV kvs vs) : kvs.length = vs.length := Paired.length r
end
abbrev KT (H : Hp) : List (List Key × V) → List (List Key × Addr × Value) → Prop := Paired fun p q => p.1 = q.1 ∧ H q.2.1 = some (.tup (p.1.map kV)) ∧ RelV p.2 q.2.2
theorem KT.val {H : Hp} {kvs : List (List Key × V)} {xs : List (List Key × Addr × Value)} (r : KT H kvs xs) (k : List Key) : RelO (valV kvs k) ((atKey xs k).map (·.2)) := by
  induction r with
  | nil => exact True.intro
  | @cons p q ps qs h t ih =>
    obtain ⟨h1, _, h2⟩ := h
    by_cases e : p.1 = k
    · have e' : q.1 = k := h1.symm.trans e
      have b : atKey (q :: qs) k = some q.2 := by simp [atKey, List.find?_cons, e']
      rw [valV_pos e, b]; exact h2
    · have e' : ¬ q.1 = k := fun z => e (h1.trans z)
      have b : atKey (q :: qs) k = atKey qs k := by simp [atKey, List.find?_cons, e']
      rw [valV_neg e, b]; exact ih
theorem KT.repl {H : Hp} {kvs : List (List Key × V)} {xs : List (List Key × Addr × Value)} (r : KT H kvs xs) (k : List Key) {y : V} {u : Value} (ry : RelV y u) :
    KT H (kvs.map fun kv => if kv.1 = k then (kv.1, y) else kv) (xs.map (putAt k u)) := by
  induction r with
  | nil => exact .nil
  | @cons p q ps qs h t ih =>
    rw [List.map_cons, List.map_cons]
    refine .cons ?_ ih
    obtain ⟨h1, h2, h3⟩ := h
    unfold putAt
    by_cases e : p.1 = k
    · rw [if_pos e, if_pos (h1.symm.trans e)]; exact ⟨h1, h2, ry⟩
    · rw [if_neg e, if_neg (fun z => e (h1.trans z))]; exact ⟨h1, h2, h3⟩
theorem KT.put {H : Hp} {kvs : List (List Key × V)} {xs : List (List Key × Addr × Value)} (r : KT H kvs xs) (k : List Key) {b : Addr} {y : V} {u : Value} (hb : H b = some (.tup (k.map kV))) (ry : RelV y u) :
    KT H (putK kvs k y) (storedH xs k b u) := by
  have e : (kvs.any fun kv => decide (kv.1 = k)) = (atKey xs k).isSome := by
    rw [valV_any, (r.val k).isSome_eq, Option.isSome_map]
  unfold putK storedH
  rw [e]
  by_cases q : (atKey xs k).isSome = true
  · rw [if_pos q, if_pos q]; exact r.repl k ry
  · rw [if_neg q, if_neg q]; exact Paired.snoc r ⟨rfl, hb, ry⟩
theorem KT.keeps {H H' : Hp} {kvs : List (List Key × V)} {xs : List (List Key × Addr × Value)} (r : KT H kvs xs) (ht : ∀ b ys, H b = some (.tup ys) → H' b = some (.tup ys)) : KT H' kvs xs :=
  Paired.mapP r fun _ _ z => ⟨z.1, ht _ _ z.2.1, z.2.2⟩
section
variable {P : Program} {w : World} {H : Hp} {h : Heap} {a : Addr}
end
def DGet (H : Hp) (a : Addr) (y : V) (r : Option V) : Prop :=
  (∃ kvs k, Rd H a (.dK kvs) ∧ y = kV k ∧ r = valV kvs k) ∨ ∃ kvs k b, Rd H a (.dT kvs) ∧ y = .ref b ∧ H b = some (.tup (k.map kV)) ∧ r = valV kvs k
def DPut (H : Hp) (a : Addr) (y v : V) (H' : Hp) : Prop :=
  (∃ kvs k, H a = some (.dK kvs) ∧ y = kV k ∧ kvs.length < sizeLine ∧ H' = upd H a (.dK (putK kvs k v))) ∨
  ∃ kvs k b, H a = some (.dT kvs) ∧ y = .ref b ∧ H b = some (.tup (k.map kV)) ∧ kvs.length < sizeLine ∧ H' = upd H a (.dT (putK kvs k v))
theorem DGet.k {H : Hp} {a : Addr} {kvs : List (Key × V)} {k : Key} (e : H a = some (.dK kvs)) : DGet H a (kV k) (valV kvs k) := .inl ⟨kvs, k, .inl e, rfl, rfl⟩
theorem DGet.t {H : Hp} {a b : Addr} {kvs : List (List Key × V)} {k : List Key} (e : H a = some (.dT kvs)) (eb : H b = some (.tup (k.map kV))) : DGet H a (.ref b) (valV kvs k) := .inr ⟨kvs, k, b, .inl e, rfl, eb, rfl⟩
theorem DPut.k {H : Hp} {a : Addr} {kvs : List (Key × V)} {k : Key} {v : V} (e : H a = some (.dK kvs)) (hl : kvs.length < sizeLine) : DPut H a (kV k) v (upd H a (.dK (putK kvs k v))) := .inl ⟨kvs, k, e, rfl, hl, rfl⟩
theorem DPut.t {H : Hp} {a b : Addr} {kvs : List (List Key × V)} {k : List Key} {v : V} (e : H a = some (.dT kvs)) (eb : H b = some (.tup (k.map kV))) (hl : kvs.length < sizeLine) :
    DPut H a (.ref b) v (upd H a (.dT (putK kvs k v))) := .inr ⟨kvs, k, b, e, rfl, eb, hl, rfl⟩
section
variable {X : Cx} {pins : List (Addr × Obj)} {σ : St} {H : Hp} {s : Shared} {a : Addr} {y v : V} {u r : Value} {o : Option V} {A : Around} {E : Value → Shared → Prop}
end
section
variable {X : Cx} {pins : List (Addr × Obj)} {σ : St} {H : Hp} {s : Shared} {a : Addr} {kvs : List (Key × V)} {k : Key} {u : Value} {A : Around} {E : Value → Shared → Prop}
end
def NoSl (i : Expr) : Prop := ∀ ov iv, subscripted i false ov iv = operate [ov, iv] (getItem ov iv)
def tDGet (td ty : TE) : TE := fun σ H Q => td σ H fun x H1 => ty σ H1 fun y H2 => ∃ a v, x = .ref a ∧ DGet H2 a y (some v) ∧ Q v H2
def tDIn (ty td : TE) : TE := fun σ H Q => ty σ H fun y H1 => td σ H1 fun x H2 => ∃ a o, x = .ref a ∧ DGet H2 a y o ∧ Q (.bl o.isSome) H2
def tDNotIn (ty td : TE) : TE := fun σ H Q => ty σ H fun y H1 => td σ H1 fun x H2 => ∃ a o, x = .ref a ∧ DGet H2 a y o ∧ Q (.bl (!o.isSome)) H2
def sDPut (td ty tv : TE) : TS := fun D σ H => tv σ H fun v H1 => td σ H1 fun x H2 => ty σ H2 fun y H3 => ∃ a H4, x = .ref a ∧ DPut H3 a y v H4 ∧ D.nx σ H4
def sDAug (td ty tv : TE) (rd : V → V → Hp → VK → Prop) : TS := fun D σ H => td σ H fun x H1 => ty σ H1 fun y H2 => ∃ a v, x = .ref a ∧ DGet H2 a y (some v) ∧
  tv σ H2 fun y2 H3 => rd v y2 H3 fun z H4 => ∃ H5, DPut H4 a y z H5 ∧ D.nx σ H5
def sDDel (td ty : TE) : TS := fun D σ H => td σ H fun x H1 => ty σ H1 fun y H2 => ∃ a kvs k, x = .ref a ∧ H2 a = some (.dK kvs) ∧ y = kV k ∧ (valV kvs k).isSome = true ∧ D.nx σ (upd H2 a (.dK (dropK kvs k)))
section
variable {X : Cx} {o i e value : Expr} {pos pos' tpos : Pos} {td ty tv : TE}
end
def tDNewK : TE := fun _ H Q => ∀ p, H p = none → Q (.ref p) (upd H p (.dK []))
def tDNewT : TE := fun _ H Q => ∀ p, H p = none → Q (.ref p) (upd H p (.dT []))
section
variable {X : Cx} {pos : Pos}
end
def tPairs : List (TE × TE) → St → Hp → (List (V × V) → Hp → Prop) → Prop
  | [], _, H, Q => Q [] H
  | (tk, tv) :: r, σ, H, Q => tk σ H fun x H1 => tv σ H1 fun y H2 => tPairs r σ H2 fun ps H3 => Q ((x, y) :: ps) H3
abbrev VV : List (V × V) → List (Value × Value) → Prop := Paired fun p q => RelV p.1 q.1 ∧ RelV p.2 q.2
def PPs (X : Cx) (pos : Pos) (keys : List (Option Expr)) (values : List Expr) (trs : List (TE × TE)) : Prop :=
  ∀ (pins : List (Addr × Obj)) (s : Shared) (σ : St) (H : Hp) (Q : List (V × V) → Hp → Prop), Inv X pins σ H s → tPairs trs σ H Q →
    wpAny (model X.prog X.w) X.A (evalPairs (pairTrees keys values X.env pos)) (fun vs s' => ∃ ps H', Inv X pins σ H' s' ∧ VV ps vs ∧ Q ps H') X.xe s
def mergeK (kvs more : List (Key × V)) : List (Key × V) := more.foldl (fun acc kv => putK acc kv.1 kv.2) kvs
def tDisp (trs : List (TE × TE)) : TE := fun σ H Q => ∀ p, H p = none → tPairs trs σ (upd H p (.dK [])) fun ps H2 => H2 p = some (.dK []) ∧ ∃ kvs : List (Key × V), ps = kvs.map (fun kv => (kV kv.1, kv.2)) ∧ kvs.length ≤ 15 ∧ Q (.ref p) (upd H2 p (.dK (mergeK [] kvs)))
structure M1 (X : Cx) (o : Expr) (m : Str) (apos : Pos) (e : Expr) (cpos : Pos) : Prop where
  base : attributeBase o m X.env (eval o X.env) = eval o X.env
  few : ((backTo cpos (starEach [e] X.env)).all (fun x => !x.1) && (backToKw cpos (keywordEach [] X.env)).all (fun x => x.1.isSome)
    && decide (([e] : List Expr).length + ([] : List Keyword).length + (if ([] : List Keyword).isEmpty then 0 else 1) < 30)) = true
  line : (apos.endLine == cpos.line) = true
  trees : backTo cpos (starEach [e] X.env) = [(false, eval e X.env)]
structure M2 (X : Cx) (o : Expr) (m : Str) (apos : Pos) (e f : Expr) (cpos : Pos) : Prop where
  base : attributeBase o m X.env (eval o X.env) = eval o X.env
  few : ((backTo cpos (starEach [e, f] X.env)).all (fun x => !x.1) && (backToKw cpos (keywordEach [] X.env)).all (fun x => x.1.isSome)
    && decide (([e, f] : List Expr).length + ([] : List Keyword).length + (if ([] : List Keyword).isEmpty then 0 else 1) < 30)) = true
  line : (apos.endLine == cpos.line) = true
  trees : backTo cpos (starEach [e, f] X.env) = [(false, eval e X.env), (false, eval f X.env)]
def IsD (H : Hp) (a : Addr) : Prop := (∃ kvs, Rd H a (.dK kvs)) ∨ ∃ kvs, Rd H a (.dT kvs)
section
variable {X : Cx} {pins : List (Addr × Obj)} {σ : St} {H : Hp} {s : Shared} {a : Addr} {y d : V} {u r : Value} {o : Option V} {A : Around} {E : Value → Shared → Prop}
end
def tDGet1 (td ty : TE) : TE := fun σ H Q => td σ H fun x H1 => ∃ a, x = .ref a ∧ IsD H1 a ∧ ty σ H1 fun y H2 => ∃ o, DGet H2 a y o ∧ Q (o.getD .non) H2
def tDGet2 (td ty tx : TE) : TE := fun σ H Q => td σ H fun x H1 => ∃ a, x = .ref a ∧ IsD H1 a ∧ ty σ H1 fun y H2 => tx σ H2 fun z H3 => ∃ o, DGet H3 a y o ∧ Q (o.getD z) H3
def tDPop1 (td ty : TE) : TE := fun σ H Q => td σ H fun x H1 => ∃ a, x = .ref a ∧ IsD H1 a ∧ ty σ H1 fun y H2 => ∃ kvs k v, H2 a = some (.dK kvs) ∧ y = kV k ∧ valV kvs k = some v ∧ Q v (upd H2 a (.dK (dropK kvs k)))
def tDPop2 (td ty tx : TE) : TE := fun σ H Q => td σ H fun x H1 => ∃ a, x = .ref a ∧ IsD H1 a ∧ ty σ H1 fun y H2 => tx σ H2 fun z H3 => ∃ kvs k, H3 a = some (.dK kvs) ∧ y = kV k ∧
  (∀ v, valV kvs k = some v → Q v (upd H3 a (.dK (dropK kvs k)))) ∧ (valV kvs k = none → Q z H3)
section
variable {X : Cx} {o e f : Expr} {apos cpos : Pos} {td ty tx : TE}
end
section
variable {X : Cx} {pins : List (Addr × Obj)} {σ : St} {H : Hp} {s : Shared} {a : Addr} {kvs : List (Key × V)} {A : Around} {E : Value → Shared → Prop}
end
section
variable {X : Cx} {pins : List (Addr × Obj)} {σ : St} {H : Hp} {s : Shared} {a : Addr} {y : V} {u : Value} {A : Around} {E : Value → Shared → Prop}
end
end L2
namespace L2
open PySem PySem.Spec PyProof.Rows
section
variable {κ : Type} [DecidableEq κ]
end
end L2
namespace L2
open PySem PySem.Spec PyProof.Rows
section
variable {prog : Program} {w : World} {A : Around} {R : Result → Shared → Prop} {s : Shared}
end
def tBlockD (g : TG) (tt : TT) (tk tv : TE) (J : It) (D : Addr) (σ0 : St) (H1 : Hp) (Q : VK) : Prop :=
  ∃ W : Nat → Nat → St → Hp → Prop, (∃ m, W 0 m σ0 (upd H1 D (.dK []))) ∧ ∀ i m σ' H2, W i m σ' H2 →
    (J.stop i H2 ∧ Q (.ref D) H2) ∨ (J.go i H2 ∧ ∀ x H3, J.yld i H2 x H3 → g x σ' H3 fun σ4 H4 => tt σ4 H4 fun b H5 =>
      if b = true then tk σ4 H5 fun x H6 => tv σ4 H6 fun y H7 => ∃ kvs k, x = kV k ∧ H7 D = some (.dK kvs) ∧ kvs.length < sizeLine ∧ ∃ m', m' < m ∧ W (i + 1) m' σ4 (upd H7 D (.dK (putK kvs k y)))
      else ∃ m', m' < m ∧ W (i + 1) m' σ4 H5)
def tCompD (k : Nat) (fr : List (Str × Nat)) (wi : TI) (g : TG) (tt : TT) (tk tv : TE) : TE := fun σ H Q => wi σ H fun J H1 => ∀ D, H1 D = none → tBlockD g tt tk tv J D (capS k fr σ) H1 Q
section
variable {X : Cx} {tg iter kx vx : Expr} {ifs : List Expr} {scope : Scope} {pos : Pos} {own : List Str} {fr : List (Str × Nat)} {wi : TI} {g : TG} {tt : TT} {tk tv : TE}
end
end L2
namespace L2
open PySem PySem.Spec PyProof.Rows
section
variable {X : Cx}
end
section
variable {prog : Program} {w : World} {A : Around} {E : Value → Shared → Prop} {s : Shared}
end
section
variable {X : Cx} {pos : Pos}
def gLst (K : PySem.W.Frag) (n : Nat) (t : TGs) : TG := fun v σ H Q => ∃ a xs, v = .ref a ∧ SqL K H a xs ∧ xs.length = n ∧ t xs σ H Q
end
end L2
namespace L2
open PySem PySem.Spec PyProof.Rows
end L2
set_option maxHeartbeats 1000000
namespace L2
open PySem PySem.Spec PyProof.Rows
def Ite (K : PySem.W.Frag) (a : Addr) : It :=
  ⟨fun i H => ∃ xs x, SqL K H a xs ∧ xs[i]? = some x,
   fun i H v H' => ∃ x p, v = .ref p ∧ H p = none ∧ H' = upd H p (.tup [.int i, x]) ∧ (∀ xs, SqL K H a xs → xs[i]? = some x),
   fun i H => ∃ xs, SqL K H a xs ∧ xs.length ≤ i⟩
section
variable {X : Cx}
def iEnm (K : PySem.W.Frag) (ta : TA) : TI := fun σ H R => ta σ H fun vs H1 => ∃ a, vs = [.ref a] ∧ (∃ xs, SqL K H1 a xs) ∧ R (Ite K a) H1
end
section
variable {K : PySem.W.Frag} {a b D : Addr} {xs ys : List V} {g : TG} {tt : TT} {te : TE} {k : Nat} {fr : List (Str × Nat)} {σ : St} {H1 : Hp} {Q : VK}
end
end L2
set_option maxHeartbeats 1000000
namespace L2
open PySem PySem.Spec PyProof.Rows
def tRevL (K : PySem.W.Frag) (te : TE) : TE := fun σ H Q => te σ H fun x H1 => ∃ a xs, x = .ref a ∧ SqL K H1 a xs ∧ ∀ p, H1 p = none → Q (.ref p) (upd H1 p (.lst xs.reverse))
section
variable {X : Cx} {e es : Expr} {te ts : TE} {pos p2 : Pos}
end
end L2
namespace L2
open PySem PySem.Spec PyProof.Rows PySem.W
theorem HOk.track {P : Program} {w : World} {H : Hp} {h h' : Heap} (x : HOk P w H h) (k : ∀ b u o, H b = some u → h.get? b = some o → h'.get? b = some o) : HOk P w H h' := fun a o e =>
  (x a o e).stay (fun b u hb q => by
    rcases hb with rfl | hb
    · exact k b o u e q
    · exact k b _ u hb q) (fun _ z => z) fun _ _ z => z
theorem ObjOk.there {P : Program} {w : World} {H : Hp} {h : Heap} {a : Addr} {o : HO} (x : ObjOk P w H h a o) : ∃ u, h.get? a = some u := by
  cases o with
  | lst xs => obtain ⟨_, _, _, _, e⟩ := x; exact ⟨_, e⟩
  | tup xs => obtain ⟨_, _, _, p⟩ := x; obtain ⟨o, e, _⟩ := p; exact ⟨_, e⟩
  | dK kvs => obtain ⟨_, _, _, _, o, _, _, e, _⟩ := x; exact ⟨_, e⟩
  | dT kvs => obtain ⟨_, _, _, _, o, _, _, e, _⟩ := x; exact ⟨_, e⟩
  | set S n => obtain ⟨o, _, _, _, e, _⟩ := x; exact ⟨_, e⟩
  | ins C dx fs => obtain ⟨_, _, _, e, _⟩ := x; exact ⟨_, e⟩
  | own y => obtain ⟨_, e⟩ := x; exact ⟨_, e⟩
  | xd fs => obtain ⟨_, ⟨_, _, _, e, _⟩, _⟩ := x; exact ⟨_, e⟩
  | rng lo hi => obtain ⟨_, _, _, e⟩ := x; exact ⟨_, e⟩
  | frz ob u => obtain ⟨e, _⟩ := x; exact ⟨_, e⟩
  | tbl ps => exact ⟨_, (show h.get? a = some _ from x)⟩
  | met f y => exact ⟨_, (show h.get? a = some _ from x)⟩
  | ext φ => obtain ⟨_, ⟨_, e⟩, _⟩ := x; exact ⟨_, e⟩
structure Fly (P : Program) (w : World) (outer : List Env) (H : Hp) (s : Shared) (a : Addr) (cls : Value) (H' : Hp) (s' : Shared) : Prop where
  os : s'.os = s.os
  bare : AllBare s'.gens
  hok : HOk P w H' s'.heap
  un : Un (frs outer) [] H H' s.heap s'.heap
  fly : ∃ B a0, Heap.FlyingW B outer a cls a0 s'.heap ∧ (∀ b o, s.heap.get? b = some o → b ∉ frs outer → ∃ o', B.get? b = some o') ∧ ∀ b u, H' b = some u → ∃ o', B.get? b = some o'
  new : ∀ o, s.heap.get? a ≠ some o
  free : H' a = none
def CXe (P : Program) (w : World) : CXT := fun outer H s E e s' => ∃ (a : Addr) (cls : Value) (H' : Hp), e = .ref a ∧ Fly P w outer H s a cls H' s' ∧ E cls none H'
section
variable {P : Program} {w : World} {K : PySem.W.Frag} {mg : Str → Option Value} {base : Heap} {N : List Str} {qual : Str} {scope : Scope} {f : Addr} {cd : Value} {A : Around} {outer : List Env} {s : Shared} {H : Hp} {E : XK} {pins : List (Addr × Obj)} {σ : St} {H1 : Hp} {s1 s2 : Shared} {e : Addr} {cls : Value}
theorem xe_made {vs : List Value} (I : Inv (cxOf (CXe P w) P w K mg base N qual scope f cd A outer s H E) pins σ H1 s1) (hx : Heap.MadeExcOf s1.heap s2.heap e cls vs) (ho : s2.os = s1.os) (hg : AllBare s2.gens) (hE : E cls none H1) :
    (cxOf (CXe P w) P w K mg base N qual scope f cd A outer s H E).xe (.ref e) s2 := by
  show wpAny (model P w) (A.deeper (envOfC qual scope s.heap.objs.size f cd)) (leaving (envOfC qual scope s.heap.objs.size f cd) (.ref e)) (fun _ s'' => CXe P w outer H s E (.ref e) s'') (fun e' s'' => CXe P w outer H s E e' s'') s2
  have hin : ∀ env ∈ (envOfC qual scope s.heap.objs.size f cd :: outer), ∀ b, env.frame = some b → b ∈ frs (envOfC qual scope s.heap.objs.size f cd :: outer) := fun env he b hb => List.mem_filterMap.mpr ⟨env, he, hb⟩
  have hstk : s1.heap.FunFrames base (envOfC qual scope s.heap.objs.size f cd :: outer) := I.stack
  have hfree : ∀ b ∈ frs (envOfC qual scope s.heap.objs.size f cd :: outer), H1 b = none := I.stkFree
  have hsub : ∀ b ∈ frs (envOfC qual scope s.heap.objs.size f cd :: outer), b ∈ s.heap.objs.size :: frs outer := I.stkSub
  refine wpAny_leaves_madeW (base := hideAll s1.heap (frs (envOfC qual scope s.heap.objs.size f cd :: outer))) (h := s1.heap) I.ok.frames rfl (fun b o q => of_hideAll _ q) (funFrames_hide hstk hin) hx fun h' t x1 x2 x3 x4 => ?_
  have keepB : ∀ b o, s1.heap.get? b = some o → b ∉ frs (envOfC qual scope s.heap.objs.size f cd :: outer) → h'.get? b = some o := fun b o q nb => x1.1 b o (hideAll_get _ q nb)
  have hne : s1.heap.get? e = none := hx.new
  have ub : Un (frs outer) [] H H1 s.heap s1.heap := I.base
  have nst : ∀ b o, s.heap.get? b = some o → b ∉ frs outer → b ∉ frs (envOfC qual scope s.heap.objs.size f cd :: outer) := fun b o q nb z => by
    rcases List.mem_cons.mp (hsub b z) with e1 | z
    · exact absurd (Heap.lt_size q) (by rw [e1]; exact Nat.lt_irrefl _)
    · exact nb z
  have slotS : ∀ b o, s1.heap.get? b = some o → b ∈ frs (envOfC qual scope s.heap.objs.size f cd :: outer) → ∃ sl, h'.get? b = some { o with slots := sl } := fun b o q hb => by
    obtain ⟨_, o', ho', hd⟩ := hstk.mem hb
    rw [q] at ho'
    cases ho'
    exact x4 b o (hx.keeps b o q) hd
  refine ⟨e, cls, H1, rfl, ⟨ho.trans I.os, hg, HOk.track I.hok (fun b u o hb q => keepB b o q (fun z => by rw [hfree b z] at hb; cases hb)), ⟨fun b o q n hb hx => ?_, fun b o q n hb hx => ?_, fun b o q n hx => ub.free b o q n hx, fun b o q hx => ?_, ub.tups, ub.frzs, ub.tbls⟩, ⟨_, _, x1, fun b o q nb => ?_, fun b u hb => ?_⟩, fun o q => ?_, ?_⟩, hE⟩
  · exact keepB b o (ub.keep b o q n hb hx) (nst b o q hb)
  · obtain ⟨sl, e1⟩ := ub.slot b o q n hb hx
    obtain ⟨sl', e2⟩ := slotS b _ e1 (by unfold frs at hb ⊢; rw [List.filterMap_cons]; split <;> first | exact hb | exact List.mem_cons_of_mem _ hb)
    exact ⟨sl', e2⟩
  · obtain ⟨o', e1⟩ := ub.there b o q hx
    by_cases z : b ∈ frs (envOfC qual scope s.heap.objs.size f cd :: outer)
    · obtain ⟨sl, e2⟩ := slotS b o' e1 z
      exact ⟨_, e2⟩
    · exact ⟨o', keepB b o' e1 z⟩
  · obtain ⟨o', e1⟩ := ub.there b o q (by simp)
    exact ⟨o', hideAll_get _ e1 (nst b o q nb)⟩
  · obtain ⟨o', e1⟩ := ObjOk.there (I.hok b u hb)
    exact ⟨o', hideAll_get _ e1 fun z => by rw [hfree b z] at hb; cases hb⟩
  · obtain ⟨o', e1⟩ := ub.there e o q (by simp)
    rw [hne] at e1
    cases e1
  · cases z : H1 e with
    | none => rfl
    | some u =>
      obtain ⟨o', e1⟩ := ObjOk.there (I.hok e u z)
      rw [hne] at e1
      cases e1
end
end L2
namespace L2
open PySem PySem.Spec PyProof.Rows PySem.W
def tRaise (t : TA) (R : Hp → Prop) : TS := fun _ σ H => t σ H fun vs H1 => vs.length ≤ 1000 ∧ R H1
section
variable {X : Cx} {x : Str} {C : Addr} {bm bmN : List Value} {B Bn newId nid initId inN : String} {np cpos pos : Pos} {e₀ : Expr} {rest : List Expr} {t : TA} {R : Hp → Prop}
theorem ps_raise (hc : X.calm = true) (O : OwnCls x C bm newId X.mg X.base) (Fn : ExcBaseFacts Bn newId inN bmN) (hBn : bm.contains (.type Bn) = true) (FB : ExcBaseFacts B nid initId bm) (hg : Gl X x) (ha : PA X (e₀ :: rest) t)
    (hxe : ∀ pins σ H1 s1 s2 e vs, Inv X pins σ H1 s1 → Heap.MadeExcOf s1.heap s2.heap e (.ref C) vs → s2.os = s1.os → AllBare s2.gens → R H1 → X.xe (.ref e) s2)
    (h1 : isStar e₀ = false := by rfl) (h2 : rest.all (fun x => !isStar x) = true := by rfl) (hd : (x == ("__debug__" : Str)) = false := by decide) :
    PS X (.Raise (some (.Call (.Name x np) (e₀ :: rest) [] cpos)) none pos) (tRaise t R) := by
  intro pins s σ H D I h
  have he := star_cons (e := e₀) (es := rest) (env := X.env) h1
  have hpl := star_any (pos := cpos) (env := X.env) h2
  obtain ⟨tl, N, nm, q, bs, hdct, sn, sub, ab, col, dd, k0, k1, k2, k3, k5, mN, hC, hN, hni, T⟩ := O.obj
  refine wpAny_Raise_call_subU (C := C) (nm := nm) (q := q) (N := N) (bs := bs) (bm := tl) (hdct := hdct) (sn := sn) (sub := sub) (ab := ab) (col := col) (dd := dd) (k0 := k0) (k1 := k1) (k2 := k2) (k3 := k3) (k5 := k5)
    Fn hBn FB (mN := mN) (T.hasType FB.hasBase) (I.ok.hd hc) (by rw [he]; show (false || (backTo cpos (starEach rest X.env)).any (·.1)) = false; rw [hpl]; rfl) hni (ld_glob I hg O.bound ⟨rfl, ?_⟩ hd)
  have hA := ha cpos pins s σ H _ I h
  rw [he] at hA ⊢
  refine Calls.evalArgs_plain (wpAny_mono hA (fun us s2 ⟨vs, H2, I2, rv, hl, r2⟩ => ⟨rfl, ?_, I2.bk _ _ hC, hN.keeps I2.bk, T.keeps I2.bk, fun h' e hm => ?_⟩) fun _ _ y => y)
  · rw [← rv.length]
    exact Nat.le_of_lt (small1000 hl)
  · exact hxe pins σ H2 s2 _ e us I2 hm rfl I2.bare r2
end
end L2
namespace L2
open PySem PySem.Spec PyProof.Rows PySem.W
section
variable {P : Program} {w : World} {K : PySem.W.Frag} {mg : Str → Option Value} {base : Heap}
theorem Fun.okE {x qual : Str} {st : Stmt} {f : Addr} {fd : FuncData} {N ps : List Str} {k : Nat} {sp : Sp} (F : Fun K x qual st f fd) (S : FnScope N ps (defScope st)) (len : ∀ vs H Q E, sp vs H Q E → vs.length = ps.length)
    (hbody : ∀ (cdv : Value) (A : Around) (outer : List Env) (s : Shared) (H : Hp) (vs : List V) (Q : VK) (E : XK), Room k (A.deeper (envOfC qual (defScope st) s.heap.objs.size f cdv)) → sp vs H Q E →
      ∃ t, PSs (cxOf (CXe P w) P w K mg base N qual (defScope st) f cdv A outer s H E) (defBody st) t ∧ t { nx := fun _ H' => Q .non H', rt := Q } (start N vs) H) : FnOk P w K mg base (CXe P w) (k + 1) f fd ps sp := by
  obtain ⟨oc, od, kV, doc, pm, an, cdv, ct, osl, rfl, lk, hcd⟩ := F.ex
  exact fn_of lk hcd S len fun A outer s H vs Q E hr hsp => hbody cdv A outer s H vs Q E hr hsp
theorem own_cls {x : Str} {C : Addr} {bmB : List Value} {newId : String} {h : Heap} (X : K.In h) (b : mg x = some (.ref C)) (q : excIn K C bmB newId = true) : OwnCls x C bmB newId mg h := by
  refine ⟨b, ?_⟩
  unfold excIn at q
  split at q
  · rename_i dd cd sl ho
    split at q
    · rename_i C' bm k0 k1 k2 k3 n k5 hm hs
      simp only [Bool.and_eq_true, beq_iff_eq, Bool.not_eq_true'] at q
      obtain ⟨⟨⟨⟨⟨rfl, rfl⟩, hdel⟩, ht⟩, hok⟩, hni⟩ := q
      obtain ⟨nm, bs, mro, ns, qn, hd, sn, sub, ab, col, del⟩ := cd
      dsimp only at hm hdel hok hni
      subst hm hdel
      have hsl : sl = #[k0, k1, k2, k3, some (.builtin n), k5] := by
        obtain ⟨l⟩ := sl
        simp only at hs
        rw [hs]
      subst hsl
      exact ⟨bm, ns, nm, qn, bs, hd, sn, sub, ab, col, dd, k0, k1, k2, k3, k5, _, X _ _ ho, .of_isNs (isNs_of_in X hok), nsMap_none_of_in X hok hni, tail_of_in X ht⟩
    · cases q
  · cases q
end
section
variable {X : Cx} {pins : List (Addr × Obj)} {σ : St} {H H' : Hp} {s s' : Shared} {a : Addr} {cls : Value}
theorem Fly.land {B : Heap} {a0 : Value} (I : Inv X pins σ H s) (hl : X.env.locals ∈ frs X.stack) (F : Fly X.prog X.w X.stack H s a cls H' s') (fl : Heap.FlyingW B X.stack a cls a0 s'.heap)
    (inB : ∀ b o, s.heap.get? b = some o → b ∉ frs X.stack → ∃ o', B.get? b = some o') (trB : ∀ b u, H' b = some u → ∃ o', B.get? b = some o') {h' : Heap} (st : B.StaysIn h') (x4 : s'.heap.UpToSlots h') : Inv X pins σ H' { s' with heap := h' } := by
  have keepB : ∀ b o, (∃ o', B.get? b = some o') → s'.heap.get? b = some o → h'.get? b = some o := fun b o ⟨o', hb⟩ q => by
    have := fl.1 b o' hb
    rw [q] at this
    cases this
    exact st b _ hb
  have slotS : ∀ b o, s'.heap.get? b = some o → b ∈ frs X.stack → ∃ sl, h'.get? b = some { o with slots := sl } := fun b o q hb => by
    obtain ⟨_, o', ho', hd⟩ := fl.2.2.1.mem hb
    rw [q] at ho'
    cases ho'
    exact x4 b o q hd
  have sup : ∀ b, b ∈ X.fs → b ∈ frs X.stack := fun b hb => by
    rcases I.ok.stk with e | ⟨e, hf⟩
    · rw [e]; exact hb
    · rw [e]
      unfold Cx.fs frs at *
      rw [List.filterMap_cons, hf]
      exact List.mem_cons_of_mem _ hb
  have nst : ∀ b, b ≠ X.env.locals → b ∉ X.fs → b ∉ frs X.stack := fun b h1 h2 z => by
    rcases List.mem_cons.mp (I.stkSub b z) with e | z
    · exact h1 e
    · exact h2 z
  obtain ⟨hh, g, d, t, os'⟩ := s'
  obtain rfl : os' = s.os := F.os
  show Inv X pins σ H' { s with heap := h', gens := g, drawn := d, toks := t }
  refine I.step (ch := []) (fun b z => absurd z (by simp)) (fun b o n1 n2 _ q n => ?_) (fun b o n1 n2 _ q n => ?_) (fun b o _ q n => F.un.free b o q n (by simp)) (fun b o _ q => ?_) F.un.tups F.un.frzs F.un.tbls (fun m hn => ?_) (HOk.track F.hok fun b u o hb q => keepB b o (trB b u hb) q) F.bare
  · exact keepB b o (inB b o q (nst b n1 n2)) (F.un.keep b o q n (nst b n1 n2) (by simp))
  · obtain ⟨sl, e1⟩ := F.un.slot b o q n (sup b n2) (by simp)
    obtain ⟨sl', e2⟩ := slotS b _ e1 (sup b n2)
    exact ⟨sl', e2⟩
  · obtain ⟨o', e1⟩ := F.un.there b o q (by simp)
    by_cases z : b ∈ frs X.stack
    · obtain ⟨sl, e2⟩ := slotS b o' e1 z
      exact ⟨_, e2⟩
    · exact ⟨o', keepB b o' (inB b o q z) e1⟩
  · obtain ⟨o, es, ep, ho, hd, r⟩ := hn
    obtain ⟨sl, e1⟩ := F.un.slot _ o ho I.free hl (by simp)
    obtain ⟨sl', e2⟩ := slotS _ _ e1 hl
    exact ⟨_, es, ep, e2, hd, r⟩
end
end L2
namespace L2
open PySem PySem.Spec PyProof.Rows PySem.W
section
variable {M : Model} {A : Around} {E : Value → Shared → Prop}
variable {nm q : Str} {C N : Addr} {bs bm : List Value} {hdct : Bool} {sn : List Str} {sub : List Value} {ab : Bool} {col : Option Bool} {dd : Option Addr} {k0 k1 k2 k3 k5 : Option Value} {newId : String}
variable {nm' q' : Str} {C' N' : Addr} {bs' bm' : List Value} {hdct' : Bool} {sn' : List Str} {sub' : List Value} {ab' : Bool} {col' : Option Bool} {dd' : Option Addr} {j0 j1 j2 j3 j5 : Option Value} {newId' : String}
theorem matches_own {h : Heap} {g : Array GenState} {d : Drawn} {t : Nat} {os : OsState} {e : Addr} {oe : Obj} {Q : Bool → Shared → Prop}
    (hC : h.get? C = some (excClassObj nm q C N bs bm hdct sn sub ab col dd k0 k1 k2 k3 k5 newId)) (hD : h.get? C' = some (excClassObj nm' q' C' N' bs' bm' hdct' sn' sub' ab' col' dd' j0 j1 j2 j3 j5 newId'))
    (he : h.get? e = some oe) (hcls : oe.cls = .ref C) (hbase : bm'.contains (.type "BaseException") = true) (hsub : bm.contains (.ref C') = true)
    (hq : Q true ⟨h, g, d, t, os⟩) : wpAny M A (excMatches (.ref e) (.ref C')) Q E ⟨h, g, d, t, os⟩ := by
  have hcB : (Value.ref C' :: bm').contains (.type "BaseException") = true := by rw [List.contains_cons, hbase, Bool.or_true]
  have hcC : (Value.ref C :: bm).contains (.ref C') = true := by rw [List.contains_cons, hsub, Bool.or_true]
  have f := tc_notTuple
  unfold excMatches
  repeat (first | (with_reducible refine wpAny_loadPart_at he ?_; rw [hcls]) | with_reducible refine wpAny_loadPart_at hD ?_ | (with_reducible refine wpAny_isSubtype_exc hD ?_; rw [hcB]) | (with_reducible refine wpAny_isSubtype_exc hC ?_; rw [hcC]) | wp_step)
  exact hq
end
end L2
namespace L2
open PySem PySem.Spec PyProof.Rows PySem.W
abbrev Cx.pnx (X : Cx) (pins : List (Addr × Obj)) : Cx := { X with pn := X.pn ++ pins }
abbrev Cx.hnd (X : Cx) (pins : List (Addr × Obj)) (a : Addr) : Cx := { X with pn := X.pn ++ pins, A := X.A.mark (some (.ref a)), calm := false, xe := fun _ _ => False }
section
variable {X : Cx} {pins pins' : List (Addr × Obj)} {σ : St} {H : Hp} {s : Shared} {a : Addr}
theorem Inv.pnx (I : Inv X pins σ H s) : Inv (X.pnx pins) [] σ H s :=
  ⟨⟨I.ok.mod, I.ok.kind, I.ok.glob, I.ok.blt, I.ok.above, I.ok.inj, I.ok.has, I.ok.cab, I.ok.hd, I.ok.frames, I.ok.stk, I.ok.exf, I.ok.bs, I.ok.bsz, I.ok.noex, I.ok.exfs, I.ok.funs, I.ok.frf⟩, I.os, I.bare, I.base, I.loc, I.cell, I.free, I.freeC, fun p hp => I.pin p (by simpa using hp), I.hok, I.len⟩
theorem Inv.unpnx (I : Inv (X.pnx pins) pins' σ H s) : Inv X pins σ H s :=
  ⟨⟨I.ok.mod, I.ok.kind, I.ok.glob, I.ok.blt, I.ok.above, I.ok.inj, I.ok.has, I.ok.cab, I.ok.hd, I.ok.frames, I.ok.stk, I.ok.exf, I.ok.bs, I.ok.bsz, I.ok.noex, I.ok.exfs, I.ok.funs, I.ok.frf⟩, I.os, I.bare, I.base, I.loc, I.cell, I.free, I.freeC, fun p hp => I.pin p (List.mem_append_left _ hp), I.hok, I.len⟩
theorem Inv.hnd (I : Inv X pins σ H s) (a : Addr) : Inv (X.hnd pins a) [] σ H s :=
  ⟨⟨I.ok.mod, I.ok.kind, I.ok.glob, I.ok.blt, I.ok.above, I.ok.inj, I.ok.has, I.ok.cab, (fun z => nomatch z), I.ok.frames, I.ok.stk, I.ok.exf, I.ok.bs, I.ok.bsz, I.ok.noex, I.ok.exfs, I.ok.funs, I.ok.frf⟩, I.os, I.bare, I.base, I.loc, I.cell, I.free, I.freeC, fun p hp => I.pin p (by simpa using hp), I.hok, I.len⟩
theorem Inv.unhnd (ok : X.Ok) (I : Inv (X.hnd pins a) pins' σ H s) : Inv X pins σ H s :=
  ⟨ok, I.os, I.bare, I.base, I.loc, I.cell, I.free, I.freeC, fun p hp => I.pin p (List.mem_append_left _ hp), I.hok, I.len⟩
theorem Inv.track {o : HO} (I : Inv X pins σ H s) (hn : H a = none) (h0 : ∀ u, X.s₀.heap.get? a ≠ some u) (hL : a ≠ X.env.locals) (hc : ∀ x c, X.env.cells.lookup x = some c → c ≠ a) (hp : ∀ p ∈ X.pn ++ pins, p.1 ≠ a)
    (new : ObjOk X.prog X.w (upd H a o) s.heap a o) : Inv X pins σ (upd H a o) s := by
  have ne : ∀ {b : Addr} {u : HO}, H b = some u → b ≠ a := fun {b u} hb z => by rw [z, hn] at hb; cases hb
  refine ⟨I.ok, I.os, I.bare, ⟨I.base.keep, I.base.slot, fun b u q n hx => ?_, I.base.there, fun b xs z => ?_, fun b u v z => ?_, fun b ps z => ?_⟩, I.loc, I.cell, ?_, fun x c e => ?_, fun p hp' => ?_, fun b u hb => ?_, I.len⟩
  · rw [upd_ne (fun z => h0 u (by rw [← z]; exact q))]
    exact I.base.free b u q n hx
  · have := I.base.tups b xs z
    rw [upd_ne (ne this)]
    exact this
  · have := I.base.frzs b u v z
    rw [upd_ne (ne this)]
    exact this
  · obtain ⟨m, e⟩ := I.base.tbls b ps z
    exact ⟨m, by rw [upd_ne (ne e)]; exact e⟩
  · rw [upd_ne hL.symm]; exact I.free
  · rw [upd_ne (hc x c e)]; exact I.freeC x c e
  · obtain ⟨p1, p2, p3, p4, p5⟩ := I.pin p hp'
    exact ⟨p1, by rw [upd_ne (hp p hp')]; exact p2, p3, p4, p5⟩
  · by_cases hb' : b = a
    · subst hb'
      rw [upd_same] at hb
      cases hb
      exact new
    · rw [upd_ne hb'] at hb
      exact (I.hok b u hb).stay (fun _ _ _ q => q) (fun c z => by rw [upd_ne (ne z)]; exact z) fun c xs z => by rw [upd_ne (ne z)]; exact z
theorem Inv.goes {h' : Heap} {m' : Str → Option Value} {t' : Nat} (I : Inv X pins σ H s) (hn : h'.Ns X.env.locals m') (sb : Heap.SameBut X.env.locals s.heap h') : Inv X pins (List.replicate X.N.length none) H { s with heap := h', toks := t' } := by
  have neL : ∀ b o, X.s₀.heap.get? b = some o → b ≠ X.env.locals := fun b o e => Nat.ne_of_lt (Nat.lt_of_lt_of_le (Heap.lt_size e) I.ok.above)
  have k : ∀ b o, b ≠ X.env.locals → s.heap.get? b = some o → h'.get? b = some o := fun b o n e => (sb.2 b n).trans e
  refine ⟨I.ok, I.os, I.bare, ⟨fun b o q n hb hx => k b o (neL b o q) (I.base.keep b o q n hb hx), fun b o q n hb hx => ?_, I.base.free, fun b o q hx => ?_, I.base.tups, I.base.frzs, I.base.tbls⟩, ⟨m', hn, fun i x v e1 e2 => ?_⟩, fun x c e => ?_, I.free, I.freeC, fun p hp => ?_, HOk.track I.hok fun b u o hb q => k b o (fun z => by rw [z, I.free] at hb; cases hb) q, by simp⟩
  · obtain ⟨sl, e1⟩ := I.base.slot b o q n hb hx
    exact ⟨sl, k b _ (neL b o q) e1⟩
  · obtain ⟨o', e1⟩ := I.base.there b o q hx
    exact ⟨o', k b o' (neL b o q) e1⟩
  · rw [List.getElem?_replicate] at e2
    split at e2
    · cases e2
    · cases e2
  · obtain ⟨v, o, ho, hd⟩ := I.cell x c e
    exact ⟨v, o, k c o (I.cne x c e) ho, hd⟩
  · obtain ⟨p1, p2, p3, p4, p5⟩ := I.pin p hp
    exact ⟨k _ _ p3 p1, p2, p3, p4, p5⟩
end
def isExc (a : Addr) (cls : Value) : HO := .ext fun h => ∃ ob, h.get? a = some ob ∧ ob.cls = cls
theorem isExc_ok {P : Program} {w : World} {H : Hp} {h : Heap} {a : Addr} {cls : Value} {ob : Obj} (e : h.get? a = some ob) (c : ob.cls = cls) : ObjOk P w H h a (isExc a cls) :=
  ⟨⟨ob, e, c⟩, ⟨ob, e⟩, fun h1 h2 ⟨o, e1, c1⟩ k => ⟨o, k o e1, c1⟩⟩
def hEnds (X : Cx) (D : Ends) : Ends := { nx := fun _ H => D.nx (List.replicate X.N.length none) H, rt := D.rt, bk := fun _ H => D.bk (List.replicate X.N.length none) H, ct := fun _ H => D.ct (List.replicate X.N.length none) H }
def tTry (X : Cx) (E' : XK) (tb : TS) (i : Nat) (th : TS) : TS := fun D σ H => tb D σ H ∧ ∀ (cls : Value) (H' : Hp) (a : Addr) (σ' : St), E' cls none H' → H' a = none → σ'.length = X.N.length → th (hEnds X D) (σ'.set i (some (.ref a))) (upd H' a (isExc a cls))
section
variable {X : Cx} {x n : Str} {np hpos pos : Pos} {body suite : List Stmt} {b₀ : Stmt} {E' : XK} {tb th : TS} {i : Nat} {D : Addr} {bmD : List Value} {newD : String}
theorem ps_try (hstk : X.stack = X.env :: X.outer) (hfr : X.env.frame = some X.env.locals) (hex : X.ex = [])
    (hb : ∀ pins xt, Passes (CXe X.prog X.w) ((X.pnx pins).wish xt) E' → PSs ((X.pnx pins).wish xt) body tb) (hs : ∀ pins a, PSs (X.hnd pins a) (b₀ :: suite) th)
    (hg : Gl X x) (OD : OwnCls x D bmD newD X.mg X.base) (hDB : bmD.contains (.type "BaseException") = true)
    (hC : ∀ cls H', E' cls none H' → ∃ C nm q N bs bm hdct sn sub ab col dd k0 k1 k2 k3 k5 new, cls = .ref C ∧ X.base.get? C = some (excClassObj nm q C N bs bm hdct sn sub ab col dd k0 k1 k2 k3 k5 new) ∧ bm.contains (.ref D) = true)
    (hN : X.N.Nodup) (hi : X.N[i]? = some n) (hn : X.env.scope.names.lookup n = some .local) (hd : (x == ("__debug__" : Str)) = false := by decide) :
    PS X (.Try body [.ExceptHandler (some (.Name x np)) (some n) (b₀ :: suite) hpos] [] [] pos) (tTry X E' tb i th) := by
  intro pins s σ H Dn I h
  obtain ⟨hbody, hhand⟩ := h
  rw [arm_exec_Try]
  refine wpAny_bind (wpAny_standAt (wpAny_tryStmt_except ?_))
  have hp : Passes (CXe X.prog X.w) ((X.pnx pins).wish fun e s' => ∃ pins' σ' H1 s1, Inv (X.pnx pins) pins' σ' H1 s1 ∧ CXe X.prog X.w X.stack H1 s1 E' e s') E' := fun pins' σ' H1 s1 e s' I1 h => ⟨pins', σ', H1, s1, I1.unwish, h⟩
  have hl : X.env.locals ∈ frs X.stack := by rw [hstk]; unfold frs; rw [List.filterMap_cons, hfr]; exact List.mem_cons_self
  refine wpAny_mono (hb pins _ hp [] s σ H Dn (I.pnx.wish _) hbody) (fun f s₁ h₁ => ?_) (fun e s₁ h₁ => ?_)
  · cases f with
    | next => obtain ⟨σ', H', J, q⟩ := h₁; exact wpAny_execs_nil ⟨σ', H', J.unwish.unpnx, q⟩
    | brk => obtain ⟨σ', H', J, q⟩ := h₁; exact ⟨σ', H', J.unwish.unpnx, q⟩
    | cont => obtain ⟨σ', H', J, q⟩ := h₁; exact ⟨σ', H', J.unwish.unpnx, q⟩
    | ret u => obtain ⟨v, σ', H', J, r, q⟩ := h₁; exact ⟨v, σ', H', J.unwish.unpnx, r, q⟩
  · obtain ⟨pins', σ', H1, s1, I1, a, cls, H', rfl, F, hE⟩ := h₁
    obtain ⟨B, a0, fl, inB, trB⟩ := F.fly
    have J1 : Inv X pins σ' H1 s1 := I1.unpnx
    refine wpAny_looks_onW (base := B) (env := X.env) (outer := X.outer) (by rw [I.ok.frames, hstk]) hfr (hstk ▸ fl) fun h₄ held₄ sm₄ => ?_
    refine wpAny_landsW held₄ fun h₅ fl₅ sm₅ => ?_
    have J5 : Inv X pins σ' H' { s₁ with heap := h₅ } := F.land J1 hl fl inB trB fl₅.1 (sm₄.trans sm₅)
    obtain ⟨C, nm, q, N, bs, bm, hdct, sn, sub, ab, col, dd, k0, k1, k2, k3, k5, new, rfl, hCb, hsub⟩ := hC cls H' hE
    obtain ⟨tl, N', nm', q', bs', hdct', sn', sub', ab', col', dd', j0, j1, j2, j3, j5, mN, hDb, _, _, T⟩ := OD.obj
    obtain ⟨ob, hob, hobc⟩ := fl₅.there
    refine wpAny_handleBy_cons (codeAny_handlers_test (ld_glob (X := X.hnd pins a) (J5.hnd a) hg OD.bound ?_ hd)) (by intro q; cases q)
    refine matches_own (J5.bk _ _ hCb) (J5.bk _ _ hDb) hob hobc (T.hasType hDB) hsub ?_
    refine codeAny_handlers_suite_as (lands_againW fl₅ fun h₆ fl₆ sm₆ => ?_)
    have J6 : Inv X pins σ' H' { s₁ with heap := h₆ } := F.land J1 hl fl inB trB fl₆.1 ((sm₄.trans sm₅).trans sm₆)
    obtain ⟨ob6, hob6, hobc6⟩ := fl₆.there
    have new1 : ∀ b o, s1.heap.get? b = some o → b ≠ a := fun b o e z => F.new o (by rw [← z]; exact e)
    have J7 := J6.track (a := a) (o := isExc a (.ref C)) F.free (fun u z => by
        obtain ⟨o', e1⟩ := J1.base.there a u z (by rw [hex]; simp)
        exact F.new o' e1) (by
        obtain ⟨m, ⟨o, _, _, ho, _⟩, _⟩ := J1.loc
        exact (new1 _ o ho).symm) (fun y c e => by
        obtain ⟨v, o, ho, _⟩ := J1.cell y c e
        exact new1 _ o ho) (fun p hp => new1 _ _ (J1.pin p hp).1) (isExc_ok hob6 hobc6)
    refine store_ok J7 hN hi (.inl hn) (v := .ref a) rfl (fun s7 J8 => ?_) (.inr hn)
    have hk : X.env.kindOf n = some .local := hn
    have hcls : (X.env.scope.kind == .class || (X.env.scope.kind == .module && X.env.locals != X.env.globals)) = false := by rw [I.ok.kind]; rfl
    refine wpAny_mono (hs pins a [] s7 _ _ (hEnds X Dn) (J8.hnd a) (hhand _ _ _ _ hE F.free J1.len)) (fun f s8 h8 => ?_) fun _ _ z => z.elim
    cases f with
    | next =>
      obtain ⟨σ8, H8, J, q⟩ := h8
      have J9 := Inv.unhnd I.ok J
      obtain ⟨m, hn8, _⟩ := J9.loc
      exact wpAny_nameGoes hk hn8 hcls fun h' m' hn' sb => ⟨_, _, J9.goes hn' sb, q⟩
    | brk =>
      obtain ⟨σ8, H8, J, q⟩ := h8
      have J9 := Inv.unhnd I.ok J
      obtain ⟨m, hn8, _⟩ := J9.loc
      exact wpAny_nameGoes hk hn8 hcls fun h' m' hn' sb => ⟨_, _, J9.goes hn' sb, q⟩
    | cont =>
      obtain ⟨σ8, H8, J, q⟩ := h8
      have J9 := Inv.unhnd I.ok J
      obtain ⟨m, hn8, _⟩ := J9.loc
      exact wpAny_nameGoes hk hn8 hcls fun h' m' hn' sb => ⟨_, _, J9.goes hn' sb, q⟩
    | ret u =>
      obtain ⟨v, σ8, H8, J, r, q⟩ := h8
      have J9 := Inv.unhnd I.ok J
      obtain ⟨m, hn8, _⟩ := J9.loc
      exact wpAny_nameGoes hk hn8 hcls fun h' m' hn' sb => ⟨v, _, _, J9.goes hn' sb, r, q⟩
end
end L2
namespace L2
open PySem PySem.Spec PySem.Calls PyProof.Rows PySem.W Builtin Builtin.ObjectAttr Builtin.Getset_descriptor
structure ExcCls (K : PySem.W.Frag) (C : Addr) : Prop where
  ga : findIn K (.ref C) "__getattribute__" = some (some (.builtin "BaseException.__getattribute__"))
  gt : findIn K (.ref C) "__getattr__" = some none
  cl : findIn K (.ref C) "__class__" = some (some (.builtin "object.__class__"))
  so : mroIn K C (.type "object") = some true
  sb : mroIn K C (.type "BaseException") = some true
section
variable {prog : Program} {w : World} {A : Around} {E : Value → Shared → Prop} {h : Heap} {g : Array GenState} {d : Drawn} {t : Nat} {os : OsState} {a C : Addr} {ox : Obj} {K : PySem.W.Frag}
theorem xcls_get {tp : Value} {R : Result → Shared → Prop} (Z : ExcCls K C) (X : K.In h) (hx : h.get? a = some ox) (hc : ox.cls = .ref C) (hq : R (.ok (.ret (.ref C))) ⟨h, g, d, t, os⟩) :
    codeAny (model prog w) A (.call (.builtin "getset_descriptor.__get__") ⟨[.builtin "object.__class__", .ref a, tp], []⟩) R ⟨h, g, d, t, os⟩ := by
  have L0 : Looks (model prog w) h (typeOf (.ref a)) (.ref C) := hc ▸ (Looks.ld hx).andThen .now
  have L1 := looks_mroIn (M := model prog w) X Z.so
  refine codeAny_call_builtin KF.slot_gs.plain KF.entry_gs (KF.slot_gs.check _ _ _ _ _ _ _ _ KF.type_class (KF.args_gs _ _ _) ?_)
  unfold Builtin.«getset_descriptor.__get__» descrGet
  rw [dga_obj]
  refine wpAny_bind (wpAny_pure ?_)
  unfold descrGetter descrCheckInstance descrNameAndClass isInstance
  simp only [KF.owner_class]
  repeat lk
  refine ⟨Code.quiet_builtin _ (by decide +kernel), codeAny_builtin KF.entry_class ?_⟩
  unfold Builtin.«object.__class__» shownTypeOf
  repeat lk
  exact hq
theorem xcls_entry {tk : Tok} {Q : Fin → Shared → Prop} (Z : ExcCls K C) (X : K.In h) (hx : h.get? a = some ox) (hc : ox.cls = .ref C) (hq : Q (.done (.ret (.ref C))) ⟨h, g, d, t, os⟩) :
    wpAny (model prog w) A (Builtin.«object.__getattribute__» ⟨[.ref a, .str "__class__" tk], []⟩) Q E ⟨h, g, d, t, os⟩ := by
  have hT5 : (⟨h, g, d, t, os⟩ : Shared).TypeIs (.builtin "object.__class__") "getset_descriptor" := F.typeOf_object_class
  have f5 := F.typeOf_object_class
  have f6 := F.slot_gs_get.lookup
  have f7 := F.slot_gs_set.lookup
  have L4 := looks_findIn (M := model prog w) X Z.cl
  repeat (any_goals (first | assumption | (with_reducible refine wpAny_loadPart_at hx ?_; rw [hc]) | with_reducible refine L4.at ?_ | wp_step))
  refine xcls_get Z X hx hc ?_
  repeat (any_goals (first | assumption | wp_step))
theorem xcls_check {M : Model} {nameV : Value} {Q : Unit → Shared → Prop} (Z : ExcCls K C) (X : K.In h) (hx : h.get? a = some ox) (hc : ox.cls = .ref C) (hq : Q () ⟨h, g, d, t, os⟩) :
    wpAny M A (checkBuiltinCall "BaseException.__getattribute__" ⟨[.ref a, nameV], []⟩) Q E ⟨h, g, d, t, os⟩ := by
  have hk : builtinKind "BaseException.__getattribute__" = some .slot := by decide +kernel
  have hsplit : splitId "BaseException.__getattribute__" = some ("BaseException", "__getattribute__") := by decide +kernel
  have L1 := looks_mroIn (M := M) X Z.sb
  have ha := F.args_bexc_ga (.ref a) nameV
  simp only [checkBuiltinCall, hk, hsplit]
  refine wpAny_bind ?_
  unfold isInstance
  repeat (first | (with_reducible refine wpAny_loadPart_at hx ?_; rw [hc]) | with_reducible refine L1.at ?_ | wp_step)
  exact hq
theorem xcls_call {tk : Tok} {R : Result → Shared → Prop} (Z : ExcCls K C) (X : K.In h) (hx : h.get? a = some ox) (hc : ox.cls = .ref C) (hq : R (.ok (.ret (.ref C))) ⟨h, g, d, t, os⟩) :
    codeAny (model prog w) A (.call (.builtin "BaseException.__getattribute__") ⟨[.ref a, .str "__class__" tk], []⟩) R ⟨h, g, d, t, os⟩ :=
  codeAny_call_builtin F.excAttr_ValueError.ga.plain F.entry_bexc_ga (xcls_check Z X hx hc (xcls_entry Z X hx hc hq))
theorem xcls_by {tk : Tok} {fill expr : Bool} {Q : Value → Shared → Prop} (Z : ExcCls K C) (X : K.In h) (hx : h.get? a = some ox) (hc : ox.cls = .ref C) (hq : Q (.ref C) ⟨h, g, d, t, os⟩) :
    wpAny (model prog w) A (getAttrBy (.ref a) (.str "__class__" tk) fill expr) Q E ⟨h, g, d, t, os⟩ := by
  have f3 := F.excAttr_ValueError.ga.bind (.ref a)
  have hx0 : (expr && onTheHeap (Value.builtin "BaseException.__getattribute__")) = false := by cases expr <;> rfl
  have hx2 : (Value.builtin "BaseException.__getattribute__" == Value.builtin "object.__getattribute__") = false := by decide +kernel
  have hx1 : (onTheHeap (Value.ref C) && Value.builtin "BaseException.__getattribute__" == Value.builtin "object.__getattribute__") = false := by rw [hx2]; rfl
  have L1 := looks_findIn (M := model prog w) X Z.ga
  have L2 := looks_findIn (M := model prog w) X Z.gt
  repeat (any_goals (first | assumption | (with_reducible refine wpAny_loadPart_at hx ?_; rw [hc]) | with_reducible refine L1.at ?_ | with_reducible refine L2.at ?_ | wp_step))
  refine xcls_call Z X hx hc ?_
  repeat (any_goals (first | assumption | wp_step))
theorem xcls_attr {Q : Option Value → Shared → Prop} (Z : ExcCls K C) (X : K.In h) (hx : h.get? a = some ox) (hc : ox.cls = .ref C) (hq : Q (some (.ref C)) ⟨h, g, d, t + 1, os⟩) :
    wpAny (model prog w) A (getAttr? (.ref a) "__class__") Q E ⟨h, g, d, t, os⟩ := by
  unfold getAttr? getAttrBy?
  refine wpAny_bind (wpAny_mkText (wpAny_bind (wpAny_attempt (xcls_by Z X hx hc ?_))))
  exact wpAny_pure hq
def ExcAt (a C : Addr) (h : Heap) : Prop := ∃ ob, h.get? a = some ob ∧ ob.cls = .ref C
theorem kitx_exc (Z : ExcCls K C) (hC : (clsIn K C).isSome = true) : KitX K (.ref a) (.ref C) (ExcAt a C) where
  ty := fun _ _ _ ⟨ob, hx, hc⟩ => hc ▸ (Looks.ld hx).andThen .now
  it := fun _ _ X _ => by
    obtain ⟨cdD, hcD⟩ := Option.isSome_iff_exists.mp hC
    unfold clsIn at hcD
    split at hcD
    · rename_i c' d' cd' sl' ho
      intro A' Q' E' s' k q
      unfold isType loadHead
      exact wpAny_bind (wpAny_loadPart (k _ _ (X _ _ ho)) (wpAny_pure q))
    · cases hcD
  ne := fun h tp dd its n sl X htp => by
    obtain ⟨cdD, hcD⟩ := Option.isSome_iff_exists.mp hC
    refine Bool.eq_false_iff.mpr fun q => ?_
    have e : C = tp := Value.ref.inj (beq_iff_eq.mp q)
    subst e
    unfold clsIn at hcD
    split at hcD
    · rename_i c' d' cd' sl' ho
      have z := (X _ _ ho).symm.trans htp
      cases z
    · cases hcD
  ca := fun {_ _ _ _ _ s} X ⟨ob, hx, hc⟩ k => by
    obtain ⟨hh, g, d, t, os⟩ := s
    exact xcls_attr Z X hx hc k
end
end L2
namespace L2
open PySem PySem.Spec PyProof.Rows PySem.W
section
variable {X : Cx}
theorem exc_at {pins : List (Addr × Obj)} {σ : St} {H : Hp} {s : Shared} {a C : Addr} (I : Inv X pins σ H s) (ha : H a = some (isExc a (.ref C))) : ExcAt a C s.heap := (I.hok a _ ha).1
theorem call_isx : CallR X (.builtin "isinstance") (fun xs H Q => ∃ (a C : Addr) (y : V) (c : Value) (b : Bool), xs = [.ref a, y] ∧ cV y = some c ∧ H a = some (isExc a (.ref C)) ∧ ExcCls X.K C ∧ (clsIn X.K C).isSome = true ∧ PySem.W.kitOne X.K (.ref C) c = some b ∧ Q (.bl b) H) := by
  intro pins s σ H xs us Q I r h
  obtain ⟨a, C, y, c, b, rfl, hc, ha, Z, hC, e, q⟩ := h
  obtain ⟨u, v, rfl, rx, ry⟩ := vals2 r
  have hv : v = c := by
    cases y <;> first | (cases hc; done) | (cases hc; cases ry; rfl)
  subst hv
  cases rx
  exact PySem.W.kia_one (kitx_exc Z hC) I.kIn (exc_at I ha) e (fun z => nomatch z) fun tk => ⟨.bl b, H, I.tok _, rfl, q⟩
theorem vals_cV : ∀ {ys : List V} {cs us : List Value}, Vals ys us → ys.map cV = cs.map some → us = cs
  | [], [], _, .nil, _ => rfl
  | y :: ys, c :: cs, _, .cons r rs, h => by
    simp only [List.map_cons, List.cons.injEq] at h
    rw [vals_cV rs h.2]
    congr 1
    obtain ⟨hc, _⟩ := h
    cases y <;> first | (cases hc; done) | (cases hc; cases r; rfl)
theorem call_isxT : CallR X (.builtin "isinstance") (fun xs H Q => ∃ (a C t : Addr) (ys : List V) (cs : List Value) (b : Bool), xs = [.ref a, .ref t] ∧ H t = some (.tup ys) ∧ ys.map cV = cs.map some ∧ H a = some (isExc a (.ref C)) ∧ ExcCls X.K C ∧ (clsIn X.K C).isSome = true ∧ PySem.W.kitAny X.K (.ref C) cs = some b ∧ Q (.bl b) H) := by
  intro pins s σ H xs us Q I r h
  obtain ⟨a, C, t, ys, cs, b, rfl, ht, hc, ha, Z, hC, e, q⟩ := h
  obtain ⟨u, v, rfl, rx, ry⟩ := vals2 r
  cases rx
  cases ry
  obtain ⟨_, its, rv, p⟩ := (show ObjOk X.prog X.w H s.heap t (.tup ys) from I.hok t _ ht)
  obtain rfl := vals_cV rv hc
  obtain ⟨⟨oc, odd, oda, osl⟩, h1, h2, n, h3⟩ := p
  dsimp only at h2 h3
  subst h2 h3
  exact PySem.W.kia_tup (kitx_exc Z hC) I.kIn (exc_at I ha) h1 e (fun z => nomatch z) fun tk => ⟨.bl b, H, I.tok _, rfl, q⟩
theorem call_isxK (K : PySem.W.Frag) (hK : X.K = K) : CallR X (.builtin "isinstance") (fun xs H Q => ∃ (a C : Addr) (y : V) (c : Value) (b : Bool), xs = [.ref a, y] ∧ cV y = some c ∧ H a = some (isExc a (.ref C)) ∧ ExcCls K C ∧ (clsIn K C).isSome = true ∧ PySem.W.kitOne K (.ref C) c = some b ∧ Q (.bl b) H) := by subst hK; exact call_isx
theorem call_isxTK (K : PySem.W.Frag) (hK : X.K = K) : CallR X (.builtin "isinstance") (fun xs H Q => ∃ (a C t : Addr) (ys : List V) (cs : List Value) (b : Bool), xs = [.ref a, .ref t] ∧ H t = some (.tup ys) ∧ ys.map cV = cs.map some ∧ H a = some (isExc a (.ref C)) ∧ ExcCls K C ∧ (clsIn K C).isSome = true ∧ PySem.W.kitAny K (.ref C) cs = some b ∧ Q (.bl b) H) := by subst hK; exact call_isxT
end
end L2
namespace L2
open PySem PySem.Spec PyProof.Rows PySem.W
structure CalE (P : Program) (w : World) (K : PySem.W.Frag) (mg : Str → Option Value) (base : Heap) (x : Str) (k : Nat) (sp : Sp) : Prop where
  ex : ∃ (f : Addr) (fd : FuncData) (ps : List Str), FnOk P w K mg base (CXe P w) k f fd ps sp ∧ mg x = some (.ref f) ∧ PySem.W.keepIn K (.ref f) = true ∧ Binds K fd ps []
structure CalME (P : Program) (w : World) (K : PySem.W.Frag) (mg : Str → Option Value) (base : Heap) (C : Addr) (m : Str) (k : Nat) (sp : Sp) : Prop where
  ex : ∃ (f : Addr) (fd : FuncData) (ps : List Str), FnOk P w K mg base (CXe P w) k f fd ps sp ∧ Meth K C m f ∧ Binds K fd ps []
structure CalIE (P : Program) (w : World) (K : PySem.W.Frag) (mg : Str → Option Value) (base : Heap) (x : Str) (C : Addr) (k : Nat) (sp : Sp) : Prop where
  ex : ∃ (f : Addr) (fd : FuncData) (ps : List Str), FnOk P w K mg base (CXe P w) k f fd ps sp ∧ Mk K C f ∧ mg x = some (.ref C) ∧ Binds K fd ps []
section
variable {X : Cx} {x m : Str} {k : Nat} {sp : Sp} {e o : Expr} {es : List Expr} {ta : TE} {t : TA} {p pos apos : Pos} {E : XK} {C : Addr}
theorem pe_nE (M : CalIE X.prog X.w X.K X.mg X.base x C k sp) (hx : Passes (CXe X.prog X.w) X E) (hr : Room (k + 1) X.A) (hg : Gl X x) (ha : PA X (e :: es) t) (h : isStar e = false := by rfl) (h2 : es.all (fun x => !isStar x) = true := by rfl)
    (hdb : (x == ("__debug__" : Str)) = false := by decide) : PE X (.Call (.Name x p) (e :: es) [] pos) (tMake C sp [] E t) := by
  obtain ⟨f, fd, ps, F, hm, hk, hb⟩ := M.ex
  exact pe_make hm F hr hg hk hb .nil hx ha hdb (star_cons h) (star_any h2)
end
theorem hnd_K {X : Cx} {pins : List (Addr × Obj)} {a : Addr} : (X.hnd pins a).K = X.K := rfl
theorem pnx_K {X : Cx} {pins : List (Addr × Obj)} : (X.pnx pins).K = X.K := rfl
def CDivZ (i j : Int) : Prop := j ≠ 0 ∧ j.natAbs ≤ 100000000000000000000000000000000
theorem pass_no {X : Cx} : Passes (CXe X.prog X.w) X (fun _ _ _ => False) := fun _ _ _ _ _ _ _ ⟨_, _, _, _, _, h⟩ => h.elim
theorem FunD.okE {P : Program} {w : World} {K : PySem.W.Frag} {mg : Str → Option Value} {base : Heap} {x qual : Str} {st : Stmt} {f T : Addr} {fd : FuncData} {N ps : List Str} {k : Nat} {sp : Sp} (F : FunD K x qual st f fd T) (S : FnScope N ps (defScope st)) (len : ∀ vs H Q E, sp vs H Q E → vs.length = ps.length)
    (hbody : ∀ (cdv : Value) (A : Around) (outer : List Env) (s : Shared) (H : Hp) (vs : List V) (Q : VK) (E : XK), Room k (A.deeper (envOfC qual (defScope st) s.heap.objs.size f cdv)) → sp vs H Q E →
      ∃ t, PSs (cxOf (CXe P w) P w K mg base N qual (defScope st) f cdv A outer s H E) (defBody st) t ∧ t { nx := fun _ H' => Q .non H', rt := Q } (start N vs) H) : FnOk P w K mg base (CXe P w) (k + 1) f fd ps sp := by
  obtain ⟨oc, od, kV, doc, pm, an, cdv, ct, osl, rfl, lk, hcd⟩ := F.ex
  exact fn_of lk hcd S len fun A outer s H vs Q E hr hsp => hbody cdv A outer s H vs Q E hr hsp
structure CalDE (P : Program) (w : World) (K : PySem.W.Frag) (mg : Str → Option Value) (base : Heap) (C : Addr) (m : Str) (k : Nat) (sp : Sp) (dvs : List V) : Prop where
  ex : ∃ (f : Addr) (fd : FuncData) (ps : List Str) (ds : List Value), FnOk P w K mg base (CXe P w) k f fd ps sp ∧ Meth K C m f ∧ Binds K fd ps ds ∧ Vals dvs ds
abbrev bmV : List Value := [.type "ValueError", .type "Exception", .type "BaseException", .type "object"]
abbrev newV : String := "ValueError.__new__"
theorem boot_ValueError : bootBuiltins "ValueError" = some (.type "ValueError") := by decide +kernel
section
variable {P : Program} {w : World} {K : PySem.W.Frag} {mg : Str → Option Value} {base : Heap} {N : List Str} {qual : Str} {scope : Scope} {f : Addr} {cd : Value} {A : Around} {outer : List Env} {s : Shared} {H : Hp} {E : XK}
theorem ps_rse {x : Str} {C : Addr} {np cpos pos : Pos} {e₀ : Expr} {rest : List Expr} {t : TA} (O : OwnCls x C bmV newV mg base) (hg : Gl (cxOf (CXe P w) P w K mg base N qual scope f cd A outer s H E) x)
    (ha : PA (cxOf (CXe P w) P w K mg base N qual scope f cd A outer s H E) (e₀ :: rest) t) (h1 : isStar e₀ = false := by rfl) (h2 : rest.all (fun x => !isStar x) = true := by rfl) (hd : (x == ("__debug__" : Str)) = false := by decide) :
    PS (cxOf (CXe P w) P w K mg base N qual scope f cd A outer s H E) (.Raise (some (.Call (.Name x np) (e₀ :: rest) [] cpos)) none pos) (tRaise t (E (.ref C) none)) :=
  ps_raise rfl O PySem.F.excBase_ValueError rfl PySem.F.excBase_ValueError hg ha (fun pins σ H1 s1 s2 e vs I hm ho hg hE => xe_made I hm ho hg hE) h1 h2 hd
theorem cls_of_mro {C : Addr} {b : Value} {r : Bool} (m : mroIn K C b = some r) : (clsIn K C).isSome = true := by
  unfold mroIn at m
  cases h : clsIn K C with
  | none => rw [h] at m; cases m
  | some cd => rfl
theorem own_under {C D : Addr} {bmB : List Value} {newId : String} {h : Heap} (X : K.In h) (q : excIn K C bmB newId = true) (m : mroIn K C (.ref D) = some true) (ne : C ≠ D) :
    ∃ C' nm q N bs bm hdct sn sub ab col dd k0 k1 k2 k3 k5 new, Value.ref C = .ref C' ∧ h.get? C' = some (excClassObj nm q C' N bs bm hdct sn sub ab col dd k0 k1 k2 k3 k5 new) ∧ bm.contains (.ref D) = true := by
  unfold excIn at q
  split at q
  · rename_i dd cd sl ho
    split at q
    · rename_i C' bm k0 k1 k2 k3 n k5 hm hs
      simp only [Bool.and_eq_true, beq_iff_eq, Bool.not_eq_true'] at q
      obtain ⟨⟨⟨⟨⟨rfl, rfl⟩, hdel⟩, ht⟩, hok⟩, hni⟩ := q
      have hcl : clsIn K C' = some cd := by unfold clsIn; rw [ho]
      obtain ⟨nm, bs, mro, ns, qn, hd, sn, sub, ab, col, del⟩ := cd
      dsimp only at hm hdel hok hni
      subst hm hdel
      have hsl : sl = #[k0, k1, k2, k3, some (.builtin n), k5] := by
        obtain ⟨l⟩ := sl
        simp only at hs
        rw [hs]
      subst hsl
      refine ⟨C', nm, qn, ns, bs, bm, hd, sn, sub, ab, col, dd, k0, k1, k2, k3, k5, _, rfl, X _ _ ho, ?_⟩
      unfold mroIn at m
      rw [hcl] at m
      have m : (Value.ref C' :: bm).contains (.ref D) = true := Option.some.inj m
      rw [List.contains_cons, Bool.or_eq_true] at m
      rcases m with m | m
      · exact absurd (Value.ref.inj (beq_iff_eq.mp m)).symm ne
      · exact m
    · cases q
  · cases q
end
end L2
namespace L2
open PySem PySem.Spec PyProof.Rows
structure RoomH (k : Nat) (A : Around) : Prop where
  dp : A.depth + 3 * k + 5 < recursionLimit
  un : A.units + 16 * k + 200 < cLine
theorem Room.h {k : Nat} {A : Around} (r : Room k A) : RoomH k A := ⟨r.dp, r.un⟩
theorem Room.mark {k : Nat} {A : Around} (r : Room k A) (v : Option Value) : RoomH k (A.mark v) := ⟨r.dp, r.un⟩
theorem RoomH.mono {j k : Nat} {A : Around} (r : RoomH k A) (h : j ≤ k) : RoomH j A := ⟨by have := r.dp; omega, by have := r.un; omega⟩
theorem RoomH.depth {k : Nat} {A : Around} (r : RoomH k A) : A.depth < recursionLimit := by have := r.dp; omega
theorem RoomH.deeper {k : Nat} {A : Around} (r : RoomH (k + 1) A) (env : Env) : RoomH k (A.deeper env) := by
  have h1 := r.dp
  have h2 := r.un
  constructor
  · show A.depth + 1 + 3 * k + 5 < _
    omega
  · show A.units + 3 + 16 * k + 200 < _
    omega
structure FnOkH (P : Program) (w : World) (K : PySem.W.Frag) (mg : Str → Option Value) (base : Heap) (CX : CXT) (k : Nat) (f : Addr) (fd : FuncData) (ps : List Str) (sp : Sp) : Prop where
  len : ∀ vs H Q E, sp vs H Q E → vs.length = ps.length
  run : ∀ (A : Around) (outer : List Env) (s : Shared) (H : Hp) (args : Args) (us : List Value) (vs : List V) (Q : VK) (E : XK), RoomH k A → Env0 P w K mg base A outer s H → BindsTo s fd args (ps.zip us) → Vals vs us → sp vs H Q E →
    codeAny (model P w) A (.call (.ref f) args) (CR CX outer P w H s Q E) s
abbrev cxOfH (CX : CXT) (P : Program) (w : World) (K : PySem.W.Frag) (mg : Str → Option Value) (base : Heap) (N : List Str) (qual : Str) (scope : Scope) (f : Addr) (cd : Value) (A : Around) (outer : List Env) (s : Shared) (H : Hp) (E : XK) : Cx := { cxOf CX P w K mg base N qual scope f cd A outer s H E with calm := false }
theorem inv_startH {CX : CXT} {P : Program} {w : World} {K : PySem.W.Frag} {mg : Str → Option Value} {base : Heap} {N ps : List Str} {qual : Str} {scope : Scope} {f : Addr} {cd : Value} {A : Around} {outer : List Env} {s s1 : Shared} {H : Hp} {E : XK} {us : List Value} {vs : List V}
    (S : FnScope N ps scope) (e0 : Env0 P w K mg base A outer s H) (hl : vs.length = ps.length) (r : Vals vs us)
    (x : InCallC s s.heap.objs.size (bindL (envOfC qual scope s.heap.objs.size f cd).kindOf (ps.zip us) fun _ => none) (cellsFrom (s.heap.objs.size + 1) scope.names []) (bindC (envOfC qual scope s.heap.objs.size f cd).kindOf (ps.zip us) fun _ => none) s1) :
    Inv (cxOfH CX P w K mg base N qual scope f cd A outer s H E) [] (start N vs) H s1 := by
  have I := inv_start (CX := CX) (E := E) (A := { A with handled := none }) S rfl ⟨e0.frames, e0.mod, e0.bs, e0.bsz, e0.funs, e0.frf, e0.hok, e0.bare⟩ hl r x
  exact ⟨⟨I.ok.mod, I.ok.kind, I.ok.glob, I.ok.blt, I.ok.above, I.ok.inj, I.ok.has, I.ok.cab, (fun z => nomatch z), Around.frames_deeper e0.frames, I.ok.stk, I.ok.exf, I.ok.bs, I.ok.bsz, I.ok.noex, I.ok.exfs, I.ok.funs, I.ok.frf⟩, I.os, I.bare, I.base, I.loc, I.cell, I.free, I.freeC, I.pin, I.hok, I.len⟩
theorem fn_ofH {CX : CXT} {P : Program} {w : World} {K : PySem.W.Frag} {mg : Str → Option Value} {base : Heap} {k : Nat} {f : Addr} {name qual : Str} {params : Arguments} {body : List Stmt} {scope : Scope} {dV kV doc pm cdv ct oc : Value} {an od : Option Addr}
    {osl : Array (Option Value)} {N ps : List Str} {sp : Sp} (lk : K.lookup f = some ⟨oc, od, .func (PySem.W.fnOf name qual params body scope dV kV doc pm an cdv ct), osl⟩) (hcd : PySem.W.codeIn K cdv qual = true) (S : FnScope N ps scope)
    (len : ∀ vs H Q E, sp vs H Q E → vs.length = ps.length)
    (hbody : ∀ (A : Around) (outer : List Env) (s : Shared) (H : Hp) (vs : List V) (Q : VK) (E : XK), RoomH k (A.deeper (envOfC qual scope s.heap.objs.size f cdv)) → sp vs H Q E →
      ∃ t, PSs (cxOfH CX P w K mg base N qual scope f cdv A outer s H E) body t ∧ t { nx := fun _ H' => Q .non H', rt := Q } (start N vs) H) :
    FnOkH P w K mg base CX (k + 1) f (PySem.W.fnOf name qual params body scope dV kV doc pm an cdv ct) ps sp := by
  refine ⟨len, fun A outer s H args us vs Q E hr e0 hb r hsp => ?_⟩
  have hl := len _ _ _ _ hsp
  have KX : K.In s.heap := e0.mod.kin.keeps fun b o e => (e0.bs b o e).1
  have lim : s.heap.NoLimit := e0.mod.nolimit.keeps fun b o e => (e0.bs b o e).1
  have hkind : ∀ y ∈ ps.zip us, scope.names.lookup y.1 = some .local ∨ (scope.names.lookup y.1 = some .cell ∧ ((cellsFrom (s.heap.objs.size + 1) scope.names []).lookup y.1).isSome = true) := fun ⟨n, v⟩ hy => by
    rcases S.par n (List.of_mem_zip hy).1 with q | q
    · exact .inl q
    · exact .inr ⟨q, PySem.W.cellsFrom_some _ _ _ (.inl q)⟩
  refine codeAny_call_function hr.depth (KX _ _ lk) rfl S.co S.gen rfl (PySem.W.codeRec_of KX hcd) (hb _ _ _ _ ?_)
  refine wpAny_newFunctionEnv_cells S.kind hkind fun env he s1 x => ?_
  subst he
  refine ⟨lim.keeps x.toInCall.keep, codeAny_func ?_⟩
  obtain ⟨t, ht, hq⟩ := hbody A outer s H vs Q E (hr.deeper _) hsp
  have I : Inv (cxOfH CX P w K mg base N qual scope f cdv A outer s H E) [] (start N vs) H s1 := inv_startH S e0 hl r x
  refine wpAny_mono (ht [] s1 (start N vs) H _ I hq) (fun fl s' hs => ?_) fun e s' hs => hs
  have fin : ∀ {σ' : St} {H' : Hp} {v : V} {u : Value}, Inv (cxOfH CX P w K mg base N qual scope f cdv A outer s H E) [] σ' H' s' → RelV v u → Q v H' → CE outer P w H s Q u s' :=
    fun {σ' H' v u} J rv q => ⟨v, H', J.os, J.bare, J.base, J.hok, rv, q⟩
  cases fl with
  | ret u =>
    obtain ⟨v, σ', H', J, rv, q⟩ := hs
    exact fin J rv q
  | next =>
    obtain ⟨σ', H', J, q⟩ := hs
    exact fin (v := V.non) (u := Value.none) J rfl q
  | brk =>
    obtain ⟨_, _, _, q⟩ := hs
    exact False.elim q
  | cont =>
    obtain ⟨_, _, _, q⟩ := hs
    exact False.elim q
section
variable {P : Program} {w : World} {K : PySem.W.Frag} {mg : Str → Option Value} {base : Heap}
theorem Fun.okH {x qual : Str} {st : Stmt} {f : Addr} {fd : FuncData} {N ps : List Str} {k : Nat} {sp : Sp} (F : Fun K x qual st f fd) (S : FnScope N ps (defScope st)) (len : ∀ vs H Q E, sp vs H Q E → vs.length = ps.length)
    (hbody : ∀ (cdv : Value) (A : Around) (outer : List Env) (s : Shared) (H : Hp) (vs : List V) (Q : VK) (E : XK), RoomH k (A.deeper (envOfC qual (defScope st) s.heap.objs.size f cdv)) → sp vs H Q E →
      ∃ t, PSs (cxOfH CX0 P w K mg base N qual (defScope st) f cdv A outer s H E).nox (defBody st) t ∧ t { nx := fun _ H' => Q .non H', rt := Q } (start N vs) H) : FnOkH P w K mg base CX0 (k + 1) f fd ps sp := by
  obtain ⟨oc, od, kV, doc, pm, an, cdv, ct, osl, rfl, lk, hcd⟩ := F.ex
  refine fn_ofH lk hcd S len fun A outer s H vs Q E hr hsp => ?_
  obtain ⟨t, h, q⟩ := hbody cdv A outer s H vs Q E hr hsp
  exact ⟨t, h.nox, q⟩
structure CalH (P : Program) (w : World) (K : PySem.W.Frag) (mg : Str → Option Value) (base : Heap) (x : Str) (k : Nat) (sp : Sp) : Prop where
  ex : ∃ (f : Addr) (fd : FuncData) (ps : List Str), FnOkH P w K mg base CX0 k f fd ps sp ∧ mg x = some (.ref f) ∧ PySem.W.keepIn K (.ref f) = true ∧ Binds K fd ps []
end
section
variable {X : Cx} {CX : CXT} {k : Nat} {f C : Addr} {fd : FuncData} {ps : List Str} {sp : Sp} {dvs : List V} {ds : List Value} {E : XK} {x m : Str} {p pos apos : Pos} {e o : Expr} {es : List Expr} {ta : TE} {t : TA}
theorem run_fnH {pins : List (Addr × Obj)} {σ : St} {H : Hp} {s : Shared} {Q : VK} {us : List Value} {vs : List V} (F : FnOkH X.prog X.w X.K X.mg X.base CX k f fd ps sp) (hr : RoomH k X.A) (hb : Binds X.K fd ps ds) (hd : Vals dvs ds) (hx : Passes CX X E)
    (I : Inv X pins σ H s) (r : Vals vs us) (h : sp (vs ++ dvs) H Q E) : wpAny (model X.prog X.w) X.A (call (.ref f) us) (EP X pins σ Q) X.xe s := by
  have r2 : Vals (vs ++ dvs) (us ++ ds) := r.append hd
  have hl : (us ++ ds).length = ps.length := by rw [← r2.length]; exact F.len _ _ _ _ h
  refine wpAny_call (codeAny_mono (F.run X.A X.stack s H ⟨us, []⟩ (us ++ ds) (vs ++ dvs) Q E hr I.env0 (hb s us I.kIn hl) r2 h) fun r s' hq => ?_)
  cases r with
  | error e => exact hx pins σ H s e s' I hq
  | ok fl =>
    cases fl with
    | ret u => exact I.after hq
    | next => exact False.elim hq
    | brk => exact False.elim hq
    | cont => exact False.elim hq
theorem pe_callH (F : FnOkH X.prog X.w X.K X.mg X.base CX k f fd ps sp) (hr : RoomH k X.A) (hg : Gl X x) (hm : X.mg x = some (.ref f)) (hk : PySem.W.keepIn X.K (.ref f) = true) (hb : Binds X.K fd ps ds) (hd : Vals dvs ds) (hx : Passes CX X E)
    (ha : PA X (e :: es) t) (hdb : (x == ("__debug__" : Str)) = false := by decide) (he : starEach (e :: es) X.env = (false, eval e X.env) :: starEach es X.env := by rfl) (hpl : (backTo pos (starEach es X.env)).any (·.1) = false := by rfl) :
    PE X (.Call (.Name x p) (e :: es) [] pos) (tCall sp dvs E t) := by
  intro pins s σ H Q I h
  refine wpAny_Call_Name_kw (ld_glob I hg hm ?_ hdb)
  refine PySem.W.callWith_K (h₀ := X.base) I.ok.mod.kin hk (thn (ha pos pins s σ H _ I h) fun us s1 ⟨vs, H1, I1, r, q⟩ => ⟨I1.kIn, ?_⟩) he hpl
  exact run_fnH F hr hb hd hx I1 r q
theorem pe_cH (C : CalH X.prog X.w X.K X.mg X.base x k sp) (hr : RoomH k X.A) (hg : Gl X x) (ha : PA X (e :: es) t) (h : isStar e = false := by rfl) (h2 : es.all (fun x => !isStar x) = true := by rfl)
    (hdb : (x == ("__debug__" : Str)) = false := by decide) : PE X (.Call (.Name x p) (e :: es) [] pos) (tCall sp [] E0 t) := by
  obtain ⟨f, fd, ps, F, hm, hk, hb⟩ := C.ex
  exact pe_callH F hr hg hm hk hb .nil pass0 ha hdb (star_cons h) (star_any h2)
end
end L2
set_option maxHeartbeats 4000000
open PySem L2 PyProof.Rows
local macro_rules | `(tactic| walk_at "wp") => `(tactic| simp only [tSeq, tIfS, tTest, tOp, tUn, tVar, tC, tCB, tCons, tNil, tRet, tRetN, tNext, tDrop, tAsg, tAug, ipI, gName, gTup, gCons, gNil, gSub, tTup, tLst, tSl, tNoPart, tPart, tChain, tCall, tBM, tBM0, tPar, tB, tAnd, tOr, tNot, tAndV, tOrV, tNotV, tIf, tYes, tMake, tMeth, tFld, sFld, tDGet, tDisp, tPairs, tRevL, iEnm, sDPut, gLst, tAugS, rGetL, rI0, rI, rU, rIxL, rIxT, rSetL, rSlL, rAppend, rBits, tTry, hEnds, tRaise, hnd_K, pnx_K, rCat, rEq, rNe, rEqL, rEqT, rIn, scal_ii, scal_bb, scal_ss, iList, iTup, iRng1, iRng2, cV, cx_K, in_K, wish_K, E0, L2.start, List.map, List.length, List.replicate, List.cons_append, List.nil_append, List.append_nil, List.getElem?_cons_zero, List.getElem?_cons_succ, List.set_cons_zero, List.set_cons_succ, Option.some.injEq, exists_eq_left', exists_eq_left, exists_and_left, V.int.injEq, V.bl.injEq, V.ref.injEq, V.ty.injEq, List.cons.injEq, reduceCtorEq, false_and, and_false, exists_false, or_false, false_or, and_true, true_and, Nat.reduceSub, Nat.reduceAdd, Nat.reduceLT, if_true, if_false, Bool.false_eq_true])
namespace Pf
open PySem L2 PyProof.Rows
def top (i : Nat) : Stmt := PySem.Challenge.pw_limbtables_k27_standings_refused.main.body.getD i (.Pass ⟨0, 0, 0, 0⟩)
abbrev s_is_whole : Stmt := top 18
abbrev s_makes_drawing : Stmt := top 26
abbrev s_is_arrow : Stmt := top 27
abbrev s_Drawing_init : Stmt := inClass (top 28) 0
abbrev s_law_cell : Stmt := top 47
abbrev s_law_bag : Stmt := top 48
abbrev s_law_draw : Stmt := top 49
abbrev s_law_order : Stmt := top 50
abbrev s_law_rest_edges : Stmt := top 51
abbrev s_law_bad_edges : Stmt := top 52
abbrev s_law_edges : Stmt := top 53
abbrev s_law_drawn : Stmt := top 54
abbrev s_common_divisor : Stmt := top 19
abbrev s_is_prime : Stmt := top 39
abbrev s_tells_ground : Stmt := top 40
abbrev s_is_fraction : Stmt := top 44
abbrev s_Ground_init : Stmt := inClass (top 45) 0
abbrev s_Ground_is_number : Stmt := inClass (top 45) 6
abbrev s_is_row : Stmt := top 31
abbrev s_is_table : Stmt := top 30
abbrev s_are_sizes : Stmt := top 33
abbrev s_is_table_of : Stmt := top 34
abbrev s_are_tables : Stmt := top 35
abbrev s_Standing_init : Stmt := inClass (top 36) 0
abbrev s_law_low : Stmt := top 55
abbrev s_law_number : Stmt := top 56
abbrev s_law_whole : Stmt := top 57
abbrev s_law_sizes : Stmt := top 58
abbrev s_law_table : Stmt := top 59
abbrev s_law_tables : Stmt := top 60
abbrev s_law_lent : Stmt := top 61
abbrev s_law_bad_table : Stmt := top 62
abbrev s_law_spoiled : Stmt := top 63
abbrev s_law_strange : Stmt := top 64
abbrev s_law_word : Stmt := top 65
abbrev s_law_refused : Stmt := top 66
abbrev s_law : Stmt := top 67
theorem sc_is_whole : FnScope ["thing"] ["thing"] (defScope s_is_whole) := ⟨rfl, rfl, rfl, by decide +kernel, rfl, by decide +kernel, by decide +kernel⟩
theorem sc_makes_drawing : FnScope ["many", "arrows"] ["many", "arrows"] (defScope s_makes_drawing) := ⟨rfl, rfl, rfl, by decide +kernel, rfl, by decide +kernel, by decide +kernel⟩
theorem sc_is_arrow : FnScope ["many", "thing"] ["many", "thing"] (defScope s_is_arrow) := ⟨rfl, rfl, rfl, by decide +kernel, rfl, by decide +kernel, by decide +kernel⟩
theorem sc_Drawing_init : FnScope ["self", "many", "arrows"] ["self", "many", "arrows"] (defScope s_Drawing_init) := ⟨rfl, rfl, rfl, by decide +kernel, rfl, by decide +kernel, by decide +kernel⟩
theorem sc_law_cell : FnScope ["_law_script", "_law_k"] ["_law_script", "_law_k"] (defScope s_law_cell) := ⟨rfl, rfl, rfl, by decide +kernel, rfl, by decide +kernel, by decide +kernel⟩
theorem sc_law_bag : FnScope ["_law_cell_here"] ["_law_cell_here"] (defScope s_law_bag) := ⟨rfl, rfl, rfl, by decide +kernel, rfl, by decide +kernel, by decide +kernel⟩
theorem sc_law_draw : FnScope ["_law_bag_here", "_law_many", "_law_found"] ["_law_bag_here", "_law_many"] (defScope s_law_draw) := ⟨rfl, rfl, rfl, by decide +kernel, rfl, by decide +kernel, by decide +kernel⟩
theorem sc_law_order : FnScope ["_law_bag_here", "_law_many", "_law_left", "_law_row", "_law_at"] ["_law_bag_here", "_law_many"] (defScope s_law_order) := ⟨rfl, rfl, rfl, by decide +kernel, rfl, by decide +kernel, by decide +kernel⟩
theorem sc_law_rest_edges : FnScope ["_law_bag_here", "_law_way", "_law_edges_here", "_law_many", "_law_k", "_law_one"] ["_law_bag_here", "_law_way"] (defScope s_law_rest_edges) := ⟨rfl, rfl, rfl, by decide +kernel, rfl, by decide +kernel, by decide +kernel⟩
theorem sc_law_bad_edges : FnScope ["_law_bag_here", "_law_sort", "_law_many", "_law_long", "_law_edges_here"] ["_law_bag_here"] (defScope s_law_bad_edges) := ⟨rfl, rfl, rfl, by decide +kernel, rfl, by decide +kernel, by decide +kernel⟩
theorem sc_law_edges : FnScope ["_law_bag_here", "_law_way", "_law_many"] ["_law_bag_here", "_law_way"] (defScope s_law_edges) := ⟨rfl, rfl, rfl, by decide +kernel, rfl, by decide +kernel, by decide +kernel⟩
theorem sc_law_drawn : FnScope ["_law_bag_here", "_law_way", "_law_many", "_law_left", "_law_order_here", "_law_arrows", "_law_at", "_law_one", "_law_other"] ["_law_bag_here", "_law_way"] (defScope s_law_drawn) := ⟨rfl, rfl, rfl, by decide +kernel, rfl, by decide +kernel, by decide +kernel⟩
theorem sc_common_divisor : FnScope ["one", "other"] ["one", "other"] (defScope s_common_divisor) := ⟨rfl, rfl, rfl, by decide +kernel, rfl, by decide +kernel, by decide +kernel⟩
theorem sc_is_prime : FnScope ["number"] ["number"] (defScope s_is_prime) := ⟨rfl, rfl, rfl, by decide +kernel, rfl, by decide +kernel, by decide +kernel⟩
theorem sc_tells_ground : FnScope ["thing"] ["thing"] (defScope s_tells_ground) := ⟨rfl, rfl, rfl, by decide +kernel, rfl, by decide +kernel, by decide +kernel⟩
theorem sc_is_fraction : FnScope ["thing", "top", "bottom"] ["thing"] (defScope s_is_fraction) := ⟨rfl, rfl, rfl, by decide +kernel, rfl, by decide +kernel, by decide +kernel⟩
theorem sc_Ground_init : FnScope ["self", "prime"] ["self", "prime"] (defScope s_Ground_init) := ⟨rfl, rfl, rfl, by decide +kernel, rfl, by decide +kernel, by decide +kernel⟩
theorem sc_Ground_is_number : FnScope ["self", "thing"] ["self", "thing"] (defScope s_Ground_is_number) := ⟨rfl, rfl, rfl, by decide +kernel, rfl, by decide +kernel, by decide +kernel⟩
theorem sc_is_row : FnScope ["ground", "wide", "thing"] ["ground", "wide", "thing"] (defScope s_is_row) := ⟨rfl, rfl, rfl, by decide +kernel, rfl, by decide +kernel, by decide +kernel⟩
theorem sc_is_table : FnScope ["ground", "thing", "high", "wide", "rows"] ["ground", "thing"] (defScope s_is_table) := ⟨rfl, rfl, rfl, by decide +kernel, rfl, by decide +kernel, by decide +kernel⟩
theorem sc_are_sizes : FnScope ["drawing", "thing"] ["drawing", "thing"] (defScope s_are_sizes) := ⟨rfl, rfl, rfl, by decide +kernel, rfl, by decide +kernel, by decide +kernel⟩
theorem sc_is_table_of : FnScope ["ground", "high", "wide", "thing"] ["ground", "high", "wide", "thing"] (defScope s_is_table_of) := ⟨rfl, rfl, rfl, by decide +kernel, rfl, by decide +kernel, by decide +kernel⟩
theorem sc_are_tables : FnScope ["ground", "drawing", "sizes", "thing"] ["ground", "drawing", "sizes", "thing"] (defScope s_are_tables) := ⟨rfl, rfl, rfl, by decide +kernel, rfl, by decide +kernel, by decide +kernel⟩
theorem sc_Standing_init : FnScope ["self", "ground", "drawing", "sizes", "tables"] ["self", "ground", "drawing", "sizes", "tables"] (defScope s_Standing_init) := ⟨rfl, rfl, rfl, by decide +kernel, rfl, by decide +kernel, by decide +kernel⟩
theorem sc_law_low : FnScope ["_law_top", "_law_bottom", "_law_one", "_law_other", "_law_rest"] ["_law_top", "_law_bottom"] (defScope s_law_low) := ⟨rfl, rfl, rfl, by decide +kernel, rfl, by decide +kernel, by decide +kernel⟩
theorem sc_law_number : FnScope ["_law_bag_here", "_law_p", "_law_top"] ["_law_bag_here", "_law_p"] (defScope s_law_number) := ⟨rfl, rfl, rfl, by decide +kernel, rfl, by decide +kernel, by decide +kernel⟩
theorem sc_law_whole : FnScope ["_law_p", "_law_k"] ["_law_p", "_law_k"] (defScope s_law_whole) := ⟨rfl, rfl, rfl, by decide +kernel, rfl, by decide +kernel, by decide +kernel⟩
theorem sc_law_sizes : FnScope ["_law_bag_here", "_law_many", "_law_most", "_law_sizes_here", "_law_left", "_law_k", "_law_size"] ["_law_bag_here", "_law_many", "_law_most"] (defScope s_law_sizes) := ⟨rfl, rfl, rfl, by decide +kernel, rfl, by decide +kernel, by decide +kernel⟩
theorem sc_law_table : FnScope ["_law_bag_here", "_law_p", "_law_high", "_law_wide", "_law_bare", "_law_rows", "_law_k", "_law_row", "_law_j", "_law_number_here"] ["_law_bag_here", "_law_p", "_law_high", "_law_wide"] (defScope s_law_table) := ⟨rfl, rfl, rfl, by decide +kernel, rfl, by decide +kernel, by decide +kernel⟩
theorem sc_law_tables : FnScope ["_law_bag_here", "_law_p", "_law_arrows", "_law_sizes_here", "_law_tables_here", "_law_tail", "_law_head"] ["_law_bag_here", "_law_p", "_law_arrows", "_law_sizes_here"] (defScope s_law_tables) := ⟨rfl, rfl, rfl, by decide +kernel, rfl, by decide +kernel, by decide +kernel⟩
theorem sc_law_lent : FnScope ["_law_tables_here"] ["_law_tables_here"] (defScope s_law_lent) := ⟨rfl, rfl, rfl, by decide +kernel, rfl, by decide +kernel, by decide +kernel⟩
theorem sc_law_bad_table : FnScope ["_law_bag_here", "_law_p", "_law_table_here", "_law_way", "_law_high", "_law_wide", "_law_rows", "_law_number_here", "_law_at", "_law_to", "_law_far", "_law_bad", "_law_row"] ["_law_bag_here", "_law_p", "_law_table_here", "_law_way"] (defScope s_law_bad_table) := ⟨rfl, rfl, rfl, by decide +kernel, rfl, by decide +kernel, by decide +kernel⟩
theorem sc_law_spoiled : FnScope ["_law_bag_here", "_law_p", "_law_arrows", "_law_sizes_here", "_law_tables_here", "_law_way", "_law_far", "_law_at", "_law_end"] ["_law_bag_here", "_law_p", "_law_arrows", "_law_sizes_here", "_law_tables_here"] (defScope s_law_spoiled) := ⟨rfl, rfl, rfl, by decide +kernel, rfl, by decide +kernel, by decide +kernel⟩
theorem sc_law_strange : FnScope ["_law_bag_here", "_law_sizes_here", "_law_tables_here", "_law_thing", "_law_way", "_law_at", "_law_high", "_law_wide", "_law_rows", "_law_bad"] ["_law_bag_here", "_law_sizes_here", "_law_tables_here"] (defScope s_law_strange) := ⟨rfl, rfl, rfl, by decide +kernel, rfl, by decide +kernel, by decide +kernel⟩
theorem sc_law_word : FnScope ["_law_e"] ["_law_e"] (defScope s_law_word) := ⟨rfl, rfl, rfl, by decide +kernel, rfl, by decide +kernel, by decide +kernel⟩
theorem sc_law_refused : FnScope ["_law_ground", "_law_drawing", "_law_sizes_here", "_law_tables_here", "_law_e"] ["_law_ground", "_law_drawing", "_law_sizes_here", "_law_tables_here"] (defScope s_law_refused) := ⟨rfl, rfl, rfl, by decide +kernel, rfl, by decide +kernel, by decide +kernel⟩
theorem sc_law : FnScope ["_law_script", "_law_k", "_law_bag_here", "_law_p", "_law_many", "_law_arrows", "_law_sizes_here", "_law_tables_here", "_law_ground", "_law_drawing", "_law_bad", "_law_lent_here", "_law_strange_here"] ["_law_script"] (defScope s_law) := ⟨rfl, rfl, rfl, by decide +kernel, rfl, by decide +kernel, by decide +kernel⟩
structure Txt (K : PySem.W.Frag) (mg : Str → Option Value) (C G S : Addr) : Prop where
  cl_Drawing : Cls K C
  nM : NoAttr K C "many"
  nA : NoAttr K C "arrows"
  cl_Ground : Cls K G
  nP : NoAttr K G "prime"
  cl_Standing : Cls K S
  nSg : NoAttr K S "ground"
  nSd : NoAttr K S "drawing"
  nSs : NoAttr K S "sizes"
  nSt : NoAttr K S "tables"
  n_len : mg "len" = none
  n_range : mg "range" = none
  n_list : mg "list" = none
  n_min : mg "min" = none
  n_int : mg "int" = none
  n_bool : mg "bool" = none
  n_tuple : mg "tuple" = none
  n_all : mg "all" = none
  n_isinstance : mg "isinstance" = none
  n_abs : mg "abs" = none
  n_zip : mg "zip" = none
  n_ValueError : mg "ValueError" = none
  g_MOST_POINTS : ∃ t, mg "MOST_POINTS" = some (.int 8 t)
  g_MOST_ARROWS : ∃ t, mg "MOST_ARROWS" = some (.int 9 t)
  g_LARGEST_PRIME : ∃ t, mg "LARGEST_PRIME" = some (.int 97 t)
  g_LONG : ∃ t, mg "LONG" = some (.int 4000 t)
def BagV (a b : Int) : HO := .lst [.int a, .int b]
def Bag (H : Hp) (l : Addr) : Prop := ∃ a b : Int, H l = some (BagV a b) ∧ 0 ≤ b ∧ b < 2147483647
def spCell (K : PySem.W.Frag) : Sp := fun vs H Q _ => ∃ (a : Addr) (ns : List Int) (k : Int), vs = [.ref a, .int k] ∧ SqL K H a (ns.map V.int) ∧ ns.length ≤ 63 ∧ 0 ≤ k ∧ ∀ c, Q (.int c) H
def spBag : Sp := fun vs H Q _ => ∃ c : Int, vs = [.int c] ∧ ∀ (l : Addr) (a b : Int), H l = none → 0 ≤ b → b < 2147483647 → Q (.ref l) (upd H l (BagV a b))
def spDraw : Sp := fun vs H Q _ => ∃ (l : Addr) (a b n : Int), vs = [.ref l, .int n] ∧ H l = some (BagV a b) ∧ 0 ≤ b ∧ b < 2147483647 ∧ 0 < n ∧ n ≤ 100000000000000000000000000000000 ∧
  ∀ (r a' b' : Int), 0 ≤ r → r < n → 0 ≤ b' → b' < 2147483647 → Q (.int r) (upd H l (BagV a' b'))
section
variable {P : Program} {w : World} {K : PySem.W.Frag} {mg : Str → Option Value} {base : Heap} {C G S : Addr}
theorem ok_cell {f : Addr} {fd : FuncData} (F : Fun K "_law_cell" "_law_cell" s_law_cell f fd) (T : Txt K mg C G S) : FnOk P w K mg base CX0 1 f fd ["_law_script", "_law_k"] (spCell K) := by
  have nd := sc_law_cell.nd
  refine F.ok sc_law_cell (fun vs H Q E h => ?_) (fun cdv A outer s H vs Q E hr h => ?_)
  · obtain ⟨a, ns, k, rfl, _⟩ := h
    rfl
  · obtain ⟨a, ns, k, rfl, hS, hl, h0, q⟩ := h
    refine ⟨_, (@pss_cons _ _ _ _ _ (@ps_if _ _ _ _ _ _ _ _ (pt_cmpR op_lt (pv 1) (pe_cB call_len_seq rfl T.n_len PySem.boot_len (@pa_c _ _ _ _ _ (pv 0) pa_nil (by rfl))) (nomark _)) (@pss_one _ _ _ (@ps_ret _ _ _ _ (@pe_ix _ _ _ _ _ _ _ ix_list (pv 0) (pv 1) (fun _ _ => rfl)))) pss_nil) (@pss_one _ _ _ (@ps_ret _ _ _ _ pe_int))), ?_⟩
    walk_at "wp"
    refine ⟨_, .inl hS, ite2 (fun hc => ?_) (fun _ => q 0)⟩
    have hc := of_decide_eq_true hc
    rw [List.length_map] at hc
    refine ⟨_, hS, V.int (ns[k.toNat]'(by omega)), atI_at h0 ?_, q _⟩
    rw [List.getElem?_map, List.getElem?_eq_getElem (by omega)]
    rfl
theorem pow60 : IntMulOk (10 ^ (60 : Int).toNat) (10 ^ (60 : Int).toNat) := IntMulOk.of_bits (by decide +kernel) (by decide +kernel)
theorem cpow (k : Int) (h0 : 0 ≤ k) (h1 : k ≤ 1000) : CPow 10 k := ⟨h0, by omega, by decide⟩
theorem mod_lo (c n : Int) (h : 0 < n) : 0 ≤ c % n := Int.emod_nonneg _ (by omega)
theorem mod_hi (c n : Int) (h : 0 < n) : c % n < n := Int.emod_lt_of_pos _ h
theorem ok_bag {f : Addr} {fd : FuncData} (F : Fun K "_law_bag" "_law_bag" s_law_bag f fd) (T : Txt K mg C G S) : FnOk P w K mg base CX0 1 f fd ["_law_cell_here"] spBag := by
  have nd := sc_law_bag.nd
  refine F.ok sc_law_bag (fun vs H Q E h => ?_) (fun cdv A outer s H vs Q E hr h => ?_)
  · obtain ⟨c, rfl, _⟩ := h
    rfl
  · obtain ⟨c, rfl, q⟩ := h
    refine ⟨_, (@pss_cons _ _ _ _ _ (@ps_if _ _ _ _ _ _ _ _ (pt_cmpR op_ge (pv 0) (@pe_op _ _ _ _ _ _ _ _ op_pow pe_int pe_int) (nomark _)) (@pss_one _ _ _ (@ps_ret _ _ _ _ (@pe_lst _ _ _ _ (@pa_c _ _ _ _ _ (@pe_op _ _ _ _ _ _ _ _ op_mod (pv 0) (@pe_op _ _ _ _ _ _ _ _ op_mulG (@pe_op _ _ _ _ _ _ _ _ op_pow pe_int pe_int) (@pe_op _ _ _ _ _ _ _ _ op_pow pe_int pe_int))) (@pa_c _ _ _ _ _ (@pe_op _ _ _ _ _ _ _ _ op_mod (pv 0) pe_int) pa_nil (by rfl)) (by rfl))))) pss_nil) (@pss_one _ _ _ (@ps_ret _ _ _ _ (@pe_lst _ _ _ _ (@pa_c _ _ _ _ _ pe_int (@pa_c _ _ _ _ _ (@pe_op _ _ _ _ _ _ _ _ op_mod (@pe_op _ _ _ _ _ _ _ _ op_add (@pe_op _ _ _ _ _ _ _ _ op_mul (@pe_op _ _ _ _ _ _ _ _ op_mod (pv 0) pe_int) pe_int) pe_int) pe_int) pa_nil (by rfl)) (by rfl)))))), ?_⟩
    walk_at "wp"
    refine ⟨cpow _ (by decide) (by decide), ite2 (fun _ => ?_) (fun _ => ?_)⟩
    · exact ⟨cpow _ (by decide) (by decide), cpow _ (by decide) (by decide), pow60, by decide +kernel, by decide, by decide, fun p hp => q p _ _ hp (mod_lo _ _ (by decide)) (mod_hi _ _ (by decide))⟩
    · exact ⟨by decide, .inr ⟨by decide, by decide⟩, by decide, by decide, fun p hp => q p _ _ hp (mod_lo _ _ (by decide)) (mod_hi _ _ (by decide))⟩
theorem ok_draw {f : Addr} {fd : FuncData} (F : Fun K "_law_draw" "_law_draw" s_law_draw f fd) (T : Txt K mg C G S) : FnOk P w K mg base CX0 1 f fd ["_law_bag_here", "_law_many"] spDraw := by
  have nd := sc_law_draw.nd
  refine F.ok sc_law_draw (fun vs H Q E h => ?_) (fun cdv A outer s H vs Q E hr h => ?_)
  · obtain ⟨l, a, b, n, rfl, _⟩ := h
    rfl
  · obtain ⟨l, a, b, n, rfl, hl, b0, b1, n0, n1, q⟩ := h
    refine ⟨_, (@pss_cons _ _ _ _ _ (@ps_if _ _ _ _ _ _ _ _ (pt_cmpR op_ge (@pe_ix _ _ _ _ _ _ _ ix_list (pv 0) pe_int (fun _ _ => rfl)) (pv 1) (nomark _)) (@pss_cons _ _ _ _ _ (ps_set (i := 2) nd rfl (Or.inl rfl) (@pe_op _ _ _ _ _ _ _ _ op_mod (@pe_ix _ _ _ _ _ _ _ ix_list (pv 0) pe_int (fun _ _ => rfl)) (pv 1))) (@pss_cons _ _ _ _ _ (ps_asg (@pe_op _ _ _ _ _ _ _ _ op_fdivG (@pe_ix _ _ _ _ _ _ _ ix_list (pv 0) pe_int (fun _ _ => rfl)) (pv 1)) (pg_sub (pv 0) pe_int set_list)) (@pss_one _ _ _ (@ps_ret _ _ _ _ (pv 2))))) pss_nil) (@pss_cons _ _ _ _ _ (ps_asg pe_int (pg_sub (pv 0) pe_int set_list)) (@pss_cons _ _ _ _ _ (ps_asg (@pe_op _ _ _ _ _ _ _ _ op_mod (@pe_op _ _ _ _ _ _ _ _ op_add (@pe_op _ _ _ _ _ _ _ _ op_mul (@pe_ix _ _ _ _ _ _ _ ix_list (pv 0) pe_int (fun _ _ => rfl)) pe_int) pe_int) pe_int) (pg_sub (pv 0) pe_int set_list)) (@pss_one _ _ _ (@ps_ret _ _ _ _ (@pe_op _ _ _ _ _ _ _ _ op_mod (@pe_op _ _ _ _ _ _ _ _ op_fdiv (@pe_op _ _ _ _ _ _ _ _ op_mod (@pe_op _ _ _ _ _ _ _ _ op_mul (@pe_ix _ _ _ _ _ _ _ ix_list (pv 0) pe_int (fun _ _ => rfl)) (@pe_op _ _ _ _ _ _ _ _ op_add (@pe_op _ _ _ _ _ _ _ _ op_fdiv (@pe_ix _ _ _ _ _ _ _ ix_list (pv 0) pe_int (fun _ _ => rfl)) pe_int) pe_int)) pe_int) pe_int) (pv 1))))))), ?_⟩
    walk_at "wp"
    refine ⟨_, SqL.of hl, _, rfl, _, rfl, ite2 (fun hc => ?_) (fun hc => ?_)⟩
    · refine ⟨_, SqL.of hl, _, rfl, _, rfl, n0, _, SqL.of hl, _, rfl, _, rfl, ⟨n0, by omega⟩, _, hl, _, rfl, ?_⟩
      exact q _ _ _ (mod_lo _ _ n0) (mod_hi _ _ n0) b0 b1
    · refine ⟨_, hl, _, rfl, _, SqL.of upd_same, _, rfl, _, rfl, .inr ⟨by decide, by decide⟩, by decide, _, upd_same, _, rfl, _, SqL.of upd_same, _, rfl, _, SqL.of upd_same, _, rfl, _, rfl, ⟨by decide, by decide⟩, _, rfl, ?_⟩
      have h1 := mod_lo (b * 48271 + 4099) 2147483647 (by decide)
      have h2 := mod_hi (b * 48271 + 4099) 2147483647 (by decide)
      refine ⟨.inl ⟨by omega, by omega⟩, by decide, ⟨by decide, by decide⟩, n0, ?_⟩
      rw [upd_upd]
      exact q _ _ _ (mod_lo _ _ n0) (mod_hi _ _ n0) h1 h2
end
end Pf
set_option maxHeartbeats 4000000
namespace Pf
open PySem L2 PyProof.Rows
section
variable {P : Program} {w : World} {K : PySem.W.Frag} {mg : Str → Option Value} {base : Heap} {C G S : Addr}
def InR (m : Int) (ys : List Int) : Prop := ∀ y ∈ ys, 0 ≤ y ∧ y < m
def spOrder : Sp := fun vs H Q _ => ∃ (l : Addr) (m : Int), vs = [.ref l, .int m] ∧ Bag H l ∧ 0 ≤ m ∧ m ≤ 8 ∧
  ∀ (p : Addr) (ys : List Int) (H' : Hp), Ext l H H' → Bag H' l → H p = none → H' p = some (.lst (ys.map V.int)) → (ys.length : Int) = m → InR m ys → Q (.ref p) H'
theorem rngV_ints (lo hi : Int) : rngV lo hi = ((List.range (hi - lo).toNat).map fun (i : Nat) => lo + (i : Int)).map V.int := by
  unfold rngV
  rw [List.map_map]
  rfl
theorem cut_lo (xs : List V) (k : Int) (h0 : 0 ≤ k) (h1 : k ≤ xs.length) : cutV xs none (some k) = xs.take k.toNat := by
  unfold cutV HT.sIx
  have : ¬ k < 0 := by omega
  simp only [this, if_false, List.drop_zero, Nat.sub_zero]
  congr 1
  omega
theorem cut_hi (xs : List V) (k : Int) (h0 : 0 ≤ k) (h1 : k ≤ xs.length) : cutV xs (some k) none = xs.drop k.toNat := by
  unfold cutV HT.sIx
  have e : ¬ k < 0 := by omega
  have e2 : min k.toNat xs.length = k.toNat := by omega
  simp only [e, if_false, e2]
  rw [List.take_of_length_le]
  rw [List.length_drop]
  omega
theorem Bag.ne {H : Hp} {l p : Addr} (h : Bag H l) (hp : H p = none) : p ≠ l := by
  obtain ⟨a, b, e, _⟩ := h
  exact (ne_of_none e hp).symm
theorem Bag.new {H : Hp} {l p : Addr} {o : HO} (h : Bag H l) (hp : p ≠ l) : Bag (upd H p o) l := by
  obtain ⟨a, b, e, h1, h2⟩ := h
  exact ⟨a, b, by rw [upd_ne hp.symm]; exact e, h1, h2⟩
theorem Bag.set {H : Hp} {l : Addr} {a b : Int} (h1 : 0 ≤ b) (h2 : b < 2147483647) : Bag (upd H l (BagV a b)) l := ⟨a, b, upd_same, h1, h2⟩
theorem ok_order {f : Addr} {fd : FuncData} (F : Fun K "_law_order" "_law_order" s_law_order f fd) (T : Txt K mg C G S) (C_law_draw : Cal P w K mg base "_law_draw" 1 spDraw) : FnOk P w K mg base CX0 2 f fd ["_law_bag_here", "_law_many"] spOrder := by
  have nd := sc_law_order.nd
  refine F.ok sc_law_order (fun vs H Q E h => ?_) (fun cdv A outer s H vs Q E hr h => ?_)
  · obtain ⟨l, m, rfl, _⟩ := h
    rfl
  · obtain ⟨l, m, rfl, hb, m0, m8, q⟩ := h
    refine ⟨_, (@pss_cons _ _ _ _ _ (ps_set (i := 2) nd rfl (Or.inl rfl) (pe_cT (call_list_rng rfl) rfl T.n_list boot_list (@pa_c _ _ _ _ _ (pe_cT call_rng1 rfl T.n_range boot_range (@pa_c _ _ _ _ _ (pv 1) pa_nil (by rfl))) pa_nil (by rfl)))) (@pss_cons _ _ _ _ _ (ps_set (i := 3) nd rfl (Or.inl rfl) (@pe_lst _ _ _ _ pa_nil)) (@pss_cons _ _ _ _ _ (ps_while PassesOwn.never (pt_cmpR op_gt (pe_cB call_len_seq rfl T.n_len PySem.boot_len (@pa_c _ _ _ _ _ (pv 2) pa_nil (by rfl))) pe_int (nomark _)) (@pss_cons _ _ _ _ _ (ps_set (i := 4) nd rfl (Or.inl rfl) (pe_c C_law_draw (hr.mono (by decide)) rfl (@pa_c _ _ _ _ _ (pv 0) (@pa_c _ _ _ _ _ (pe_cB call_len_seq rfl T.n_len PySem.boot_len (@pa_c _ _ _ _ _ (pv 2) pa_nil (by rfl))) pa_nil (by rfl)) (by rfl)))) (@pss_cons _ _ _ _ _ (ps_expr (pe_bm PySem.F.plainAttrs_list PySem.F.slot_list_append PySem.F.type_list_append mt_append (pv 3) (@pa_c _ _ _ _ _ (@pe_ix _ _ _ _ _ _ _ ix_list (pv 2) (pv 4) (fun _ _ => rfl)) pa_nil (by rfl)))) (@pss_one _ _ _ (ps_set (i := 2) nd rfl (Or.inl rfl) (@pe_op _ _ _ _ _ _ _ _ op_cat (@pe_slice _ _ _ _ _ _ _ _ _ _ sl_list (pv 2) po_none (@po_some _ _ _ (pv 4))) (@pe_slice _ _ _ _ _ _ _ _ _ _ sl_list (pv 2) (@po_some _ _ _ (@pe_op _ _ _ _ _ _ _ _ op_add (pv 4) pe_int)) po_none))))))) (@pss_one _ _ _ (@ps_ret _ _ _ _ (pv 3)))))), ?_⟩
    walk_at "wp"
    intro p hp
    refine ⟨_, _, upd_same, ⟨by decide, by decide, by omega, by omega⟩, by omega, fun l1 hl1 => ⟨by decide, fun p1 hp1 => ?_⟩⟩
    have hpl := hb.ne hp
    have b1 : Bag (upd H p (.rng 0 m)) l := hb.new hpl
    have hll := b1.ne hl1
    have b2 : Bag (upd (upd H p (.rng 0 m)) l1 (.lst (rngV 0 m))) l := b1.new hll
    have hl1p : p1 ≠ l1 := (ne_of_none upd_same hp1).symm
    have hHp1 : H p1 = none := ((Same.new hp).trans (Same.new hl1)).free hp1
    rw [rngV_ints] at *
    refine ⟨fun k σ H2 => ∃ (pl : Addr) (ls rs : List Int) (v : Option V), σ = [some (.ref l), some (.int m), some (.ref pl), some (.ref p1), v] ∧ k = ls.length ∧ Ext l H H2 ∧ Bag H2 l ∧
      H2 pl = some (.lst (ls.map V.int)) ∧ H2 p1 = some (.lst (rs.map V.int)) ∧ pl ≠ p1 ∧ pl ≠ l ∧ ((ls.length : Int) + rs.length = m) ∧ InR m ls ∧ InR m rs, ?_, ?_⟩
    · refine ⟨_, l1, ((List.range (m - 0).toNat).map fun (i : Nat) => (0 : Int) + (i : Int)), [], none, rfl, rfl, ?_, b2.new (b2.ne hp1), ?_, upd_same, hl1p.symm, hll, ?_, ?_, fun _ h => nomatch h⟩
      · exact ((Ext.new hp).trans (Ext.new hl1)).trans (Ext.new hp1)
      · rw [upd_ne hl1p.symm, upd_same]
      · rw [List.length_map, List.length_range]
        simp
        omega
      · intro y hy
        obtain ⟨i, hi, rfl⟩ := List.mem_map.mp hy
        have := List.mem_range.mp hi
        omega
    · rintro k σ H2 ⟨pl, ls, rs, v, rfl, rfl, ex, hb2, hpl2, hp12, n1, n2, hlen, il, ir⟩
      walk_at "wp"
      refine ⟨_, .inl (SqL.of hpl2), ite2 (fun hc => ?_) (fun hc => ?_)⟩
      · refine ⟨_, fun _ _ h => h, ?_⟩
        have hc := of_decide_eq_true hc
        rw [List.length_map] at hc
        walk_at "wp"
        refine ⟨_, .inl (SqL.of hpl2), ?_⟩
        obtain ⟨a, b, hla, b0, b1'⟩ := hb2
        rw [List.length_map]
        refine ⟨l, a, b, _, rfl, hla, b0, b1', hc, by omega, fun r a' b' r0 r1 c0 c1 => ?_⟩
        have hr1 : r.toNat < ls.length := by omega
        have hp1l : p1 ≠ l := hb.ne hHp1
        have h3pl : (upd H2 l (BagV a' b')) pl = some (.lst (ls.map V.int)) := by rw [upd_ne n2]; exact hpl2
        have h3p1 : (upd H2 l (BagV a' b')) p1 = some (.lst (rs.map V.int)) := by rw [upd_ne hp1l]; exact hp12
        have e1 : Ext l H (upd H2 l (BagV a' b')) := ex.trans Ext.set
        have B1 : Bag (upd H2 l (BagV a' b')) l := Bag.set c0 c1
        refine ⟨.inl ⟨rfl, _, SqL.of h3p1⟩, _, r, rfl, SqL.of h3pl, V.int (ls[r.toNat]), atI_at r0 (by rw [List.getElem?_map, List.getElem?_eq_getElem hr1]; rfl), _, h3p1, small1000 (by rw [List.length_map]; omega), r, rfl, _,
          SqL.of (by rw [upd_ne n1]; exact h3pl), fun p2 hp2 => ⟨r, rfl, ls.map V.int, SqL.of ?g1, fun p3 hp3 => ⟨cutV (ls.map V.int) none (some r), ?g2, _, upd_same, ?g3, fun p4 hp4 => ?g4⟩⟩⟩
        case g1 =>
          have : pl ≠ p2 := ne_of_none (by rw [upd_ne n1]; exact h3pl) hp2
          rw [upd_ne this, upd_ne n1]
          exact h3pl
        case g2 => rw [upd_ne (ne_of_none upd_same hp3)]; exact upd_same
        case g3 =>
          have h1 := cutV_length (ls.map V.int) none (some r)
          have h2 := cutV_length (ls.map V.int) (some (r + 1)) none
          rw [List.length_map] at h1 h2
          exact Nat.le_of_lt (small1000 (by omega))
        case g4 =>
          have e2 := e1.upd (o := .lst (rs.map V.int ++ [V.int ls[r.toNat]])) hHp1
          have B2 : Bag (upd (upd H2 l (BagV a' b')) p1 (.lst (rs.map V.int ++ [V.int ls[r.toNat]]))) l := B1.new hp1l
          have e3 := e2.trans (Ext.new (o := .lst (cutV (ls.map V.int) none (some r))) hp2)
          have B3 := B2.new (o := .lst (cutV (ls.map V.int) none (some r))) (B2.ne hp2)
          have e4 := e3.trans (Ext.new (o := .lst (cutV (ls.map V.int) (some (r + 1)) none)) hp3)
          have B4 := B3.new (o := .lst (cutV (ls.map V.int) (some (r + 1)) none)) (B3.ne hp3)
          have n21 : p2 ≠ p1 := (ne_of_none upd_same hp2).symm
          have q2 : (upd (upd (upd H2 l (BagV a' b')) p1 (.lst (rs.map V.int ++ [V.int ls[r.toNat]]))) p2 (.lst (cutV (ls.map V.int) none (some r)))) p1 = some (.lst (rs.map V.int ++ [V.int ls[r.toNat]])) := by
            rw [upd_ne n21.symm]; exact upd_same
          have n31 : p1 ≠ p3 := ne_of_none q2 hp3
          have q3 : (upd (upd (upd (upd H2 l (BagV a' b')) p1 (.lst (rs.map V.int ++ [V.int ls[r.toNat]]))) p2 (.lst (cutV (ls.map V.int) none (some r)))) p3 (.lst (cutV (ls.map V.int) (some (r + 1)) none))) p1 = some (.lst (rs.map V.int ++ [V.int ls[r.toNat]])) := by
            rw [upd_ne n31]; exact q2
          have n41 : p1 ≠ p4 := ne_of_none q3 hp4
          refine ⟨(ls.take r.toNat ++ ls.drop (r.toNat + 1)).length, by rw [List.length_append, List.length_take, List.length_drop]; omega, p4, ls.take r.toNat ++ ls.drop (r.toNat + 1), rs ++ [ls[r.toNat]], _, ⟨rfl, rfl⟩, rfl, e4.trans (Ext.new hp4), B4.new (B4.ne hp4), ?_, ?_, n41.symm, B4.ne hp4, ?_, ?_, ?_⟩
          · rw [upd_same, cut_lo _ _ r0 (by rw [List.length_map]; omega), cut_hi _ _ (by omega) (by rw [List.length_map]; omega), List.map_append, List.map_take, List.map_drop, show (r + 1).toNat = r.toNat + 1 by omega]
          · rw [upd_ne n41, q3, List.map_append]
            rfl
          · rw [List.length_append, List.length_append, List.length_take, List.length_drop]
            simp
            omega
          · intro y hy
            rcases List.mem_append.mp hy with h | h
            · exact il y (List.mem_of_mem_take h)
            · exact il y (List.mem_of_mem_drop h)
          · intro y hy
            rcases List.mem_append.mp hy with h | h
            · exact ir y h
            · rw [List.mem_singleton.mp h]
              exact il _ (List.getElem_mem hr1)
      · have hc : ¬ (0 : Int) < ((ls.map V.int).length : Nat) := fun z => hc (decide_eq_true z)
        rw [List.length_map] at hc
        exact q p1 rs H2 ex hb2 hHp1 hp12 (by omega) ir
end
end Pf
set_option maxHeartbeats 1000000
namespace Pf
open PySem L2 PyProof.Rows
section
variable {P : Program} {w : World} {K : PySem.W.Frag} {mg : Str → Option Value} {base : Heap} {C G S : Addr}
def Edge (H : Hp) (m : Int) (x : V) : Prop := ∃ (t : Addr) (i j : Int), x = .ref t ∧ H t = some (.tup [.int i, .int j]) ∧ 0 ≤ i ∧ i < m ∧ 0 ≤ j ∧ j < m
def Edges (H : Hp) (m : Int) (xs : List V) : Prop := ∀ x ∈ xs, Edge H m x
theorem Edge.same {H H' : Hp} {m : Int} {x : V} (e : Edge H m x) (s : Same H H') : Edge H' m x := by
  obtain ⟨t, i, j, h1, h2, h3⟩ := e
  exact ⟨t, i, j, h1, s _ _ h2, h3⟩
theorem Edges.same {H H' : Hp} {m : Int} {xs : List V} (e : Edges H m xs) (s : Same H H') : Edges H' m xs := fun x hx => (e x hx).same s
theorem Edge.ext {H H' : Hp} {m : Int} {l : Addr} {x : V} {ys : List V} (e : Edge H m x) (s : Ext l H H') (hl : H l = some (.lst ys)) : Edge H' m x := by
  obtain ⟨t, i, j, h1, h2, h3⟩ := e
  exact ⟨t, i, j, h1, s _ _ (ne_of h2 hl (by intro z; cases z)) h2, h3⟩
theorem Edges.ext {H H' : Hp} {m : Int} {l : Addr} {xs ys : List V} (e : Edges H m xs) (s : Ext l H H') (hl : H l = some (.lst ys)) : Edges H' m xs := fun x hx => (e x hx).ext s hl
theorem Edges.nil {H : Hp} {m : Int} : Edges H m [] := fun _ h => nomatch h
theorem Edges.snoc {H : Hp} {m : Int} {xs : List V} {x : V} (e : Edges H m xs) (h : Edge H m x) : Edges H m (xs ++ [x]) := fun y hy => by
  rcases List.mem_append.mp hy with z | z
  · exact e y z
  · rw [List.mem_singleton.mp z]; exact h
theorem Edges.append {H : Hp} {m : Int} {xs ys : List V} (e : Edges H m xs) (h : Edges H m ys) : Edges H m (xs ++ ys) := fun y hy => by
  rcases List.mem_append.mp hy with z | z
  · exact e y z
  · exact h y z
theorem Edges.lift {H : Hp} {m m' : Int} {xs : List V} (e : Edges H m xs) (h : m ≤ m') : Edges H m' xs := fun y hy => by
  obtain ⟨t, i, j, h1, h2, h3, h4, h5, h6⟩ := e y hy
  exact ⟨t, i, j, h1, h2, h3, by omega, h5, by omega⟩
theorem Edges.put {H : Hp} {m : Int} {xs ys : List V} {p : Addr} {o : HO} (e : Edges H m xs) (hp : H p = some (.lst ys)) : Edges (upd H p o) m xs := e.ext (l := p) Ext.set hp
structure Out (l : Addr) (H : Hp) (p e : Addr) (m : Int) (xs : List V) (H' : Hp) : Prop where
  ext : Ext l H H'
  bag : Bag H' l
  tup : H' p = some (.tup [.int m, .ref e])
  lst : H' e = some (.lst xs)
  new : H e = none
  lo : 1 ≤ m
  hi : m ≤ 8
  len : xs.length ≤ 9
  ed : Edges H' m xs
def spOut (K0 : List V → Prop) : Sp := fun vs H Q _ => ∃ (l : Addr) (r : List V), vs = .ref l :: r ∧ K0 r ∧ Bag H l ∧ ∀ p e m xs H', Out l H p e m xs H' → Q (.ref p) H'
def way1 (r : List V) : Prop := ∃ k : Int, r = [.int k]
def way0 (r : List V) : Prop := r = []
theorem Edge.mk {H : Hp} {p : Addr} {i j m : Int} (h1 : 0 ≤ i) (h2 : i < m) (h3 : 0 ≤ j) (h4 : j < m) : Edge (upd H p (.tup [.int i, .int j])) m (.ref p) := ⟨p, i, j, rfl, upd_same, h1, h2, h3, h4⟩
theorem Edges.add {H : Hp} {p : Addr} {i j m : Int} {xs : List V} (e : Edges H m xs) (hp : H p = none) (h1 : 0 ≤ i) (h2 : i < m) (h3 : 0 ≤ j) (h4 : j < m) : Edges (upd H p (.tup [.int i, .int j])) m (xs ++ [.ref p]) :=
  (e.same (Same.new hp)).snoc (Edge.mk h1 h2 h3 h4)
theorem comp_pairs {fr : List (Str × Nat)} {σ : L2.St} {t1 t2 : TE} {lo m : Int} {n : Nat} {D : Addr} {H1 : Hp} {Q : VK} (a b : Nat → Int) (hD : H1 D = none) (hn : n ≤ 9)
    (h1 : ∀ i H Q, i < n → Q (.int (a i)) H → t1 (some (.int (lo + (i : Nat))) :: capOf fr σ) H Q) (h2 : ∀ i H Q, i < n → Q (.int (b i)) H → t2 (some (.int (lo + (i : Nat))) :: capOf fr σ) H Q)
    (hr : ∀ i, i < n → 0 ≤ a i ∧ a i < m ∧ 0 ≤ b i ∧ b i < m) (hQ : ∀ xs H', Same H1 H' → H' D = some (.lst xs) → xs.length = n → Edges H' m xs → Q (.ref D) H') :
    tBlock (gName 0) tYes (tTup (tCons t1 (tCons t2 tNil))) (Itr lo n) D (capS 1 fr σ) H1 Q := by
  refine comp_itr (fun i vs H => Same H1 H ∧ H D = some (.lst vs) ∧ vs.length = i ∧ Edges H m vs) ⟨Same.new hD, upd_same, rfl, Edges.nil⟩ ?_ (fun vs H ⟨s, e, l, d⟩ => hQ vs H s e l d)
  rintro i x vs σ' H hi rfl sh ⟨s, e, hl, d⟩
  obtain ⟨z, rfl⟩ := sh.one
  simp only [tTurn, gName, tYes, List.set_cons_zero, if_true, tTup, tCons, tNil]
  refine h1 i H _ hi (h2 i H _ hi ⟨by show 2 ≤ sizeLine; decide, fun p hp => ?_⟩)
  obtain ⟨r1, r2, r3, r4⟩ := hr i hi
  have nD : D ≠ p := ne_of_none e hp
  have e' : (upd H p (.tup [.int (a i), .int (b i)])) D = some (.lst vs) := by rw [upd_ne nD]; exact e
  exact leaf (ws := vs ++ [.ref p]) hi Sh.mk1 e' (small1000 (by omega)) ⟨(s.trans (Same.new hp)).upd hD, upd_same, by rw [List.length_append, hl]; rfl, (d.add hp r1 r2 r3 r4).put e'⟩
theorem Out.fin {l p t : Addr} {m : Int} {xs : List V} {H H2 : Hp} (ex : Ext l H H2) (b : Bag H2 l) (hp : H2 p = some (.lst xs)) (new : H p = none) (lo : 1 ≤ m) (hi : m ≤ 8) (len : xs.length ≤ 9) (d : Edges H2 m xs) (ht : H2 t = none) :
    Out l H t p m xs (upd H2 t (.tup [.int m, .ref p])) :=
  ⟨ex.trans (Ext.new ht), b.new (b.ne ht), upd_same, by rw [upd_ne (ne_of_none hp ht)]; exact hp, new, lo, hi, len, d.same (Same.new ht)⟩
theorem Bag.draw {H : Hp} {l : Addr} {n : Int} {Q : VK} {E : XK} (b : Bag H l) (h0 : 0 < n) (h1 : n ≤ 100000000000000000000000000000000) (q : ∀ (r : Int) (H' : Hp), 0 ≤ r → r < n → Ext l H H' → Bag H' l → Q (.int r) H') : spDraw [.ref l, .int n] H Q E := by
  obtain ⟨x, y, e, y0, y1⟩ := b
  exact ⟨l, x, y, n, rfl, e, y0, y1, h0, h1, fun r a' b' r0 r1 c0 c1 => q r _ r0 r1 Ext.set (Bag.set c0 c1)⟩
theorem Bag.lst {H : Hp} {l : Addr} (b : Bag H l) : ∃ ys, H l = some (.lst ys) := by
  obtain ⟨x, y, e, _⟩ := b
  exact ⟨_, e⟩
theorem Edges.bag {H H' : Hp} {m : Int} {l : Addr} {xs : List V} (e : Edges H m xs) (s : Ext l H H') (b : Bag H l) : Edges H' m xs := by
  obtain ⟨ys, h⟩ := b.lst
  exact e.ext s h
theorem rng_draw {R : It → Hp → Prop} {l : Addr} {σ : L2.St} {H : Hp} {k : Int} (b : Bag H l) (h0 : 0 < k) (h1 : k < 1000000000) (q : ∀ (n : Int) (H3 : Hp), 0 ≤ n → n < k → Ext l H H3 → Bag H3 l → R (Itr 0 n.toNat) H3) :
    iRng1 (tCons (tCall spDraw [] E0 (tCons (tVar 0) (tCons (tC (.int k)) tNil))) tNil) (some (.ref l) :: σ) H R := by
  refine ⟨_, rfl, ?_⟩
  simp only [tCons, tC, tNil, List.append_nil]
  exact b.draw h0 (by omega) fun n H3 n0 n1 e3 b3 => ⟨n, rfl, by omega, by omega, q n H3 n0 n1 e3 b3⟩
theorem ok_rest {f : Addr} {fd : FuncData} (F : Fun K "_law_rest_edges" "_law_rest_edges" s_law_rest_edges f fd) (T : Txt K mg C G S) (C_law_draw : Cal P w K mg base "_law_draw" 1 spDraw) : FnOk P w K mg base CX0 2 f fd ["_law_bag_here", "_law_way"] (spOut way1) := by
  have nd := sc_law_rest_edges.nd
  refine F.ok sc_law_rest_edges (fun vs H Q E h => ?_) (fun cdv A outer s H vs Q E hr h => ?_)
  · obtain ⟨l, r, rfl, ⟨k, rfl⟩, _⟩ := h
    rfl
  · obtain ⟨l, r, rfl, ⟨k, rfl⟩, hb, q⟩ := h
    refine ⟨_, (@pss_cons _ _ _ _ _ (ps_set (i := 2) nd rfl (Or.inl rfl) (@pe_lst _ _ _ _ pa_nil)) (@pss_cons _ _ _ _ _ (ps_set (i := 3) nd rfl (Or.inl rfl) (@pe_op _ _ _ _ _ _ _ _ op_add pe_int (pe_c C_law_draw (hr.mono (by decide)) rfl (@pa_c _ _ _ _ _ (pv 0) (@pa_c _ _ _ _ _ pe_int pa_nil (by rfl)) (by rfl))))) (@pss_cons _ _ _ _ _ (@ps_if _ _ _ _ _ _ _ _ (pt_cmpR op_eq (pv 1) pe_int (nomark _)) (@pss_one _ _ _ (ps_for PassesOwn.never rfl (pi_r2 rfl T.n_range (@pa_c _ _ _ _ _ pe_int (@pa_c _ _ _ _ _ (pv 3) pa_nil (by rfl)) (by rfl))) (@pg_name _ _ 4 _ nd rfl (Or.inl rfl) (Or.inl rfl)) (@pss_one _ _ _ (@ps_if _ _ _ _ _ _ _ _ (pt_cmpR op_gt (pe_c C_law_draw (hr.mono (by decide)) rfl (@pa_c _ _ _ _ _ (pv 0) (@pa_c _ _ _ _ _ pe_int pa_nil (by rfl)) (by rfl))) pe_int (nomark _)) (@pss_one _ _ _ (ps_expr (pe_bm PySem.F.plainAttrs_list PySem.F.slot_list_append PySem.F.type_list_append mt_append (pv 2) (@pa_c _ _ _ _ _ (@pe_tup _ _ _ _ _ (@pa_c _ _ _ _ _ (@pe_op _ _ _ _ _ _ _ _ op_sub (pv 4) pe_int) (@pa_c _ _ _ _ _ (pv 4) pa_nil (by rfl)) (by rfl))) pa_nil (by rfl))))) pss_nil)))) (@pss_one _ _ _ (@ps_if _ _ _ _ _ _ _ _ (pt_cmpR op_eq (pv 1) pe_int (nomark _)) (@pss_one _ _ _ (ps_for PassesOwn.never rfl (pi_r1 rfl T.n_range (@pa_c _ _ _ _ _ (pe_c C_law_draw (hr.mono (by decide)) rfl (@pa_c _ _ _ _ _ (pv 0) (@pa_c _ _ _ _ _ pe_int pa_nil (by rfl)) (by rfl))) pa_nil (by rfl))) (@pg_name _ _ 4 _ nd rfl (Or.inl rfl) (Or.inl rfl)) (@pss_cons _ _ _ _ _ (ps_set (i := 5) nd rfl (Or.inl rfl) (pe_c C_law_draw (hr.mono (by decide)) rfl (@pa_c _ _ _ _ _ (pv 0) (@pa_c _ _ _ _ _ (pv 3) pa_nil (by rfl)) (by rfl)))) (@pss_one _ _ _ (ps_expr (pe_bm PySem.F.plainAttrs_list PySem.F.slot_list_append PySem.F.type_list_append mt_append (pv 2) (@pa_c _ _ _ _ _ (@pe_tup _ _ _ _ _ (@pa_c _ _ _ _ _ (pv 5) (@pa_c _ _ _ _ _ (pe_c C_law_draw (hr.mono (by decide)) rfl (@pa_c _ _ _ _ _ (pv 0) (@pa_c _ _ _ _ _ (pv 3) pa_nil (by rfl)) (by rfl))) pa_nil (by rfl)) (by rfl))) pa_nil (by rfl)))))))) (@pss_one _ _ _ (ps_for PassesOwn.never rfl (pi_r2 rfl T.n_range (@pa_c _ _ _ _ _ pe_int (@pa_c _ _ _ _ _ (pv 3) pa_nil (by rfl)) (by rfl))) (@pg_name _ _ 4 _ nd rfl (Or.inl rfl) (Or.inl rfl)) (@pss_one _ _ _ (ps_expr (pe_bm PySem.F.plainAttrs_list PySem.F.slot_list_append PySem.F.type_list_append mt_append (pv 2) (@pa_c _ _ _ _ _ (@pe_tup _ _ _ _ _ (@pa_c _ _ _ _ _ (pe_c C_law_draw (hr.mono (by decide)) rfl (@pa_c _ _ _ _ _ (pv 0) (@pa_c _ _ _ _ _ (pv 4) pa_nil (by rfl)) (by rfl))) (@pa_c _ _ _ _ _ (pv 4) pa_nil (by rfl)) (by rfl))) pa_nil (by rfl)))))))))) (@pss_one _ _ _ (@ps_ret _ _ _ _ (@pe_tup _ _ _ _ _ (@pa_c _ _ _ _ _ (pv 3) (@pa_c _ _ _ _ _ (pv 2) pa_nil (by rfl)) (by rfl)))))))), ?_⟩
    walk_at "wp"
    refine ⟨by decide, fun p hp => ?_⟩
    have hpl := hb.ne hp
    refine (hb.new hpl).draw (by decide) (by decide) fun x H2 x0 x1 e2 b2 => ⟨x, rfl, ?_⟩
    have hp2 : H2 p = some (.lst []) := e2 _ _ hpl upd_same
    have ex2 : Ext l H H2 := (Ext.new hp).trans e2
    have fin : ∀ (σ : L2.St) (H3 : Hp) (xs : List V) (v v5 : Option V), σ = [some (.ref l), some (.int k), some (.ref p), some (.int (1 + x)), v, v5] → Ext l H H3 → Bag H3 l → H3 p = some (.lst xs) → xs.length ≤ 9 → Edges H3 (1 + x) xs →
        tRet (tTup (tCons (tVar 3) (tCons (tVar 2) tNil))) { nx := fun x H' => Q V.non H', rt := Q } σ H3 := by
      rintro σ H3 xs v v5 rfl ex b hx hl d
      exact ⟨_, rfl, _, rfl, by show 2 ≤ sizeLine; decide, fun t ht => q _ _ _ _ _ (Out.fin ex b hx hp (by omega) (by omega) hl d ht)⟩
    have Iv : ∀ (_ : Nat), True := fun _ => trivial
    refine ite2 (fun _ => ?_) (fun _ => ite2 (fun _ => ?_) (fun _ => ?_))
    · refine ⟨_, rfl, 1, 1 + x, rfl, ⟨by decide, by decide, by omega, by omega⟩, for_range (fun i σ H3 => ∃ (xs : List V) (v v5 : Option V), σ = [some (.ref l), some (.int k), some (.ref p), some (.int (1 + x)), v, v5] ∧ Ext l H H3 ∧ Bag H3 l ∧ H3 p = some (.lst xs) ∧ xs.length ≤ i ∧ Edges H3 (1 + x) xs)
        ⟨[], none, none, rfl, ex2, b2, hp2, Nat.le_refl _, Edges.nil⟩ ?_ ?_⟩
      · rintro i σ H3 hi ⟨xs, v, v5, rfl, ex, b, hx, hl, d⟩
        walk_at "wp"
        refine b.draw (by decide) (by decide) fun r H4 r0 r1 e4 b4 => ⟨r, rfl, ite2 (fun _ => ?_) (fun _ => ?_)⟩
        · have hx4 : H4 p = some (.lst xs) := e4 _ _ hpl hx
          refine ⟨.inl ⟨rfl, _, SqL.of hx4⟩, by decide, fun t ht => ?_⟩
          have nt : p ≠ t := ne_of_none hx4 ht
          have hx5 : (upd H4 t (.tup [.int (1 + (i : Int) - 1), .int (1 + (i : Int))])) p = some (.lst xs) := by rw [upd_ne nt]; exact hx4
          refine ⟨_, hx5, small1000 (by omega), xs ++ [.ref t], _, _, ⟨rfl, rfl⟩, ((ex.trans e4).trans (Ext.new ht)).upd hp, (b4.new (b4.ne ht)).new hpl, upd_same, by rw [List.length_append]; show _ + 1 ≤ _; omega, ((d.bag e4 b).add ht (by omega) (by omega) (by omega) (by omega)).put hx5⟩
        · exact ⟨xs, _, _, ⟨rfl, rfl⟩, ex.trans e4, b4, e4 _ _ hpl hx, by omega, d.bag e4 b⟩
      · rintro σ H3 ⟨xs, v, v5, rfl, ex, b, hx, hl, d⟩
        exact fin _ H3 xs v v5 rfl ex b hx (by omega) d
    · refine rng_draw b2 (by decide) (by decide) fun n H3 n0 n1 e3 b3 => ?_
      refine (for_range (fun i σ H3 => ∃ (xs : List V) (v v5 : Option V), σ = [some (.ref l), some (.int k), some (.ref p), some (.int (1 + x)), v, v5] ∧ Ext l H H3 ∧ Bag H3 l ∧ H3 p = some (.lst xs) ∧ xs.length ≤ i ∧ Edges H3 (1 + x) xs)
        ⟨[], none, none, rfl, ex2.trans e3, b3, e3 _ _ hpl hp2, Nat.le_refl _, Edges.nil⟩ ?_ ?_)
      · rintro i σ H3 hi ⟨xs, v, v5, rfl, ex, b, hx, hl, d⟩
        walk_at "wp"
        refine b.draw (by omega) (by omega) fun r H4 r0 r1 e4 b4 => ?_
        refine ⟨.inl ⟨rfl, _, SqL.of (e4 _ _ hpl hx)⟩, b4.draw (by omega) (by omega) fun r' H5 r0' r1' e5 b5 => ⟨by decide, fun t ht => ?_⟩⟩
        have hx4 : H5 p = some (.lst xs) := e5 _ _ hpl (e4 _ _ hpl hx)
        have nt : p ≠ t := ne_of_none hx4 ht
        have hx5 : (upd H5 t (.tup [.int r, .int r'])) p = some (.lst xs) := by rw [upd_ne nt]; exact hx4
        refine ⟨_, hx5, small1000 (by omega), xs ++ [.ref t], _, _, ⟨rfl, rfl⟩, (((ex.trans e4).trans e5).trans (Ext.new ht)).upd hp, (b5.new (b5.ne ht)).new hpl, upd_same, by rw [List.length_append]; show _ + 1 ≤ _; omega, (((d.bag e4 b).bag e5 b4).add ht r0 r1 r0' r1').put hx5⟩
      · rintro σ H3 ⟨xs, v, v5, rfl, ex, b, hx, hl, d⟩
        exact fin _ H3 xs v v5 rfl ex b hx (by omega) d
    · refine ⟨_, rfl, 1, 1 + x, rfl, ⟨by decide, by decide, by omega, by omega⟩, for_range (fun i σ H3 => ∃ (xs : List V) (v v5 : Option V), σ = [some (.ref l), some (.int k), some (.ref p), some (.int (1 + x)), v, v5] ∧ Ext l H H3 ∧ Bag H3 l ∧ H3 p = some (.lst xs) ∧ xs.length ≤ i ∧ Edges H3 (1 + x) xs)
        ⟨[], none, none, rfl, ex2, b2, hp2, Nat.le_refl _, Edges.nil⟩ ?_ ?_⟩
      · rintro i σ H3 hi ⟨xs, v, v5, rfl, ex, b, hx, hl, d⟩
        walk_at "wp"
        refine ⟨.inl ⟨rfl, _, SqL.of hx⟩, b.draw (by omega) (by omega) fun r H4 r0 r1 e4 b4 => ⟨by decide, fun t ht => ?_⟩⟩
        have hx4 : H4 p = some (.lst xs) := e4 _ _ hpl hx
        have nt : p ≠ t := ne_of_none hx4 ht
        have hx5 : (upd H4 t (.tup [.int r, .int (1 + (i : Int))])) p = some (.lst xs) := by rw [upd_ne nt]; exact hx4
        refine ⟨_, hx5, small1000 (by omega), xs ++ [.ref t], _, _, ⟨rfl, rfl⟩, ((ex.trans e4).trans (Ext.new ht)).upd hp, (b4.new (b4.ne ht)).new hpl, upd_same, by rw [List.length_append]; show _ + 1 ≤ _; omega, ((d.bag e4 b).add ht r0 (by omega) (by omega) (by omega)).put hx5⟩
      · rintro σ H3 ⟨xs, v, v5, rfl, ex, b, hx, hl, d⟩
        exact fin _ H3 xs v v5 rfl ex b hx (by omega) d
end
end Pf
set_option maxHeartbeats 1000000
namespace Pf
open PySem L2 PyProof.Rows
section
variable {P : Program} {w : World} {K : PySem.W.Frag} {mg : Str → Option Value} {base : Heap} {C G S : Addr}
theorem Bag.same {H H' : Hp} {l : Addr} (b : Bag H l) (s : Same H H') : Bag H' l := by
  obtain ⟨x, y, e, h1, h2⟩ := b
  exact ⟨x, y, s _ _ e, h1, h2⟩
theorem Out.done {l p t : Addr} {m : Int} {xs : List V} {H H2 H5 : Hp} (ex : Ext l H H2) (b : Bag H2 l) (s : Same H2 H5) (hp : H5 p = none) (lo : 1 ≤ m) (hi : m ≤ 8) (len : xs.length ≤ 9) (d : Edges H5 m xs) (ht : (upd H5 p (.lst xs)) t = none) :
    Out l H t p m xs (upd (upd H5 p (.lst xs)) t (.tup [.int m, .ref p])) :=
  have b5 := b.same s
  have e5 : Ext l H H5 := ex.trans s.ext
  Out.fin (e5.trans (Ext.new hp)) (b5.new (b5.ne hp)) upd_same (e5.free (b5.ne hp) hp) lo hi len (d.same (Same.new hp)) ht
theorem Edges.sub {H : Hp} {m : Int} {xs ys : List V} (e : Edges H m xs) (h : ∀ y ∈ ys, y ∈ xs) : Edges H m ys := fun y hy => e y (h y hy)
theorem ok_bad {f : Addr} {fd : FuncData} (F : Fun K "_law_bad_edges" "_law_bad_edges" s_law_bad_edges f fd) (T : Txt K mg C G S) (C_law_draw : Cal P w K mg base "_law_draw" 1 spDraw) : FnOk P w K mg base CX0 2 f fd ["_law_bag_here"] (spOut way0) := by
  have nd := sc_law_bad_edges.nd
  refine F.ok sc_law_bad_edges (fun vs H Q E h => ?_) (fun cdv A outer s H vs Q E hr h => ?_)
  · obtain ⟨l, r, rfl, rfl, _⟩ := h
    rfl
  · obtain ⟨l, r, rfl, rfl, hb, q⟩ := h
    refine ⟨_, (@pss_cons _ _ _ _ _ (ps_set (i := 1) nd rfl (Or.inl rfl) (pe_c C_law_draw (hr.mono (by decide)) rfl (@pa_c _ _ _ _ _ (pv 0) (@pa_c _ _ _ _ _ pe_int pa_nil (by rfl)) (by rfl)))) (@pss_cons _ _ _ _ _ (@ps_if _ _ _ _ _ _ _ _ (pt_cmpR op_eq (pv 1) pe_int (nomark _)) (@pss_cons _ _ _ _ _ (ps_set (i := 2) nd rfl (Or.inr rfl) (@pe_op _ _ _ _ _ _ _ _ op_add pe_int (pe_c C_law_draw (hr.mono (by decide)) rfl (@pa_c _ _ _ _ _ (pv 0) (@pa_c _ _ _ _ _ pe_int pa_nil (by rfl)) (by rfl))))) (@pss_one _ _ _ (@ps_ret _ _ _ _ (@pe_tup _ _ _ _ _ (@pa_c _ _ _ _ _ (pv 2) (@pa_c _ _ _ _ _ (pe_comp (own := ["_law_k"]) (fr := [("_law_many", 2)]) rfl (bl_of (by kernel_rfl)) (pi_r1 rfl T.n_range (@pa_c _ _ _ _ _ (pv 2) pa_nil (by rfl))) (fun _ _ _ _ => ⟨(@pg_name _ _ 0 _ (show (["_law_k", "_law_many"] : List Str).Nodup by decide +kernel) rfl (Or.inl rfl) (Or.inr rfl)), pts_nil, (@pe_tup _ _ _ _ _ (@pa_c _ _ _ _ _ (pv 0) (@pa_c _ _ _ _ _ (@pe_op _ _ _ _ _ _ _ _ op_mod (@pe_op _ _ _ _ _ _ _ _ op_add (pv 0) pe_int) (pv 1)) pa_nil (by rfl)) (by rfl)))⟩)) pa_nil (by rfl)) (by rfl)))))) pss_nil) (@pss_cons _ _ _ _ _ (@ps_if _ _ _ _ _ _ _ _ (pt_cmpR op_eq (pv 1) pe_int (nomark _)) (@pss_cons _ _ _ _ _ (ps_set (i := 2) nd rfl (Or.inr rfl) (@pe_op _ _ _ _ _ _ _ _ op_add pe_int (pe_c C_law_draw (hr.mono (by decide)) rfl (@pa_c _ _ _ _ _ (pv 0) (@pa_c _ _ _ _ _ pe_int pa_nil (by rfl)) (by rfl))))) (@pss_one _ _ _ (@ps_ret _ _ _ _ (@pe_tup _ _ _ _ _ (@pa_c _ _ _ _ _ (pv 2) (@pa_c _ _ _ _ _ (pe_comp (own := ["_law_k"]) (fr := []) rfl (bl_of (by kernel_rfl)) (pi_r2 rfl T.n_range (@pa_c _ _ _ _ _ pe_int (@pa_c _ _ _ _ _ (pv 2) pa_nil (by rfl)) (by rfl))) (fun _ _ _ _ => ⟨(@pg_name _ _ 0 _ (show (["_law_k"] : List Str).Nodup by decide +kernel) rfl (Or.inl rfl) (Or.inr rfl)), pts_nil, (@pe_tup _ _ _ _ _ (@pa_c _ _ _ _ _ pe_int (@pa_c _ _ _ _ _ (pv 0) pa_nil (by rfl)) (by rfl)))⟩)) pa_nil (by rfl)) (by rfl)))))) pss_nil) (@pss_cons _ _ _ _ _ (@ps_if _ _ _ _ _ _ _ _ (pt_cmpR op_eq (pv 1) pe_int (nomark _)) (@pss_cons _ _ _ _ _ (ps_set (i := 3) nd rfl (Or.inl rfl) (@pe_op _ _ _ _ _ _ _ _ op_add pe_int (pe_c C_law_draw (hr.mono (by decide)) rfl (@pa_c _ _ _ _ _ (pv 0) (@pa_c _ _ _ _ _ pe_int pa_nil (by rfl)) (by rfl))))) (@pss_cons _ _ _ _ _ (ps_comp (i := 4) (own := ["_law_k"]) (fr := []) rfl (bl_of (by kernel_rfl)) (pi_r1 rfl T.n_range (@pa_c _ _ _ _ _ (@pe_op _ _ _ _ _ _ _ _ op_sub (pv 3) pe_int) pa_nil (by rfl))) (fun _ _ _ _ => ⟨(@pg_name _ _ 0 _ (show (["_law_k"] : List Str).Nodup by decide +kernel) rfl (Or.inl rfl) (Or.inr rfl)), pts_nil, (@pe_tup _ _ _ _ _ (@pa_c _ _ _ _ _ (pv 0) (@pa_c _ _ _ _ _ (@pe_op _ _ _ _ _ _ _ _ op_add (pv 0) pe_int) pa_nil (by rfl)) (by rfl)))⟩) nd rfl rfl rfl) (@pss_one _ _ _ (@ps_ret _ _ _ _ (@pe_tup _ _ _ _ _ (@pa_c _ _ _ _ _ (@pe_op _ _ _ _ _ _ _ _ op_add (pv 3) pe_int) (@pa_c _ _ _ _ _ (@pe_op _ _ _ _ _ _ _ _ op_cat (pv 4) (@pe_lst _ _ _ _ (@pa_c _ _ _ _ _ (@pe_tup _ _ _ _ _ (@pa_c _ _ _ _ _ pe_int (@pa_c _ _ _ _ _ (pv 3) pa_nil (by rfl)) (by rfl))) (@pa_c _ _ _ _ _ (@pe_tup _ _ _ _ _ (@pa_c _ _ _ _ _ pe_int (@pa_c _ _ _ _ _ (@pe_op _ _ _ _ _ _ _ _ op_add (pv 3) pe_int) pa_nil (by rfl)) (by rfl))) (@pa_c _ _ _ _ _ (@pe_tup _ _ _ _ _ (@pa_c _ _ _ _ _ (@pe_op _ _ _ _ _ _ _ _ op_sub (pv 3) pe_int) (@pa_c _ _ _ _ _ (@pe_op _ _ _ _ _ _ _ _ op_add (pv 3) pe_int) pa_nil (by rfl)) (by rfl))) (@pa_c _ _ _ _ _ (@pe_tup _ _ _ _ _ (@pa_c _ _ _ _ _ (@pe_op _ _ _ _ _ _ _ _ op_sub (pv 3) pe_int) (@pa_c _ _ _ _ _ (@pe_op _ _ _ _ _ _ _ _ op_add (pv 3) pe_int) pa_nil (by rfl)) (by rfl))) pa_nil (by rfl)) (by rfl)) (by rfl)) (by rfl)))) pa_nil (by rfl)) (by rfl))))))) pss_nil) (@pss_cons _ _ _ _ _ (@ps_if _ _ _ _ _ _ _ _ (pt_cmpR op_eq (pv 1) pe_int (nomark _)) (@pss_cons _ _ _ _ _ (ps_set (i := 2) nd rfl (Or.inr rfl) (@pe_op _ _ _ _ _ _ _ _ op_add pe_int (pe_c C_law_draw (hr.mono (by decide)) rfl (@pa_c _ _ _ _ _ (pv 0) (@pa_c _ _ _ _ _ pe_int pa_nil (by rfl)) (by rfl))))) (@pss_one _ _ _ (@ps_ret _ _ _ _ (@pe_tup _ _ _ _ _ (@pa_c _ _ _ _ _ (pv 2) (@pa_c _ _ _ _ _ (@pe_slice _ _ _ _ _ _ _ _ _ _ sl_list (@pe_lst _ _ _ _ (@pa_c _ _ _ _ _ (@pe_tup _ _ _ _ _ (@pa_c _ _ _ _ _ pe_int (@pa_c _ _ _ _ _ pe_int pa_nil (by rfl)) (by rfl))) (@pa_c _ _ _ _ _ (@pe_tup _ _ _ _ _ (@pa_c _ _ _ _ _ pe_int (@pa_c _ _ _ _ _ pe_int pa_nil (by rfl)) (by rfl))) (@pa_c _ _ _ _ _ (@pe_tup _ _ _ _ _ (@pa_c _ _ _ _ _ pe_int (@pa_c _ _ _ _ _ pe_int pa_nil (by rfl)) (by rfl))) (@pa_c _ _ _ _ _ (@pe_tup _ _ _ _ _ (@pa_c _ _ _ _ _ pe_int (@pa_c _ _ _ _ _ pe_int pa_nil (by rfl)) (by rfl))) (@pa_c _ _ _ _ _ (@pe_tup _ _ _ _ _ (@pa_c _ _ _ _ _ pe_int (@pa_c _ _ _ _ _ pe_int pa_nil (by rfl)) (by rfl))) (@pa_c _ _ _ _ _ (@pe_tup _ _ _ _ _ (@pa_c _ _ _ _ _ pe_int (@pa_c _ _ _ _ _ pe_int pa_nil (by rfl)) (by rfl))) (@pa_c _ _ _ _ _ (@pe_tup _ _ _ _ _ (@pa_c _ _ _ _ _ pe_int (@pa_c _ _ _ _ _ pe_int pa_nil (by rfl)) (by rfl))) pa_nil (by rfl)) (by rfl)) (by rfl)) (by rfl)) (by rfl)) (by rfl)) (by rfl))) po_none (@po_some _ _ _ (@pe_op _ _ _ _ _ _ _ _ op_sub (pv 2) pe_int))) pa_nil (by rfl)) (by rfl)))))) pss_nil) (@pss_one _ _ _ (@ps_ret _ _ _ _ (@pe_tup _ _ _ _ _ (@pa_c _ _ _ _ _ pe_int (@pa_c _ _ _ _ _ (@pe_lst _ _ _ _ (@pa_c _ _ _ _ _ (@pe_tup _ _ _ _ _ (@pa_c _ _ _ _ _ pe_int (@pa_c _ _ _ _ _ pe_int pa_nil (by rfl)) (by rfl))) (@pa_c _ _ _ _ _ (@pe_tup _ _ _ _ _ (@pa_c _ _ _ _ _ pe_int (@pa_c _ _ _ _ _ pe_int pa_nil (by rfl)) (by rfl))) (@pa_c _ _ _ _ _ (@pe_tup _ _ _ _ _ (@pa_c _ _ _ _ _ pe_int (@pa_c _ _ _ _ _ pe_int pa_nil (by rfl)) (by rfl))) (@pa_c _ _ _ _ _ (@pe_tup _ _ _ _ _ (@pa_c _ _ _ _ _ pe_int (@pa_c _ _ _ _ _ pe_int pa_nil (by rfl)) (by rfl))) (@pa_c _ _ _ _ _ (@pe_tup _ _ _ _ _ (@pa_c _ _ _ _ _ pe_int (@pa_c _ _ _ _ _ pe_int pa_nil (by rfl)) (by rfl))) (@pa_c _ _ _ _ _ (@pe_tup _ _ _ _ _ (@pa_c _ _ _ _ _ pe_int (@pa_c _ _ _ _ _ pe_int pa_nil (by rfl)) (by rfl))) (@pa_c _ _ _ _ _ (@pe_tup _ _ _ _ _ (@pa_c _ _ _ _ _ pe_int (@pa_c _ _ _ _ _ pe_int pa_nil (by rfl)) (by rfl))) pa_nil (by rfl)) (by rfl)) (by rfl)) (by rfl)) (by rfl)) (by rfl)) (by rfl))) pa_nil (by rfl)) (by rfl)))))))))), ?_⟩
    walk_at "wp"
    refine hb.draw (by decide) (by decide) fun z H1 z0 z1 e1 b1 => ⟨rfl, ite2 (fun _ => ?_) (fun _ => ⟨rfl, ite2 (fun _ => ?_) (fun _ => ⟨rfl, ite2 (fun _ => ?_) (fun _ => ⟨rfl, ite2 (fun _ => ?_) (fun _ => ?_)⟩)⟩)⟩)⟩
    · refine b1.draw (by decide) (by decide) fun r H2 r0 r1 e2 b2 => ⟨r, rfl, ?_⟩
      refine ⟨_, rfl, 1 + r, rfl, by omega, by omega, fun D hD => comp_pairs (m := 1 + r) (fun i => 0 + (i : Int)) (fun i => (0 + (i : Int) + 1) % (1 + r)) hD (by omega) (fun i H Q _ h => ⟨_, rfl, h⟩) (fun i H Q _ h => ⟨_, rfl, _, _, rfl, rfl, _, rfl, _, _, rfl, rfl, by omega, h⟩)
        (fun i hi => ⟨by omega, by omega, mod_lo _ _ (by omega), mod_hi _ _ (by omega)⟩) fun xs H' s e hl d => ⟨by decide, fun t ht => ?_⟩⟩
      have n1 := b2.ne hD
      have ex : Ext l H H2 := e1.trans e2
      obtain ⟨ya, yb, ye, y0, y1⟩ := id b2
      exact q _ _ _ _ _ (Out.fin (ex.trans s.ext) ⟨ya, yb, s _ _ ye, y0, y1⟩ e (ex.free n1 hD) (by omega) (by omega) (by omega) d ht)
    · refine b1.draw (by decide) (by decide) fun r H2 r0 r1 e2 b2 => ⟨r, rfl, ?_⟩
      refine ⟨_, rfl, 1, 5 + r, rfl, ⟨by decide, by decide, by omega, by omega⟩, fun D hD => comp_pairs (m := 5 + r) (fun i => 0) (fun i => 1 + (i : Int)) hD (by omega) (fun i H Q _ h => h) (fun i H Q _ h => ⟨_, rfl, h⟩)
        (fun i hi => ⟨by omega, by omega, by omega, by omega⟩) fun xs H' s e hl d => ⟨by decide, fun t ht => ?_⟩⟩
      have n1 := b2.ne hD
      have ex : Ext l H H2 := e1.trans e2
      obtain ⟨ya, yb, ye, y0, y1⟩ := id b2
      exact q _ _ _ _ _ (Out.fin (ex.trans s.ext) ⟨ya, yb, s _ _ ye, y0, y1⟩ e (ex.free n1 hD) (by omega) (by omega) (by omega) d ht)
    · refine b1.draw (by decide) (by decide) fun r H2 r0 r1 e2 b2 => ⟨r, rfl, ?_⟩
      refine ⟨_, rfl, _, _, rfl, rfl, _, rfl, by omega, by omega, fun D hD => comp_pairs (m := 2 + r) (fun i => 0 + (i : Int)) (fun i => 0 + (i : Int) + 1) hD (by omega) (fun i H Q _ h => ⟨_, rfl, h⟩) (fun i H Q _ h => ⟨_, rfl, _, _, rfl, rfl, h⟩)
        (fun i hi => ⟨by omega, by omega, by omega, by omega⟩) fun xs H' s e hl d => ?_⟩
      refine ⟨by decide, fun p1 h1 => ⟨by decide, fun p2 h2 => ⟨by decide, fun p3 h3 => ⟨by decide, fun p4 h4 => ⟨by decide, fun p5 h5 => ?_⟩⟩⟩⟩⟩
      have D1 := (Edges.nil (H := H') (m := 2 + r + 4)).add (i := 0) (j := 2 + r) h1 (by omega) (by omega) (by omega) (by omega)
      have D2 := D1.add (i := 0) (j := 2 + r + 1) h2 (by omega) (by omega) (by omega) (by omega)
      have D3 := D2.add (i := 2 + r - 1) (j := 2 + r + 2) h3 (by omega) (by omega) (by omega) (by omega)
      have D4 := D3.add (i := 2 + r - 1) (j := 2 + r + 3) h4 (by omega) (by omega) (by omega) (by omega)
      have S5 := ((((Same.new h1).trans (Same.new h2)).trans (Same.new h3)).trans (Same.new h4)).trans (Same.new (o := .lst [.ref p1, .ref p2, .ref p3, .ref p4]) h5)
      refine ⟨D, rfl, xs, S5 _ _ e, _, upd_same, small1000 (by show xs.length + 4 ≤ 1000; omega) |> Nat.le_of_lt, fun p6 h6 => ⟨by decide, fun p7 h7 => ?_⟩⟩
      exact q _ _ _ _ _ (Out.done (e1.trans e2) b2 (s.trans S5) h6 (by omega) (by omega) (by rw [List.length_append]; show xs.length + 4 ≤ 9; omega) (Edges.append ((d.lift (by omega)).same S5) (D4.same (Same.new h5))) h7)
    · refine b1.draw (by decide) (by decide) fun r H2 r0 r1 e2 b2 => ⟨r, rfl, ?_⟩
      refine ⟨by decide, fun p1 h1 => ⟨by decide, fun p2 h2 => ⟨by decide, fun p3 h3 => ⟨by decide, fun p4 h4 => ⟨by decide, fun p5 h5 => ⟨by decide, fun p6 h6 => ⟨by decide, fun p7 h7 => ⟨by decide, fun p8 h8 => ⟨_, SqL.of upd_same, fun p9 h9 => ⟨by decide, fun p10 h10 => ?_⟩⟩⟩⟩⟩⟩⟩⟩⟩⟩
      have D1 := (Edges.nil (H := H2) (m := 7)).add (i := 0) (j := 1) (m := 7) h1 (by omega) (by omega) (by omega) (by omega)
      have D2 := D1.add (i := 1) (j := 2) (m := 7) h2 (by omega) (by omega) (by omega) (by omega)
      have D3 := D2.add (i := 0) (j := 3) (m := 7) h3 (by omega) (by omega) (by omega) (by omega)
      have D4 := D3.add (i := 3) (j := 4) (m := 7) h4 (by omega) (by omega) (by omega) (by omega)
      have D5 := D4.add (i := 0) (j := 5) (m := 7) h5 (by omega) (by omega) (by omega) (by omega)
      have D6 := D5.add (i := 5) (j := 6) (m := 7) h6 (by omega) (by omega) (by omega) (by omega)
      have S8 := (((((((Same.new h1).trans (Same.new h2)).trans (Same.new h3)).trans (Same.new h4)).trans (Same.new h5)).trans (Same.new h6)).trans (Same.new h7)).trans (Same.new (o := .lst [.ref p1, .ref p2, .ref p3, .ref p4, .ref p5, .ref p6, .ref p7]) h8)
      have E6 := D6.same ((Same.new (o := .tup [.int 6, .int 7]) h7).trans (Same.new (o := .lst [.ref p1, .ref p2, .ref p3, .ref p4, .ref p5, .ref p6, .ref p7]) h8))
      rcases (show r = 0 ∨ r = 1 by omega) with rfl | rfl
      · exact q _ _ _ _ _ (Out.done (e1.trans e2) b2 S8 h9 (by decide) (by decide) (Nat.le_trans (cutV_length _ _ _) (by show 7 ≤ 9; decide)) (E6.lift (by decide)) h10)
      · exact q _ _ _ _ _ (Out.done (e1.trans e2) b2 S8 h9 (by decide) (by decide) (Nat.le_trans (cutV_length _ _ _) (by show 7 ≤ 9; decide)) (((D6.lift (m' := 8) (by decide)).add (i := 6) (j := 7) h7 (by decide) (by decide) (by decide) (by decide)).same (Same.new h8)) h10)
    · refine ⟨by decide, fun p1 h1 => ⟨by decide, fun p2 h2 => ⟨by decide, fun p3 h3 => ⟨by decide, fun p4 h4 => ⟨by decide, fun p5 h5 => ⟨by decide, fun p6 h6 => ⟨by decide, fun p7 h7 => ⟨by decide, fun p8 h8 => ⟨by decide, fun p9 h9 => ?_⟩⟩⟩⟩⟩⟩⟩⟩⟩
      have D1 := (Edges.nil (H := H1) (m := 8)).add (i := 0) (j := 1) (m := 8) h1 (by omega) (by omega) (by omega) (by omega)
      have D2 := D1.add (i := 0) (j := 2) (m := 8) h2 (by omega) (by omega) (by omega) (by omega)
      have D3 := D2.add (i := 2) (j := 3) (m := 8) h3 (by omega) (by omega) (by omega) (by omega)
      have D4 := D3.add (i := 3) (j := 4) (m := 8) h4 (by omega) (by omega) (by omega) (by omega)
      have D5 := D4.add (i := 0) (j := 5) (m := 8) h5 (by omega) (by omega) (by omega) (by omega)
      have D6 := D5.add (i := 5) (j := 6) (m := 8) h6 (by omega) (by omega) (by omega) (by omega)
      have D7 := D6.add (i := 6) (j := 7) (m := 8) h7 (by omega) (by omega) (by omega) (by omega)
      exact q _ _ _ _ _ (Out.done e1 b1 (((((((Same.new h1).trans (Same.new h2)).trans (Same.new h3)).trans (Same.new h4)).trans (Same.new h5)).trans (Same.new h6)).trans (Same.new h7)) h8 (by decide) (by decide) (by show 7 ≤ 9; decide) D7 h9)
end
end Pf
set_option maxHeartbeats 1000000
namespace Pf
open PySem L2 PyProof.Rows
section
variable {P : Program} {w : World} {K : PySem.W.Frag} {mg : Str → Option Value} {base : Heap} {C G S : Addr}
theorem ok_edges {f : Addr} {fd : FuncData} (F : Fun K "_law_edges" "_law_edges" s_law_edges f fd) (T : Txt K mg C G S) (C_law_draw : Cal P w K mg base "_law_draw" 1 spDraw) (C_law_bad_edges : Cal P w K mg base "_law_bad_edges" 2 (spOut way0)) (C_law_rest_edges : Cal P w K mg base "_law_rest_edges" 2 (spOut way1)) : FnOk P w K mg base CX0 3 f fd ["_law_bag_here", "_law_way"] (spOut way1) := by
  have nd := sc_law_edges.nd
  refine F.ok sc_law_edges (fun vs H Q E h => ?_) (fun cdv A outer s H vs Q E hr h => ?_)
  · obtain ⟨l, r, rfl, ⟨k, rfl⟩, _⟩ := h
    rfl
  · obtain ⟨l, r, rfl, ⟨k, rfl⟩, hb, q⟩ := h
    refine ⟨_, (@pss_cons _ _ _ _ _ (@ps_if _ _ _ _ _ _ _ _ (pt_cmpR op_lt (pv 1) pe_int (nomark _)) (@pss_cons _ _ _ _ _ (ps_set (i := 2) nd rfl (Or.inl rfl) (@pe_op _ _ _ _ _ _ _ _ op_add pe_int (pe_c C_law_draw (hr.mono (by decide)) rfl (@pa_c _ _ _ _ _ (pv 0) (@pa_c _ _ _ _ _ pe_int pa_nil (by rfl)) (by rfl))))) (@pss_one _ _ _ (@ps_ret _ _ _ _ (@pe_tup _ _ _ _ _ (@pa_c _ _ _ _ _ (pv 2) (@pa_c _ _ _ _ _ (pe_comp (own := ["_law_k"]) (fr := []) rfl (bl_of (by kernel_rfl)) (pi_r1 rfl T.n_range (@pa_c _ _ _ _ _ (@pe_op _ _ _ _ _ _ _ _ op_sub (pv 2) pe_int) pa_nil (by rfl))) (fun _ _ _ _ => ⟨(@pg_name _ _ 0 _ (show (["_law_k"] : List Str).Nodup by decide +kernel) rfl (Or.inl rfl) (Or.inr rfl)), pts_nil, (@pe_tup _ _ _ _ _ (@pa_c _ _ _ _ _ (pv 0) (@pa_c _ _ _ _ _ (@pe_op _ _ _ _ _ _ _ _ op_add (pv 0) pe_int) pa_nil (by rfl)) (by rfl)))⟩)) pa_nil (by rfl)) (by rfl)))))) pss_nil) (@pss_cons _ _ _ _ _ (@ps_if _ _ _ _ _ _ _ _ (pt_cmpR op_eq (pv 1) pe_int (nomark _)) (@pss_cons _ _ _ _ _ (ps_set (i := 2) nd rfl (Or.inl rfl) (@pe_op _ _ _ _ _ _ _ _ op_add pe_int (pe_c C_law_draw (hr.mono (by decide)) rfl (@pa_c _ _ _ _ _ (pv 0) (@pa_c _ _ _ _ _ pe_int pa_nil (by rfl)) (by rfl))))) (@pss_one _ _ _ (@ps_ret _ _ _ _ (@pe_tup _ _ _ _ _ (@pa_c _ _ _ _ _ (pv 2) (@pa_c _ _ _ _ _ (@pe_op _ _ _ _ _ _ _ _ op_cat (@pe_lst _ _ _ _ (@pa_c _ _ _ _ _ (@pe_tup _ _ _ _ _ (@pa_c _ _ _ _ _ pe_int (@pa_c _ _ _ _ _ pe_int pa_nil (by rfl)) (by rfl))) (@pa_c _ _ _ _ _ (@pe_tup _ _ _ _ _ (@pa_c _ _ _ _ _ pe_int (@pa_c _ _ _ _ _ pe_int pa_nil (by rfl)) (by rfl))) (@pa_c _ _ _ _ _ (@pe_tup _ _ _ _ _ (@pa_c _ _ _ _ _ pe_int (@pa_c _ _ _ _ _ pe_int pa_nil (by rfl)) (by rfl))) pa_nil (by rfl)) (by rfl)) (by rfl))) (pe_comp (own := ["_law_k"]) (fr := []) rfl (bl_of (by kernel_rfl)) (pi_r2 rfl T.n_range (@pa_c _ _ _ _ _ pe_int (@pa_c _ _ _ _ _ (@pe_op _ _ _ _ _ _ _ _ op_sub (pv 2) pe_int) pa_nil (by rfl)) (by rfl))) (fun _ _ _ _ => ⟨(@pg_name _ _ 0 _ (show (["_law_k"] : List Str).Nodup by decide +kernel) rfl (Or.inl rfl) (Or.inr rfl)), pts_nil, (@pe_tup _ _ _ _ _ (@pa_c _ _ _ _ _ (pv 0) (@pa_c _ _ _ _ _ (@pe_op _ _ _ _ _ _ _ _ op_add (pv 0) pe_int) pa_nil (by rfl)) (by rfl)))⟩))) pa_nil (by rfl)) (by rfl)))))) pss_nil) (@pss_cons _ _ _ _ _ (@ps_if _ _ _ _ _ _ _ _ (pt_cmpR op_eq (pv 1) pe_int (nomark _)) (@pss_cons _ _ _ _ _ (ps_set (i := 2) nd rfl (Or.inl rfl) (@pe_op _ _ _ _ _ _ _ _ op_add pe_int (pe_c C_law_draw (hr.mono (by decide)) rfl (@pa_c _ _ _ _ _ (pv 0) (@pa_c _ _ _ _ _ pe_int pa_nil (by rfl)) (by rfl))))) (@pss_one _ _ _ (@ps_ret _ _ _ _ (@pe_tup _ _ _ _ _ (@pa_c _ _ _ _ _ (pv 2) (@pa_c _ _ _ _ _ (@pe_op _ _ _ _ _ _ _ _ op_cat (@pe_lst _ _ _ _ (@pa_c _ _ _ _ _ (@pe_tup _ _ _ _ _ (@pa_c _ _ _ _ _ pe_int (@pa_c _ _ _ _ _ pe_int pa_nil (by rfl)) (by rfl))) (@pa_c _ _ _ _ _ (@pe_tup _ _ _ _ _ (@pa_c _ _ _ _ _ pe_int (@pa_c _ _ _ _ _ pe_int pa_nil (by rfl)) (by rfl))) (@pa_c _ _ _ _ _ (@pe_tup _ _ _ _ _ (@pa_c _ _ _ _ _ pe_int (@pa_c _ _ _ _ _ pe_int pa_nil (by rfl)) (by rfl))) (@pa_c _ _ _ _ _ (@pe_tup _ _ _ _ _ (@pa_c _ _ _ _ _ pe_int (@pa_c _ _ _ _ _ pe_int pa_nil (by rfl)) (by rfl))) pa_nil (by rfl)) (by rfl)) (by rfl)) (by rfl))) (pe_comp (own := ["_law_k"]) (fr := []) rfl (bl_of (by kernel_rfl)) (pi_r2 rfl T.n_range (@pa_c _ _ _ _ _ pe_int (@pa_c _ _ _ _ _ (@pe_op _ _ _ _ _ _ _ _ op_sub (pv 2) pe_int) pa_nil (by rfl)) (by rfl))) (fun _ _ _ _ => ⟨(@pg_name _ _ 0 _ (show (["_law_k"] : List Str).Nodup by decide +kernel) rfl (Or.inl rfl) (Or.inr rfl)), pts_nil, (@pe_tup _ _ _ _ _ (@pa_c _ _ _ _ _ (pv 0) (@pa_c _ _ _ _ _ (@pe_op _ _ _ _ _ _ _ _ op_add (pv 0) pe_int) pa_nil (by rfl)) (by rfl)))⟩))) pa_nil (by rfl)) (by rfl)))))) pss_nil) (@pss_cons _ _ _ _ _ (@ps_if _ _ _ _ _ _ _ _ (pt_cmpR op_eq (pv 1) pe_int (nomark _)) (@pss_one _ _ _ (@ps_ret _ _ _ _ (pe_c C_law_bad_edges (hr.mono (by decide)) rfl (@pa_c _ _ _ _ _ (pv 0) pa_nil (by rfl))))) pss_nil) (@pss_one _ _ _ (@ps_ret _ _ _ _ (pe_c C_law_rest_edges (hr.mono (by decide)) rfl (@pa_c _ _ _ _ _ (pv 0) (@pa_c _ _ _ _ _ (pv 1) pa_nil (by rfl)) (by rfl))))))))), ?_⟩
    walk_at "wp"
    refine ite2 (fun _ => ?_) (fun _ => ite2 (fun _ => ?_) (fun _ => ite2 (fun _ => ?_) (fun _ => ite2 (fun _ => ⟨l, [], rfl, rfl, hb, q⟩) (fun _ => ⟨l, [.int k], rfl, ⟨k, rfl⟩, hb, q⟩))))
    · refine hb.draw (by decide) (by decide) fun r H2 r0 r1 e2 b2 => ⟨r, rfl, ?_⟩
      refine ⟨_, rfl, _, _, rfl, rfl, _, rfl, by omega, by omega, fun D hD => comp_pairs (m := 1 + r) (fun i => 0 + (i : Int)) (fun i => 0 + (i : Int) + 1) hD (by omega) (fun i H Q _ h => ⟨_, rfl, h⟩) (fun i H Q _ h => ⟨_, rfl, _, _, rfl, rfl, h⟩)
        (fun i hi => ⟨by omega, by omega, by omega, by omega⟩) fun xs H' s e hl d => ⟨by decide, fun t ht => ?_⟩⟩
      exact q _ _ _ _ _ (Out.fin (e2.trans s.ext) (b2.same s) e (e2.free (b2.ne hD) hD) (by omega) (by omega) (by omega) d ht)
    · refine hb.draw (by decide) (by decide) fun r H2 r0 r1 e2 b2 => ⟨r, rfl, ?_⟩
      refine ⟨by decide, fun p1 h1 => ⟨by decide, fun p2 h2 => ⟨by decide, fun p3 h3 => ⟨by decide, fun p4 h4 => ?_⟩⟩⟩⟩
      have D1 := (Edges.nil (H := H2) (m := 4 + r)).add (i := 0) (j := 1) h1 (by omega) (by omega) (by omega) (by omega)
      have D2 := D1.add (i := 0) (j := 2) h2 (by omega) (by omega) (by omega) (by omega)
      have D3 := D2.add (i := 0) (j := 3) h3 (by omega) (by omega) (by omega) (by omega)
      have S4 := (((Same.new h1).trans (Same.new h2)).trans (Same.new h3)).trans (Same.new (o := .lst [.ref p1, .ref p2, .ref p3]) h4)
      refine ⟨_, rfl, _, _, rfl, rfl, _, _, rfl, ⟨by decide, by decide, by omega, by omega⟩, fun D hD => comp_pairs (m := 4 + r) (fun i => 3 + (i : Int)) (fun i => 3 + (i : Int) + 1) hD (by omega) (fun i H Q _ h => ⟨_, rfl, h⟩) (fun i H Q _ h => ⟨_, rfl, _, _, rfl, rfl, h⟩)
        (fun i hi => ⟨by omega, by omega, by omega, by omega⟩) fun xs H' s e hl d => ⟨D, rfl, _, s _ _ upd_same, _, e, Nat.le_of_lt (small1000 (by show 3 + xs.length ≤ 1000; omega)), fun p6 h6 => ⟨by decide, fun p7 h7 => ?_⟩⟩⟩
      exact q _ _ _ _ _ (Out.done e2 b2 (S4.trans s) h6 (by omega) (by omega) (by rw [List.length_append]; show 3 + xs.length ≤ 9; omega) (Edges.append ((D3.same (Same.new h4)).same s) d) h7)
    · refine hb.draw (by decide) (by decide) fun r H2 r0 r1 e2 b2 => ⟨r, rfl, ?_⟩
      refine ⟨by decide, fun p1 h1 => ⟨by decide, fun p2 h2 => ⟨by decide, fun p3 h3 => ⟨by decide, fun p4 h4 => ⟨by decide, fun p5 h5 => ?_⟩⟩⟩⟩⟩
      have D1 := (Edges.nil (H := H2) (m := 6 + r)).add (i := 0) (j := 1) h1 (by omega) (by omega) (by omega) (by omega)
      have D2 := D1.add (i := 0) (j := 2) h2 (by omega) (by omega) (by omega) (by omega)
      have D3 := D2.add (i := 2) (j := 3) h3 (by omega) (by omega) (by omega) (by omega)
      have D4 := D3.add (i := 0) (j := 4) h4 (by omega) (by omega) (by omega) (by omega)
      have S5 := ((((Same.new h1).trans (Same.new h2)).trans (Same.new h3)).trans (Same.new h4)).trans (Same.new (o := .lst [.ref p1, .ref p2, .ref p3, .ref p4]) h5)
      refine ⟨_, rfl, _, _, rfl, rfl, _, _, rfl, ⟨by decide, by decide, by omega, by omega⟩, fun D hD => comp_pairs (m := 6 + r) (fun i => 4 + (i : Int)) (fun i => 4 + (i : Int) + 1) hD (by omega) (fun i H Q _ h => ⟨_, rfl, h⟩) (fun i H Q _ h => ⟨_, rfl, _, _, rfl, rfl, h⟩)
        (fun i hi => ⟨by omega, by omega, by omega, by omega⟩) fun xs H' s e hl d => ⟨D, rfl, _, s _ _ upd_same, _, e, Nat.le_of_lt (small1000 (by show 4 + xs.length ≤ 1000; omega)), fun p6 h6 => ⟨by decide, fun p7 h7 => ?_⟩⟩⟩
      exact q _ _ _ _ _ (Out.done e2 b2 (S5.trans s) h6 (by omega) (by omega) (by rw [List.length_append]; show 4 + xs.length ≤ 9; omega) (Edges.append ((D4.same (Same.new h5)).same s) d) h7)
theorem ok_drawn {f : Addr} {fd : FuncData} (F : Fun K "_law_drawn" "_law_drawn" s_law_drawn f fd) (T : Txt K mg C G S) (C_law_draw : Cal P w K mg base "_law_draw" 1 spDraw) (C_law_edges : Cal P w K mg base "_law_edges" 3 (spOut way1)) (C_law_order : Cal P w K mg base "_law_order" 2 spOrder) : FnOk P w K mg base CX0 4 f fd ["_law_bag_here", "_law_way"] (spOut way1) := by
  have nd := sc_law_drawn.nd
  refine F.ok sc_law_drawn (fun vs H Q E h => ?_) (fun cdv A outer s H vs Q E hr h => ?_)
  · obtain ⟨l, r, rfl, ⟨k, rfl⟩, _⟩ := h
    rfl
  · obtain ⟨l, r, rfl, ⟨k, rfl⟩, hb, q⟩ := h
    refine ⟨_, (@pss_cons _ _ _ _ _ (ps_asg (pe_c C_law_edges (hr.mono (by decide)) rfl (@pa_c _ _ _ _ _ (pv 0) (@pa_c _ _ _ _ _ (pv 1) pa_nil (by rfl)) (by rfl))) (@pg_tup _ _ _ _ _ 2 rfl (@pgs_cons _ _ _ _ _ (@pg_name _ _ 2 _ nd rfl (Or.inl rfl) (Or.inl rfl)) (@pgs_cons _ _ _ _ _ (@pg_name _ _ 3 _ nd rfl (Or.inl rfl) (Or.inl rfl)) (@pgs_nil _) (by rfl)) (by rfl)) (by rfl) (by rfl))) (@pss_cons _ _ _ _ _ (ps_set (i := 4) nd rfl (Or.inl rfl) (pe_c C_law_order (hr.mono (by decide)) rfl (@pa_c _ _ _ _ _ (pv 0) (@pa_c _ _ _ _ _ (pv 2) pa_nil (by rfl)) (by rfl)))) (@pss_cons _ _ _ _ _ (ps_set (i := 5) nd rfl (Or.inl rfl) (@pe_lst _ _ _ _ pa_nil)) (@pss_cons _ _ _ _ _ (ps_while PassesOwn.never (pt_cmpR op_gt (pe_cB call_len_seq rfl T.n_len PySem.boot_len (@pa_c _ _ _ _ _ (pv 3) pa_nil (by rfl))) pe_int (nomark _)) (@pss_cons _ _ _ _ _ (ps_set (i := 6) nd rfl (Or.inl rfl) (pe_c C_law_draw (hr.mono (by decide)) rfl (@pa_c _ _ _ _ _ (pv 0) (@pa_c _ _ _ _ _ (pe_cB call_len_seq rfl T.n_len PySem.boot_len (@pa_c _ _ _ _ _ (pv 3) pa_nil (by rfl))) pa_nil (by rfl)) (by rfl)))) (@pss_cons _ _ _ _ _ (ps_asg (@pe_ix _ _ _ _ _ _ _ ix_list (pv 3) (pv 6) (fun _ _ => rfl)) (@pg_tup _ _ _ _ _ 2 rfl (@pgs_cons _ _ _ _ _ (@pg_name _ _ 7 _ nd rfl (Or.inl rfl) (Or.inl rfl)) (@pgs_cons _ _ _ _ _ (@pg_name _ _ 8 _ nd rfl (Or.inl rfl) (Or.inl rfl)) (@pgs_nil _) (by rfl)) (by rfl)) (by rfl) (by rfl))) (@pss_cons _ _ _ _ _ (ps_set (i := 3) nd rfl (Or.inl rfl) (@pe_op _ _ _ _ _ _ _ _ op_cat (@pe_slice _ _ _ _ _ _ _ _ _ _ sl_list (pv 3) po_none (@po_some _ _ _ (pv 6))) (@pe_slice _ _ _ _ _ _ _ _ _ _ sl_list (pv 3) (@po_some _ _ _ (@pe_op _ _ _ _ _ _ _ _ op_add (pv 6) pe_int)) po_none))) (@pss_cons _ _ _ _ _ (@ps_if _ _ _ _ _ _ _ _ (pt_cmpR op_eq (pe_c C_law_draw (hr.mono (by decide)) rfl (@pa_c _ _ _ _ _ (pv 0) (@pa_c _ _ _ _ _ pe_int pa_nil (by rfl)) (by rfl))) pe_int (nomark _)) (@pss_one _ _ _ (ps_par (i := 7) (j := 8) rfl nd rfl rfl (by decide) rfl rfl (@pa_c _ _ _ _ _ (pv 8) (@pa_c _ _ _ _ _ (pv 7) pa_nil (by rfl)) (by rfl)) rfl)) pss_nil) (@pss_one _ _ _ (ps_expr (pe_bm PySem.F.plainAttrs_list PySem.F.slot_list_append PySem.F.type_list_append mt_append (pv 5) (@pa_c _ _ _ _ _ (@pe_tup _ _ _ _ _ (@pa_c _ _ _ _ _ (@pe_ix _ _ _ _ _ _ _ ix_list (pv 4) (pv 7) (fun _ _ => rfl)) (@pa_c _ _ _ _ _ (@pe_ix _ _ _ _ _ _ _ ix_list (pv 4) (pv 8) (fun _ _ => rfl)) pa_nil (by rfl)) (by rfl))) pa_nil (by rfl)))))))))) (@pss_one _ _ _ (@ps_ret _ _ _ _ (@pe_tup _ _ _ _ _ (@pa_c _ _ _ _ _ (pv 2) (@pa_c _ _ _ _ _ (pv 5) pa_nil (by rfl)) (by rfl))))))))), ?_⟩
    walk_at "wp"
    refine ⟨l, _, rfl, ⟨k, rfl⟩, hb, fun p e m xs H1 O => ⟨p, rfl, _, SqT.of O.tup, rfl, _, _, rfl, _, _, rfl, rfl, ?_⟩⟩
    have m0 := O.lo
    have m8 := O.hi
    refine ⟨l, m, rfl, O.bag, by omega, O.hi, fun po ys H2 ex2 b2 hpo hpo2 hlen inr => ⟨by decide, fun pa hpa => ?_⟩⟩
    have nel : e ≠ l := hb.ne O.new
    have e2e : H2 e = some (.lst xs) := ex2 _ _ nel O.lst
    have nal : pa ≠ l := b2.ne hpa
    have nae : e ≠ pa := ne_of_none e2e hpa
    have nao : po ≠ pa := ne_of_none hpo2 hpa
    have exH : Ext l H H2 := O.ext.trans ex2
    have fpa : H pa = none := exH.free nal hpa
    have noe : e ≠ po := (ne_of_none O.lst hpo)
    have nol : po ≠ l := O.bag.ne hpo
    refine ⟨fun n σ H3 => ∃ (pl : Addr) (ls as : List V) (v6 v7 v8 : Option V), σ = [some (.ref l), some (.int k), some (.int m), some (.ref pl), some (.ref po), some (.ref pa), v6, v7, v8] ∧ n = ls.length ∧ Ext l H H3 ∧ Bag H3 l ∧
      H3 pl = some (.lst ls) ∧ H3 po = some (.lst (ys.map V.int)) ∧ H3 pa = some (.lst as) ∧ pl ≠ l ∧ pl ≠ pa ∧ ls.length + as.length ≤ 9 ∧ Edges H3 m ls ∧ Edges H3 m as, ?_, ?_⟩
    · exact ⟨_, e, xs, [], none, none, none, rfl, rfl, exH.trans (Ext.new hpa), b2.new nal, by rw [upd_ne nae]; exact e2e, by rw [upd_ne nao]; exact hpo2, upd_same, nel, nae, by have := O.len; simpa using this, (O.ed.bag ex2 O.bag).same (Same.new hpa), Edges.nil⟩
    · rintro n σ H3 ⟨pl, ls, as, v6, v7, v8, rfl, rfl, ex, b, hpl, hpo3, hpa3, n1, n2, hl, dl, da⟩
      walk_at "wp"
      refine ⟨_, .inl (SqL.of hpl), ite2 (fun hc => ?_) (fun hc => ?_)⟩
      · have hc := of_decide_eq_true hc
        refine ⟨_, fun _ _ h => h, ?_⟩
        walk_at "wp"
        refine ⟨_, .inl (SqL.of hpl), b.draw hc (by omega) fun r H4 r0 r1 e4 b4 => ?_⟩
        have hr1 : r.toNat < ls.length := by omega
        have hpl4 := e4 _ _ n1 hpl
        have hpo4 := e4 _ _ nol hpo3
        have hpa4 := e4 _ _ nal hpa3
        have dl4 := dl.bag e4 b
        have da4 := da.bag e4 b
        obtain ⟨t, i, j, hx, ht4, i0, i1, j0, j1⟩ := dl4 _ (List.getElem_mem hr1)
        refine ⟨ls, r, rfl, SqL.of hpl4, .ref t, atI_at r0 (by rw [List.getElem?_eq_getElem hr1, hx]), t, rfl, _, SqT.of ht4, rfl, _, _, rfl, _, _, rfl, rfl, r, rfl, ls, SqL.of hpl4, fun p2 h2 => ⟨r, rfl, ls, SqL.of (by rw [upd_ne (ne_of_none hpl4 h2)]; exact hpl4), fun p3 h3 => ?_⟩⟩
        have l1 := cut_lo ls r r0 (by omega)
        have l2 := cut_hi ls (r + 1) (by omega) (by omega)
        have hNL : (cutV ls none (some r) ++ cutV ls (some (r + 1)) none).length < ls.length := by
          rw [l1, l2, List.length_append, List.length_take, List.length_drop]; omega
        refine ⟨cutV ls none (some r), by rw [upd_ne (ne_of_none upd_same h3)]; exact upd_same, _, upd_same, Nat.le_of_lt (small1000 (by rw [List.length_append] at hNL; omega)), fun p4 h4 => ?_⟩
        have S6 := (Same.new (o := .lst (cutV ls none (some r))) h2).trans (Same.new (o := .lst (cutV ls (some (r + 1)) none)) h3)
        have S := S6.trans (Same.new (o := .lst (cutV ls none (some r) ++ cutV ls (some (r + 1)) none)) h4)
        have b7 := b4.same S
        have p4nl : p4 ≠ l := (b4.same S6).ne h4
        have npa4 : pa ≠ p4 := ne_of_none (S6 _ _ hpa4) h4
        refine b7.draw (by decide) (by decide) fun z H8 z0 z1 e8 b8 => ⟨rfl, ?_⟩
        have pa8 := e8 _ _ nal (S _ _ hpa4)
        have po8 := e8 _ _ nol (S _ _ hpo4)
        have p48 := e8 _ _ p4nl upd_same
        have exH8 : Ext l H H8 := (ex.trans e4).trans (S.ext.trans e8)
        have dN8 : Edges H8 m (cutV ls none (some r) ++ cutV ls (some (r + 1)) none) := ((dl4.sub fun y hy => by
          rw [l1, l2] at hy
          rcases List.mem_append.mp hy with h | h
          · exact List.mem_of_mem_take h
          · exact List.mem_of_mem_drop h).same S).bag e8 b7
        have da8 := (da4.same S).bag e8 b7
        refine ite2 (fun _ => ?_) (fun _ => ?_)
        ·
          refine ⟨_, _, ⟨rfl, rfl⟩, .inl ⟨rfl, _, SqL.of pa8⟩, _, j, rfl, SqL.of po8, V.int (ys[j.toNat]'(by omega)), atI_at j0 (by rw [List.getElem?_map, List.getElem?_eq_getElem (by omega)]; rfl), _, i, rfl, SqL.of po8, V.int (ys[i.toNat]'(by omega)), atI_at i0 (by rw [List.getElem?_map, List.getElem?_eq_getElem (by omega)]; rfl), by decide, fun p5 h5 => ?_⟩
          have ia := inr _ (List.getElem_mem (show j.toNat < ys.length by omega))
          have ic := inr _ (List.getElem_mem (show i.toNat < ys.length by omega))
          have pa9 : (upd H8 p5 (.tup [V.int (ys[j.toNat]'(by omega)), V.int (ys[i.toNat]'(by omega))])) pa = some (.lst as) := by rw [upd_ne (ne_of_none pa8 h5)]; exact pa8
          have n5 : p4 ≠ p5 := ne_of_none p48 h5
          have n5o : po ≠ p5 := ne_of_none po8 h5
          exact ⟨as, pa9, small1000 (by omega), _, hNL, p4, _, as ++ [.ref p5], _, _, _, ⟨rfl, rfl, rfl, rfl⟩, rfl, (exH8.trans (Ext.new h5)).upd fpa, (b8.new (b8.ne h5)).new nal, by rw [upd_ne npa4.symm, upd_ne n5]; exact p48, by rw [upd_ne nao, upd_ne n5o]; exact po8, upd_same, p4nl, npa4.symm,
            by have hL : (as ++ [V.ref p5]).length = as.length + 1 := by { rw [List.length_append]; rfl }
               rw [hL]; omega, (dN8.same (Same.new h5)).put pa9, (da8.add h5 ia.1 ia.2 ic.1 ic.2).put pa9⟩
        ·
          refine ⟨.inl ⟨rfl, _, SqL.of pa8⟩, _, i, rfl, SqL.of po8, V.int (ys[i.toNat]'(by omega)), atI_at i0 (by rw [List.getElem?_map, List.getElem?_eq_getElem (by omega)]; rfl), _, j, rfl, SqL.of po8, V.int (ys[j.toNat]'(by omega)), atI_at j0 (by rw [List.getElem?_map, List.getElem?_eq_getElem (by omega)]; rfl), by decide, fun p5 h5 => ?_⟩
          have ia := inr _ (List.getElem_mem (show i.toNat < ys.length by omega))
          have ic := inr _ (List.getElem_mem (show j.toNat < ys.length by omega))
          have pa9 : (upd H8 p5 (.tup [V.int (ys[i.toNat]'(by omega)), V.int (ys[j.toNat]'(by omega))])) pa = some (.lst as) := by rw [upd_ne (ne_of_none pa8 h5)]; exact pa8
          have n5 : p4 ≠ p5 := ne_of_none p48 h5
          have n5o : po ≠ p5 := ne_of_none po8 h5
          exact ⟨as, pa9, small1000 (by omega), _, hNL, p4, _, as ++ [.ref p5], _, _, _, ⟨rfl, rfl, rfl, rfl⟩, rfl, (exH8.trans (Ext.new h5)).upd fpa, (b8.new (b8.ne h5)).new nal, by rw [upd_ne npa4.symm, upd_ne n5]; exact p48, by rw [upd_ne nao, upd_ne n5o]; exact po8, upd_same, p4nl, npa4.symm,
            by have hL : (as ++ [V.ref p5]).length = as.length + 1 := by { rw [List.length_append]; rfl }
               rw [hL]; omega, (dN8.same (Same.new h5)).put pa9, (da8.add h5 ia.1 ia.2 ic.1 ic.2).put pa9⟩
      · have hc : ¬ (0 : Int) < (ls.length : Nat) := fun z => hc (decide_eq_true z)
        exact ⟨by decide, fun t ht => q _ _ _ _ _ (Out.fin ex b hpa3 fpa m0 m8 (by omega) da ht)⟩
end
end Pf
set_option maxHeartbeats 1000000
namespace Pf
open PySem L2 PyProof.Rows
section
variable {P : Program} {w : World} {K : PySem.W.Frag} {mg : Str → Option Value} {base : Heap} {C G S : Addr}
theorem iteP {c A B : Prop} [Decidable c] (hc : c) (h : A) : if c then A else B := by rw [if_pos hc]; exact h
theorem iteN {c A B : Prop} [Decidable c] (hc : ¬ c) (h : B) : if c then A else B := by rw [if_neg hc]; exact h
theorem comp_bl_l {a D : Addr} {xs : List V} {fr : List (Str × Nat)} {σ : L2.St} {te : TE} {H1 : Hp} {Q : VK} (fb : Nat → Bool) (ha : H1 a = some (.lst xs)) (hD : H1 D = none) (hn : xs.length ≤ 1000)
    (h : ∀ (i : Nat) x H (Q : VK), xs[i]? = some x → Same H1 H → (∀ H', Same H H' → Q (.bl (fb i)) H') → te (some x :: capOf fr σ) H Q)
    (hQ : ∀ H', Same H1 H' → H' D = some (.lst (((List.range xs.length).map fb).map V.bl)) → Q (.ref D) H') : tBlock (gName 0) tYes te (Itl K a) D (capS 1 fr σ) H1 Q := by
  refine comp_itl (xs := xs) (fun i vs H => Same H1 H ∧ H D = some (.lst vs) ∧ vs = ((List.range i).map fb).map V.bl) ⟨Same.new hD, upd_same, rfl⟩ (fun i vs H _ p => SqL.of (p.1 _ _ ha)) ?_ (fun vs H ⟨s, e, hv⟩ => hQ H s (by rw [e, hv]))
  rintro i x vs σ' H hi hx sh ⟨s, e, rfl⟩
  obtain ⟨z, rfl⟩ := sh.one
  simp only [tTurn, gName, tYes, List.set_cons_zero, if_true]
  refine h i x H _ hx s fun H' s' => ?_
  exact leaf (ws := ((List.range (i + 1)).map fb).map V.bl) hi Sh.mk1 (s' _ _ e) (small1000 (by rw [List.length_map, List.length_map, List.length_range]; omega)) ⟨(s.trans s').upd hD, by rw [upd_same, List.range_succ, List.map_append, List.map_append]; rfl, rfl⟩
theorem comp_bl_t {a D : Addr} {xs : List V} {fr : List (Str × Nat)} {σ : L2.St} {te : TE} {H1 : Hp} {Q : VK} (fb : Nat → Bool) (ha : H1 a = some (.tup xs)) (hD : H1 D = none) (hn : xs.length ≤ 1000)
    (h : ∀ (i : Nat) x H (Q : VK), xs[i]? = some x → Same H1 H → (∀ H', Same H H' → Q (.bl (fb i)) H') → te (some x :: capOf fr σ) H Q)
    (hQ : ∀ H', Same H1 H' → H' D = some (.lst (((List.range xs.length).map fb).map V.bl)) → Q (.ref D) H') : tBlock (gName 0) tYes te (Itt K a) D (capS 1 fr σ) H1 Q := by
  refine comp_itt (xs := xs) (fun i vs H => Same H1 H ∧ H D = some (.lst vs) ∧ vs = ((List.range i).map fb).map V.bl) ⟨Same.new hD, upd_same, rfl⟩ (fun i vs H _ p => SqT.of (p.1 _ _ ha)) ?_ (fun vs H ⟨s, e, hv⟩ => hQ H s (by rw [e, hv]))
  rintro i x vs σ' H hi hx sh ⟨s, e, rfl⟩
  obtain ⟨z, rfl⟩ := sh.one
  simp only [tTurn, gName, tYes, List.set_cons_zero, if_true]
  refine h i x H _ hx s fun H' s' => ?_
  exact leaf (ws := ((List.range (i + 1)).map fb).map V.bl) hi Sh.mk1 (s' _ _ e) (small1000 (by rw [List.length_map, List.length_map, List.length_range]; omega)) ⟨(s.trans s').upd hD, by rw [upd_same, List.range_succ, List.map_append, List.map_append]; rfl, rfl⟩
theorem all_true (n : Nat) : ((List.range n).map fun _ => true).all id = true := by
  rw [List.all_eq_true]
  intro b hb
  obtain ⟨_, _, rfl⟩ := List.mem_map.mp hb
  rfl
def spWhole : Sp := fun vs H Q _ => ∃ i : Int, vs = [.int i] ∧ Q (.bl true) H
theorem ok_whole {f : Addr} {fd : FuncData} (F : Fun K "is_whole" "is_whole" s_is_whole f fd) (T : Txt K mg C G S) : FnOk P w K mg base CX0 1 f fd ["thing"] spWhole := by
  have nd := sc_is_whole.nd
  refine F.ok sc_is_whole (fun vs H Q E h => ?_) (fun cdv A outer s H vs Q E hr h => ?_)
  · obtain ⟨i, rfl, _⟩ := h
    rfl
  · obtain ⟨i, rfl, q⟩ := h
    refine ⟨_, (@pss_one _ _ _ (@ps_ret _ _ _ _ (pe_and (pe_cB call_isinst rfl T.n_isinstance boot_isinstance (@pa_c _ _ _ _ _ (pv 0) (@pa_c _ _ _ _ _ (pe_ty rfl T.n_int boot_int) pa_nil (by rfl)) (by rfl))) (pe_one (pe_not (pe_cB call_isinst rfl T.n_isinstance boot_isinstance (@pa_c _ _ _ _ _ (pv 0) (@pa_c _ _ _ _ _ (pe_ty rfl T.n_bool boot_bool) pa_nil (by rfl)) (by rfl)))))))), ?_⟩
    walk_at "wp"
    exact ⟨_, _, ⟨rfl, rfl⟩, _, rfl, _, .int i, _, k_int_int K, iteT ⟨_, _, ⟨rfl, rfl⟩, _, rfl, _, .int i, _, k_int_bool K, q⟩⟩
def spArrow : Sp := fun vs H Q _ => ∃ (m : Int) (x : V), vs = [.int m, x] ∧ Edge H m x ∧ ∀ H', Same H H' → Q (.bl true) H'
theorem ok_arrow {f : Addr} {fd : FuncData} (F : Fun K "is_arrow" "is_arrow" s_is_arrow f fd) (T : Txt K mg C G S) (C_is_whole : Cal P w K mg base "is_whole" 1 spWhole) : FnOk P w K mg base CX0 2 f fd ["many", "thing"] spArrow := by
  have nd := sc_is_arrow.nd
  refine F.ok sc_is_arrow (fun vs H Q E h => ?_) (fun cdv A outer s H vs Q E hr h => ?_)
  · obtain ⟨m, x, rfl, _⟩ := h
    rfl
  · obtain ⟨m, x, rfl, ⟨t, i, j, rfl, ht, i0, i1, j0, j1⟩, q⟩ := h
    refine ⟨_, (@pss_cons _ _ _ _ _ (@ps_if _ _ _ _ _ _ _ _ (PW.pt (pw_or (pt_not (pt_val (pe_cB call_isinst rfl T.n_isinstance boot_isinstance (@pa_c _ _ _ _ _ (pv 1) (@pa_c _ _ _ _ _ (pe_ty rfl T.n_tuple boot_tuple) pa_nil (by rfl)) (by rfl))))) (pw_or1 (pt_cmpR op_ne (pe_cB call_len_seq rfl T.n_len PySem.boot_len (@pa_c _ _ _ _ _ (pv 1) pa_nil (by rfl))) pe_int (nomark _))))) (@pss_one _ _ _ (@ps_ret _ _ _ _ pe_bl)) pss_nil) (@pss_one _ _ _ (@ps_ret _ _ _ _ (pe_cB (call_all rfl) rfl T.n_all boot_all (@pa_c _ _ _ _ _ (pe_comp (own := ["end"]) (fr := [("many", 0)]) rfl (bl_of (by kernel_rfl)) (pi_tup (pv 1)) (fun _ _ _ _ => ⟨(@pg_name _ _ 0 _ (show (["end", "many"] : List Str).Nodup by decide +kernel) rfl (Or.inl rfl) (Or.inr rfl)), pts_nil, (pe_and (pe_c C_is_whole (hr.mono (by decide)) rfl (@pa_c _ _ _ _ _ (pv 0) pa_nil (by rfl))) (pe_one (pe_chain op_le op_lt pe_int (pv 0) (pv 1))))⟩)) pa_nil (by rfl)))))), ?_⟩
    walk_at "wp"
    refine ⟨_, _, ⟨rfl, rfl⟩, _, rfl, _, .tup ht, _, k_tup_tup K, iteF ⟨_, .inr (SqT.of ht), iteF ?_⟩⟩
    refine ⟨_, rfl, t, rfl, ⟨_, SqT.of ht⟩, fun D hD => comp_bl_t (fun _ => true) ht hD (by show 2 ≤ 1000; decide) (fun k x H' Q' hx s' q' => ?_) fun H' s' e' => ⟨D, rfl, _, SqL.of e', ?_⟩⟩
    · have hx' : ∃ z : Int, x = .int z ∧ 0 ≤ z ∧ z < m := by
        match k, hx with
        | 0, hx => exact ⟨i, (Option.some.inj hx).symm, i0, i1⟩
        | 1, hx => exact ⟨j, (Option.some.inj hx).symm, j0, j1⟩
        | k + 2, hx => cases hx
      obtain ⟨z, rfl, z0, z1⟩ := hx'
      refine ⟨_, rfl, ⟨z, rfl, true, rfl, iteT ⟨_, rfl, _, _, rfl, rfl, _, rfl, ?_⟩⟩⟩
      refine iteP (decide_eq_true z0) ⟨_, rfl, _, _, rfl, rfl, ?_⟩
      show Q' (V.bl (decide (z < m))) H'
      rw [decide_eq_true z1]
      exact q' H' (Same.refl _)
    · rw [all_true]
      exact q H' s'
def spMakes : Sp := fun vs H Q _ => ∃ (m : Int) (a : Addr) (xs : List V), vs = [.int m, .ref a] ∧ 1 ≤ m ∧ m ≤ 8 ∧ H a = some (.lst xs) ∧ xs.length ≤ 9 ∧ Edges H m xs ∧ ∀ H', Same H H' → Q (.bl true) H'
theorem ok_makes {f : Addr} {fd : FuncData} (F : Fun K "makes_drawing" "makes_drawing" s_makes_drawing f fd) (T : Txt K mg C G S) (C_is_whole : Cal P w K mg base "is_whole" 1 spWhole) (C_is_arrow : Cal P w K mg base "is_arrow" 2 spArrow) : FnOk P w K mg base CX0 3 f fd ["many", "arrows"] spMakes := by
  have nd := sc_makes_drawing.nd
  refine F.ok sc_makes_drawing (fun vs H Q E h => ?_) (fun cdv A outer s H vs Q E hr h => ?_)
  · obtain ⟨m, a, xs, rfl, _⟩ := h
    rfl
  · obtain ⟨m, a, xs, rfl, m0, m8, ha, hl, d, q⟩ := h
    refine ⟨_, (@pss_cons _ _ _ _ _ (@ps_if _ _ _ _ _ _ _ _ (PW.pt (pw_or (pt_not (pt_val (pe_c C_is_whole (hr.mono (by decide)) rfl (@pa_c _ _ _ _ _ (pv 0) pa_nil (by rfl))))) (pw_or1 (pt_not (pt_chain op_le op_le pe_int (pv 0) (pe_globI rfl T.g_MOST_POINTS)))))) (@pss_one _ _ _ (@ps_ret _ _ _ _ pe_bl)) pss_nil) (@pss_cons _ _ _ _ _ (@ps_if _ _ _ _ _ _ _ _ (PW.pt (pw_or (pt_not (pt_val (pe_cB call_isinst rfl T.n_isinstance boot_isinstance (@pa_c _ _ _ _ _ (pv 1) (@pa_c _ _ _ _ _ (pe_ty rfl T.n_list boot_list) pa_nil (by rfl)) (by rfl))))) (pw_or1 (pt_cmpR op_gt (pe_cB call_len_seq rfl T.n_len PySem.boot_len (@pa_c _ _ _ _ _ (pv 1) pa_nil (by rfl))) (pe_globI rfl T.g_MOST_ARROWS) (nomark _))))) (@pss_one _ _ _ (@ps_ret _ _ _ _ pe_bl)) pss_nil) (@pss_one _ _ _ (@ps_ret _ _ _ _ (pe_cB (call_all rfl) rfl T.n_all boot_all (@pa_c _ _ _ _ _ (pe_comp (own := ["arrow"]) (fr := [("many", 0)]) rfl (bl_of (by kernel_rfl)) (pi_list (pv 1)) (fun _ _ _ _ => ⟨(@pg_name _ _ 0 _ (show (["arrow", "many"] : List Str).Nodup by decide +kernel) rfl (Or.inl rfl) (Or.inr rfl)), pts_nil, (pe_c C_is_arrow (hr.mono (by decide)) rfl (@pa_c _ _ _ _ _ (pv 1) (@pa_c _ _ _ _ _ (pv 0) pa_nil (by rfl)) (by rfl)))⟩)) pa_nil (by rfl))))))), ?_⟩
    walk_at "wp"
    refine ⟨m, rfl, true, rfl, iteF (iteP (decide_eq_true m0) (iteN (by rw [decide_eq_true m8]; decide) ⟨_, _, ⟨rfl, rfl⟩, _, rfl, _, .lst ha, _, k_list_list K, iteF ⟨_, .inl (SqL.of ha), iteN (by rw [decide_eq_false (by omega)]; decide) ?_⟩⟩))⟩
    refine ⟨_, rfl, a, rfl, ⟨_, SqL.of ha⟩, fun D hD => comp_bl_l (fun _ => true) ha hD (by omega) (fun k x H' Q' hx s' q' => ?_) fun H' s' e' => ⟨D, rfl, _, SqL.of e', ?_⟩⟩
    · exact ⟨_, rfl, _, rfl, m, x, rfl, (d x (List.mem_of_getElem? hx)).same s', q'⟩
    · rw [all_true]
      exact q H' s'
end
end Pf
set_option maxHeartbeats 1000000
namespace Pf
open PySem L2 PyProof.Rows
section
variable {P : Program} {w : World} {K : PySem.W.Frag} {mg : Str → Option Value} {base : Heap} {C G S : Addr}
def flds (m : Int) (lp : Addr) : List (Str × V) := putF "arrows" (.ref lp) (putF "many" (.int m) [])
theorem flds_arrows (m : Int) (lp : Addr) : (flds m lp).lookup ("arrows" : Str) = some (.ref lp) := by
  unfold flds
  rw [lookup_putF, if_pos rfl]
theorem flds_many (m : Int) (lp : Addr) : (flds m lp).lookup ("many" : Str) = some (.int m) := by
  unfold flds
  rw [lookup_putF, if_neg (by decide +kernel), lookup_putF, if_pos rfl]
theorem flds_len (m : Int) : (putF "many" (.int m) ([] : List (Str × V))).length < 1000 := by
  have := length_putF "many" (.int m) []
  simp at this
  omega
def spInit (C : Addr) : Sp := fun vs H Q _ => ∃ (p dx : Addr) (m : Int) (a : Addr) (xs : List V), vs = [.ref p, .int m, .ref a] ∧ H p = some (.ins C dx []) ∧ 1 ≤ m ∧ m ≤ 8 ∧ H a = some (.lst xs) ∧ xs.length ≤ 9 ∧ Edges H m xs ∧
  ∀ (lp : Addr) (H' : Hp), Ext p H H' → H' p = some (.ins C dx (flds m lp)) → H lp = none → H' lp = some (.lst xs) → Q .non H'
theorem ok_init {f : Addr} {fd : FuncData} (F : Fun K "__init__" "Drawing.__init__" s_Drawing_init f fd) (T : Txt K mg C G S) (C_makes_drawing : Cal P w K mg base "makes_drawing" 3 spMakes) : FnOk P w K mg base CX0 4 f fd ["self", "many", "arrows"] (spInit C) := by
  have nd := sc_Drawing_init.nd
  refine F.ok sc_Drawing_init (fun vs H Q E h => ?_) (fun cdv A outer s H vs Q E hr h => ?_)
  · obtain ⟨p, dx, m, a, xs, rfl, _⟩ := h
    rfl
  · obtain ⟨p, dx, m, a, xs, rfl, hp, m0, m8, ha, hl, d, q⟩ := h
    refine ⟨_, (@pss_cons _ _ _ _ _ (@ps_if _ _ _ _ _ _ _ _ (pt_not (pt_val (pe_c C_makes_drawing (hr.mono (by decide)) rfl (@pa_c _ _ _ _ _ (pv 1) (@pa_c _ _ _ _ _ (pv 2) pa_nil (by rfl)) (by rfl))))) (@pss_one _ _ _ ps_never) pss_nil) (@pss_cons _ _ _ _ _ (ps_fld (pv 0) (pv 1) rfl) (@pss_one _ _ _ (ps_fld (pv 0) (pe_cT call_list_of rfl T.n_list boot_list (@pa_c _ _ _ _ _ (pv 2) pa_nil (by rfl))) rfl)))), ?_⟩
    walk_at "wp"
    refine ⟨m, a, xs, rfl, m0, m8, ha, hl, d, fun H1 s1 => ⟨true, rfl, iteF ?_⟩⟩
    have nap : a ≠ p := ne_of ha hp (by intro z; cases z)
    refine ⟨C, dx, [], s1 _ _ hp, T.cl_Drawing, T.nM, by show 0 < 1000; decide, xs, .inl (SqL.of (by rw [upd_ne nap]; exact s1 _ _ ha)), fun l hl0 => ?_⟩
    have npl : p ≠ l := ne_of_none upd_same hl0
    refine ⟨C, dx, _, by rw [upd_ne npl]; exact upd_same, T.cl_Drawing, T.nA, flds_len m, ?_⟩
    have fl : H l = none := by
      rw [upd_ne npl.symm] at hl0
      exact s1.free hl0
    refine q l _ (fun b o nb e => ?_) upd_same fl (by rw [upd_ne npl.symm]; exact upd_same)
    rw [upd_ne nb, upd_ne (ne_of_none e fl), upd_ne nb]
    exact s1 _ _ e
def Prs (H : Hp) (xs : List V) (ps : List (Int × Int)) : Prop := xs.length = ps.length ∧ ∀ (i : Nat) (x : V) (q : Int × Int), xs[i]? = some x → ps[i]? = some q → ∃ t, x = .ref t ∧ H t = some (.tup [.int q.1, .int q.2])
theorem Prs.same {H H' : Hp} {xs : List V} {ps : List (Int × Int)} (h : Prs H xs ps) (s : Same H H') : Prs H' xs ps := ⟨h.1, fun i x q h1 h2 => let ⟨t, e1, e2⟩ := h.2 i x q h1 h2; ⟨t, e1, s _ _ e2⟩⟩
def DrawAt (C : Addr) (H : Hp) (p : Addr) (m : Int) (lp : Addr) (xs : List V) : Prop := ∃ dx, H p = some (.ins C dx (flds m lp)) ∧ H lp = some (.lst xs)
end
end Pf
set_option maxHeartbeats 1000000
namespace Pf
open PySem L2 PyProof.Rows
section
variable {P : Program} {w : World} {K : PySem.W.Frag} {mg : Str → Option Value} {base : Heap} {C G S : Addr}
def InP (m : Int) (ps : List (Int × Int)) : Prop := ∀ q ∈ ps, 0 ≤ q.1 ∧ q.1 < m ∧ 0 ≤ q.2 ∧ q.2 < m
theorem Prs.nil {H : Hp} : Prs H [] [] := ⟨rfl, fun i x q h => by simp at h⟩
theorem Prs.put {H : Hp} {D : Addr} {l : List V} {o : HO} {xs : List V} {ps : List (Int × Int)} (h : Prs H xs ps) (hD : H D = some (.lst l)) : Prs (upd H D o) xs ps :=
  ⟨h.1, fun i x q h1 h2 => let ⟨t, e1, e2⟩ := h.2 i x q h1 h2; ⟨t, e1, by rw [upd_ne (ne_of e2 hD (by intro z; cases z))]; exact e2⟩⟩
theorem Prs.add {H : Hp} {xs : List V} {ps : List (Int × Int)} {t : Addr} {q : Int × Int} (h : Prs H xs ps) (ht : H t = some (.tup [.int q.1, .int q.2])) : Prs H (xs ++ [.ref t]) (ps ++ [q]) := by
  refine ⟨by simp [h.1], fun i x r h1 h2 => ?_⟩
  by_cases hi : i < xs.length
  · rw [List.getElem?_append_left hi] at h1
    rw [List.getElem?_append_left (by rw [← h.1]; exact hi)] at h2
    exact h.2 i x r h1 h2
  · rw [List.getElem?_append_right (by omega)] at h1
    rw [List.getElem?_append_right (by rw [← h.1]; omega)] at h2
    have hl := h.1
    by_cases h0 : i - xs.length = 0
    · rw [h0] at h1
      rw [← hl, h0] at h2
      simp at h1 h2
      exact ⟨t, h1.symm, by rw [← h2]; exact ht⟩
    · rw [List.getElem?_eq_none (by simp; omega)] at h1
      cases h1
theorem prs_of' {H : Hp} {m : Int} : ∀ {xs : List V}, Edges H m xs → ∃ ps, Prs H xs ps ∧ InP m ps
  | [], _ => ⟨[], Prs.nil, fun q h => by simp at h⟩
  | x :: xs, d => by
    obtain ⟨ps, ⟨h1, h2⟩, h3⟩ := prs_of' (xs := xs) fun y hy => d y (List.mem_cons_of_mem _ hy)
    obtain ⟨t, i, j, rfl, ht, hb⟩ := d x List.mem_cons_self
    refine ⟨(i, j) :: ps, ⟨by simp [h1], fun k y q e1 e2 => ?_⟩, fun q hq => ?_⟩
    · cases k with
      | zero =>
        simp at e1 e2
        subst e1 e2
        exact ⟨t, rfl, ht⟩
      | succ k => exact h2 k y q (by simpa using e1) (by simpa using e2)
    · rcases List.mem_cons.mp hq with rfl | hq
      · exact hb
      · exact h3 q hq
theorem edges_of {H : Hp} {m : Int} {xs : List V} {ps : List (Int × Int)} (h : Prs H xs ps) (r : InP m ps) : Edges H m xs := by
  intro x hx
  obtain ⟨i, hi, rfl⟩ := List.mem_iff_getElem.mp hx
  have hl := h.1
  have hq : ps[i]? = some (ps[i]'(by omega)) := List.getElem?_eq_getElem _
  obtain ⟨t, e1, e2⟩ := h.2 i _ _ (List.getElem?_eq_getElem hi) hq
  exact ⟨t, _, _, e1, e2, r _ (List.mem_of_getElem? hq)⟩
def Drw (C : Addr) (H : Hp) (p : Addr) (m : Int) (ps : List (Int × Int)) : Prop := ∃ lp xs, DrawAt C H p m lp xs ∧ xs.length ≤ 9 ∧ Prs H xs ps
theorem Drw.same {H H' : Hp} {p : Addr} {m : Int} {ps : List (Int × Int)} (h : Drw C H p m ps) (s : Same H H') : Drw C H' p m ps := by
  obtain ⟨lp, xs, ⟨dx, h1, h2⟩, h3, h4⟩ := h
  exact ⟨lp, xs, ⟨dx, s _ _ h1, s _ _ h2⟩, h3, h4.same s⟩
theorem room8 {k : Nat} {A : Around} (hr : Room k A) : A.units + 8 < cLine := by have := hr.units; omega
theorem all_rep (n : Nat) : (List.replicate n true).all id = true := by simp
theorem Same.thru {l : Addr} {H H1 H2 : Hp} (s : Same H H1) (h : H l = none) (e : Ext l H1 H2) : Same H H2 := fun b o eb => e b o (ne_of_none eb h) (s b o eb)
end
end Pf
set_option maxHeartbeats 1000000
namespace Pf
open PySem L2 PyProof.Rows
section
variable {P : Program} {w : World} {K : PySem.W.Frag} {mg : Str → Option Value} {base : Heap} {C G S : Addr}
theorem comp_bl_r {lo : Int} {n : Nat} {D : Addr} {fr : List (Str × Nat)} {σ : L2.St} {te : TE} {H1 : Hp} {Q : VK} (fb : Nat → Bool) (hD : H1 D = none) (hn : n ≤ 1000)
    (h : ∀ (i : Nat) H (Q : VK), i < n → Same H1 H → (∀ H', Same H H' → Q (.bl (fb i)) H') → te (some (.int (lo + (i : Nat))) :: capOf fr σ) H Q)
    (hQ : ∀ H', Same H1 H' → H' D = some (.lst (((List.range n).map fb).map V.bl)) → Q (.ref D) H') : tBlock (gName 0) tYes te (Itr lo n) D (capS 1 fr σ) H1 Q := by
  refine comp_itr (fun i vs H => Same H1 H ∧ H D = some (.lst vs) ∧ vs = ((List.range i).map fb).map V.bl) ⟨Same.new hD, upd_same, rfl⟩ ?_ (fun vs H ⟨s, e, hv⟩ => hQ H s (by rw [e, hv]))
  rintro i x vs σ' H hi rfl sh ⟨s, e, rfl⟩
  obtain ⟨z, rfl⟩ := sh.one
  simp only [tTurn, gName, tYes, List.set_cons_zero, if_true]
  refine h i H _ hi s fun H' s' => ?_
  exact leaf (ws := ((List.range (i + 1)).map fb).map V.bl) hi Sh.mk1 (s' _ _ e) (small1000 (by rw [List.length_map, List.length_map, List.length_range]; omega)) ⟨(s.trans s').upd hD, by rw [upd_same, List.range_succ, List.map_append, List.map_append]; rfl, rfl⟩
def Top (a : Int) : Prop := a.natAbs < 2 ^ 4000
theorem Top.of {a : Int} (h : a.natAbs ≤ 100000000000000000000000000000000000000000000000000000000000000000000000000000000) : Top a := Nat.lt_of_le_of_lt h (by decide +kernel)
def spCd : Sp := fun vs H Q _ => ∃ a b : Int, vs = [.int a, .int b] ∧ Top a ∧ 0 ≤ b ∧ Q (.int (Int.gcd a b : Int)) H
theorem ok_cd {f : Addr} {fd : FuncData} (F : Fun K "common_divisor" "common_divisor" s_common_divisor f fd) (T : Txt K mg C G S) : FnOk P w K mg base CX0 1 f fd ["one", "other"] spCd := by
  have nd := sc_common_divisor.nd
  refine F.ok sc_common_divisor (fun vs H Q E h => ?_) (fun cdv A outer s H vs Q E hr h => ?_)
  · obtain ⟨a, b, rfl, _⟩ := h
    rfl
  · obtain ⟨a, b, rfl, ht, hb, q⟩ := h
    refine ⟨_, (@pss_cons _ _ _ _ _ (@ps_if _ _ _ _ _ _ _ _ (pt_cmpR op_gt (pe_bm0 PySem.F.plainAttrs_int PySem.F.slot_int_bit_length PySem.F.type_int_bit_length mt_bits (pv 0)) (pe_globI rfl T.g_LONG) (nomark _)) (@pss_one _ _ _ ps_never) pss_nil) (@pss_cons _ _ _ _ _ (ps_while PassesOwn.never (pt_cmpR op_ne (pv 1) pe_int (nomark _)) (@pss_one _ _ _ (ps_par (i := 0) (j := 1) rfl nd rfl rfl (by decide) rfl rfl (@pa_c _ _ _ _ _ (pv 1) (@pa_c _ _ _ _ _ (@pe_op _ _ _ _ _ _ _ _ op_mod (pv 0) (pv 1)) pa_nil (by rfl)) (by rfl)) rfl))) (@pss_one _ _ _ (@ps_ret _ _ _ _ (pe_cB call_abs rfl T.n_abs boot_abs (@pa_c _ _ _ _ _ (pv 0) pa_nil (by rfl))))))), ?_⟩
    have hbits := bits_le ht
    walk_at "wp"
    refine ⟨rfl, iteN (by rw [decide_eq_false (by omega)]; decide) ?_⟩
    refine ⟨fun n σ H2 => ∃ x y : Int, σ = [some (.int x), some (.int y)] ∧ H2 = H ∧ 0 ≤ y ∧ n = y.toNat ∧ Int.gcd x y = Int.gcd a b, ⟨_, a, b, rfl, rfl, hb, rfl, rfl⟩, ?_⟩
    rintro n σ H2 ⟨x, y, rfl, rfl, hy, rfl, hg⟩
    walk_at "wp"
    refine ite2 (fun hc => ?_) (fun hc => ?_)
    · have hy0 : ¬ y = 0 := by simpa using hc
      have y1 : 0 < y := by omega
      have l1 := Int.emod_nonneg x (show y ≠ 0 by omega)
      have l2 := Int.emod_lt_of_pos x y1
      exact ⟨_, fun _ _ h => h, y1, _, _, ⟨rfl, rfl⟩, (x % y).toNat, by omega, y, x % y, rfl, rfl, l1, rfl, by rw [gcd_step]; exact hg⟩
    · have hy0 : y = 0 := by simpa using hc
      subst hy0
      have e : (if x < 0 then -x else x) = (Int.gcd a b : Int) := by
        rw [← hg, Int.gcd_zero]
        split <;> omega
      rw [e]
      exact q
def PrimeP (p : Int) : Prop := 1 < p ∧ p ≤ 97 ∧ ∀ d : Int, 2 ≤ d → d < p → p % d ≠ 0
def spPrime : Sp := fun vs H Q _ => ∃ p : Int, vs = [.int p] ∧ PrimeP p ∧ ∀ H', Same H H' → Q (.bl true) H'
theorem ok_prime {f : Addr} {fd : FuncData} (F : Fun K "is_prime" "is_prime" s_is_prime f fd) (T : Txt K mg C G S) : FnOk P w K mg base CX0 1 f fd ["number"] spPrime := by
  have nd := sc_is_prime.nd
  refine F.ok sc_is_prime (fun vs H Q E h => ?_) (fun cdv A outer s H vs Q E hr h => ?_)
  · obtain ⟨p, rfl, _⟩ := h
    rfl
  · obtain ⟨p, rfl, ⟨p1, p2, p3⟩, q⟩ := h
    refine ⟨_, (@pss_one _ _ _ (@ps_ret _ _ _ _ (pe_and (pe_cmpR op_gt (pv 0) pe_int (nomark _)) (pe_one (pe_cB (call_all rfl) rfl T.n_all boot_all (@pa_c _ _ _ _ _ (pe_comp (own := ["divisor"]) (fr := [("number", 0)]) rfl (bl_of (by kernel_rfl)) (pi_r2 rfl T.n_range (@pa_c _ _ _ _ _ pe_int (@pa_c _ _ _ _ _ (pv 0) pa_nil (by rfl)) (by rfl))) (fun _ _ _ _ => ⟨(@pg_name _ _ 0 _ (show (["divisor", "number"] : List Str).Nodup by decide +kernel) rfl (Or.inl rfl) (Or.inr rfl)), pts_nil, (pe_cmpR op_ne (@pe_op _ _ _ _ _ _ _ _ op_mod (pv 1) (pv 0)) pe_int (nomark _))⟩)) pa_nil (by rfl))))))), ?_⟩
    walk_at "wp"
    refine iteP (decide_eq_true p1) ⟨_, rfl, 2, p, rfl, ⟨by decide, by decide, by omega, by omega⟩, fun D hD => comp_bl_r (fun _ => true) hD (by omega) (fun i H' Q' hi s' q' => ?_) fun H' s' e' => ⟨D, rfl, _, SqL.of e', ?_⟩⟩
    · have h0 : (0 : Int) < 2 + (i : Int) := by omega
      have hne := p3 (2 + (i : Int)) (by omega) (by omega)
      refine ⟨_, rfl, _, rfl, _, _, rfl, rfl, h0, rfl, ?_⟩
      have : (!decide (V.int (p % (2 + (i : Int))) = V.int 0)) = true := by simp only [V.int.injEq, decide_eq_false hne]; rfl
      rw [this]
      exact q' H' (Same.refl _)
    · rw [all_true]
      exact q H' s'
def GroundP (p : Int) : Prop := p = 0 ∨ PrimeP p
def spTells : Sp := fun vs H Q _ => ∃ p : Int, vs = [.int p] ∧ GroundP p ∧ ∀ H', Same H H' → Q (.bl true) H'
theorem ok_tells {f : Addr} {fd : FuncData} (F : Fun K "tells_ground" "tells_ground" s_tells_ground f fd) (T : Txt K mg C G S) (C_is_whole : Cal P w K mg base "is_whole" 1 spWhole) (C_is_prime : Cal P w K mg base "is_prime" 1 spPrime) : FnOk P w K mg base CX0 2 f fd ["thing"] spTells := by
  have nd := sc_tells_ground.nd
  refine F.ok sc_tells_ground (fun vs H Q E h => ?_) (fun cdv A outer s H vs Q E hr h => ?_)
  · obtain ⟨p, rfl, _⟩ := h
    rfl
  · obtain ⟨p, rfl, hp, q⟩ := h
    have p0 : 0 ≤ p := by rcases hp with rfl | ⟨h, _⟩ <;> omega
    have p97 : p ≤ 97 := by rcases hp with rfl | ⟨_, h, _⟩ <;> omega
    refine ⟨_, (@pss_cons _ _ _ _ _ (@ps_if _ _ _ _ _ _ _ _ (PW.pt (pw_or (pt_not (pt_val (pe_c C_is_whole (hr.mono (by decide)) rfl (@pa_c _ _ _ _ _ (pv 0) pa_nil (by rfl))))) (pw_or1 (pt_not (pt_chain op_le op_le pe_int (pv 0) (pe_globI rfl T.g_LARGEST_PRIME)))))) (@pss_one _ _ _ (@ps_ret _ _ _ _ pe_bl)) pss_nil) (@pss_one _ _ _ (@ps_ret _ _ _ _ (pe_or (pe_cmpR op_eq (pv 0) pe_int (nomark _)) (pe_one (pe_c C_is_prime (hr.mono (by decide)) rfl (@pa_c _ _ _ _ _ (pv 0) pa_nil (by rfl)))))))), ?_⟩
    walk_at "wp"
    refine ⟨p, rfl, true, rfl, iteF (iteP (decide_eq_true p0) (iteN (by rw [decide_eq_true p97]; decide) (ite2 (fun _ => q H (Same.refl _)) (fun hc => ?_))))⟩
    rcases hp with rfl | hp
    · exact absurd (decide_eq_true rfl) hc
    · exact ⟨p, rfl, hp, q⟩
def spFrac : Sp := fun vs H Q _ => ∃ a b : Int, vs = [.int a, .int b] ∧ Top a ∧ 0 < b ∧ b.natAbs ≤ 100000000000000000000000000000000 ∧ ∀ t, H t = none → Q (.ref t) (upd H t (.tup [.int (nrm a b).1, .int (nrm a b).2]))
theorem cdiv_gcd {x a b : Int} (hb : 0 < b) (h : b.natAbs ≤ 100000000000000000000000000000000) : CDivG x (Int.gcd a b : Int) := by
  have h1 := gcd_pos' (a := a) hb
  have h2 := Int.le_of_dvd hb (Int.gcd_dvd_right a b)
  exact ⟨h1, by omega⟩
def gflds (p : Int) : List (Str × V) := putF "prime" (.int p) []
theorem flds_prime (p : Int) : (gflds p).lookup ("prime" : Str) = some (.int p) := by
  unfold gflds
  rw [lookup_putF, if_pos rfl]
theorem gflds_no (p : Int) {x : Str} (h1 : ¬ x = "prime") : (gflds p).lookup x = none := by
  unfold gflds
  rw [lookup_putF, if_neg h1]
  rfl
def spGInit (G : Addr) : Sp := fun vs H Q _ => ∃ (g dx : Addr) (p : Int), vs = [.ref g, .int p] ∧ H g = some (.ins G dx []) ∧ GroundP p ∧ ∀ (H' : Hp), Ext g H H' → H' g = some (.ins G dx (gflds p)) → Q .non H'
theorem ok_ginit {f : Addr} {fd : FuncData} (F : Fun K "__init__" "Ground.__init__" s_Ground_init f fd) (T : Txt K mg C G S) (C_tells_ground : Cal P w K mg base "tells_ground" 2 spTells) : FnOk P w K mg base CX0 3 f fd ["self", "prime"] (spGInit G) := by
  have nd := sc_Ground_init.nd
  refine F.ok sc_Ground_init (fun vs H Q E h => ?_) (fun cdv A outer s H vs Q E hr h => ?_)
  · obtain ⟨g, dx, p, rfl, _⟩ := h
    rfl
  · obtain ⟨g, dx, p, rfl, hg, hp, q⟩ := h
    refine ⟨_, (@pss_cons _ _ _ _ _ (@ps_if _ _ _ _ _ _ _ _ (pt_not (pt_val (pe_c C_tells_ground (hr.mono (by decide)) rfl (@pa_c _ _ _ _ _ (pv 1) pa_nil (by rfl))))) (@pss_one _ _ _ ps_never) pss_nil) (@pss_one _ _ _ (ps_fld (pv 0) (pv 1) rfl))), ?_⟩
    walk_at "wp"
    refine ⟨p, rfl, hp, fun H1 s1 => ⟨true, rfl, iteF ⟨G, dx, [], s1 _ _ hg, T.cl_Ground, T.nP, by show 0 < 1000; decide, ?_⟩⟩⟩
    exact q _ (fun b o nb e => by rw [upd_ne nb]; exact s1 _ _ e) upd_same
end
end Pf
set_option maxHeartbeats 1000000
namespace Pf
open PySem L2 PyProof.Rows
section
variable {P : Program} {w : World} {K : PySem.W.Frag} {mg : Str → Option Value} {base : Heap} {C G S : Addr}
def goodB (p : Int) : Bool := p == 0 || (decide (1 < p) && decide (p ≤ 97) && (List.range 98).all fun d => decide ((d : Int) < 2) || decide (p ≤ (d : Int)) || decide (p % (d : Int) ≠ 0))
theorem goodB_ok {p : Int} (h : goodB p = true) : GroundP p := by
  unfold goodB at h
  simp only [Bool.or_eq_true, Bool.and_eq_true, beq_iff_eq, decide_eq_true_eq, List.all_eq_true, List.mem_range] at h
  rcases h with h | ⟨⟨h1, h2⟩, h3⟩
  · exact .inl h
  · refine .inr ⟨h1, h2, fun d d2 dp => ?_⟩
    have := h3 d.toNat (by omega)
    rw [show ((d.toNat : Nat) : Int) = d by omega] at this
    rcases this with (h | h) | h
    · omega
    · omega
    · exact h
def NumV (H : Hp) (p : Int) (v : V) (x : Int × Int) : Prop := if p = 0 then ∃ t, v = .ref t ∧ H t = some (.tup [.int x.1, .int x.2]) else v = .int x.1
theorem NumV.same {H H' : Hp} {p : Int} {v : V} {x : Int × Int} (h : NumV H p v x) (s : Same H H') : NumV H' p v x := by
  unfold NumV at *
  split
  · rename_i hp
    rw [if_pos hp] at h
    obtain ⟨t, e, ht⟩ := h
    exact ⟨t, e, s _ _ ht⟩
  · rename_i hp
    rw [if_neg hp] at h
    exact h
theorem NumV.tup {H : Hp} {p : Int} {t : Addr} {x : Int × Int} (hp : p = 0) (h : H t = some (.tup [.int x.1, .int x.2])) : NumV H p (.ref t) x := by
  unfold NumV
  rw [if_pos hp]
  exact ⟨t, rfl, h⟩
theorem NumV.of {H : Hp} {p : Int} {x : Int × Int} (hp : ¬ p = 0) : NumV H p (.int x.1) x := by
  unfold NumV
  rw [if_neg hp]
theorem NumV.ref {H : Hp} {p : Int} {v : V} {x : Int × Int} (h : NumV H p v x) (hp : p = 0) : ∃ t, v = .ref t ∧ H t = some (.tup [.int x.1, .int x.2]) := by
  unfold NumV at h
  rw [if_pos hp] at h
  exact h
theorem NumV.int {H : Hp} {p : Int} {v : V} {x : Int × Int} (h : NumV H p v x) (hp : ¬ p = 0) : v = .int x.1 := by
  unfold NumV at h
  rw [if_neg hp] at h
  exact h
theorem GroundP.lo {p : Int} (h : GroundP p) : 0 ≤ p := by rcases h with rfl | ⟨h, _⟩ <;> omega
theorem GroundP.hi {p : Int} (h : GroundP p) : p ≤ 97 := by rcases h with rfl | ⟨_, h, _⟩ <;> omega
def GAt (G : Addr) (H : Hp) (g : Addr) (p : Int) : Prop := ∃ dx, H g = some (.ins G dx (gflds p))
theorem GAt.same {H H' : Hp} {g : Addr} {p : Int} (h : GAt G H g p) (s : Same H H') : GAt G H' g p := let ⟨dx, e⟩ := h; ⟨dx, s _ _ e⟩
end
end Pf
set_option maxHeartbeats 1000000
namespace Pf
open PySem L2 PyProof.Rows
section
variable {P : Program} {w : World} {K : PySem.W.Frag} {mg : Str → Option Value} {base : Heap} {C G S : Addr}
def Kn (H : Hp) (v : V) : Prop := v = .non ∨ (∃ b, v = .bl b) ∨ (∃ i, v = .int i) ∨ (∃ s, v = .str s) ∨ (∃ a xs, v = .ref a ∧ H a = some (.lst xs) ∧ xs.length ≤ 1000) ∨ ∃ a xs, v = .ref a ∧ H a = some (.tup xs) ∧ xs.length ≤ 1000
theorem Kn.same {H H' : Hp} {v : V} (h : Kn H v) (s : Same H H') : Kn H' v := by
  rcases h with h | h | h | h | ⟨a, xs, h1, h2, h3⟩ | ⟨a, xs, h1, h2, h3⟩
  · exact .inl h
  · exact .inr (.inl h)
  · exact .inr (.inr (.inl h))
  · exact .inr (.inr (.inr (.inl h)))
  · exact .inr (.inr (.inr (.inr (.inl ⟨a, xs, h1, s _ _ h2, h3⟩))))
  · exact .inr (.inr (.inr (.inr (.inr ⟨a, xs, h1, s _ _ h2, h3⟩))))
theorem Kn.int {H : Hp} {i : Int} : Kn H (.int i) := .inr (.inr (.inl ⟨i, rfl⟩))
theorem Kn.bl {H : Hp} {i : Bool} : Kn H (.bl i) := .inr (.inl ⟨i, rfl⟩)
theorem Kn.str {H : Hp} {i : Str} : Kn H (.str i) := .inr (.inr (.inr (.inl ⟨i, rfl⟩)))
theorem Kn.lst {H : Hp} {a : Addr} {xs : List V} (h : H a = some (.lst xs)) (hl : xs.length ≤ 1000) : Kn H (.ref a) := .inr (.inr (.inr (.inr (.inl ⟨a, xs, rfl, h, hl⟩))))
theorem Kn.tup {H : Hp} {a : Addr} {xs : List V} (h : H a = some (.tup xs)) (hl : xs.length ≤ 1000) : Kn H (.ref a) := .inr (.inr (.inr (.inr (.inr ⟨a, xs, rfl, h, hl⟩))))
def isI : V → Bool
  | .int _ => true
  | .bl _ => true
  | _ => false
def isBl : V → Bool
  | .bl _ => true
  | _ => false
def isTu (H : Hp) : V → Bool
  | .ref a => match H a with
    | some (.tup _) => true
    | _ => false
  | _ => false
def isLi (H : Hp) : V → Bool
  | .ref a => match H a with
    | some (.lst _) => true
    | _ => false
  | _ => false
def whB : V → Bool
  | .int _ => true
  | _ => false
theorem kn_int {H : Hp} {v : V} (h : Kn H v) : ∃ t, TyOf K H v t ∧ PySem.W.kitOne K t (.type "int") = some (isI v) := by
  rcases h with rfl | ⟨b, rfl⟩ | ⟨i, rfl⟩ | ⟨z, rfl⟩ | ⟨a, xs, rfl, h2, _⟩ | ⟨a, xs, rfl, h2, _⟩
  · exact ⟨_, .non, by kernel_rfl⟩
  · exact ⟨_, .bl b, k_bool_int K⟩
  · exact ⟨_, .int i, k_int_int K⟩
  · exact ⟨_, .str z, by kernel_rfl⟩
  · exact ⟨_, .lst h2, by kernel_rfl⟩
  · exact ⟨_, .tup h2, by kernel_rfl⟩
theorem kn_bool {H : Hp} {v : V} (h : Kn H v) : ∃ t, TyOf K H v t ∧ PySem.W.kitOne K t (.type "bool") = some (isBl v) := by
  rcases h with rfl | ⟨b, rfl⟩ | ⟨i, rfl⟩ | ⟨z, rfl⟩ | ⟨a, xs, rfl, h2, _⟩ | ⟨a, xs, rfl, h2, _⟩
  · exact ⟨_, .non, by kernel_rfl⟩
  · exact ⟨_, .bl b, k_bool_bool K⟩
  · exact ⟨_, .int i, k_int_bool K⟩
  · exact ⟨_, .str z, by kernel_rfl⟩
  · exact ⟨_, .lst h2, by kernel_rfl⟩
  · exact ⟨_, .tup h2, by kernel_rfl⟩
theorem kn_tup {H : Hp} {v : V} (h : Kn H v) : ∃ t, TyOf K H v t ∧ PySem.W.kitOne K t (.type "tuple") = some (isTu H v) := by
  rcases h with rfl | ⟨b, rfl⟩ | ⟨i, rfl⟩ | ⟨z, rfl⟩ | ⟨a, xs, rfl, h2, _⟩ | ⟨a, xs, rfl, h2, _⟩
  · exact ⟨_, .non, by kernel_rfl⟩
  · exact ⟨_, .bl b, by kernel_rfl⟩
  · exact ⟨_, .int i, by kernel_rfl⟩
  · exact ⟨_, .str z, by kernel_rfl⟩
  · refine ⟨_, .lst h2, ?_⟩
    simp only [isTu, h2]
    kernel_rfl
  · refine ⟨_, .tup h2, ?_⟩
    simp only [isTu, h2]
    exact k_tup_tup K
theorem kn_list {H : Hp} {v : V} (h : Kn H v) : ∃ t, TyOf K H v t ∧ PySem.W.kitOne K t (.type "list") = some (isLi H v) := by
  rcases h with rfl | ⟨b, rfl⟩ | ⟨i, rfl⟩ | ⟨z, rfl⟩ | ⟨a, xs, rfl, h2, _⟩ | ⟨a, xs, rfl, h2, _⟩
  · exact ⟨_, .non, by kernel_rfl⟩
  · exact ⟨_, .bl b, by kernel_rfl⟩
  · exact ⟨_, .int i, by kernel_rfl⟩
  · exact ⟨_, .str z, by kernel_rfl⟩
  · refine ⟨_, .lst h2, ?_⟩
    simp only [isLi, h2]
    exact k_list_list K
  · refine ⟨_, .tup h2, ?_⟩
    simp only [isLi, h2]
    kernel_rfl
def spWholeA : Sp := fun vs H Q _ => ∃ v : V, vs = [v] ∧ Kn H v ∧ Q (.bl (whB v)) H
theorem ok_wholeA {f : Addr} {fd : FuncData} (F : Fun K "is_whole" "is_whole" s_is_whole f fd) (T : Txt K mg C G S) : FnOk P w K mg base CX0 1 f fd ["thing"] spWholeA := by
  have nd := sc_is_whole.nd
  refine F.ok sc_is_whole (fun vs H Q E h => ?_) (fun cdv A outer s H vs Q E hr h => ?_)
  · obtain ⟨i, rfl, _⟩ := h
    rfl
  · obtain ⟨v, rfl, hk, q⟩ := h
    refine ⟨_, (@pss_one _ _ _ (@ps_ret _ _ _ _ (pe_and (pe_cB call_isinst rfl T.n_isinstance boot_isinstance (@pa_c _ _ _ _ _ (pv 0) (@pa_c _ _ _ _ _ (pe_ty rfl T.n_int boot_int) pa_nil (by rfl)) (by rfl))) (pe_one (pe_not (pe_cB call_isinst rfl T.n_isinstance boot_isinstance (@pa_c _ _ _ _ _ (pv 0) (@pa_c _ _ _ _ _ (pe_ty rfl T.n_bool boot_bool) pa_nil (by rfl)) (by rfl)))))))), ?_⟩
    walk_at "wp"
    obtain ⟨t1, h1, h2⟩ := kn_int (K := K) hk
    obtain ⟨t2, h3, h4⟩ := kn_bool (K := K) hk
    refine ⟨_, _, ⟨rfl, rfl⟩, _, rfl, _, h1, _, h2, ite2 (fun hc => ⟨_, _, ⟨rfl, rfl⟩, _, rfl, _, h3, _, h4, ?_⟩) (fun hc => ?_)⟩
    · cases v <;> first | exact q | cases hc
    · cases v <;> first | exact q | exact absurd rfl hc
def frB (H : Hp) : V → Bool
  | .ref a => match H a with
    | some (.tup [.int x, .int y]) => decide (1 ≤ y) && decide (Int.gcd x y = 1)
    | _ => false
  | _ => false
def numB (p : Int) (H : Hp) (v : V) : Bool := if p = 0 then frB H v else match v with
  | .int i => decide (0 ≤ i) && decide (i < p)
  | _ => false
def rowB (p wd : Int) (H : Hp) : V → Bool
  | .ref a => match H a with
    | some (.lst xs) => decide ((xs.length : Int) = wd) && xs.all (numB p H)
    | _ => false
  | _ => false
def tabB (p : Int) (H : Hp) : V → Bool
  | .ref a => match H a with
    | some (.tup [.int h, .int wd, .ref r]) => match H r with
      | some (.lst rows) => decide (0 ≤ h) && decide (0 ≤ wd) && decide ((rows.length : Int) = h) && rows.all (rowB p wd H)
      | _ => false
    | _ => false
  | _ => false
def TopV (y : V) : Prop := ∀ i, y = .int i → Top i
def WfN (H : Hp) (v : V) : Prop := Kn H v ∧ ∀ a xs, v = .ref a → H a = some (.tup xs) → ∀ y ∈ xs, Kn H y ∧ TopV y
def WfR (H : Hp) (v : V) : Prop := Kn H v ∧ ∀ a xs, v = .ref a → H a = some (.lst xs) → ∀ y ∈ xs, WfN H y
def WfT (H : Hp) (v : V) : Prop := Kn H v ∧ ∀ a xs, v = .ref a → H a = some (.tup xs) → ∀ y ∈ xs, Kn H y ∧ ∀ r rows, y = .ref r → H r = some (.lst rows) → ∀ z ∈ rows, WfR H z
theorem Kn.back {H H' : Hp} {a : Addr} {o : HO} (h : Kn H (.ref a)) (s : Same H H') (e : H' a = some o) : H a = some o := by
  rcases h with h | ⟨_, h⟩ | ⟨_, h⟩ | ⟨_, h⟩ | ⟨b, xs, h1, h2, _⟩ | ⟨b, xs, h1, h2, _⟩
  · cases h
  · cases h
  · cases h
  · cases h
  · cases h1
    rw [s _ _ h2] at e
    rw [h2, e]
  · cases h1
    rw [s _ _ h2] at e
    rw [h2, e]
theorem Kn.at {H H' : Hp} {a : Addr} (h : Kn H (.ref a)) (s : Same H H') : H' a = H a := by
  rcases h with h | ⟨_, h⟩ | ⟨_, h⟩ | ⟨_, h⟩ | ⟨b, xs, h1, h2, _⟩ | ⟨b, xs, h1, h2, _⟩
  · cases h
  · cases h
  · cases h
  · cases h
  · cases h1
    rw [s _ _ h2, h2]
  · cases h1
    rw [s _ _ h2, h2]
theorem WfN.same {H H' : Hp} {v : V} (h : WfN H v) (s : Same H H') : WfN H' v :=
  ⟨h.1.same s, fun a xs e1 e2 y hy => by subst e1; exact ⟨(h.2 a xs rfl (h.1.back s e2) y hy).1.same s, (h.2 a xs rfl (h.1.back s e2) y hy).2⟩⟩
theorem WfR.same {H H' : Hp} {v : V} (h : WfR H v) (s : Same H H') : WfR H' v :=
  ⟨h.1.same s, fun a xs e1 e2 y hy => by subst e1; exact (h.2 a xs rfl (h.1.back s e2) y hy).same s⟩
theorem WfT.same {H H' : Hp} {v : V} (h : WfT H v) (s : Same H H') : WfT H' v :=
  ⟨h.1.same s, fun a xs e1 e2 y hy => by
    subst e1
    obtain ⟨k, hz⟩ := h.2 a xs rfl (h.1.back s e2) y hy
    exact ⟨k.same s, fun r rows e3 e4 z zz => by subst e3; exact (hz r rows rfl (k.back s e4) z zz).same s⟩⟩
theorem numB_same {H H' : Hp} {p : Int} {v : V} (h : WfN H v) (s : Same H H') : numB p H' v = numB p H v := by
  unfold numB
  split
  · cases v <;> try rfl
    simp only [frB, h.1.at s]
  · rfl
theorem all_congr' {α : Type} {f g : α → Bool} : ∀ {xs : List α}, (∀ x ∈ xs, f x = g x) → xs.all f = xs.all g
  | [], _ => rfl
  | x :: xs, h => by
    rw [List.all_cons, List.all_cons, h x List.mem_cons_self, all_congr' fun y hy => h y (List.mem_cons_of_mem _ hy)]
theorem rowB_same {H H' : Hp} {p wd : Int} {v : V} (h : WfR H v) (s : Same H H') : rowB p wd H' v = rowB p wd H v := by
  cases v <;> try rfl
  rename_i a
  simp only [rowB, h.1.at s]
  split
  · rename_i xs e
    rw [all_congr' fun y hy => numB_same (h.2 a xs rfl e y hy) s]
  · rfl
theorem tabB_same {H H' : Hp} {p : Int} {v : V} (h : WfT H v) (s : Same H H') : tabB p H' v = tabB p H v := by
  cases v <;> try rfl
  rename_i a
  simp only [tabB, h.1.at s]
  split
  · rename_i hh wd r e
    obtain ⟨k, hz⟩ := h.2 a _ rfl e (.ref r) (by simp)
    rw [k.at s]
    split
    · rename_i rows e2
      rw [all_congr' fun y hy => rowB_same (hz r rows rfl e2 y hy) s]
    · rfl
  · rfl
end
end Pf
set_option maxHeartbeats 1000000
namespace Pf
open PySem L2 PyProof.Rows
section
variable {P : Program} {w : World} {K : PySem.W.Frag} {mg : Str → Option Value} {base : Heap} {C G S : Addr}
theorem tu_of {H : Hp} {v : V} (h : Kn H v) (ht : isTu H v = true) : ∃ a xs, v = .ref a ∧ H a = some (.tup xs) ∧ xs.length ≤ 1000 := by
  rcases h with rfl | ⟨b, rfl⟩ | ⟨i, rfl⟩ | ⟨z, rfl⟩ | ⟨a, xs, rfl, h2, _⟩ | h
  · cases ht
  · cases ht
  · cases ht
  · cases ht
  · simp only [isTu, h2] at ht; cases ht
  · exact h
theorem li_of {H : Hp} {v : V} (h : Kn H v) (ht : isLi H v = true) : ∃ a xs, v = .ref a ∧ H a = some (.lst xs) ∧ xs.length ≤ 1000 := by
  rcases h with rfl | ⟨b, rfl⟩ | ⟨i, rfl⟩ | ⟨z, rfl⟩ | h | ⟨a, xs, rfl, h2, _⟩
  · cases ht
  · cases ht
  · cases ht
  · cases ht
  · exact h
  · simp only [isLi, h2] at ht; cases ht
theorem wh_of {v : V} (h : whB v = true) : ∃ i, v = .int i := by
  cases v <;> first | exact ⟨_, rfl⟩ | cases h
theorem frB_noT {H : Hp} {v : V} (h : isTu H v = false) : frB H v = false := by
  cases v <;> try rfl
  simp only [isTu] at h
  simp only [frB]
  split
  · rename_i e; rw [e] at h; cases h
  · rfl
theorem frB_len {H : Hp} {a : Addr} {xs : List V} (h : H a = some (.tup xs)) (hl : xs.length ≠ 2) : frB H (.ref a) = false := by
  simp only [frB, h]
  split
  · rename_i e; cases e; exact absurd rfl hl
  · rfl
theorem frB_two {H : Hp} {a : Addr} {x y : V} (h : H a = some (.tup [x, y])) (hw : whB x = false ∨ whB y = false) : frB H (.ref a) = false := by
  simp only [frB, h]
  split
  · rename_i e
    cases e
    rcases hw with hw | hw <;> cases hw
  · rfl
theorem frB_ints {H : Hp} {a : Addr} {x y : Int} (h : H a = some (.tup [.int x, .int y])) : frB H (.ref a) = (decide (1 ≤ y) && decide (Int.gcd x y = 1)) := by
  simp only [frB, h]
def spFr : Sp := fun vs H Q _ => ∃ v : V, vs = [v] ∧ WfN H v ∧ Q (.bl (frB H v)) H
theorem ok_fr {f : Addr} {fd : FuncData} (F : Fun K "is_fraction" "is_fraction" s_is_fraction f fd) (T : Txt K mg C G S) (C_is_whole : Cal P w K mg base "is_whole" 1 spWholeA) (C_common_divisor : Cal P w K mg base "common_divisor" 1 spCd) : FnOk P w K mg base CX0 2 f fd ["thing"] spFr := by
  have nd := sc_is_fraction.nd
  refine F.ok sc_is_fraction (fun vs H Q E h => ?_) (fun cdv A outer s H vs Q E hr h => ?_)
  · obtain ⟨v, rfl, _⟩ := h
    rfl
  · obtain ⟨v, rfl, ⟨hk, hx⟩, q⟩ := h
    refine ⟨_, (@pss_cons _ _ _ _ _ (@ps_if _ _ _ _ _ _ _ _ (PW.pt (pw_or (pt_not (pt_val (pe_cB call_isinst rfl T.n_isinstance boot_isinstance (@pa_c _ _ _ _ _ (pv 0) (@pa_c _ _ _ _ _ (pe_ty rfl T.n_tuple boot_tuple) pa_nil (by rfl)) (by rfl))))) (pw_or1 (pt_cmpR op_ne (pe_cB call_len_seq rfl T.n_len PySem.boot_len (@pa_c _ _ _ _ _ (pv 0) pa_nil (by rfl))) pe_int (nomark _))))) (@pss_one _ _ _ (@ps_ret _ _ _ _ pe_bl)) pss_nil) (@pss_cons _ _ _ _ _ (ps_asg (pv 0) (@pg_tup _ _ _ _ _ 2 rfl (@pgs_cons _ _ _ _ _ (@pg_name _ _ 1 _ nd rfl (Or.inl rfl) (Or.inl rfl)) (@pgs_cons _ _ _ _ _ (@pg_name _ _ 2 _ nd rfl (Or.inl rfl) (Or.inl rfl)) (@pgs_nil _) (by rfl)) (by rfl)) (by rfl) (by rfl))) (@pss_cons _ _ _ _ _ (@ps_if _ _ _ _ _ _ _ _ (PW.pt (pw_or (pt_not (pt_val (pe_c C_is_whole (hr.mono (by decide)) rfl (@pa_c _ _ _ _ _ (pv 1) pa_nil (by rfl))))) (pw_or (pt_not (pt_val (pe_c C_is_whole (hr.mono (by decide)) rfl (@pa_c _ _ _ _ _ (pv 2) pa_nil (by rfl))))) (pw_or1 (pt_cmpR op_lt (pv 2) pe_int (nomark _)))))) (@pss_one _ _ _ (@ps_ret _ _ _ _ pe_bl)) pss_nil) (@pss_one _ _ _ (@ps_ret _ _ _ _ (pe_cmpR op_eq (pe_c C_common_divisor (hr.mono (by decide)) rfl (@pa_c _ _ _ _ _ (pv 1) (@pa_c _ _ _ _ _ (pv 2) pa_nil (by rfl)) (by rfl))) pe_int (nomark _))))))), ?_⟩
    walk_at "wp"
    obtain ⟨t1, h1, h2⟩ := kn_tup (K := K) hk
    refine ⟨_, _, ⟨rfl, rfl⟩, _, rfl, _, h1, _, h2, ?_⟩
    refine ite2 (fun hc => ?_) (fun hc => ?_)
    · have hc : isTu H v = false := by simpa using hc
      rw [frB_noT hc] at q
      exact q
    · have hc : isTu H v = true := by simpa using hc
      obtain ⟨a, xs, rfl, ha, hl⟩ := tu_of hk hc
      refine ⟨a, rfl, xs, .inr (SqT.of ha), ite2 (fun hn => ?_) (fun hn => ?_)⟩
      · have hn : ¬ xs.length = 2 := by intro z; rw [z] at hn; exact absurd hn (by decide)
        rw [frB_len ha hn] at q
        exact q
      · have hn : xs.length = 2 := by
          have : ((xs.length : Nat) : Int) = 2 := by simpa using hn
          omega
        obtain ⟨x, y, rfl⟩ : ∃ x y, xs = [x, y] := by
          match xs, hn with
          | [x, y], _ => exact ⟨x, y, rfl⟩
        refine ⟨a, rfl, _, SqT.of ha, rfl, _, _, rfl, _, _, rfl, rfl, x, rfl, (hx a _ rfl ha x (by simp)).1, _, rfl, ite2 (fun h1 => ?_) (fun h1 => ?_)⟩
        · rw [frB_two ha (.inl (by simpa using h1))] at q
          exact q
        · obtain ⟨i, rfl⟩ := wh_of (v := x) (by simpa using h1)
          refine ⟨y, rfl, (hx a _ rfl ha y (by simp)).1, _, rfl, ite2 (fun h2 => ?_) (fun h2 => ?_)⟩
          · rw [frB_two ha (.inr (by simpa using h2))] at q
            exact q
          · obtain ⟨j, rfl⟩ := wh_of (v := y) (by simpa using h2)
            rw [frB_ints ha] at q
            refine ⟨j, rfl, ite2 (fun h3 => ?_) (fun h3 => ?_)⟩
            · have h3 := of_decide_eq_true h3
              rw [decide_eq_false (show ¬ 1 ≤ j by omega)] at q
              exact q
            · have h3 : ¬ j < 1 := fun z => h3 (decide_eq_true z)
              refine ⟨i, j, rfl, (hx a _ rfl ha _ (by simp)).2 i rfl, by omega, rfl, ?_⟩
              rw [decide_eq_true (show 1 ≤ j by omega)] at q
              have : decide (V.int (Int.gcd i j : Int) = V.int 1) = decide (Int.gcd i j = 1) := by
                simp only [V.int.injEq]
                by_cases e : Int.gcd i j = 1
                · rw [decide_eq_true e, decide_eq_true (by omega)]
                · rw [decide_eq_false e, decide_eq_false (by omega)]
              rw [this]
              exact q
def spIsN (G : Addr) : Sp := fun vs H Q _ => ∃ (g : Addr) (p : Int) (v : V), vs = [.ref g, v] ∧ GAt G H g p ∧ GroundP p ∧ WfN H v ∧ Q (.bl (numB p H v)) H
theorem numB_pr {p : Int} {H : Hp} {v : V} (hp : ¬ p = 0) (h : whB v = false) : numB p H v = false := by
  unfold numB
  rw [if_neg hp]
  cases v <;> first | rfl | cases h
theorem numB_int {p i : Int} {H : Hp} (hp : ¬ p = 0) : numB p H (.int i) = (decide (0 ≤ i) && decide (i < p)) := by
  unfold numB
  rw [if_neg hp]
theorem numB_fr {p : Int} {H : Hp} {v : V} (hp : p = 0) : numB p H v = frB H v := by
  unfold numB
  rw [if_pos hp]
theorem ok_isn {f : Addr} {fd : FuncData} (F : Fun K "is_number" "Ground.is_number" s_Ground_is_number f fd) (T : Txt K mg C G S) (C_is_whole : Cal P w K mg base "is_whole" 1 spWholeA) (C_is_fraction : Cal P w K mg base "is_fraction" 2 spFr) : FnOk P w K mg base CX0 3 f fd ["self", "thing"] (spIsN G) := by
  have nd := sc_Ground_is_number.nd
  refine F.ok sc_Ground_is_number (fun vs H Q E h => ?_) (fun cdv A outer s H vs Q E hr h => ?_)
  · obtain ⟨g, p, v, rfl, _⟩ := h
    rfl
  · obtain ⟨g, p, v, rfl, ⟨dx, hg⟩, hp, hw, q⟩ := h
    refine ⟨_, (@pss_cons _ _ _ _ _ (@ps_if _ _ _ _ _ _ _ _ (pt_cmpR op_eq (pe_fld (pv 0) rfl) pe_int (nomark _)) (@pss_one _ _ _ (@ps_ret _ _ _ _ (pe_c C_is_fraction (hr.mono (by decide)) rfl (@pa_c _ _ _ _ _ (pv 1) pa_nil (by rfl))))) pss_nil) (@pss_one _ _ _ (@ps_ret _ _ _ _ (pe_and (pe_c C_is_whole (hr.mono (by decide)) rfl (@pa_c _ _ _ _ _ (pv 1) pa_nil (by rfl))) (pe_one (pe_chain op_le op_lt pe_int (pv 1) (pe_fld (pv 0) rfl))))))), ?_⟩
    walk_at "wp"
    refine ⟨G, dx, _, hg, T.cl_Ground, T.nP, _, flds_prime p, rfl, ite2 (fun hc => ?_) (fun hc => ?_)⟩
    · have hp0 : p = 0 := by simpa using hc
      rw [numB_fr hp0] at q
      exact ⟨v, rfl, hw, q⟩
    · have hp0 : ¬ p = 0 := by simpa using hc
      refine ⟨v, rfl, hw.1, _, rfl, ite2 (fun h1 => ?_) (fun h1 => ?_)⟩
      · obtain ⟨i, rfl⟩ := wh_of h1
        rw [numB_int hp0] at q
        refine ⟨i, rfl, ite2 (fun h2 => ⟨G, dx, _, hg, T.cl_Ground, T.nP, _, flds_prime p, i, rfl, p, rfl, ?_⟩) (fun h2 => ?_)⟩
        · rw [h2, Bool.true_and] at q
          exact q
        · rw [show decide (0 ≤ i) = false by simpa using h2, Bool.false_and] at q
          exact q
      · rw [numB_pr hp0 (by simpa using h1)] at q
        exact q
theorem all_at {f : V → Bool} (xs : List V) : ((List.range xs.length).map fun i => f (xs.getD i .non)).all id = xs.all f := by
  rw [Bool.eq_iff_iff, List.all_eq_true, List.all_eq_true]
  constructor
  · intro h x hx
    obtain ⟨i, hi, rfl⟩ := List.mem_iff_getElem.mp hx
    have := h (f (xs.getD i .non)) (List.mem_map.mpr ⟨i, List.mem_range.mpr hi, rfl⟩)
    simpa [hi] using this
  · intro h b hb
    obtain ⟨i, hi, rfl⟩ := List.mem_map.mp hb
    have hi := List.mem_range.mp hi
    simpa [hi] using h _ (List.getElem_mem hi)
theorem getD_of {xs : List V} {i : Nat} {x : V} (h : xs[i]? = some x) : xs.getD i .non = x := by rw [List.getD_eq_getElem?_getD, h]; rfl
def spRowI (G : Addr) : Sp := fun vs H Q _ => ∃ (g : Addr) (p wd : Int) (v : V), vs = [.ref g, .int wd, v] ∧ GAt G H g p ∧ GroundP p ∧ WfR H v ∧ ∀ H', Same H H' → Q (.bl (rowB p wd H v)) H'
theorem rowB_noL {p wd : Int} {H : Hp} {v : V} (h : isLi H v = false) : rowB p wd H v = false := by
  cases v <;> try rfl
  simp only [isLi] at h
  simp only [rowB]
  split
  · rename_i e; rw [e] at h; cases h
  · rfl
theorem rowB_li {p wd : Int} {H : Hp} {a : Addr} {xs : List V} (h : H a = some (.lst xs)) : rowB p wd H (.ref a) = (decide ((xs.length : Int) = wd) && xs.all (numB p H)) := by
  simp only [rowB, h]
theorem ok_isrow {f : Addr} {fd : FuncData} (F : Fun K "is_row" "is_row" s_is_row f fd) (T : Txt K mg C G S) (C_Ground_is_number : CalM P w K mg base G "is_number" 3 (spIsN G)) : FnOk P w K mg base CX0 4 f fd ["ground", "wide", "thing"] (spRowI G) := by
  have nd := sc_is_row.nd
  refine F.ok sc_is_row (fun vs H Q E h => ?_) (fun cdv A outer s H vs Q E hr h => ?_)
  · obtain ⟨g, p, wd, v, rfl, _⟩ := h
    rfl
  · obtain ⟨g, p, wd, v, rfl, ⟨dx, hg⟩, hp, ⟨hk, hx⟩, q⟩ := h
    refine ⟨_, (@pss_cons _ _ _ _ _ (@ps_if _ _ _ _ _ _ _ _ (PW.pt (pw_or (pt_not (pt_val (pe_cB call_isinst rfl T.n_isinstance boot_isinstance (@pa_c _ _ _ _ _ (pv 2) (@pa_c _ _ _ _ _ (pe_ty rfl T.n_list boot_list) pa_nil (by rfl)) (by rfl))))) (pw_or1 (pt_cmpR op_ne (pe_cB call_len_seq rfl T.n_len PySem.boot_len (@pa_c _ _ _ _ _ (pv 2) pa_nil (by rfl))) (pv 1) (nomark _))))) (@pss_one _ _ _ (@ps_ret _ _ _ _ pe_bl)) pss_nil) (@pss_one _ _ _ (@ps_ret _ _ _ _ (pe_cB (call_all rfl) rfl T.n_all boot_all (@pa_c _ _ _ _ _ (pe_comp (own := ["number"]) (fr := [("ground", 0)]) rfl (bl_of (by kernel_rfl)) (pi_list (pv 2)) (fun _ _ _ _ => ⟨(@pg_name _ _ 0 _ (show (["number", "ground"] : List Str).Nodup by decide +kernel) rfl (Or.inl rfl) (Or.inr rfl)), pts_nil, (pe_mth T.cl_Ground C_Ground_is_number (hr.mono (by decide)) (pv 1) (@pa_c _ _ _ _ _ (pv 0) pa_nil (by rfl)))⟩)) pa_nil (by rfl)))))), ?_⟩
    walk_at "wp"
    obtain ⟨t1, h1, h2⟩ := kn_list (K := K) hk
    refine ⟨_, _, ⟨rfl, rfl⟩, _, rfl, _, h1, _, h2, ite2 (fun hc => ?_) (fun hc => ?_)⟩
    · rw [rowB_noL (by simpa using hc)] at q
      exact q H (Same.refl _)
    · obtain ⟨a, xs, rfl, ha, hl⟩ := li_of hk (by simpa using hc)
      rw [rowB_li ha] at q
      refine ⟨a, rfl, xs, .inl (SqL.of ha), ite2 (fun hn => ?_) (fun hn => ?_)⟩
      · rw [show decide ((xs.length : Int) = wd) = false by simpa using hn, Bool.false_and] at q
        exact q H (Same.refl _)
      · rw [show decide ((xs.length : Int) = wd) = true by simpa using hn, Bool.true_and] at q
        refine ⟨_, rfl, a, rfl, ⟨_, SqL.of ha⟩, fun D hD => comp_bl_l (fun i => numB p H (xs.getD i .non)) ha hD (by omega) (fun i y H' Q' hy s' q' => ?_) fun H' s' e' => ⟨D, rfl, _, SqL.of e', ?_⟩⟩
        · have wy := hx a xs rfl ha y (List.mem_of_getElem? hy)
          refine ⟨_, rfl, g, dx, _, rfl, s' _ _ hg, gflds_no _ (by decide +kernel), _, rfl, g, p, y, rfl, ⟨dx, s' _ _ hg⟩, hp, wy.same s', ?_⟩
          rw [numB_same wy s', ← getD_of hy]
          exact q' H' (Same.refl _)
        · rw [all_at]
          exact q H' s'
def spTabI (G : Addr) : Sp := fun vs H Q _ => ∃ (g : Addr) (p : Int) (v : V), vs = [.ref g, v] ∧ GAt G H g p ∧ GroundP p ∧ WfT H v ∧ ∀ H', Same H H' → Q (.bl (tabB p H v)) H'
theorem tabB_noT {p : Int} {H : Hp} {v : V} (h : isTu H v = false) : tabB p H v = false := by
  cases v <;> try rfl
  simp only [isTu] at h
  simp only [tabB]
  split
  · rename_i e; rw [e] at h; cases h
  · rfl
theorem tabB_len {p : Int} {H : Hp} {a : Addr} {xs : List V} (h : H a = some (.tup xs)) (hl : xs.length ≠ 3) : tabB p H (.ref a) = false := by
  simp only [tabB, h]
  split
  · rename_i e; cases e; exact absurd rfl hl
  · rfl
theorem tabB_three {p : Int} {H : Hp} {a : Addr} {x y z : V} (h : H a = some (.tup [x, y, z])) (hw : whB x = false ∨ whB y = false) : tabB p H (.ref a) = false := by
  simp only [tabB, h]
  split
  · rename_i e
    cases e
    rcases hw with hw | hw <;> cases hw
  · rfl
theorem tabB_ints {p : Int} {H : Hp} {a : Addr} {i j : Int} {z : V} (h : H a = some (.tup [.int i, .int j, z])) (hw : (i < 0 ∨ j < 0) ∨ isLi H z = false) : tabB p H (.ref a) = false := by
  simp only [tabB, h]
  split
  · rename_i e
    cases e
    split
    · rename_i rows e2
      rcases hw with (hw | hw) | hw
      · rw [decide_eq_false (show ¬ 0 ≤ i by omega)]; simp
      · rw [decide_eq_false (show ¬ 0 ≤ j by omega)]; simp
      · simp only [isLi, e2] at hw; cases hw
    · rfl
  · rfl
theorem tabB_rows {p : Int} {H : Hp} {a r : Addr} {i j : Int} {rows : List V} (h : H a = some (.tup [.int i, .int j, .ref r])) (hr : H r = some (.lst rows)) (h0 : ¬ i < 0) (h1 : ¬ j < 0) : tabB p H (.ref a) = (decide ((rows.length : Int) = i) && rows.all (rowB p j H)) := by
  simp only [tabB, h, hr]
  rw [decide_eq_true (show 0 ≤ i by omega), decide_eq_true (show 0 ≤ j by omega)]
  rfl
theorem ok_istab {f : Addr} {fd : FuncData} (F : Fun K "is_table" "is_table" s_is_table f fd) (T : Txt K mg C G S) (C_is_whole : Cal P w K mg base "is_whole" 1 spWholeA) (C_is_row : Cal P w K mg base "is_row" 4 (spRowI G)) : FnOk P w K mg base CX0 5 f fd ["ground", "thing"] (spTabI G) := by
  have nd := sc_is_table.nd
  refine F.ok sc_is_table (fun vs H Q E h => ?_) (fun cdv A outer s H vs Q E hr h => ?_)
  · obtain ⟨g, p, v, rfl, _⟩ := h
    rfl
  · obtain ⟨g, p, v, rfl, ⟨dx, hg⟩, hp, ⟨hk, hx⟩, q⟩ := h
    refine ⟨_, (@pss_cons _ _ _ _ _ (@ps_if _ _ _ _ _ _ _ _ (PW.pt (pw_or (pt_not (pt_val (pe_cB call_isinst rfl T.n_isinstance boot_isinstance (@pa_c _ _ _ _ _ (pv 1) (@pa_c _ _ _ _ _ (pe_ty rfl T.n_tuple boot_tuple) pa_nil (by rfl)) (by rfl))))) (pw_or1 (pt_cmpR op_ne (pe_cB call_len_seq rfl T.n_len PySem.boot_len (@pa_c _ _ _ _ _ (pv 1) pa_nil (by rfl))) pe_int (nomark _))))) (@pss_one _ _ _ (@ps_ret _ _ _ _ pe_bl)) pss_nil) (@pss_cons _ _ _ _ _ (ps_asg (pv 1) (@pg_tup _ _ _ _ _ 3 rfl (@pgs_cons _ _ _ _ _ (@pg_name _ _ 2 _ nd rfl (Or.inl rfl) (Or.inl rfl)) (@pgs_cons _ _ _ _ _ (@pg_name _ _ 3 _ nd rfl (Or.inr rfl) (Or.inl rfl)) (@pgs_cons _ _ _ _ _ (@pg_name _ _ 4 _ nd rfl (Or.inl rfl) (Or.inl rfl)) (@pgs_nil _) (by rfl)) (by rfl)) (by rfl)) (by rfl) (by rfl))) (@pss_cons _ _ _ _ _ (@ps_if _ _ _ _ _ _ _ _ (PW.pt (pw_or (pt_not (pt_val (pe_c C_is_whole (hr.mono (by decide)) rfl (@pa_c _ _ _ _ _ (pv 2) pa_nil (by rfl))))) (pw_or (pt_not (pt_val (pe_c C_is_whole (hr.mono (by decide)) rfl (@pa_c _ _ _ _ _ (pv 3) pa_nil (by rfl))))) (pw_or (pt_cmpR op_lt (pv 2) pe_int (nomark _)) (pw_or1 (pt_cmpR op_lt (pv 3) pe_int (nomark _))))))) (@pss_one _ _ _ (@ps_ret _ _ _ _ pe_bl)) pss_nil) (@pss_cons _ _ _ _ _ (@ps_if _ _ _ _ _ _ _ _ (PW.pt (pw_or (pt_not (pt_val (pe_cB call_isinst rfl T.n_isinstance boot_isinstance (@pa_c _ _ _ _ _ (pv 4) (@pa_c _ _ _ _ _ (pe_ty rfl T.n_list boot_list) pa_nil (by rfl)) (by rfl))))) (pw_or1 (pt_cmpR op_ne (pe_cB call_len_seq rfl T.n_len PySem.boot_len (@pa_c _ _ _ _ _ (pv 4) pa_nil (by rfl))) (pv 2) (nomark _))))) (@pss_one _ _ _ (@ps_ret _ _ _ _ pe_bl)) pss_nil) (@pss_one _ _ _ (@ps_ret _ _ _ _ (pe_cB (call_all rfl) rfl T.n_all boot_all (@pa_c _ _ _ _ _ (pe_comp (own := ["row"]) (fr := [("ground", 0), ("wide", 3)]) rfl (bl_of (by kernel_rfl)) (pi_list (pv 4)) (fun _ _ _ _ => ⟨(@pg_name _ _ 0 _ (show (["row", "ground", "wide"] : List Str).Nodup by decide +kernel) rfl (Or.inl rfl) (Or.inr rfl)), pts_nil, (pe_c C_is_row (hr.mono (by decide)) rfl (@pa_c _ _ _ _ _ (pv 1) (@pa_c _ _ _ _ _ (pv 2) (@pa_c _ _ _ _ _ (pv 0) pa_nil (by rfl)) (by rfl)) (by rfl)))⟩)) pa_nil (by rfl))))))))), ?_⟩
    walk_at "wp"
    obtain ⟨t1, h1, h2⟩ := kn_tup (K := K) hk
    refine ⟨_, _, ⟨rfl, rfl⟩, _, rfl, _, h1, _, h2, ite2 (fun hc => ?_) (fun hc => ?_)⟩
    · rw [tabB_noT (by simpa using hc)] at q
      exact q H (Same.refl _)
    · obtain ⟨a, xs, rfl, ha, hl⟩ := tu_of hk (by simpa using hc)
      refine ⟨a, rfl, xs, .inr (SqT.of ha), ite2 (fun hn => ?_) (fun hn => ?_)⟩
      · have hn : ¬ xs.length = 3 := by intro z; rw [z] at hn; exact absurd hn (by decide)
        rw [tabB_len ha hn] at q
        exact q H (Same.refl _)
      · have hn : xs.length = 3 := by
          have : ((xs.length : Nat) : Int) = 3 := by simpa using hn
          omega
        obtain ⟨x, y, z, rfl⟩ : ∃ x y z, xs = [x, y, z] := by
          match xs, hn with
          | [x, y, z], _ => exact ⟨x, y, z, rfl⟩
        have kx := (hx a _ rfl ha x (by simp)).1
        have ky := (hx a _ rfl ha y (by simp)).1
        obtain ⟨kz, hz⟩ := hx a _ rfl ha z (by simp)
        refine ⟨a, rfl, _, SqT.of ha, rfl, _, _, rfl, _, _, rfl, _, _, rfl, rfl, x, rfl, kx, _, rfl, ite2 (fun h1 => ?_) (fun h1 => ?_)⟩
        · rw [tabB_three ha (.inl (by simpa using h1))] at q
          exact q H (Same.refl _)
        · obtain ⟨i, rfl⟩ := wh_of (v := x) (by simpa using h1)
          refine ⟨y, rfl, ky, _, rfl, ite2 (fun h2 => ?_) (fun h2 => ?_)⟩
          · rw [tabB_three ha (.inr (by simpa using h2))] at q
            exact q H (Same.refl _)
          · obtain ⟨j, rfl⟩ := wh_of (v := y) (by simpa using h2)
            refine ⟨i, rfl, ite2 (fun h3 => ?_) (fun h3 => ⟨j, rfl, ite2 (fun h4 => ?_) (fun h4 => ?_)⟩)⟩
            · rw [tabB_ints ha (.inl (.inl (of_decide_eq_true h3)))] at q
              exact q H (Same.refl _)
            · rw [tabB_ints ha (.inl (.inr (of_decide_eq_true h4)))] at q
              exact q H (Same.refl _)
            · have h3 : ¬ i < 0 := fun z => h3 (decide_eq_true z)
              have h4 : ¬ j < 0 := fun z => h4 (decide_eq_true z)
              obtain ⟨t3, h5, h6⟩ := kn_list (K := K) kz
              refine ⟨_, _, ⟨rfl, rfl⟩, _, rfl, _, h5, _, h6, ite2 (fun hc2 => ?_) (fun hc2 => ?_)⟩
              · rw [tabB_ints ha (.inr (by simpa using hc2))] at q
                exact q H (Same.refl _)
              · obtain ⟨r, rows, rfl, hr1, hrl⟩ := li_of kz (by simpa using hc2)
                rw [tabB_rows ha hr1 h3 h4] at q
                have ed : decide (V.int ((rows.length : Nat) : Int) = V.int i) = decide ((rows.length : Int) = i) := by simp only [V.int.injEq]
                refine ⟨r, rfl, rows, .inl (SqL.of hr1), rfl, ite2 (fun hn2 => ?_) (fun hn2 => ?_)⟩
                · rw [ed] at hn2
                  rw [show decide ((rows.length : Int) = i) = false by simpa using hn2, Bool.false_and] at q
                  exact q H (Same.refl _)
                · rw [ed] at hn2
                  rw [show decide ((rows.length : Int) = i) = true by simpa using hn2, Bool.true_and] at q
                  refine ⟨_, rfl, r, rfl, ⟨_, SqL.of hr1⟩, fun D hD => comp_bl_l (fun k => rowB p j H (rows.getD k .non)) hr1 hD (by omega) (fun k y H' Q' hy s' q' => ?_) fun H' s' e' => ⟨D, rfl, _, SqL.of e', ?_⟩⟩
                  · have wy := hz r rows rfl hr1 y (List.mem_of_getElem? hy)
                    refine ⟨_, rfl, _, rfl, _, rfl, g, p, j, y, rfl, ⟨dx, s' _ _ hg⟩, hp, wy.same s', fun H2 s2 => ?_⟩
                    rw [rowB_same wy s', ← getD_of hy]
                    exact q' H2 s2
                  · rw [all_at]
                    exact q H' s'
end
end Pf
set_option maxHeartbeats 1000000
namespace Pf
open PySem L2 PyProof.Rows
section
variable {P : Program} {w : World} {K : PySem.W.Frag} {mg : Str → Option Value} {base : Heap} {C G S : Addr}
def NumO (H : Hp) (p : Int) (B : Nat) (v : V) : Prop := ∃ x, NumV H p v x ∧ Isn p x ∧ Bd B x
theorem NumO.same {H H' : Hp} {p : Int} {B : Nat} {v : V} (h : NumO H p B v) (s : Same H H') : NumO H' p B v := let ⟨x, a, b, c⟩ := h; ⟨x, a.same s, b, c⟩
theorem NumO.weak {H : Hp} {p : Int} {B B' : Nat} {v : V} (h : NumO H p B v) (hB : B ≤ B') : NumO H p B' v := let ⟨x, a, b, c⟩ := h; ⟨x, a, b, Nat.le_trans c.1 hB, Nat.le_trans c.2 hB⟩
theorem NumO.put {H : Hp} {D : Addr} {l : List V} {o : HO} {p : Int} {B : Nat} {v : V} (h : NumO H p B v) (hD : H D = some (.lst l)) : NumO (upd H D o) p B v := by
  obtain ⟨x, a, b, c⟩ := h
  refine ⟨x, ?_, b, c⟩
  by_cases hp : p = 0
  · obtain ⟨t, rfl, ht⟩ := a.ref hp
    exact NumV.tup hp (by rw [upd_ne (ne_of ht hD (by intro z; cases z))]; exact ht)
  · obtain rfl := a.int hp
    exact NumV.of hp
theorem NumV.ext {l : Addr} {H H' : Hp} {p : Int} {v : V} {x : Int × Int} (h : NumV H p v x) (b : Bag H l) (e : Ext l H H') : NumV H' p v x := by
  by_cases hp : p = 0
  · obtain ⟨t, rfl, ht⟩ := h.ref hp
    obtain ⟨a, c, hb, _⟩ := b
    exact NumV.tup hp (e _ _ (ne_of ht hb (by intro z; cases z)) ht)
  · obtain rfl := h.int hp
    exact NumV.of hp
theorem NumO.ext {l : Addr} {H H' : Hp} {p : Int} {B : Nat} {v : V} (h : NumO H p B v) (b : Bag H l) (e : Ext l H H') : NumO H' p B v := let ⟨x, a, c, d⟩ := h; ⟨x, a.ext b e, c, d⟩
def RowO (H : Hp) (p : Int) (B : Nat) (wd : Int) (a : Addr) : Prop := ∃ xs, H a = some (.lst xs) ∧ (xs.length : Int) = wd ∧ ∀ x ∈ xs, NumO H p B x
theorem RowO.same {H H' : Hp} {p wd : Int} {B : Nat} {a : Addr} (h : RowO H p B wd a) (s : Same H H') : RowO H' p B wd a := let ⟨xs, h1, h2, h3⟩ := h; ⟨xs, s _ _ h1, h2, fun x hx => (h3 x hx).same s⟩
theorem RowO.weak {H : Hp} {p wd : Int} {B B' : Nat} {a : Addr} (h : RowO H p B wd a) (hB : B ≤ B') : RowO H p B' wd a := let ⟨xs, h1, h2, h3⟩ := h; ⟨xs, h1, h2, fun x hx => (h3 x hx).weak hB⟩
theorem RowO.ext {l : Addr} {H H' : Hp} {p wd : Int} {B : Nat} {a : Addr} (h : RowO H p B wd a) (b : Bag H l) (e : Ext l H H') (n : a ≠ l) : RowO H' p B wd a := let ⟨xs, h1, h2, h3⟩ := h; ⟨xs, e _ _ n h1, h2, fun x hx => (h3 x hx).ext b e⟩
theorem RowO.put {H : Hp} {D : Addr} {l : List V} {o : HO} {p wd : Int} {B : Nat} {a : Addr} (h : RowO H p B wd a) (hD : H D = some (.lst l)) (n : a ≠ D) : RowO (upd H D o) p B wd a := let ⟨xs, h1, h2, h3⟩ := h; ⟨xs, by rw [upd_ne n]; exact h1, h2, fun x hx => (h3 x hx).put hD⟩
theorem map_ref_snoc (rs : List Addr) (a : Addr) : rs.map V.ref ++ [.ref a] = (rs ++ [a]).map V.ref := by rw [List.map_append]; rfl
abbrev BB : Nat := 10000
theorem get_refs {rs : List Addr} {j : Nat} (h : j < rs.length) : (rs.map V.ref)[j]? = some (.ref rs[j]) := by rw [List.getElem?_map, List.getElem?_eq_getElem h]; rfl
structure Tab (H : Hp) (p : Int) (hh wd : Int) (t r : Addr) (rs : List Addr) : Prop where
  tup : H t = some (.tup [.int hh, .int wd, .ref r])
  lst : H r = some (.lst (rs.map V.ref))
  len : (rs.length : Int) = hh
  row : ∀ a ∈ rs, RowO H p BB wd a
  nin : r ∉ rs
theorem Tab.same {H H' : Hp} {p hh wd : Int} {t r : Addr} {rs : List Addr} (h : Tab H p hh wd t r rs) (s : Same H H') : Tab H' p hh wd t r rs := ⟨s _ _ h.tup, s _ _ h.lst, h.len, fun a ha => (h.row a ha).same s, h.nin⟩
def Fl (v : V) : Prop := v = .non ∨ (∃ b, v = .bl b) ∨ (∃ i, v = .int i) ∨ ∃ s, v = .str s
theorem Fl.kn {H : Hp} {v : V} (h : Fl v) : Kn H v := by
  rcases h with h | h | h | h
  · exact .inl h
  · exact .inr (.inl h)
  · exact .inr (.inr (.inl h))
  · exact .inr (.inr (.inr (.inl h)))
theorem wfn_flat {H : Hp} {v : V} (h : Kn H v) (hn : ∀ a, v ≠ .ref a) : WfN H v := ⟨h, fun a xs e => absurd e (hn a)⟩
theorem wfn_tup {H : Hp} {a : Addr} {xs : List V} (h : H a = some (.tup xs)) (hl : xs.length ≤ 1000) (hk : ∀ y ∈ xs, Kn H y ∧ TopV y) : WfN H (.ref a) := ⟨.tup h hl, fun b ys e1 e2 y hy => by cases e1; rw [h] at e2; cases e2; exact hk y hy⟩
def WfRows (H : Hp) (v : V) : Prop := Kn H v ∧ ∀ r rows, v = .ref r → H r = some (.lst rows) → ∀ z ∈ rows, WfR H z
theorem NumO.wf {H : Hp} {p : Int} {B : Nat} {v : V} (h : NumO H p B v) (hB : B ≤ 100000000000000000000000000000000 := by decide) : WfN H v := by
  obtain ⟨x, nv, _, bd⟩ := h
  by_cases hp : p = 0
  · obtain ⟨t, rfl, ht⟩ := nv.ref hp
    refine wfn_tup ht (by show 2 ≤ 1000; decide) fun u hu => ?_
    simp only [List.mem_cons, List.not_mem_nil, or_false] at hu
    rcases hu with rfl | rfl
    · exact ⟨Kn.int, fun j e => by cases e; exact Top.of (Nat.le_trans bd.1 (by omega))⟩
    · exact ⟨Kn.int, fun j e => by cases e; exact Top.of (Nat.le_trans bd.2 (by omega))⟩
  · obtain rfl := nv.int hp
    exact wfn_flat Kn.int (by intro a z; cases z)
theorem RowO.wf {H : Hp} {p wd : Int} {B : Nat} {a : Addr} (h : RowO H p B wd a) (w24 : wd ≤ 24) (hB : B ≤ 100000000000000000000000000000000 := by decide) : WfR H (.ref a) := by
  obtain ⟨xs, h1, h2, h3⟩ := h
  exact ⟨.lst h1 (by omega), fun b ys e1 e2 y hy => by cases e1; rw [h1] at e2; cases e2; exact (h3 y hy).wf hB⟩
theorem wfs_lst {H : Hp} {a : Addr} {xs : List V} (h : H a = some (.lst xs)) (hl : xs.length ≤ 1000) (hk : ∀ y ∈ xs, WfR H y) : WfRows H (.ref a) := ⟨.lst h hl, fun b ys e1 e2 y hy => by cases e1; rw [h] at e2; cases e2; exact hk y hy⟩
theorem wft_tup {H : Hp} {a : Addr} {xs : List V} (h : H a = some (.tup xs)) (hl : xs.length ≤ 1000) (hk : ∀ y ∈ xs, WfRows H y) : WfT H (.ref a) := ⟨.tup h hl, fun b ys e1 e2 y hy => by cases e1; rw [h] at e2; cases e2; exact hk y hy⟩
theorem wfs_flat {H : Hp} {v : V} (h : Fl v) : WfRows H v := ⟨h.kn, fun a xs e => by subst e; rcases h with h | ⟨_, h⟩ | ⟨_, h⟩ | ⟨_, h⟩ <;> cases h⟩
theorem fi {i : Int} : Fl (.int i) := .inr (.inr (.inl ⟨_, rfl⟩))
theorem fb {i : Bool} : Fl (.bl i) := .inr (.inl ⟨_, rfl⟩)
theorem Tab.wfs {H : Hp} {p hh wd : Int} {t r : Addr} {rs : List Addr} (h : Tab H p hh wd t r rs) (h24 : hh ≤ 24) (w24 : wd ≤ 24) : WfRows H (.ref r) := by
  have := h.len
  exact wfs_lst h.lst (by rw [List.length_map]; omega) fun y hy => by obtain ⟨a, ha, rfl⟩ := List.mem_map.mp hy; exact (h.row a ha).wf w24
theorem three {H : Hp} {x y z : V} (hx : WfRows H x) (hy : WfRows H y) (hz : WfRows H z) : ∀ u ∈ [x, y, z], WfRows H u := fun u hu => by
  simp only [List.mem_cons, List.not_mem_nil, or_false] at hu
  rcases hu with rfl | rfl | rfl
  · exact hx
  · exact hy
  · exact hz
theorem WfRows.same {H H' : Hp} {v : V} (h : WfRows H v) (s : Same H H') : WfRows H' v :=
  ⟨h.1.same s, fun a xs e1 e2 y hy => by subst e1; exact (h.2 a xs rfl (h.1.back s e2) y hy).same s⟩
theorem Tab.ext {l : Addr} {H H' : Hp} {p hh wd : Int} {t r : Addr} {rs : List Addr} (h : Tab H p hh wd t r rs) (b : Bag H l) (e : Ext l H H') (nt : t ≠ l) (nr : r ≠ l) (ns : l ∉ rs) : Tab H' p hh wd t r rs :=
  ⟨e _ _ nt h.tup, e _ _ nr h.lst, h.len, fun a ha => (h.row a ha).ext b e (fun z => ns (z ▸ ha)), h.nin⟩
theorem Tab.wft {H : Hp} {p hh wd : Int} {t r : Addr} {rs : List Addr} (h : Tab H p hh wd t r rs) (h24 : hh ≤ 24) (w24 : wd ≤ 24) : WfT H (.ref t) :=
  wft_tup h.tup (by show 3 ≤ 1000; decide) (three (wfs_flat fi) (wfs_flat fi) (h.wfs h24 w24))
theorem NumO.is {H : Hp} {p : Int} {B : Nat} {v : V} (h : NumO H p B v) : numB p H v = true := by
  obtain ⟨x, nv, ix, _⟩ := h
  by_cases hp : p = 0
  · obtain ⟨t, rfl, ht⟩ := nv.ref hp
    rw [numB_fr hp, frB_ints ht]
    rcases ix with ⟨_, lo⟩ | ⟨h, _⟩
    · have := lo.1
      rw [decide_eq_true (show 1 ≤ x.2 by omega), decide_eq_true lo.2]
      rfl
    · omega
  · obtain rfl := nv.int hp
    rw [numB_int hp]
    rcases ix with ⟨h, _⟩ | ⟨_, h1, h2, _⟩
    · exact absurd h hp
    · rw [decide_eq_true h1, decide_eq_true h2]
      rfl
theorem RowO.is {H : Hp} {p wd : Int} {B : Nat} {a : Addr} (h : RowO H p B wd a) : rowB p wd H (.ref a) = true := by
  obtain ⟨xs, h1, h2, h3⟩ := h
  rw [rowB_li h1, decide_eq_true h2, Bool.true_and]
  exact List.all_eq_true.mpr fun x hx => (h3 x hx).is
theorem Tab.is {H : Hp} {p hh wd : Int} {t r : Addr} {rs : List Addr} (h : Tab H p hh wd t r rs) (h0 : 0 ≤ hh) (w0 : 0 ≤ wd) : tabB p H (.ref t) = true := by
  rw [tabB_rows h.tup h.lst (by omega) (by omega), List.length_map, decide_eq_true h.len, Bool.true_and]
  exact List.all_eq_true.mpr fun y hy => by obtain ⟨a, ha, rfl⟩ := List.mem_map.mp hy; exact (h.row a ha).is
end
end Pf
set_option maxHeartbeats 1000000
namespace Pf
open PySem L2 PyProof.Rows
section
variable {P : Program} {w : World} {K : PySem.W.Frag} {mg : Str → Option Value} {base : Heap} {C G S : Addr}
theorem num_self {H : Hp} {p : Int} {B n : Nat} {v : V} (h : NumO H p B v) : EqD K H n v v true := by
  obtain ⟨x, nv, _⟩ := h
  by_cases hp : p = 0
  · obtain ⟨t, rfl, _⟩ := nv.ref hp
    exact EqD.same
  · obtain rfl := nv.int hp
    have := EqD.flat (K := K) (H := H) (n := n) (x := .int x.1) (y := .int x.1) rfl rfl
    rwa [show eqV (.int x.1) (.int x.1) = true by simp [eqV]] at this
theorem int_self {H : Hp} {n : Nat} {i : Int} : EqD K H n (.int i) (.int i) true := by
  have := EqD.flat (K := K) (H := H) (n := n) (x := .int i) (y := .int i) rfl rfl
  rwa [show eqV (.int i) (.int i) = true by simp [eqV]] at this
theorem rep_all (n : Nat) : (List.replicate n true).all id = true := by simp
theorem list_eq {H : Hp} {n : Nat} {a c : Addr} {xs ys : List V} (ha : H a = some (.lst xs)) (hc : H c = some (.lst ys)) (hl : xs.length = ys.length) (he : ∀ (j : Nat) x y, xs[j]? = some x → ys[j]? = some y → EqD K H n x y true) : EqD K H (n + 1) (.ref a) (.ref c) true := by
  by_cases h : a = c
  · subst h; exact EqD.same
  · have := EqD.list (bs := List.replicate xs.length true) h (SqL.of ha) (SqL.of hc) hl List.length_replicate (fun j x y b e1 e2 e3 => by
      rw [List.getElem?_replicate] at e3
      split at e3
      · cases e3; exact he j x y e1 e2
      · cases e3)
    rwa [rep_all] at this
theorem tup_eq {H : Hp} {n : Nat} {a c : Addr} {xs ys : List V} (ha : H a = some (.tup xs)) (hc : H c = some (.tup ys)) (hl : xs.length = ys.length) (he : ∀ (j : Nat) x y, xs[j]? = some x → ys[j]? = some y → EqD K H n x y true) : EqD K H (n + 1) (.ref a) (.ref c) true := by
  by_cases h : a = c
  · subst h; exact EqD.same
  · have := EqD.tuple (bs := List.replicate xs.length true) h (SqT.of ha) (SqT.of hc) hl List.length_replicate (fun j x y b e1 e2 e3 => by
      rw [List.getElem?_replicate] at e3
      split at e3
      · cases e3; exact he j x y e1 e2
      · cases e3)
    rwa [rep_all] at this
structure TabC (H : Hp) (p hh wd : Int) (t r : Addr) (rs : List Addr) (M : List (List V)) : Prop where
  tab : Tab H p hh wd t r rs
  con : ∀ (i : Nat) (a : Addr), rs[i]? = some a → H a = some (.lst (M.getD i []))
theorem TabC.same {H H' : Hp} {p hh wd : Int} {t r : Addr} {rs : List Addr} {M : List (List V)} (h : TabC H p hh wd t r rs M) (s : Same H H') : TabC H' p hh wd t r rs M := ⟨h.tab.same s, fun i a e => s _ _ (h.con i a e)⟩
theorem TabC.eq {H : Hp} {p hh wd : Int} {t r t' r' : Addr} {rs rs' : List Addr} {M : List (List V)} {n : Nat} (h : TabC H p hh wd t r rs M) (h' : TabC H p hh wd t' r' rs' M) : EqD K H (n + 3) (.ref t) (.ref t') true := by
  have l1 := h.tab.len
  have l2 := h'.tab.len
  refine tup_eq h.tab.tup h'.tab.tup rfl fun j x y e1 e2 => ?_
  match j, e1, e2 with
  | 0, e1, e2 => cases e1; cases e2; exact int_self
  | 1, e1, e2 => cases e1; cases e2; exact int_self
  | 2, e1, e2 =>
    cases e1; cases e2
    refine list_eq h.tab.lst h'.tab.lst (by rw [List.length_map, List.length_map]; omega) fun k x y e1 e2 => ?_
    rw [List.getElem?_map] at e1 e2
    cases f1 : rs[k]? with
    | none => rw [f1] at e1; cases e1
    | some a =>
      cases f2 : rs'[k]? with
      | none => rw [f2] at e2; cases e2
      | some c =>
        rw [f1] at e1; cases e1
        rw [f2] at e2; cases e2
        refine list_eq (h.con k a f1) (h'.con k c f2) rfl fun j x y e1 e2 => ?_
        rw [e1] at e2
        cases e2
        obtain ⟨xs, hx, _, hn⟩ := h.tab.row a (List.mem_of_getElem? f1)
        rw [h.con k a f1] at hx
        cases hx
        exact num_self (hn x (List.mem_of_getElem? e1))
  | j + 3, e1, e2 => cases e1
def Sizes (H : Hp) (z : Addr) (ns : List Int) : Prop := H z = some (.lst (ns.map V.int)) ∧ ns.length ≤ 8 ∧ ∀ n ∈ ns, 0 ≤ n ∧ n ≤ 24
theorem Sizes.same {H H' : Hp} {z : Addr} {ns : List Int} (h : Sizes H z ns) (s : Same H H') : Sizes H' z ns := ⟨s _ _ h.1, h.2⟩
theorem sh_mk3 {cap : L2.St} {a b c : Option V} : Sh 3 cap (a :: b :: c :: cap) := ⟨[a, b, c], rfl, rfl⟩
theorem sh_three {cap σ : L2.St} (h : Sh 3 cap σ) : ∃ a b c, σ = a :: b :: c :: cap := by
  obtain ⟨o, h1, rfl⟩ := h
  match o, h1 with
  | [a, b, c], _ => exact ⟨a, b, c, rfl⟩
theorem at_int {ns : List Int} {i : Int} (h0 : 0 ≤ i) (h1 : i < ns.length) : atI (ns.map V.int) i = some (.int (ns.getD i.toNat 0)) := by
  refine atI_at h0 ?_
  rw [List.getElem?_map, List.getD_eq_getElem?_getD, List.getElem?_eq_getElem (show i.toNat < ns.length by omega)]
  rfl
end
end Pf
set_option maxHeartbeats 1000000
namespace Pf
open PySem L2 PyProof.Rows
section
variable {P : Program} {w : World} {K : PySem.W.Frag} {mg : Str → Option Value} {base : Heap} {C G S : Addr}
def TabF (H0 H : Hp) (p hh wd : Int) (t : Addr) (M : List (List V)) : Prop := ∃ r rs, TabC H p hh wd t r rs M ∧ H0 t = none ∧ H0 r = none ∧ ∀ a ∈ rs, H0 a = none
theorem TabF.same {H0 H H' : Hp} {p hh wd : Int} {t : Addr} {M : List (List V)} (h : TabF H0 H p hh wd t M) (s : Same H H') : TabF H0 H' p hh wd t M := let ⟨r, rs, a, b, c, d⟩ := h; ⟨r, rs, a.same s, b, c, d⟩
def Tbs (H : Hp) (p : Int) (l : Addr) (ts : List Addr) (cs : List (Int × Int × List (List V))) : Prop := H l = some (.lst (ts.map V.ref)) ∧ ts.length = cs.length ∧ cs.length ≤ 9 ∧ ∀ (i : Nat) t c, ts[i]? = some t → cs[i]? = some c → (∃ r rs, TabC H p c.1 c.2.1 t r rs c.2.2) ∧ 0 ≤ c.1 ∧ c.1 ≤ 24 ∧ 0 ≤ c.2.1 ∧ c.2.1 ≤ 24
theorem TabC.put {H : Hp} {p hh wd : Int} {t r D : Addr} {rs : List Addr} {M : List (List V)} {l : List V} {o : HO} (h : TabC H p hh wd t r rs M) (hD : H D = some (.lst l)) (nr : r ≠ D) (ns : D ∉ rs) : TabC (upd H D o) p hh wd t r rs M := by
  have nt : t ≠ D := ne_of h.tab.tup hD (by intro z; cases z)
  have na : ∀ a ∈ rs, a ≠ D := fun a ha z => ns (z ▸ ha)
  exact ⟨⟨by rw [upd_ne nt]; exact h.tab.tup, by rw [upd_ne nr]; exact h.tab.lst, h.tab.len, fun a ha => (h.tab.row a ha).put hD (na a ha), h.tab.nin⟩, fun i a e => by rw [upd_ne (na a (List.mem_of_getElem? e))]; exact h.con i a e⟩
abbrev teRow (K : PySem.W.Frag) : TE := tCB (fun xs H Q => ∃ p, xs = [V.ref p] ∧ ∃ x, (SqL K H p x ∨ SqT K H p x) ∧ ∀ (l : Addr), H l = none → Q (V.ref l) (upd H l (HO.lst x))) (tCons (tVar 0) tNil)
abbrev teTab (K : PySem.W.Frag) : TE := tTup (tCons (tVar 0) (tCons (tVar 1) (tCons (tComp 1 [] (iList K (tVar 2)) (gName 0) tYes (teRow K)) tNil)))
theorem copy_rows {r D : Addr} {rs : List Addr} {M : List (List V)} {fr : List (Str × Nat)} {σ : L2.St} {H1 : Hp} {Q : VK} (hr : H1 r = some (.lst (rs.map V.ref))) (hc : ∀ (i : Nat) (a : Addr), rs[i]? = some a → H1 a = some (.lst (M.getD i []))) (hn : rs.length ≤ 100) (hD : H1 D = none)
    (hQ : ∀ (rs' : List Addr) H', Same H1 H' → H' D = some (.lst (rs'.map V.ref)) → rs'.length = rs.length → (∀ (i : Nat) (a : Addr), rs'[i]? = some a → H' a = some (.lst (M.getD i []))) → (∀ a ∈ rs', H1 a = none ∧ a ≠ D) → rs'.Nodup → Q (.ref D) H') :
    tBlock (gName 0) tYes (teRow K) (Itl K r) D (capS 1 fr σ) H1 Q := by
  refine comp_itl (xs := rs.map V.ref) (fun i vs H => ∃ rs' : List Addr, vs = rs'.map V.ref ∧ Same H1 H ∧ H D = some (.lst vs) ∧ rs'.length = i ∧ (∀ (j : Nat) (a : Addr), rs'[j]? = some a → H a = some (.lst (M.getD j []))) ∧ (∀ a ∈ rs', H1 a = none ∧ a ≠ D) ∧ rs'.Nodup)
    ⟨[], rfl, Same.new hD, upd_same, rfl, fun j a e => by simp at e, (fun a ha => by simp at ha), List.nodup_nil⟩ (fun i vs H _ ⟨_, _, s, _⟩ => SqL.of (s _ _ hr)) ?_ (fun vs H ⟨rs', hv, s, e, hl, hc', fr', nd'⟩ => hQ rs' H s (hv ▸ e) (by rw [hl, List.length_map]) hc' fr' nd')
  rintro i x vs σ' H hi hx sh ⟨rs', rfl, s, e, hl, hc', fr', nd'⟩
  obtain ⟨z, rfl⟩ := sh.one
  rw [List.length_map] at hi
  rw [get_refs hi] at hx
  cases hx
  have ha := s _ _ (hc i _ (List.getElem?_eq_getElem hi))
  simp only [tTurn, gName, tYes, List.set_cons_zero, if_true]
  refine ⟨_, rfl, _, rfl, _, .inl (SqL.of ha), fun c hc0 => ?_⟩
  have nDc : D ≠ c := ne_of_none e hc0
  have hDc : (upd H c (.lst (M.getD i []))) D = some (.lst (rs'.map V.ref)) := by rw [upd_ne nDc]; exact e
  have sc := s.trans (Same.new (o := .lst (M.getD i [])) hc0)
  refine leaf (ws := rs'.map V.ref ++ [.ref c]) (by rw [List.length_map]; exact hi) Sh.mk1 hDc (small1000 (by rw [List.length_map]; omega)) ⟨rs' ++ [c], map_ref_snoc _ _, sc.upd hD, by rw [upd_same, map_ref_snoc], by rw [List.length_append, hl]; rfl, fun j a ej => ?_, fun a ha => ?_, ?_⟩
  · by_cases hj : j < rs'.length
    · rw [List.getElem?_append_left hj] at ej
      have := hc' j a ej
      have naD := (fr' a (List.mem_of_getElem? ej)).2
      rw [upd_ne naD, upd_ne (ne_of_none this hc0)]
      exact this
    · rw [List.getElem?_append_right (by omega)] at ej
      have hj0 : j - rs'.length = 0 := by
        by_cases z : j - rs'.length = 0
        · exact z
        · rw [List.getElem?_eq_none (by simp; omega)] at ej; cases ej
      rw [hj0] at ej
      cases ej
      rw [upd_ne nDc.symm, upd_same, show j = i by omega]
  · rcases List.mem_append.mp ha with ha | ha
    · exact fr' a ha
    · rw [List.mem_singleton.mp ha]
      exact ⟨s.free hc0, nDc.symm⟩
  · refine List.nodup_append.mpr ⟨nd', by simp, fun a ha b hb z => ?_⟩
    rw [List.mem_singleton.mp hb] at z
    subst z
    obtain ⟨j, hj, rfl⟩ := List.mem_iff_getElem.mp ha
    have := hc' j _ (List.getElem?_eq_getElem hj)
    rw [hc0] at this
    cases this
def Sep (H : Hp) (D : Addr) (ts : List Addr) : Prop := ∃ rr : List (Addr × List Addr), rr.length = ts.length ∧ (∀ (i : Nat) t x, ts[i]? = some t → rr[i]? = some x → (∃ h w : V, H t = some (.tup [h, w, .ref x.1])) ∧ H x.1 = some (.lst (x.2.map V.ref))) ∧ (∀ x ∈ rr, x.1 ≠ D ∧ D ∉ x.2) ∧ (∀ x ∈ rr, ∀ y ∈ rr, x.1 ∉ y.2) ∧ (rr.map (·.2)).flatten.Nodup
theorem copy_tabs {l D : Addr} {p : Int} {ts : List Addr} {cs : List (Int × Int × List (List V))} {fr : List (Str × Nat)} {σ : L2.St} {H1 : Hp} {Q : VK} (hT : Tbs H1 p l ts cs) (hD : H1 D = none)
    (hQ : ∀ (ts' : List Addr) H', Same H1 H' → H' D = some (.lst (ts'.map V.ref)) → ts'.length = cs.length → (∀ (i : Nat) t c, ts'[i]? = some t → cs[i]? = some c → TabF H1 H' p c.1 c.2.1 t c.2.2) → Sep H' D ts' → Q (.ref D) H') :
    tBlock (gTup K 3 (gCons (gName 0) (gCons (gName 1) (gCons (gName 2) gNil)))) tYes (teTab K) (Itl K l) D (capS 3 fr σ) H1 Q := by
  obtain ⟨hl, hlen, h9, hc⟩ := hT
  refine comp_itl (k := 3) (xs := ts.map V.ref) (fun i vs H => ∃ (ts' : List Addr) (rr : List (Addr × List Addr)), vs = ts'.map V.ref ∧ Same H1 H ∧ H D = some (.lst vs) ∧ ts'.length = i ∧ rr.length = i ∧ ((∀ x ∈ rr, ∀ y ∈ rr, x.1 ∉ y.2) ∧ (rr.map (·.2)).flatten.Nodup) ∧ (∀ x ∈ rr, x.1 ≠ D ∧ D ∉ x.2 ∧ (∃ o, H x.1 = some o) ∧ ∀ a ∈ x.2, ∃ o, H a = some o) ∧ ∀ (j : Nat) t c x, ts'[j]? = some t → cs[j]? = some c → rr[j]? = some x → TabC H p c.1 c.2.1 t x.1 x.2 c.2.2 ∧ H1 t = none ∧ H1 x.1 = none ∧ ∀ a ∈ x.2, H1 a = none)
    ⟨[], [], rfl, Same.new hD, upd_same, rfl, rfl, ⟨by simp, by simp⟩, by simp, fun j t c x e => by simp at e⟩ (fun i vs H _ ⟨_, _, _, s, _⟩ => SqL.of (s _ _ hl)) ?_ (fun vs H ⟨ts', rr, hv, s, e, hl', hrr, sp, sD, hc'⟩ => ?_)
  rotate_left
  · have hrl : rr.length = ts'.length := by omega
    have htl : ts'.length = cs.length := by rw [hl', List.length_map, hlen]
    refine hQ ts' H s (hv ▸ e) htl (fun i t c e1 e2 => ?_) ⟨rr, hrl, fun i t x e1 e2 => ?_, fun x hx => ⟨(sD x hx).1, (sD x hx).2.1⟩, sp⟩
    · have hi : i < rr.length := by have := (List.getElem?_eq_some_iff.mp e1).1; omega
      obtain ⟨a1, a2, a3, a4⟩ := hc' i t c _ e1 e2 (List.getElem?_eq_getElem hi)
      exact ⟨_, _, a1, a2, a3, a4⟩
    · have hi : i < cs.length := by have := (List.getElem?_eq_some_iff.mp e1).1; omega
      obtain ⟨a1, _⟩ := hc' i t _ x e1 (List.getElem?_eq_getElem hi) e2
      exact ⟨⟨_, _, a1.tab.tup⟩, a1.tab.lst⟩
  rintro i x vs σ' H hi hx sh ⟨ts', rr, rfl, s, e, hl', hrr, sp, sD, hc'⟩
  obtain ⟨z1, z2, z3, rfl⟩ := sh_three sh
  rw [List.length_map] at hi
  rw [get_refs hi] at hx
  cases hx
  have hci : cs[i]? = some (cs[i]'(by omega)) := List.getElem?_eq_getElem (by omega)
  obtain ⟨⟨r, rs, tc⟩, c0, c24, w0, w24⟩ := hc i _ _ (List.getElem?_eq_getElem hi) hci
  have tcH := tc.same s
  have hrl := tc.tab.len
  refine ⟨_, _, rfl, SqT.of tcH.tab.tup, rfl, _, _, rfl, _, _, rfl, _, _, rfl, rfl, ?_⟩
  simp only [tYes, List.set_cons_zero, List.set_cons_succ, if_true]
  refine ⟨_, rfl, _, rfl, _, rfl, r, rfl, ⟨_, SqL.of tcH.tab.lst⟩, fun D2 hD2 => copy_rows (M := (cs[i]'(by omega)).2.2) tcH.tab.lst tcH.con (by omega) hD2 fun rs' H' s' hD2' hl2 hc2 fr2 nd2 => ?_⟩
  refine ⟨by show 3 ≤ sizeLine; decide, fun pt hpt => ?_⟩
  have s0 := Same.new (o := .tup [V.int (cs[i]'(by omega)).1, V.int (cs[i]'(by omega)).2.1, V.ref D2]) hpt
  have s1 := s'.trans s0
  have sA := s.trans s1
  have hDpt := s1 _ _ e
  have nDp : D ≠ pt := ne_of_none (s' _ _ e) hpt
  have nD2 : D2 ≠ D := fun z => by rw [z, e] at hD2; cases hD2
  have nDr : D ∉ rs' := fun z => by have := (fr2 D z).1; rw [e] at this; cases this
  have tcN : TabC (upd H' pt (.tup [V.int (cs[i]'(by omega)).1, V.int (cs[i]'(by omega)).2.1, V.ref D2])) p (cs[i]'(by omega)).1 (cs[i]'(by omega)).2.1 pt D2 rs' (cs[i]'(by omega)).2.2 := by
    refine ⟨⟨upd_same, s0 _ _ hD2', by omega, fun a ha => ?_, fun z => (fr2 D2 z).2 rfl⟩, fun j a ej => s0 _ _ (hc2 j a ej)⟩
    obtain ⟨j, hj, rfl⟩ := List.mem_iff_getElem.mp ha
    have hj' : j < rs.length := by omega
    obtain ⟨ys, hy, hyl, hyn⟩ := tcH.tab.row rs[j] (List.getElem_mem hj')
    rw [tcH.con j _ (List.getElem?_eq_getElem hj')] at hy
    cases hy
    exact ⟨_, s0 _ _ (hc2 j _ (List.getElem?_eq_getElem hj)), hyl, fun y hy => (hyn y hy).same s1⟩
  have sep' : ∀ x ∈ rr ++ [(D2, rs')], ∀ y ∈ rr ++ [(D2, rs')], x.1 ∉ y.2 := fun x hx y hy z => by
    rcases List.mem_append.mp hx with hx | hx <;> rcases List.mem_append.mp hy with hy | hy
    · exact sp.1 x hx y hy z
    · rw [List.mem_singleton.mp hy] at z
      obtain ⟨o, ho⟩ := (sD x hx).2.2.1
      have := (fr2 x.1 z).1
      rw [ho] at this
      cases this
    · rw [List.mem_singleton.mp hx] at z
      obtain ⟨o, ho⟩ := (sD y hy).2.2.2 _ z
      rw [hD2] at ho
      cases ho
    · rw [List.mem_singleton.mp hx, List.mem_singleton.mp hy] at z
      exact (fr2 D2 z).2 rfl
  have nodup' : ((rr ++ [(D2, rs')]).map (·.2)).flatten.Nodup := by
    rw [List.map_append, List.flatten_append]
    refine List.nodup_append.mpr ⟨sp.2, by simpa using nd2, fun a ha b hb z => ?_⟩
    subst z
    obtain ⟨u, hu, hau⟩ := List.mem_flatten.mp ha
    obtain ⟨y, hy, rfl⟩ := List.mem_map.mp hu
    obtain ⟨o, ho⟩ := (sD y hy).2.2.2 a hau
    have := (fr2 a (by simpa using hb)).1
    rw [ho] at this
    cases this
  refine leaf (ws := ts'.map V.ref ++ [.ref pt]) (by rw [List.length_map]; exact hi) sh_mk3 hDpt (small1000 (by rw [List.length_map]; omega)) ⟨ts' ++ [pt], rr ++ [(D2, rs')], map_ref_snoc _ _, sA.upd hD, by rw [upd_same, map_ref_snoc], by rw [List.length_append, hl']; rfl, by rw [List.length_append, hrr]; rfl, ⟨sep', nodup'⟩, fun x hx => ?_, fun j t c x e1 e2 e3 => ?_⟩
  · have keep : ∀ b o, b ≠ D → (upd H' pt (.tup [V.int (cs[i]'(by omega)).1, V.int (cs[i]'(by omega)).2.1, V.ref D2])) b = some o → ∀ o', (upd (upd H' pt (.tup [V.int (cs[i]'(by omega)).1, V.int (cs[i]'(by omega)).2.1, V.ref D2])) D o') b = some o := fun b o nb h o' => by rw [upd_ne nb]; exact h
    rcases List.mem_append.mp hx with hx | hx
    · obtain ⟨x1, x2, ⟨o, ho⟩, x4⟩ := sD x hx
      refine ⟨x1, x2, ⟨o, keep _ _ x1 (s1 _ _ ho) _⟩, fun a ha => ?_⟩
      obtain ⟨o, ho⟩ := x4 a ha
      exact ⟨o, keep _ _ (fun z => x2 (z ▸ ha)) (s1 _ _ ho) _⟩
    · rw [List.mem_singleton.mp hx]
      refine ⟨nD2, nDr, ⟨_, keep _ _ nD2 tcN.tab.lst _⟩, fun a ha => ?_⟩
      obtain ⟨ys, hy, _⟩ := tcN.tab.row a ha
      exact ⟨_, keep _ _ (fun z => nDr (z ▸ ha)) hy _⟩
  by_cases hj : j < ts'.length
  · rw [List.getElem?_append_left hj] at e1
    rw [List.getElem?_append_left (by omega)] at e3
    obtain ⟨a1, a2, a3, a4⟩ := hc' j t c x e1 e2 e3
    obtain ⟨a5, a6, _⟩ := sD x (List.mem_of_getElem? e3)
    exact ⟨(a1.same s1).put hDpt a5 a6, a2, a3, a4⟩
  · rw [List.getElem?_append_right (by omega)] at e1
    rw [List.getElem?_append_right (by omega)] at e3
    have hj0 : j - ts'.length = 0 := by
      by_cases z : j - ts'.length = 0
      · exact z
      · rw [List.getElem?_eq_none (by simp; omega)] at e1; cases e1
    rw [show j - rr.length = 0 by omega] at e3
    rw [hj0] at e1
    cases e1
    cases e3
    have hji : j = i := by omega
    subst hji
    rw [hci] at e2
    cases e2
    exact ⟨tcN.put hDpt nD2 nDr, (s.trans s').free hpt, s.free hD2, fun a ha => s.free (fr2 a ha).1⟩
theorem NumO.extI {x C0 dx : Addr} {fs : List (Str × V)} {H H' : Hp} {p : Int} {B : Nat} {v : V} (h : NumO H p B v) (hx : H x = some (.ins C0 dx fs)) (e : Ext x H H') : NumO H' p B v := by
  obtain ⟨y, nv, b, c⟩ := h
  refine ⟨y, ?_, b, c⟩
  by_cases hp : p = 0
  · obtain ⟨t, rfl, ht⟩ := nv.ref hp
    exact NumV.tup hp (e _ _ (ne_of ht hx (by intro z; cases z)) ht)
  · obtain rfl := nv.int hp
    exact NumV.of hp
theorem TabC.extI {x C0 dx : Addr} {fs : List (Str × V)} {H H' : Hp} {p hh wd : Int} {t r : Addr} {rs : List Addr} {M : List (List V)} (h : TabC H p hh wd t r rs M) (hx : H x = some (.ins C0 dx fs)) (e : Ext x H H') : TabC H' p hh wd t r rs M := by
  refine ⟨⟨e _ _ (ne_of h.tab.tup hx (by intro z; cases z)) h.tab.tup, e _ _ (ne_of h.tab.lst hx (by intro z; cases z)) h.tab.lst, h.tab.len, fun a ha => ?_, h.tab.nin⟩, fun i a ei => e _ _ (ne_of (h.con i a ei) hx (by intro z; cases z)) (h.con i a ei)⟩
  obtain ⟨ys, h1, h2, h3⟩ := h.tab.row a ha
  exact ⟨ys, e _ _ (ne_of h1 hx (by intro z; cases z)) h1, h2, fun y hy => (h3 y hy).extI hx e⟩
theorem Tbs.extI {x C0 dx : Addr} {fs : List (Str × V)} {H H' : Hp} {p : Int} {l : Addr} {ts : List Addr} {cs : List (Int × Int × List (List V))} (h : Tbs H p l ts cs) (hx : H x = some (.ins C0 dx fs)) (e : Ext x H H') : Tbs H' p l ts cs :=
  ⟨e _ _ (ne_of h.1 hx (by intro z; cases z)) h.1, h.2.1, h.2.2.1, fun i t c e1 e2 => let ⟨⟨r, rs, a⟩, b⟩ := h.2.2.2 i t c e1 e2; ⟨⟨r, rs, a.extI hx e⟩, b⟩⟩
theorem Tbs.same {H H' : Hp} {p : Int} {l : Addr} {ts : List Addr} {cs : List (Int × Int × List (List V))} (h : Tbs H p l ts cs) (s : Same H H') : Tbs H' p l ts cs :=
  ⟨s _ _ h.1, h.2.1, h.2.2.1, fun i t c e1 e2 => let ⟨⟨r, rs, a⟩, b⟩ := h.2.2.2 i t c e1 e2; ⟨⟨r, rs, a.same s⟩, b⟩⟩
def sflds (g d z l : Addr) : List (Str × V) := putF "tables" (.ref l) (putF "sizes" (.ref z) (putF "drawing" (.ref d) (putF "ground" (.ref g) [])))
theorem sf_sizes (g d z l : Addr) : (sflds g d z l).lookup ("sizes" : Str) = some (.ref z) := by unfold sflds; rw [lookup_putF, if_neg (by decide +kernel), lookup_putF, if_pos rfl]
def Fits (ns : List Int) (cs : List (Int × Int × List (List V))) (ps : List (Int × Int)) : Prop := cs.length = ps.length ∧ ∀ (i : Nat) c q, cs[i]? = some c → ps[i]? = some q → c.1 = ns.getD q.2.toNat 0 ∧ c.2.1 = ns.getD q.1.toNat 0
end
end Pf
set_option maxRecDepth 50000
set_option maxHeartbeats 500000
namespace Pf
open PySem L2 PyProof.Rows
section
variable {P : Program} {w : World} {K : PySem.W.Frag} {mg : Str → Option Value} {base : Heap} {C G S : Addr}
theorem ok_low {f : Addr} {fd : FuncData} (F : Fun K "_law_low" "_law_low" s_law_low f fd) (T : Txt K mg C G S) : FnOk P w K mg base CX0 1 f fd ["_law_top", "_law_bottom"] spFrac := by
  have nd := sc_law_low.nd
  refine F.ok sc_law_low (fun vs H Q E h => ?_) (fun cdv A outer s H vs Q E hr h => ?_)
  · obtain ⟨a, b, rfl, _⟩ := h
    rfl
  · obtain ⟨a, b, rfl, _, hb, hB, q⟩ := h
    refine ⟨_, (@pss_cons _ _ _ _ _ (ps_set (i := 2) nd rfl (Or.inl rfl) (pe_cB call_abs rfl T.n_abs boot_abs (@pa_c _ _ _ _ _ (pv 0) pa_nil (by rfl)))) (@pss_cons _ _ _ _ _ (ps_set (i := 3) nd rfl (Or.inl rfl) (pe_cB call_abs rfl T.n_abs boot_abs (@pa_c _ _ _ _ _ (pv 1) pa_nil (by rfl)))) (@pss_cons _ _ _ _ _ (ps_while PassesOwn.never (pt_cmpR op_gt (pv 3) pe_int (nomark _)) (@pss_cons _ _ _ _ _ (ps_set (i := 4) nd rfl (Or.inl rfl) (@pe_op _ _ _ _ _ _ _ _ op_mod (pv 2) (pv 3))) (@pss_cons _ _ _ _ _ (ps_set (i := 2) nd rfl (Or.inl rfl) (pv 3)) (@pss_one _ _ _ (ps_set (i := 3) nd rfl (Or.inl rfl) (pv 4)))))) (@pss_cons _ _ _ _ _ (@ps_if _ _ _ _ _ _ _ _ (pt_cmpR op_lt (pv 1) pe_int (nomark _)) (@pss_one _ _ _ (ps_set (i := 2) nd rfl (Or.inl rfl) (pe_un un_neg (pv 2)))) pss_nil) (@pss_one _ _ _ (@ps_ret _ _ _ _ (@pe_tup _ _ _ _ _ (@pa_c _ _ _ _ _ (@pe_op _ _ _ _ _ _ _ _ op_fdivG (pv 0) (pv 2)) (@pa_c _ _ _ _ _ (@pe_op _ _ _ _ _ _ _ _ op_fdivG (pv 1) (pv 2)) pa_nil (by rfl)) (by rfl))))))))), ?_⟩
    walk_at "wp"
    have ea : (if a < 0 then -a else a) = (a.natAbs : Int) := by split <;> omega
    have eb : (if b < 0 then -b else b) = (b.natAbs : Int) := by split <;> omega
    rw [ea, eb]
    refine ⟨fun n σ H2 => ∃ (x y : Int) (v : Option V), σ = [some (.int a), some (.int b), some (.int x), some (.int y), v] ∧ H2 = H ∧ 0 ≤ x ∧ 0 ≤ y ∧ n = y.toNat ∧ Int.gcd x y = Int.gcd a b, ⟨_, _, _, none, rfl, rfl, by omega, by omega, rfl, by unfold Int.gcd; rfl⟩, ?_⟩
    rintro n σ H2 ⟨x, y, v, rfl, rfl, hx, hy, rfl, hg⟩
    walk_at "wp"
    refine ite2 (fun hc => ?_) (fun hc => ?_)
    · have y1 : 0 < y := of_decide_eq_true hc
      have l1 := Int.emod_nonneg x (show y ≠ 0 by omega)
      have l2 := Int.emod_lt_of_pos x y1
      refine ⟨_, fun _ _ h => h, ?_⟩
      walk_at "wp"
      exact ⟨y1, _, by omega, y, x % y, _, ⟨rfl, rfl, rfl⟩, by omega, l1, rfl, by rw [gcd_step]; exact hg⟩
    · have hy0 : ¬ 0 < y := fun z => hc (decide_eq_true z)
      have hy0 : y = 0 := by omega
      subst hy0
      have e : x = (Int.gcd a b : Int) := by
        rw [← hg, Int.gcd_zero]
        omega
      subst e
      refine iteN (by rw [decide_eq_false (by omega)]; decide) ?_
      exact ⟨cdiv_gcd hb hB, cdiv_gcd hb hB, by decide, fun t ht => q t ht⟩
def spNum : Sp := fun vs H Q _ => ∃ (l : Addr) (p : Int), vs = [.ref l, .int p] ∧ Bag H l ∧ GroundP p ∧ ∀ (v : V) (x : Int × Int) (H' : Hp), Ext l H H' → Bag H' l → NumV H' p v x → Isn p x → Bd 5000 x → Q v H'
theorem ok_lnum {f : Addr} {fd : FuncData} (F : Fun K "_law_number" "_law_number" s_law_number f fd) (T : Txt K mg C G S) (C_law_draw : Cal P w K mg base "_law_draw" 1 spDraw) (C_law_low : Cal P w K mg base "_law_low" 1 spFrac) : FnOk P w K mg base CX0 3 f fd ["_law_bag_here", "_law_p"] spNum := by
  have nd := sc_law_number.nd
  refine F.ok sc_law_number (fun vs H Q E h => ?_) (fun cdv A outer s H vs Q E hr h => ?_)
  · obtain ⟨l, p, rfl, _⟩ := h
    rfl
  · obtain ⟨l, p, rfl, hb, hp, q⟩ := h
    have p0 := hp.lo
    have p97 := hp.hi
    refine ⟨_, (@pss_cons _ _ _ _ _ (@ps_if _ _ _ _ _ _ _ _ (pt_cmpR op_gt (pv 1) pe_int (nomark _)) (@pss_one _ _ _ (@ps_ret _ _ _ _ (pe_c C_law_draw (hr.mono (by decide)) rfl (@pa_c _ _ _ _ _ (pv 0) (@pa_c _ _ _ _ _ (pv 1) pa_nil (by rfl)) (by rfl))))) pss_nil) (@pss_cons _ _ _ _ _ (ps_set (i := 2) nd rfl (Or.inl rfl) (@pe_op _ _ _ _ _ _ _ _ op_sub (pe_c C_law_draw (hr.mono (by decide)) rfl (@pa_c _ _ _ _ _ (pv 0) (@pa_c _ _ _ _ _ pe_int pa_nil (by rfl)) (by rfl))) pe_int)) (@pss_one _ _ _ (@ps_ret _ _ _ _ (pe_c C_law_low (hr.mono (by decide)) rfl (@pa_c _ _ _ _ _ (pv 2) (@pa_c _ _ _ _ _ (@pe_op _ _ _ _ _ _ _ _ op_add pe_int (pe_c C_law_draw (hr.mono (by decide)) rfl (@pa_c _ _ _ _ _ (pv 0) (@pa_c _ _ _ _ _ pe_int pa_nil (by rfl)) (by rfl)))) pa_nil (by rfl)) (by rfl))))))), ?_⟩
    walk_at "wp"
    refine ite2 (fun hc => ?_) (fun hc => ?_)
    · have hc := of_decide_eq_true hc
      refine hb.draw hc (by omega) fun z H2 z0 z1 e2 b2 => ?_
      exact q (.int z) (z, 1) H2 e2 b2 (NumV.of (x := (z, 1)) (by omega)) (.inr ⟨hc, z0, z1, rfl⟩) ⟨by show z.natAbs ≤ 5000; omega, by show Int.natAbs 1 ≤ 5000; decide⟩
    · have hc : ¬ 0 < p := fun z => hc (decide_eq_true z)
      have hp0 : p = 0 := by omega
      subst hp0
      have fin : ∀ (H3 : Hp) (a b : Int), Ext l H H3 → Bag H3 l → 0 < b → a.natAbs ≤ 5000 → b.natAbs ≤ 5000 → spFrac [.int a, .int b] H3 Q E0 := fun H3 a b e3 b3 hb0 h1 h2 => by
        refine ⟨a, b, rfl, Top.of (by omega), hb0, by omega, fun t ht => ?_⟩
        have nt := b3.ne ht
        exact q _ (nrm a b) _ (e3.trans (Ext.new ht)) (b3.new nt) (NumV.tup rfl upd_same) (isn_nrm rfl hb0) (nrm_bd hb0 h1 h2)
      exact hb.draw (by decide) (by decide) fun z H2 z0 z1 e2 b2 => ⟨z, rfl, b2.draw (by decide) (by decide) fun a H3 a0 a1 e3 b3 => ⟨a, rfl, fin _ _ _ (e2.trans e3) b3 (by omega) (by omega) (by omega)⟩⟩
theorem bd_int0 {p : Int} {B : Nat} (hp : GroundP p) (hB : 1 ≤ B := by decide) : Bd B (intN p 0) := by
  by_cases h0 : p = 0
  · unfold intN
    rw [if_pos h0]
    exact ⟨Nat.zero_le _, hB⟩
  · unfold intN
    rw [if_neg h0, Int.zero_emod]
    exact ⟨Nat.zero_le _, hB⟩
def spInt : Sp := fun vs H Q _ => ∃ p k : Int, vs = [.int p, .int k] ∧ GroundP p ∧ ∀ v H', Same H H' → NumV H' p v (intN p k) → Q v H'
theorem ok_lint {f : Addr} {fd : FuncData} (F : Fun K "_law_whole" "_law_whole" s_law_whole f fd) (T : Txt K mg C G S) : FnOk P w K mg base CX0 1 f fd ["_law_p", "_law_k"] spInt := by
  have nd := sc_law_whole.nd
  refine F.ok sc_law_whole (fun vs H Q E h => ?_) (fun cdv A outer s H vs Q E hr h => ?_)
  · obtain ⟨p, k, rfl, _⟩ := h
    rfl
  · obtain ⟨p, k, rfl, hp, q⟩ := h
    have p0 := hp.lo
    refine ⟨_, (@pss_cons _ _ _ _ _ (@ps_if _ _ _ _ _ _ _ _ (pt_cmpR op_gt (pv 0) pe_int (nomark _)) (@pss_one _ _ _ (@ps_ret _ _ _ _ (@pe_op _ _ _ _ _ _ _ _ op_mod (pv 1) (pv 0)))) pss_nil) (@pss_one _ _ _ (@ps_ret _ _ _ _ (@pe_tup _ _ _ _ _ (@pa_c _ _ _ _ _ (pv 1) (@pa_c _ _ _ _ _ pe_int pa_nil (by rfl)) (by rfl)))))), ?_⟩
    walk_at "wp"
    refine ite2 (fun hc => ?_) (fun hc => ?_)
    · have hc := of_decide_eq_true hc
      refine ⟨hc, q _ H (Same.refl _) ?_⟩
      have := NumV.of (H := H) (x := intN p k) (show ¬ p = 0 by omega)
      rw [intN, if_neg (by omega)] at this ⊢
      exact this
    · have hc : ¬ 0 < p := fun z => hc (decide_eq_true z)
      have hp0 : p = 0 := by omega
      refine ⟨by decide, fun t ht => q _ _ (Same.new ht) ?_⟩
      rw [intN, if_pos hp0]
      exact NumV.tup hp0 upd_same
def spTb : Sp := fun vs H Q _ => ∃ (l : Addr) (p hh wd : Int), vs = [.ref l, .int p, .int hh, .int wd] ∧ Bag H l ∧ GroundP p ∧ 0 ≤ hh ∧ hh ≤ 24 ∧ 0 ≤ wd ∧ wd ≤ 24 ∧
  ∀ (t r : Addr) (rs : List Addr) (H' : Hp), Ext l H H' → Bag H' l → H t = none → H r = none → (∀ a ∈ rs, H a = none) → (∀ a ∈ rs, RowO H' p 5000 wd a) → Tab H' p hh wd t r rs → Q (.ref t) H'
theorem ok_tb {f : Addr} {fd : FuncData} (F : Fun K "_law_table" "_law_table" s_law_table f fd) (T : Txt K mg C G S) (C_law_draw : Cal P w K mg base "_law_draw" 1 spDraw) (C_law_number : Cal P w K mg base "_law_number" 3 spNum) (C_law_whole : Cal P w K mg base "_law_whole" 1 spInt) : FnOk P w K mg base CX0 4 f fd ["_law_bag_here", "_law_p", "_law_high", "_law_wide"] spTb := by
  have nd := sc_law_table.nd
  refine F.ok sc_law_table (fun vs H Q E h => ?_) (fun cdv A outer s H vs Q E hr h => ?_)
  · obtain ⟨l, p, hh, wd, rfl, _⟩ := h
    rfl
  · obtain ⟨l, p, hh, wd, rfl, hb, hp, h0, h24, w0, w24, q⟩ := h
    refine ⟨_, (@pss_cons _ _ _ _ _ (ps_set (i := 4) nd rfl (Or.inl rfl) (pe_c C_law_draw (hr.mono (by decide)) rfl (@pa_c _ _ _ _ _ (pv 0) (@pa_c _ _ _ _ _ pe_int pa_nil (by rfl)) (by rfl)))) (@pss_cons _ _ _ _ _ (ps_set (i := 5) nd rfl (Or.inl rfl) (@pe_lst _ _ _ _ pa_nil)) (@pss_cons _ _ _ _ _ (ps_for PassesOwn.never rfl (pi_r1 rfl T.n_range (@pa_c _ _ _ _ _ (pv 2) pa_nil (by rfl))) (@pg_name _ _ 6 _ nd rfl (Or.inl rfl) (Or.inl rfl)) (@pss_cons _ _ _ _ _ (ps_set (i := 7) nd rfl (Or.inl rfl) (@pe_lst _ _ _ _ pa_nil)) (@pss_cons _ _ _ _ _ (ps_for PassesOwn.never rfl (pi_r1 rfl T.n_range (@pa_c _ _ _ _ _ (pv 3) pa_nil (by rfl))) (@pg_name _ _ 8 _ nd rfl (Or.inl rfl) (Or.inl rfl)) (@pss_cons _ _ _ _ _ (ps_set (i := 9) nd rfl (Or.inl rfl) (pe_c C_law_number (hr.mono (by decide)) rfl (@pa_c _ _ _ _ _ (pv 0) (@pa_c _ _ _ _ _ (pv 1) pa_nil (by rfl)) (by rfl)))) (@pss_cons _ _ _ _ _ (@ps_if _ _ _ _ _ _ _ _ (PW.pt (pw_and (pt_cmpR op_eq (pv 4) pe_int (nomark _)) (pw_and1 (pt_cmpR op_gt (pe_c C_law_draw (hr.mono (by decide)) rfl (@pa_c _ _ _ _ _ (pv 0) (@pa_c _ _ _ _ _ pe_int pa_nil (by rfl)) (by rfl))) pe_int (nomark _))))) (@pss_one _ _ _ (ps_set (i := 9) nd rfl (Or.inl rfl) (pe_c C_law_whole (hr.mono (by decide)) rfl (@pa_c _ _ _ _ _ (pv 1) (@pa_c _ _ _ _ _ pe_int pa_nil (by rfl)) (by rfl))))) pss_nil) (@pss_one _ _ _ (ps_expr (pe_bm PySem.F.plainAttrs_list PySem.F.slot_list_append PySem.F.type_list_append mt_append (pv 7) (@pa_c _ _ _ _ _ (pv 9) pa_nil (by rfl)))))))) (@pss_one _ _ _ (ps_expr (pe_bm PySem.F.plainAttrs_list PySem.F.slot_list_append PySem.F.type_list_append mt_append (pv 5) (@pa_c _ _ _ _ _ (pv 7) pa_nil (by rfl)))))))) (@pss_one _ _ _ (@ps_ret _ _ _ _ (@pe_tup _ _ _ _ _ (@pa_c _ _ _ _ _ (pv 2) (@pa_c _ _ _ _ _ (pv 3) (@pa_c _ _ _ _ _ (pv 5) pa_nil (by rfl)) (by rfl)) (by rfl)))))))), ?_⟩
    walk_at "wp"
    refine hb.draw (by decide) (by decide) fun z H2 z0 z1 e2 b2 => ⟨by decide, fun r hr0 => ?_⟩
    have nr : r ≠ l := b2.ne hr0
    have fr : H r = none := e2.free nr hr0
    refine ⟨_, rfl, hh, rfl, by omega, by omega, for_range (fun i σ H3 => ∃ (v6 v7 v8 v9 : Option V) (rs : List Addr), σ = [some (.ref l), some (.int p), some (.int hh), some (.int wd), some (.int z), some (.ref r), v6, v7, v8, v9] ∧ Ext l H H3 ∧ Bag H3 l ∧ (∀ a ∈ rs, H a = none) ∧ r ∉ rs ∧ H3 r = some (.lst (rs.map V.ref)) ∧ rs.length = i ∧ ∀ a ∈ rs, RowO H3 p 5000 wd a)
      ⟨none, none, none, none, [], rfl, e2.trans (Ext.new hr0), b2.new nr, by simp, by simp, upd_same, rfl, by simp⟩ ?_ ?_⟩
    · rintro i σ H3 hi ⟨v6, v7, v8, v9, rs, rfl, e3, b3, hf, nm, hr3, hln, hro⟩
      walk_at "wp"
      refine ⟨by decide, fun a ha => ?_⟩
      have na : a ≠ l := b3.ne ha
      have fa : H a = none := e3.free na ha
      have nar : r ≠ a := ne_of_none hr3 ha
      have nas : a ∉ rs := fun z => by obtain ⟨xs, h1, _⟩ := hro a z; rw [ha] at h1; cases h1
      refine ⟨_, rfl, wd, rfl, by omega, by omega, for_range (fun j σ H4 => ∃ (v8 v9 : Option V) (xs : List V), σ = [some (.ref l), some (.int p), some (.int hh), some (.int wd), some (.int z), some (.ref r), some (.int (0 + (i : Int))), some (.ref a), v8, v9] ∧ Ext l H H4 ∧ Bag H4 l ∧ H4 r = some (.lst (rs.map V.ref)) ∧ (∀ a ∈ rs, RowO H4 p 5000 wd a) ∧ H4 a = some (.lst xs) ∧ xs.length = j ∧ ∀ x ∈ xs, NumO H4 p 5000 x)
        ⟨v8, v9, [], rfl, e3.trans (Ext.new ha), b3.new na, by rw [upd_ne nar]; exact hr3, fun b hb => (hro b hb).same (Same.new ha), upd_same, rfl, by simp⟩ ?_ ?_⟩
      · rintro j σ H4 hj ⟨u8, u9, xs, rfl, e4, b4, hr4, hro4, ha4, hlx, hnx⟩
        walk_at "wp"
        have step : ∀ (v : V) (H5 : Hp), Ext l H4 H5 → Bag H5 l → NumO H5 p 5000 v → (Ext l H (upd H5 a (.lst (xs ++ [v]))) ∧ Bag (upd H5 a (.lst (xs ++ [v]))) l ∧ upd H5 a (.lst (xs ++ [v])) r = some (.lst (rs.map V.ref)) ∧ (∀ b ∈ rs, RowO (upd H5 a (.lst (xs ++ [v]))) p 5000 wd b) ∧
            ∃ ys, upd H5 a (.lst (xs ++ [v])) a = some (.lst ys) ∧ ys.length = j + 1 ∧ ∀ x ∈ ys, NumO (upd H5 a (.lst (xs ++ [v]))) p 5000 x) := by
          intro v H5 e5 b5 nv
          have ha5 := e5 _ _ na ha4
          refine ⟨(e4.trans e5).upd fa, b5.new na, by rw [upd_ne nar]; exact e5 _ _ nr hr4, fun b hbm => ?_, _, upd_same, by rw [List.length_append, hlx]; rfl, fun x hx => ?_⟩
          · have nb : b ≠ l := hb.ne (hf b hbm)
            exact ((hro4 b hbm).ext b4 e5 nb).put ha5 (fun z => nas (z ▸ hbm))
          · rcases List.mem_append.mp hx with hx | hx
            · exact ((hnx x hx).ext b4 e5).put ha5
            · rw [List.mem_singleton.mp hx]; exact nv.put ha5
        have hsz : xs.length < sizeLine := small1000 (by omega)
        refine ⟨l, p, rfl, b4, hp, fun v x H5 e5 b5 nv iv bv => ?_⟩
        have ha5 := e5 _ _ na ha4
        refine ite2 (fun _ => b5.draw (by decide) (by decide) fun y H6 y0 y1 e6 b6 => ⟨y, rfl, ite2 (fun _ => ?_) (fun _ => ?_)⟩) (fun _ => ⟨.inl ⟨rfl, _, SqL.of ha5⟩, xs, ha5, hsz, _, _, ⟨rfl, rfl⟩, step v H5 e5 b5 ⟨x, nv, iv, bv⟩⟩)
        · have ha6 := (e5.trans e6) _ _ na ha4
          refine ⟨p, 0, rfl, hp, fun v0 H7 s7 n0 => ?_⟩
          have ha7 := s7 _ _ ha6
          exact ⟨.inl ⟨rfl, _, SqL.of ha7⟩, xs, ha7, hsz, _, _, ⟨rfl, rfl⟩, step v0 H7 ((e5.trans e6).trans s7.ext) (b6.same s7) ⟨_, n0, isn_int hp.lo, bd_int0 hp⟩⟩
        · have ha6 := (e5.trans e6) _ _ na ha4
          exact ⟨.inl ⟨rfl, _, SqL.of ha6⟩, xs, ha6, hsz, _, _, ⟨rfl, rfl⟩, step v H6 (e5.trans e6) b6 ⟨x, nv.ext b5 e6, iv, bv⟩⟩
      · rintro σ H4 ⟨u8, u9, xs, rfl, e4, b4, hr4, hro4, ha4, hlx, hnx⟩
        walk_at "wp"
        refine ⟨.inl ⟨rfl, _, SqL.of hr4⟩, _, hr4, small1000 (by rw [List.length_map]; omega), _, _, _, _, ⟨rfl, rfl, rfl, rfl⟩, e4.upd fr, b4.new nr, rs ++ [a], ?_, ?_, ?_, by rw [List.length_append, hln]; rfl, ?_⟩
        · intro b hbm
          rcases List.mem_append.mp hbm with h | h
          · exact hf b h
          · rw [List.mem_singleton.mp h]; exact fa
        · intro z
          rcases List.mem_append.mp z with h | h
          · exact nm h
          · exact nar (List.mem_singleton.mp h)
        · rw [upd_same, map_ref_snoc]
        · intro b hbm
          rcases List.mem_append.mp hbm with h | h
          · exact (hro4 b h).put hr4 (fun z => nm (z ▸ h))
          · rw [List.mem_singleton.mp h]
            exact RowO.put ⟨xs, ha4, by omega, hnx⟩ hr4 nar.symm
    · rintro σ H3 ⟨v6, v7, v8, v9, rs, rfl, e3, b3, hf, nm, hr3, hln, hro⟩
      walk_at "wp"
      refine ⟨by show 3 ≤ sizeLine; decide, fun t ht => ?_⟩
      have s0 := Same.new (o := .tup [V.int hh, V.int wd, V.ref r]) ht
      exact q t r rs _ (e3.trans (Ext.new ht)) (b3.same s0) (e3.free (b3.ne ht) ht) fr hf (fun a ha => (hro a ha).same s0) ⟨upd_same, s0 _ _ hr3, by omega, fun a ha => ((hro a ha).same s0).weak (by decide), nm⟩
theorem Tab.ext2 {l : Addr} {H H' : Hp} {p hh wd : Int} {t r : Addr} {rs : List Addr} (h : Tab H p hh wd t r rs) (b : Bag H l) (e : Ext l H H') (nr : r ≠ l) (ns : l ∉ rs) : Tab H' p hh wd t r rs :=
  ⟨by obtain ⟨ys, hy⟩ := b.lst; exact e _ _ (ne_of h.tup hy (by intro z; cases z)) h.tup, e _ _ nr h.lst, h.len, fun a ha => (h.row a ha).ext b e (fun z => ns (z ▸ ha)), h.nin⟩
theorem TabC.ext {l : Addr} {H H' : Hp} {p hh wd : Int} {t r : Addr} {rs : List Addr} {M : List (List V)} (h : TabC H p hh wd t r rs M) (b : Bag H l) (e : Ext l H H') (nr : r ≠ l) (ns : l ∉ rs) : TabC H' p hh wd t r rs M :=
  ⟨h.tab.ext2 b e nr ns, fun i a ei => e _ _ (fun z => ns (z ▸ List.mem_of_getElem? ei)) (h.con i a ei)⟩
def rowOf (H : Hp) (a : Addr) : List V := match H a with
  | some (.lst xs) => xs
  | _ => []
theorem Tab.toC {H : Hp} {p hh wd : Int} {t r : Addr} {rs : List Addr} (h : Tab H p hh wd t r rs) : ∃ M, TabC H p hh wd t r rs M := by
  refine ⟨rs.map (rowOf H), h, fun i a e => ?_⟩
  rw [List.getD_eq_getElem?_getD, List.getElem?_map, e]
  obtain ⟨xs, hx, _⟩ := h.row a (List.mem_of_getElem? e)
  show H a = some (.lst (rowOf H a))
  unfold rowOf
  rw [hx]
theorem Prs.bag {l : Addr} {H H' : Hp} {xs : List V} {ps : List (Int × Int)} (h : Prs H xs ps) (b : Bag H l) (e : Ext l H H') : Prs H' xs ps :=
  ⟨h.1, fun i x q h1 h2 => by
    obtain ⟨t, e1, e2⟩ := h.2 i x q h1 h2
    obtain ⟨ys, hy⟩ := b.lst
    exact ⟨t, e1, e _ _ (ne_of e2 hy (by intro z; cases z)) e2⟩⟩
def Sml (H : Hp) (p : Int) (l : Addr) (ts : List Addr) : Prop := ∀ t ∈ ts, ∃ (h w : V) (r : Addr) (rs : List Addr), H t = some (.tup [h, w, .ref r]) ∧ H r = some (.lst (rs.map V.ref)) ∧ (r ≠ l ∧ l ∉ rs) ∧ ∀ a ∈ rs, ∃ xs, H a = some (.lst xs) ∧ ∀ x ∈ xs, NumO H p 5000 x
theorem Sml.same {H H' : Hp} {p : Int} {l : Addr} {ts : List Addr} (h : Sml H p l ts) (s : Same H H') : Sml H' p l ts := fun t ht => by
  obtain ⟨hh, w, r, rs, h1, h2, h4, h3⟩ := h t ht
  exact ⟨hh, w, r, rs, s _ _ h1, s _ _ h2, h4, fun a ha => let ⟨xs, e, n⟩ := h3 a ha; ⟨xs, s _ _ e, fun x hx => (n x hx).same s⟩⟩
end
end Pf
set_option maxRecDepth 50000
set_option maxHeartbeats 500000
namespace Pf
open PySem L2 PyProof.Rows
section
variable {P : Program} {w : World} {K : PySem.W.Frag} {mg : Str → Option Value} {base : Heap} {C G S : Addr}
def spSizes : Sp := fun vs H Q _ => ∃ (l : Addr) (m mo : Int), vs = [.ref l, .int m, .int mo] ∧ Bag H l ∧ 1 ≤ m ∧ m ≤ 8 ∧ 0 ≤ mo ∧ mo ≤ 24 ∧ ∀ (z : Addr) (ns : List Int) (H' : Hp), Ext l H H' → Bag H' l → H z = none → Sizes H' z ns → (ns.length : Int) = m → (∀ n ∈ ns, n ≤ mo) → Q (.ref z) H'
theorem ok_lsz {f : Addr} {fd : FuncData} (F : Fun K "_law_sizes" "_law_sizes" s_law_sizes f fd) (T : Txt K mg C G S) (C_law_draw : Cal P w K mg base "_law_draw" 1 spDraw) : FnOk P w K mg base CX0 2 f fd ["_law_bag_here", "_law_many", "_law_most"] spSizes := by
  have nd := sc_law_sizes.nd
  refine F.ok sc_law_sizes (fun vs H Q E h => ?_) (fun cdv A outer s H vs Q E hr h => ?_)
  · obtain ⟨l, m, mo, rfl, _⟩ := h
    rfl
  · obtain ⟨l, m, mo, rfl, hb, m1, m8, o0, o24, q⟩ := h
    refine ⟨_, (@pss_cons _ _ _ _ _ (ps_set (i := 3) nd rfl (Or.inl rfl) (@pe_lst _ _ _ _ pa_nil)) (@pss_cons _ _ _ _ _ (ps_set (i := 4) nd rfl (Or.inl rfl) (pv 2)) (@pss_cons _ _ _ _ _ (ps_for PassesOwn.never rfl (pi_r1 rfl T.n_range (@pa_c _ _ _ _ _ (pv 1) pa_nil (by rfl))) (@pg_name _ _ 5 _ nd rfl (Or.inl rfl) (Or.inl rfl)) (@pss_cons _ _ _ _ _ (ps_set (i := 6) nd rfl (Or.inl rfl) (pe_cB (call_min2 rfl) rfl T.n_min boot_min (@pa_c _ _ _ _ _ (pv 4) (@pa_c _ _ _ _ _ (pe_c C_law_draw (hr.mono (by decide)) rfl (@pa_c _ _ _ _ _ (pv 0) (@pa_c _ _ _ _ _ pe_int pa_nil (by rfl)) (by rfl))) pa_nil (by rfl)) (by rfl)))) (@pss_cons _ _ _ _ _ (@ps_if _ _ _ _ _ _ _ _ (pt_cmpR op_eq (pe_c C_law_draw (hr.mono (by decide)) rfl (@pa_c _ _ _ _ _ (pv 0) (@pa_c _ _ _ _ _ pe_int pa_nil (by rfl)) (by rfl))) pe_int (nomark _)) (@pss_one _ _ _ (ps_set (i := 6) nd rfl (Or.inl rfl) (pe_c C_law_draw (hr.mono (by decide)) rfl (@pa_c _ _ _ _ _ (pv 0) (@pa_c _ _ _ _ _ (@pe_op _ _ _ _ _ _ _ _ op_add (pv 4) pe_int) pa_nil (by rfl)) (by rfl))))) pss_nil) (@pss_cons _ _ _ _ _ (ps_expr (pe_bm PySem.F.plainAttrs_list PySem.F.slot_list_append PySem.F.type_list_append mt_append (pv 3) (@pa_c _ _ _ _ _ (pv 6) pa_nil (by rfl)))) (@pss_one _ _ _ (ps_set (i := 4) nd rfl (Or.inl rfl) (@pe_op _ _ _ _ _ _ _ _ op_sub (pv 4) (pv 6)))))))) (@pss_one _ _ _ (@ps_ret _ _ _ _ (pv 3)))))), ?_⟩
    walk_at "wp"
    refine ⟨by decide, fun z hz => ?_⟩
    have nz : z ≠ l := hb.ne hz
    refine ⟨_, rfl, m, rfl, by omega, by omega, for_range (fun i σ H3 => ∃ (v5 v6 : Option V) (le : Int) (ns : List Int), σ = [some (.ref l), some (.int m), some (.int mo), some (.ref z), some (.int le), v5, v6] ∧ 0 ≤ le ∧ le ≤ mo ∧ Ext l H H3 ∧ Bag H3 l ∧ H3 z = some (.lst (ns.map V.int)) ∧ ns.length = i ∧ ∀ n ∈ ns, 0 ≤ n ∧ n ≤ mo)
      ⟨none, none, mo, [], rfl, o0, Int.le_refl _, Ext.new hz, hb.new nz, upd_same, rfl, by simp⟩ ?_ ?_⟩
    · rintro i σ H3 hi ⟨v5, v6, le, ns, rfl, l0, l24, e3, b3, hz3, hln, hn⟩
      walk_at "wp"
      have step : ∀ (H5 : Hp) (x : Int), Ext l H3 H5 → Bag H5 l → 0 ≤ x → x ≤ mo → (Ext l H (upd H5 z (.lst (ns.map V.int ++ [.int x]))) ∧ Bag (upd H5 z (.lst (ns.map V.int ++ [.int x]))) l ∧ ∃ ys : List Int, upd H5 z (.lst (ns.map V.int ++ [.int x])) z = some (.lst (ys.map V.int)) ∧ ys.length = i + 1 ∧ ∀ n ∈ ys, 0 ≤ n ∧ n ≤ mo) := by
        intro H5 x e5 b5 x0 x24
        refine ⟨(e3.trans e5).upd hz, b5.new nz, ns ++ [x], by rw [upd_same, List.map_append]; rfl, by rw [List.length_append, hln]; rfl, fun n hnn => ?_⟩
        rcases List.mem_append.mp hnn with h | h
        · exact hn n h
        · rw [List.mem_singleton.mp h]; exact ⟨x0, x24⟩
      have hsz : (ns.map V.int).length < sizeLine := small1000 (by rw [List.length_map]; omega)
      refine b3.draw (by decide) (by decide) fun y H4 y0 y1 e4 b4 => ⟨le, y, ⟨rfl, rfl⟩, b4.draw (by decide) (by decide) fun u H5 u0 u1 e5 b5 => ⟨rfl, ite2 (fun _ => b5.draw (by omega) (by omega) fun x H6 x0 x1 e6 b6 => ?_) (fun _ => ?_)⟩⟩
      · have e := (e4.trans e5).trans e6
        exact ⟨.inl ⟨rfl, _, SqL.of (e _ _ nz hz3)⟩, _, e _ _ nz hz3, hsz, x, rfl, _, _, _, ⟨rfl, rfl, rfl⟩, by omega, by omega, step H6 x e b6 x0 (by omega)⟩
      · have e := e4.trans e5
        have k0 : 0 ≤ (if y < le then y else le) := by split <;> omega
        have k1 : (if y < le then y else le) ≤ le := by split <;> omega
        exact ⟨.inl ⟨rfl, _, SqL.of (e _ _ nz hz3)⟩, _, e _ _ nz hz3, hsz, _, _, _, ⟨rfl, rfl, rfl⟩, by omega, by omega, step H5 _ e b5 k0 (by omega)⟩
    · rintro σ H3 ⟨v5, v6, le, ns, rfl, l0, l24, e3, b3, hz3, hln, hn⟩
      exact ⟨_, rfl, q z ns H3 e3 b3 hz ⟨hz3, by omega, fun n h => ⟨(hn n h).1, by have := (hn n h).2; omega⟩⟩ (by omega) (fun n h => (hn n h).2)⟩
def spTbs : Sp := fun vs H Q _ => ∃ (l a z : Addr) (p m : Int) (xs : List V) (ps : List (Int × Int)) (ns : List Int), vs = [.ref l, .int p, .ref a, .ref z] ∧ Bag H l ∧ GroundP p ∧ H a = some (.lst xs) ∧ Prs H xs ps ∧ InP m ps ∧ ps.length ≤ 9 ∧ Sizes H z ns ∧ (ns.length : Int) = m ∧ a ≠ l ∧ z ≠ l ∧
  ∀ (l' : Addr) (ts : List Addr) (cs : List (Int × Int × List (List V))) (H' : Hp), Ext l H H' → Bag H' l → H l' = none → Tbs H' p l' ts cs → (∀ (i : Nat) t c, ts[i]? = some t → cs[i]? = some c → TabF H H' p c.1 c.2.1 t c.2.2) → Fits ns cs ps → Q (.ref l') H'
theorem ok_tbs {f : Addr} {fd : FuncData} (F : Fun K "_law_tables" "_law_tables" s_law_tables f fd) (T : Txt K mg C G S) (C_law_table : Cal P w K mg base "_law_table" 4 spTb) : FnOk P w K mg base CX0 5 f fd ["_law_bag_here", "_law_p", "_law_arrows", "_law_sizes_here"] spTbs := by
  have nd := sc_law_tables.nd
  refine F.ok sc_law_tables (fun vs H Q E h => ?_) (fun cdv A outer s H vs Q E hr h => ?_)
  · obtain ⟨l, a, z, p, m, xs, ps, ns, rfl, _⟩ := h
    rfl
  · obtain ⟨l, a, z, p, m, xs, ps, ns, rfl, hb, hp, ha, pr, ip, p9, hz, hm, na, nz, q⟩ := h
    refine ⟨_, (@pss_cons _ _ _ _ _ (ps_set (i := 4) nd rfl (Or.inl rfl) (@pe_lst _ _ _ _ pa_nil)) (@pss_cons _ _ _ _ _ (ps_for PassesOwn.never rfl (pi_list (pv 2)) (@pg_tup _ _ _ _ _ 2 rfl (@pgs_cons _ _ _ _ _ (@pg_name _ _ 5 _ nd rfl (Or.inl rfl) (Or.inl rfl)) (@pgs_cons _ _ _ _ _ (@pg_name _ _ 6 _ nd rfl (Or.inl rfl) (Or.inl rfl)) (@pgs_nil _) (by rfl)) (by rfl)) (by rfl) (by rfl)) (@pss_one _ _ _ (ps_expr (pe_bm PySem.F.plainAttrs_list PySem.F.slot_list_append PySem.F.type_list_append mt_append (pv 4) (@pa_c _ _ _ _ _ (pe_c C_law_table (hr.mono (by decide)) rfl (@pa_c _ _ _ _ _ (pv 0) (@pa_c _ _ _ _ _ (pv 1) (@pa_c _ _ _ _ _ (@pe_ix _ _ _ _ _ _ _ ix_list (pv 3) (pv 6) (fun _ _ => rfl)) (@pa_c _ _ _ _ _ (@pe_ix _ _ _ _ _ _ _ ix_list (pv 3) (pv 5) (fun _ _ => rfl)) pa_nil (by rfl)) (by rfl)) (by rfl)) (by rfl))) pa_nil (by rfl)))))) (@pss_one _ _ _ (@ps_ret _ _ _ _ (pv 4))))), ?_⟩
    walk_at "wp"
    refine ⟨by decide, fun tl htl => ?_⟩
    have ntl : tl ≠ l := hb.ne htl
    have nat : a ≠ tl := ne_of_none ha htl
    have nzt : z ≠ tl := ne_of_none hz.1 htl
    have hxl := pr.1
    refine ⟨_, rfl, a, rfl, ⟨_, SqL.of (Same.new htl _ _ ha)⟩, for_list (xs := xs) (fun i σ H3 => ∃ (v5 v6 : Option V) (ts : List Addr) (cs : List (Int × Int × List (List V))), σ = [some (.ref l), some (.int p), some (.ref a), some (.ref z), some (.ref tl), v5, v6] ∧ Ext l H H3 ∧ Bag H3 l ∧ H3 tl = some (.lst (ts.map V.ref)) ∧ ts.length = i ∧ cs.length = i ∧
        (∀ (j : Nat) t c, ts[j]? = some t → cs[j]? = some c → ∃ r rs, TabC H3 p c.1 c.2.1 t r rs c.2.2 ∧ (H t = none ∧ H r = none ∧ ∀ a ∈ rs, H a = none) ∧ r ≠ l ∧ l ∉ rs ∧ r ≠ tl ∧ tl ∉ rs) ∧ (∀ c ∈ cs, 0 ≤ c.1 ∧ c.1 ≤ 24 ∧ 0 ≤ c.2.1 ∧ c.2.1 ≤ 24) ∧ ∀ (j : Nat) c q, cs[j]? = some c → ps[j]? = some q → c.1 = ns.getD q.2.toNat 0 ∧ c.2.1 = ns.getD q.1.toNat 0)
      ⟨none, none, [], [], rfl, Ext.new htl, hb.new ntl, upd_same, rfl, rfl, fun j t c e => by simp at e, by simp, fun j c q e => by simp at e⟩ (fun i σ H2 _ ⟨_, _, _, _, _, e3, _⟩ => SqL.of (e3 _ _ na ha)) ?_ ?_⟩
    · rintro i x σ H3 hi ⟨v5, v6, ts, cs, rfl, e3, b3, ht3, hln, hlc, hc, hb24, hf⟩
      walk_at "wp"
      have hi1 : i < xs.length := (List.getElem?_eq_some_iff.mp hi).1
      have hq : ps[i]? = some (ps[i]'(by omega)) := List.getElem?_eq_getElem (by omega)
      obtain ⟨ta, rfl, hta⟩ := (pr.bag hb e3).2 i x _ hi hq
      have hz3 := e3 _ _ nz hz.1
      obtain ⟨i0, i1, j0, j1⟩ := ip _ (List.mem_of_getElem? hq)
      have a1 := at_int (ns := ns) i0 (by omega)
      have a2 := at_int (ns := ns) j0 (by omega)
      have b1 := hz.2.2 (ns.getD ps[i].1.toNat 0) (by rw [List.getD_eq_getElem?_getD, List.getElem?_eq_getElem (show ps[i].1.toNat < ns.length by omega)]; exact List.getElem_mem _)
      have b2 := hz.2.2 (ns.getD ps[i].2.toNat 0) (by rw [List.getD_eq_getElem?_getD, List.getElem?_eq_getElem (show ps[i].2.toNat < ns.length by omega)]; exact List.getElem_mem _)
      refine ⟨ta, rfl, _, SqT.of hta, rfl, _, _, rfl, _, _, rfl, rfl, .inl ⟨rfl, _, SqL.of ht3⟩, _, _, rfl, SqL.of hz3, _, a2, _, _, rfl, SqL.of hz3, _, a1, l, p, _, _, rfl, b3, hp, b2.1, b2.2, b1.1, b1.2, fun t r rs H4 e4 b4 ft fr fs sm tb => ?_⟩
      obtain ⟨M, tc⟩ := tb.toC
      have ht4 := e4 _ _ ntl ht3
      refine ⟨_, ht4, small1000 (by rw [List.length_map]; omega), _, _, ⟨rfl, rfl⟩, (e3.trans e4).upd htl, b4.new ntl, ts ++ [t], by rw [upd_same, map_ref_snoc], by rw [List.length_append, hln]; rfl, cs ++ [(ns.getD ps[i].2.toNat 0, ns.getD ps[i].1.toNat 0, M)], by rw [List.length_append, hlc]; rfl, ?_, ?_, ?_⟩
      · intro j t' c e1 e2
        by_cases hj : j < ts.length
        · rw [List.getElem?_append_left hj] at e1
          rw [List.getElem?_append_left (by omega)] at e2
          obtain ⟨r', rs', tc', sm', n1, n2, n3, n4⟩ := hc j t' c e1 e2
          exact ⟨r', rs', (tc'.ext b3 e4 n1 n2).put ht4 n3 n4, sm', n1, n2, n3, n4⟩
        · rw [List.getElem?_append_right (by omega)] at e1 e2
          have hj0 : j - ts.length = 0 := by
            by_cases z : j - ts.length = 0
            · exact z
            · rw [List.getElem?_eq_none (by simp; omega)] at e1; cases e1
          rw [hj0] at e1
          rw [show j - cs.length = 0 by omega] at e2
          cases e1
          cases e2
          have n3 : r ≠ tl := fun z => by rw [z, ht3] at fr; cases fr
          have n4 : tl ∉ rs := fun z => by have := fs tl z; rw [ht3] at this; cases this
          exact ⟨r, rs, tc.put ht4 n3 n4, ⟨e3.free (b3.ne ft) ft, e3.free (b3.ne fr) fr, fun a ha => e3.free (b3.ne (fs a ha)) (fs a ha)⟩, b3.ne fr, fun z => absurd rfl (b3.ne (fs l z)), n3, n4⟩
      · intro c hcm
        rcases List.mem_append.mp hcm with h | h
        · exact hb24 c h
        · rw [List.mem_singleton.mp h]; exact ⟨b2.1, b2.2, b1.1, b1.2⟩
      · intro j c q' e1 e2
        by_cases hj : j < cs.length
        · rw [List.getElem?_append_left hj] at e1
          exact hf j c q' e1 e2
        · rw [List.getElem?_append_right (by omega)] at e1
          have hj0 : j - cs.length = 0 := by
            by_cases z : j - cs.length = 0
            · exact z
            · rw [List.getElem?_eq_none (by simp; omega)] at e1; cases e1
          rw [hj0] at e1
          cases e1
          rw [show j = i by omega, hq] at e2
          cases e2
          exact ⟨rfl, rfl⟩
    · rintro σ H3 ⟨v5, v6, ts, cs, rfl, e3, b3, ht3, hln, hlc, hc, hb24, hf⟩
      refine ⟨_, rfl, q tl ts cs H3 e3 b3 htl ⟨ht3, by omega, by omega, fun i t c e1 e2 => ?_⟩ (fun i t c e1 e2 => ?_) ⟨by omega, hf⟩⟩
      · obtain ⟨r, rs, tc, _⟩ := hc i t c e1 e2
        exact ⟨⟨r, rs, tc⟩, hb24 c (List.mem_of_getElem? e2)⟩
      · obtain ⟨r, rs, tc, ⟨f1, f2, f3⟩, _⟩ := hc i t c e1 e2
        exact ⟨r, rs, tc, f1, f2, f3⟩
end
end Pf
set_option maxHeartbeats 1000000
namespace Pf
open PySem L2 PyProof.Rows
structure Cs where
  LimbError : Addr
  NoGround : Addr
  NoNumber : Addr
  NoTable : Addr
  NoDrawing : Addr
  NoKind : Addr
  NoStanding : Addr
  NoChange : Addr
  NoMirror : Addr
  NoRoot : Addr
  NoText : Addr
  NoRow : Addr
  NoName : Addr
structure Xt (K : PySem.W.Frag) (mg : Str → Option Value) (base : Heap) (cc : Cs) : Prop where
  g_LimbError : mg "LimbError" = some (.ref cc.LimbError)
  g_NoGround : mg "NoGround" = some (.ref cc.NoGround)
  g_NoNumber : mg "NoNumber" = some (.ref cc.NoNumber)
  g_NoTable : mg "NoTable" = some (.ref cc.NoTable)
  g_NoDrawing : mg "NoDrawing" = some (.ref cc.NoDrawing)
  g_NoKind : mg "NoKind" = some (.ref cc.NoKind)
  g_NoStanding : mg "NoStanding" = some (.ref cc.NoStanding)
  g_NoChange : mg "NoChange" = some (.ref cc.NoChange)
  g_NoMirror : mg "NoMirror" = some (.ref cc.NoMirror)
  g_NoRoot : mg "NoRoot" = some (.ref cc.NoRoot)
  g_NoText : mg "NoText" = some (.ref cc.NoText)
  g_NoRow : mg "NoRow" = some (.ref cc.NoRow)
  g_NoName : mg "NoName" = some (.ref cc.NoName)
  o_LimbError : OwnCls "LimbError" cc.LimbError bmV newV mg base
  o_NoStanding : OwnCls "NoStanding" cc.NoStanding bmV newV mg base
  u_NoStanding : ∃ C' nm q N bs bm hdct sn sub ab col dd k0 k1 k2 k3 k5 new, Value.ref cc.NoStanding = .ref C' ∧ base.get? C' = some (excClassObj nm q C' N bs bm hdct sn sub ab col dd k0 k1 k2 k3 k5 new) ∧ bm.contains (.ref cc.LimbError) = true
  z : ExcCls K cc.NoStanding
  i : (PySem.W.clsIn K cc.NoStanding).isSome = true
  t1 : PySem.W.kitAny K (.ref cc.NoStanding) [.ref cc.NoGround, .ref cc.NoNumber, .ref cc.NoTable, .ref cc.NoDrawing, .ref cc.NoKind, .ref cc.NoChange, .ref cc.NoMirror] = some false
  t2 : PySem.W.kitAny K (.ref cc.NoStanding) [.ref cc.NoRoot, .ref cc.NoText, .ref cc.NoRow, .ref cc.NoName] = some false
  v : PySem.W.kitOne K (.ref cc.NoStanding) (.type "ValueError") = some true
section
variable {P : Program} {w : World} {K : PySem.W.Frag} {mg : Str → Option Value} {base : Heap} {C G S : Addr} {cc : Cs}
def WfS (H : Hp) (v : V) : Prop := Kn H v ∧ ∀ a xs, v = .ref a → H a = some (.lst xs) → ∀ y ∈ xs, Kn H y
def szV : V → Bool
  | .int i => decide (0 ≤ i)
  | _ => false
def szB (m : Int) (H : Hp) : V → Bool
  | .ref a => match H a with
    | some (.lst xs) => decide ((xs.length : Int) = m) && xs.all szV
    | _ => false
  | _ => false
theorem szB_noL {m : Int} {H : Hp} {v : V} (h : isLi H v = false) : szB m H v = false := by
  cases v <;> try rfl
  simp only [isLi] at h
  simp only [szB]
  split
  · rename_i e; rw [e] at h; cases h
  · rfl
theorem szB_li {m : Int} {H : Hp} {a : Addr} {xs : List V} (h : H a = some (.lst xs)) : szB m H (.ref a) = (decide ((xs.length : Int) = m) && xs.all szV) := by
  simp only [szB, h]
theorem WfS.same {H H' : Hp} {v : V} (h : WfS H v) (s : Same H H') : WfS H' v := ⟨h.1.same s, fun a xs e1 e2 y hy => (h.2 a xs e1 (Kn.back (e1 ▸ h.1) s e2) y hy).same s⟩
def spSz (C : Addr) : Sp := fun vs H Q _ => ∃ (d lp : Addr) (m : Int) (xs : List V) (v : V), vs = [.ref d, v] ∧ DrawAt C H d m lp xs ∧ WfS H v ∧ ∀ H', Same H H' → Q (.bl (szB m H v)) H'
theorem ok_sz {f : Addr} {fd : FuncData} (F : Fun K "are_sizes" "are_sizes" s_are_sizes f fd) (T : Txt K mg C G S) (C_is_whole : Cal P w K mg base "is_whole" 1 spWholeA) : FnOk P w K mg base CX0 2 f fd ["drawing", "thing"] (spSz C) := by
  have nd := sc_are_sizes.nd
  refine F.ok sc_are_sizes (fun vs H Q E h => ?_) (fun cdv A outer s H vs Q E hr h => ?_)
  · obtain ⟨d, lp, m, xs, v, rfl, _⟩ := h
    rfl
  · obtain ⟨d, lp, m, xs', v, rfl, ⟨dx, hd, hlp⟩, ⟨hk, hx⟩, q⟩ := h
    refine ⟨_, (@pss_cons _ _ _ _ _ (@ps_if _ _ _ _ _ _ _ _ (PW.pt (pw_or (pt_not (pt_val (pe_cB call_isinst rfl T.n_isinstance boot_isinstance (@pa_c _ _ _ _ _ (pv 1) (@pa_c _ _ _ _ _ (pe_ty rfl T.n_list boot_list) pa_nil (by rfl)) (by rfl))))) (pw_or1 (pt_cmpR op_ne (pe_cB call_len_seq rfl T.n_len PySem.boot_len (@pa_c _ _ _ _ _ (pv 1) pa_nil (by rfl))) (pe_fld (pv 0) rfl) (nomark _))))) (@pss_one _ _ _ (@ps_ret _ _ _ _ pe_bl)) pss_nil) (@pss_one _ _ _ (@ps_ret _ _ _ _ (pe_cB (call_all rfl) rfl T.n_all boot_all (@pa_c _ _ _ _ _ (pe_comp (own := ["size"]) (fr := []) rfl (bl_of (by kernel_rfl)) (pi_list (pv 1)) (fun _ _ _ _ => ⟨(@pg_name _ _ 0 _ (show (["size"] : List Str).Nodup by decide +kernel) rfl (Or.inl rfl) (Or.inr rfl)), pts_nil, (pe_and (pe_c C_is_whole (hr.mono (by decide)) rfl (@pa_c _ _ _ _ _ (pv 0) pa_nil (by rfl))) (pe_one (pe_cmpR op_ge (pv 0) pe_int (nomark _))))⟩)) pa_nil (by rfl)))))), ?_⟩
    walk_at "wp"
    obtain ⟨t1, h1, h2⟩ := kn_list (K := K) hk
    refine ⟨_, _, ⟨rfl, rfl⟩, _, rfl, _, h1, _, h2, ite2 (fun hc => ?_) (fun hc => ?_)⟩
    · rw [szB_noL (by simpa using hc)] at q
      exact q H (Same.refl _)
    · obtain ⟨a, xs, rfl, ha, hl⟩ := li_of hk (by simpa using hc)
      rw [szB_li ha] at q
      refine ⟨a, rfl, xs, .inl (SqL.of ha), C, dx, _, hd, T.cl_Drawing, T.nM, _, flds_many m lp, rfl, ite2 (fun hn => ?_) (fun hn => ?_)⟩
      · rw [show decide ((xs.length : Int) = m) = false by simpa using hn, Bool.false_and] at q
        exact q H (Same.refl _)
      · rw [show decide ((xs.length : Int) = m) = true by simpa using hn, Bool.true_and] at q
        refine ⟨_, rfl, a, rfl, ⟨_, SqL.of ha⟩, fun D hD => comp_bl_l (fun i => szV (xs.getD i .non)) ha hD (by omega) (fun i y H' Q' hy s' q' => ?_) fun H' s' e' => ⟨D, rfl, _, SqL.of e', ?_⟩⟩
        · have wy := hx a xs rfl ha y (List.mem_of_getElem? hy)
          rw [getD_of hy] at q'
          refine ⟨_, rfl, y, rfl, wy.same s', _, rfl, ?_⟩
          cases y with
          | int i => exact iteT ⟨_, rfl, _, _, rfl, rfl, q' H' (Same.refl _)⟩
          | _ => exact iteF (q' H' (Same.refl _))
        · rw [all_at]
          exact q H' s'
def toB (p hh wd : Int) (H : Hp) (v : V) : Bool := tabB p H v && match v with
  | .ref a => match H a with
    | some (.tup [.int i, .int j, _]) => decide (i = hh) && decide (j = wd)
    | _ => false
  | _ => false
theorem tabB_tup {p : Int} {H : Hp} {v : V} (h : tabB p H v = true) : ∃ a i j z, v = .ref a ∧ H a = some (.tup [.int i, .int j, z]) := by
  cases v <;> try (cases h)
  rename_i a
  simp only [tabB] at h
  split at h
  · rename_i i j z e
    exact ⟨a, i, j, _, rfl, e⟩
  · cases h
theorem toB_tup {p hh wd i j : Int} {H : Hp} {a : Addr} {z : V} (h : H a = some (.tup [.int i, .int j, z])) : toB p hh wd H (.ref a) = (tabB p H (.ref a) && (decide (i = hh) && decide (j = wd))) := by
  simp only [toB, h]
theorem toB_same {p hh wd : Int} {H H' : Hp} {v : V} (h : WfT H v) (s : Same H H') : toB p hh wd H' v = toB p hh wd H v := by
  unfold toB
  rw [tabB_same h s]
  cases hb : tabB p H v with
  | false => rfl
  | true =>
    obtain ⟨a, i, j, z, rfl, ha⟩ := tabB_tup hb
    simp only [ha, s _ _ ha]
def spTo (G : Addr) : Sp := fun vs H Q _ => ∃ (g : Addr) (p hh wd : Int) (v : V), vs = [.ref g, .int hh, .int wd, v] ∧ GAt G H g p ∧ GroundP p ∧ WfT H v ∧ ∀ H', Same H H' → Q (.bl (toB p hh wd H v)) H'
theorem ok_to {f : Addr} {fd : FuncData} (F : Fun K "is_table_of" "is_table_of" s_is_table_of f fd) (T : Txt K mg C G S) (C_is_table : Cal P w K mg base "is_table" 5 (spTabI G)) : FnOk P w K mg base CX0 6 f fd ["ground", "high", "wide", "thing"] (spTo G) := by
  have nd := sc_is_table_of.nd
  refine F.ok sc_is_table_of (fun vs H Q E h => ?_) (fun cdv A outer s H vs Q E hr h => ?_)
  · obtain ⟨g, p, hh, wd, v, rfl, _⟩ := h
    rfl
  · obtain ⟨g, p, hh, wd, v, rfl, hg, hp, wt, q⟩ := h
    refine ⟨_, (@pss_one _ _ _ (@ps_ret _ _ _ _ (pe_and (pe_c C_is_table (hr.mono (by decide)) rfl (@pa_c _ _ _ _ _ (pv 0) (@pa_c _ _ _ _ _ (pv 3) pa_nil (by rfl)) (by rfl))) (pe_and (pe_cmpR op_eq (@pe_ix _ _ _ _ _ _ _ ix_tup (pv 3) pe_int (fun _ _ => rfl)) (pv 1) (nomark _)) (pe_one (pe_cmpR op_eq (@pe_ix _ _ _ _ _ _ _ ix_tup (pv 3) pe_int (fun _ _ => rfl)) (pv 2) (nomark _))))))), ?_⟩
    walk_at "wp"
    refine ⟨g, p, v, rfl, hg, hp, wt, fun H1 s1 => ⟨_, rfl, ?_⟩⟩
    cases hb : tabB p H v with
    | false =>
      refine iteF ?_
      have := q H1 s1
      unfold toB at this
      rw [hb, Bool.false_and] at this
      exact this
    | true =>
      obtain ⟨a, i, j, z, rfl, ha⟩ := tabB_tup hb
      rw [toB_tup ha, hb, Bool.true_and] at q
      refine iteT ?_
      refine ⟨a, rfl, _, SqT.of (s1 _ _ ha), _, rfl, rfl, ?_⟩
      by_cases hi : i = hh
      · refine iteP (decide_eq_true (by rw [hi])) ⟨a, rfl, _, SqT.of (s1 _ _ ha), _, rfl, rfl, ?_⟩
        have := q H1 s1
        rw [decide_eq_true hi, Bool.true_and] at this
        rw [show decide (V.int j = V.int wd) = decide (j = wd) by simp]
        exact this
      · refine iteN (by simp [hi]) ?_
        have := q H1 s1
        rw [decide_eq_false hi, Bool.false_and] at this
        exact this
def WfTs (H : Hp) (v : V) : Prop := Kn H v ∧ ∀ a xs, v = .ref a → H a = some (.lst xs) → ∀ y ∈ xs, WfT H y
theorem WfTs.same {H H' : Hp} {v : V} (h : WfTs H v) (s : Same H H') : WfTs H' v := ⟨h.1.same s, fun a xs e1 e2 y hy => (h.2 a xs e1 (Kn.back (e1 ▸ h.1) s e2) y hy).same s⟩
abbrev toAt (p : Int) (ns : List Int) (ps : List (Int × Int)) (H : Hp) (us : List V) (i : Nat) : Bool := toB p (ns.getD (ps.getD i (0, 0)).2.toNat 0) (ns.getD (ps.getD i (0, 0)).1.toNat 0) H (us.getD i .non)
def tsB (p : Int) (ns : List Int) (ps : List (Int × Int)) (H : Hp) : V → Bool
  | .ref a => match H a with
    | some (.lst us) => decide (us.length = ps.length) && ((List.range ps.length).map (toAt p ns ps H us)).all id
    | _ => false
  | _ => false
theorem tsB_noL {p : Int} {ns : List Int} {ps : List (Int × Int)} {H : Hp} {v : V} (h : isLi H v = false) : tsB p ns ps H v = false := by
  cases v <;> try rfl
  simp only [isLi] at h
  simp only [tsB]
  split
  · rename_i e; rw [e] at h; cases h
  · rfl
theorem tsB_li {p : Int} {ns : List Int} {ps : List (Int × Int)} {H : Hp} {a : Addr} {us : List V} (h : H a = some (.lst us)) : tsB p ns ps H (.ref a) = (decide (us.length = ps.length) && ((List.range ps.length).map (toAt p ns ps H us)).all id) := by
  simp only [tsB, h]
theorem tsB_same {p : Int} {ns : List Int} {ps : List (Int × Int)} {H H' : Hp} {v : V} (h : WfTs H v) (s : Same H H') : tsB p ns ps H' v = tsB p ns ps H v := by
  cases hb : isLi H v with
  | false =>
    rw [tsB_noL hb]
    refine tsB_noL ?_
    cases v <;> try rfl
    simp only [isLi, Kn.at h.1 s] at hb ⊢
    exact hb
  | true =>
    obtain ⟨a, us, rfl, ha, _⟩ := li_of h.1 hb
    rw [tsB_li ha, tsB_li (s _ _ ha)]
    by_cases hl : us.length = ps.length
    · congr 2
      refine List.map_congr_left fun j hj => ?_
      have hj : j < us.length := by have := List.mem_range.mp hj; omega
      have e : us[j]? = some us[j] := List.getElem?_eq_getElem hj
      show toB p _ _ H' (us.getD j .non) = toB p _ _ H (us.getD j .non)
      rw [getD_of e]
      exact toB_same (h.2 a us rfl ha _ (List.mem_of_getElem? e)) s
    · rw [decide_eq_false hl, Bool.false_and, Bool.false_and]
def spTs (C G : Addr) : Sp := fun vs H Q _ => ∃ (g d z lp : Addr) (p m : Int) (xs : List V) (ps : List (Int × Int)) (ns : List Int) (v : V), vs = [.ref g, .ref d, .ref z, v] ∧ GAt G H g p ∧ GroundP p ∧ DrawAt C H d m lp xs ∧ Prs H xs ps ∧ InP m ps ∧ ps.length ≤ 9 ∧ Sizes H z ns ∧ (ns.length : Int) = m ∧ WfTs H v ∧ ∀ H', Same H H' → Q (.bl (tsB p ns ps H v)) H'
theorem ok_ts {f : Addr} {fd : FuncData} (F : Fun K "are_tables" "are_tables" s_are_tables f fd) (T : Txt K mg C G S) (C_is_table_of : Cal P w K mg base "is_table_of" 6 (spTo G)) : FnOk P w K mg base CX0 7 f fd ["ground", "drawing", "sizes", "thing"] (spTs C G) := by
  have nd := sc_are_tables.nd
  refine F.ok sc_are_tables (fun vs H Q E h => ?_) (fun cdv A outer s H vs Q E hr h => ?_)
  · obtain ⟨g, d, z, lp, p, m, xs, ps, ns, v, rfl, _⟩ := h
    rfl
  · obtain ⟨g, d, z, lp, p, m, xs, ps, ns, v, rfl, hg, hp, ⟨dx, hd, hlp⟩, pr, ip, p9, hz, hm, ⟨hk, hx⟩, q⟩ := h
    refine ⟨_, (@pss_cons _ _ _ _ _ (@ps_if _ _ _ _ _ _ _ _ (PW.pt (pw_or (pt_not (pt_val (pe_cB call_isinst rfl T.n_isinstance boot_isinstance (@pa_c _ _ _ _ _ (pv 3) (@pa_c _ _ _ _ _ (pe_ty rfl T.n_list boot_list) pa_nil (by rfl)) (by rfl))))) (pw_or1 (pt_cmpR op_ne (pe_cB call_len_seq rfl T.n_len PySem.boot_len (@pa_c _ _ _ _ _ (pv 3) pa_nil (by rfl))) (pe_cB call_len_seq rfl T.n_len PySem.boot_len (@pa_c _ _ _ _ _ (pe_fld (pv 1) rfl) pa_nil (by rfl))) (nomark _))))) (@pss_one _ _ _ (@ps_ret _ _ _ _ pe_bl)) pss_nil) (@pss_one _ _ _ (@ps_ret _ _ _ _ (pe_cB (call_all rfl) rfl T.n_all boot_all (@pa_c _ _ _ _ _ (pe_comp (own := ["tail", "head", "table"]) (fr := [("ground", 0), ("sizes", 2)]) rfl (bl_of (by kernel_rfl)) (pi_zip rfl T.n_zip (@pa_c _ _ _ _ _ (pe_fld (pv 1) rfl) (@pa_c _ _ _ _ _ (pv 3) pa_nil (by rfl)) (by rfl))) (fun _ _ _ _ => ⟨(@pg_tupK _ K rfl _ _ _ _ 2 rfl (@pgs_cons _ _ _ _ _ (@pg_tupK _ K rfl _ _ _ _ 2 rfl (@pgs_cons _ _ _ _ _ (@pg_name _ _ 0 _ (show (["tail", "head", "table", "ground", "sizes"] : List Str).Nodup by decide +kernel) rfl (Or.inl rfl) (Or.inr rfl)) (@pgs_cons _ _ _ _ _ (@pg_name _ _ 1 _ (show (["tail", "head", "table", "ground", "sizes"] : List Str).Nodup by decide +kernel) rfl (Or.inl rfl) (Or.inr rfl)) (@pgs_nil _) (by rfl)) (by rfl)) (by rfl) (by rfl)) (@pgs_cons _ _ _ _ _ (@pg_name _ _ 2 _ (show (["tail", "head", "table", "ground", "sizes"] : List Str).Nodup by decide +kernel) rfl (Or.inl rfl) (Or.inr rfl)) (@pgs_nil _) (by rfl)) (by rfl)) (by rfl) (by rfl)), pts_nil, (pe_c C_is_table_of (hr.mono (by decide)) rfl (@pa_c _ _ _ _ _ (pv 3) (@pa_c _ _ _ _ _ (@pe_ix _ _ _ _ _ _ _ (ix_listK K rfl) (pv 4) (pv 1) (fun _ _ => rfl)) (@pa_c _ _ _ _ _ (@pe_ix _ _ _ _ _ _ _ (ix_listK K rfl) (pv 4) (pv 0) (fun _ _ => rfl)) (@pa_c _ _ _ _ _ (pv 2) pa_nil (by rfl)) (by rfl)) (by rfl)) (by rfl)))⟩)) pa_nil (by rfl)))))), ?_⟩
    walk_at "wp"
    have hxl := pr.1
    obtain ⟨t1, h1, h2⟩ := kn_list (K := K) hk
    refine ⟨_, _, ⟨rfl, rfl⟩, _, rfl, _, h1, _, h2, ite2 (fun hc => ?_) (fun hc => ?_)⟩
    · rw [tsB_noL (by simpa using hc)] at q
      exact q H (Same.refl _)
    · obtain ⟨l, us, rfl, hl, hl1⟩ := li_of hk (by simpa using hc)
      rw [tsB_li hl] at q
      refine ⟨l, rfl, us, .inl (SqL.of hl), C, dx, _, hd, T.cl_Drawing, T.nA, _, flds_arrows m lp, lp, rfl, _, .inl (SqL.of hlp), ite2 (fun hn => ?_) (fun hn => ?_)⟩
      · have hn' : ¬ us.length = ps.length := fun z => by simp [z, hxl] at hn
        rw [decide_eq_false hn', Bool.false_and] at q
        exact q H (Same.refl _)
      · have hn' : us.length = ps.length := by
          have : (us.length : Int) = xs.length := by simpa using hn
          omega
        rw [decide_eq_true hn', Bool.true_and] at q
        refine ⟨_, rfl, d, C, dx, _, _, rfl, hd, T.cl_Drawing, T.nA, flds_arrows m lp, _, rfl, lp, l, rfl, ⟨_, SqL.of hlp⟩, ⟨_, SqL.of hl⟩, fun D hD => ?_⟩
        refine comp_itz (k := 3) (xs := xs) (ys := us) (fun i vs H' => Same H H' ∧ H' D = some (.lst vs) ∧ vs = ((List.range i).map (toAt p ns ps H us)).map V.bl) (by omega) ⟨Same.new hD, upd_same, rfl⟩ (fun i vs H' _ pv => ⟨SqL.of (pv.1 _ _ hlp), SqL.of (pv.1 _ _ hl)⟩) ?_ ?_
        · rintro i x y pz vs σ' H' hi hx' hy hpz sh ⟨s', e', rfl⟩
          obtain ⟨z1, z2, z3, rfl⟩ := sh_three sh
          have hi' : i < ps.length := by omega
          have hq : ps[i]? = some ps[i] := List.getElem?_eq_getElem hi'
          have hqD : ps.getD i (0, 0) = ps[i] := by rw [List.getD_eq_getElem?_getD, hq]; rfl
          obtain ⟨ta, rfl, hta⟩ := pr.2 i x _ hx' hq
          obtain ⟨i0, i1, j0, j1⟩ := ip _ (List.mem_of_getElem? hq)
          have s0 := s'.trans (Same.new (o := .tup [V.ref ta, y]) hpz)
          have hz0 := hz.same s0
          have a1 := at_int (ns := ns) i0 (by omega)
          have a2 := at_int (ns := ns) j0 (by omega)
          have wy := hx l us rfl hl y (List.mem_of_getElem? hy)
          refine ⟨pz, _, rfl, SqT.of upd_same, rfl, _, _, rfl, ta, _, rfl, SqT.of (s0 _ _ hta), rfl, _, _, rfl, _, _, rfl, rfl, _, _, rfl, rfl, ?_⟩
          simp only [tYes, List.set_cons_zero, List.set_cons_succ, if_true]
          refine ⟨_, rfl, _, rfl, _, rfl, z, _, _, _, rfl, rfl, SqL.of hz0.1, a2, _, rfl, _, rfl, z, _, _, _, rfl, rfl, SqL.of hz0.1, a1, _, rfl, g, p, _, _, y, rfl, hg.same s0, hp, wy.same s0, fun H'' s'' => ?_⟩
          have s1 := (Same.new (o := .tup [V.ref ta, y]) hpz).trans s''
          have ev : toB p (ns.getD ps[i].2.toNat 0) (ns.getD ps[i].1.toNat 0) (upd H' pz (.tup [V.ref ta, y])) y = toAt p ns ps H us i := by
            rw [toB_same wy s0]
            show _ = toB p (ns.getD (ps.getD i (0, 0)).2.toNat 0) (ns.getD (ps.getD i (0, 0)).1.toNat 0) H (us.getD i .non)
            rw [hqD, getD_of hy]
          rw [ev]
          exact leaf (ws := ((List.range (i + 1)).map (toAt p ns ps H us)).map V.bl) hi sh_mk3 (s1 _ _ e') (small1000 (by rw [List.length_map, List.length_map, List.length_range]; omega)) ⟨(s'.trans s1).upd hD, by rw [upd_same, List.range_succ, List.map_append, List.map_append]; rfl, rfl⟩
        · rintro vs H' ⟨s', e', rfl⟩
          refine ⟨D, rfl, _, SqL.of e', ?_⟩
          have := q H' s'
          rw [show xs.length = ps.length from hxl]
          exact this
theorem Sizes.wfs {H : Hp} {z : Addr} {ns : List Int} (h : Sizes H z ns) : WfS H (.ref z) := ⟨.lst h.1 (by rw [List.length_map]; have := h.2.1; omega), fun a xs e1 e2 y hy => by
  cases e1
  rw [h.1] at e2
  cases e2
  obtain ⟨n, _, rfl⟩ := List.mem_map.mp hy
  exact .int⟩
theorem Sizes.good {H : Hp} {z : Addr} {ns : List Int} {m : Int} (h : Sizes H z ns) (hm : (ns.length : Int) = m) : szB m H (.ref z) = true := by
  rw [szB_li h.1, decide_eq_true (by rw [List.length_map]; exact hm), Bool.true_and, List.all_eq_true]
  intro y hy
  obtain ⟨n, hn, rfl⟩ := List.mem_map.mp hy
  exact decide_eq_true (h.2.2 n hn).1
theorem Tbs.wfs {H : Hp} {p : Int} {l : Addr} {ts : List Addr} {cs : List (Int × Int × List (List V))} (h : Tbs H p l ts cs) : WfTs H (.ref l) := ⟨.lst h.1 (by rw [List.length_map]; have := h.2.1; have := h.2.2.1; omega), fun a xs e1 e2 y hy => by
  cases e1
  rw [h.1] at e2
  cases e2
  obtain ⟨t, ht, rfl⟩ := List.mem_map.mp hy
  obtain ⟨j, hj, rfl⟩ := List.mem_iff_getElem.mp ht
  have hl := h.2.1
  obtain ⟨⟨r, rs, tc⟩, _, h1, _, h2⟩ := h.2.2.2 j _ _ (List.getElem?_eq_getElem hj) (List.getElem?_eq_getElem (by omega))
  exact tc.tab.wft h1 h2⟩
theorem Tbs.good {H : Hp} {p : Int} {l : Addr} {ts : List Addr} {cs : List (Int × Int × List (List V))} {ns : List Int} {ps : List (Int × Int)} (h : Tbs H p l ts cs) (ft : Fits ns cs ps) : tsB p ns ps H (.ref l) = true := by
  have hl := h.2.1
  have hc := ft.1
  rw [tsB_li h.1, decide_eq_true (by rw [List.length_map]; omega), Bool.true_and, List.all_eq_true]
  intro b hb
  obtain ⟨j, hj, rfl⟩ := List.mem_map.mp hb
  have hj := List.mem_range.mp hj
  have e1 : ts[j]? = some (ts[j]'(by omega)) := List.getElem?_eq_getElem _
  have e2 : cs[j]? = some (cs[j]'(by omega)) := List.getElem?_eq_getElem _
  have e3 : ps[j]? = some ps[j] := List.getElem?_eq_getElem hj
  obtain ⟨⟨r, rs, tc⟩, h0, h1, w0, w1⟩ := h.2.2.2 j _ _ e1 e2
  obtain ⟨f1, f2⟩ := ft.2 j _ _ e2 e3
  have eu : (ts.map V.ref).getD j .non = .ref (ts[j]'(by omega)) := getD_of (by rw [List.getElem?_map, e1]; rfl)
  have ep : ps.getD j (0, 0) = ps[j] := by rw [List.getD_eq_getElem?_getD, e3]; rfl
  show toB p (ns.getD (ps.getD j (0, 0)).2.toNat 0) (ns.getD (ps.getD j (0, 0)).1.toNat 0) H ((ts.map V.ref).getD j .non) = true
  rw [eu, ep, toB_tup tc.tab.tup, tc.tab.is h0 w0, ← f1, ← f2]
  simp
def spSI (S C G NS : Addr) : Sp := fun vs H Q E => ∃ (x dx g d lp : Addr) (p m : Int) (xs : List V) (ps : List (Int × Int)) (vz vl : V), vs = [.ref x, .ref g, .ref d, vz, vl] ∧ H x = some (.ins S dx []) ∧ GAt G H g p ∧ GroundP p ∧ DrawAt C H d m lp xs ∧ Prs H xs ps ∧ InP m ps ∧ ps.length ≤ 9 ∧
  ((WfS H vz ∧ szB m H vz = false ∧ ∀ H', Same H H' → E (.ref NS) none H') ∨ (∃ z ns, vz = .ref z ∧ Sizes H z ns ∧ (ns.length : Int) = m ∧ WfTs H vl ∧ tsB p ns ps H vl = false ∧ ∀ H', Same H H' → E (.ref NS) none H') ∨
   ∃ (z l : Addr) (ns : List Int) (ts : List Addr) (cs : List (Int × Int × List (List V))), vz = .ref z ∧ vl = .ref l ∧ Sizes H z ns ∧ (ns.length : Int) = m ∧ Tbs H p l ts cs ∧ Fits ns cs ps ∧
   ∀ (z' l' : Addr) (ts' : List Addr) (H' : Hp), Ext x H H' → H' x = some (.ins S dx (sflds g d z' l')) → H z' = none → H l' = none → Sizes H' z' ns → H' l' = some (.lst (ts'.map V.ref)) → ts'.length = cs.length → (∀ (i : Nat) t c, ts'[i]? = some t → cs[i]? = some c → TabF H H' p c.1 c.2.1 t c.2.2) → Q .non H')
theorem ok_sinit {f : Addr} {fd : FuncData} (F : Fun K "__init__" "Standing.__init__" s_Standing_init f fd) (T : Txt K mg C G S) (XT : Xt K mg base cc) (C_are_sizes : Cal P w K mg base "are_sizes" 2 (spSz C)) (C_are_tables : Cal P w K mg base "are_tables" 7 (spTs C G)) : FnOk P w K mg base (CXe P w) 8 f fd ["self", "ground", "drawing", "sizes", "tables"] (spSI S C G cc.NoStanding) := by
  have nd := sc_Standing_init.nd
  refine F.okE sc_Standing_init (fun vs H Q E h => ?_) (fun cdv A outer s H vs Q E hr h => ?_)
  · obtain ⟨x, dx, g, d, lp, p, m, xs, ps, vz, vl, rfl, _⟩ := h
    rfl
  · obtain ⟨x, dx, g, d, lp, p, m, xs, ps, vz, vl, rfl, hx, hg, hp, hd, pr, ip, p9, hq⟩ := h
    refine ⟨_, (@pss_cons _ _ _ _ _ (@ps_if _ _ _ _ _ _ _ _ (PW.pt (pw_or (pt_not (pt_val (pe_c C_are_sizes (hr.mono (by decide)) rfl (@pa_c _ _ _ _ _ (pv 2) (@pa_c _ _ _ _ _ (pv 3) pa_nil (by rfl)) (by rfl))))) (pw_or1 (pt_not (pt_val (pe_c C_are_tables (hr.mono (by decide)) rfl (@pa_c _ _ _ _ _ (pv 1) (@pa_c _ _ _ _ _ (pv 2) (@pa_c _ _ _ _ _ (pv 3) (@pa_c _ _ _ _ _ (pv 4) pa_nil (by rfl)) (by rfl)) (by rfl)) (by rfl)))))))) (@pss_one _ _ _ (ps_rse XT.o_NoStanding rfl (@pa_c _ _ _ _ _ pe_str pa_nil (by rfl)))) pss_nil) (@pss_cons _ _ _ _ _ (ps_fld (pv 0) (pv 1) rfl) (@pss_cons _ _ _ _ _ (ps_fld (pv 0) (pv 2) rfl) (@pss_cons _ _ _ _ _ (ps_fld (pv 0) (pe_cT call_list_of rfl T.n_list boot_list (@pa_c _ _ _ _ _ (pv 3) pa_nil (by rfl))) rfl) (@pss_one _ _ _ (ps_fld (pv 0) (pe_comp (own := ["high", "wide", "rows"]) (fr := []) rfl (bl_of (by kernel_rfl)) (pi_list (pv 4)) (fun _ _ _ _ => ⟨(@pg_tupK _ K rfl _ _ _ _ 3 rfl (@pgs_cons _ _ _ _ _ (@pg_name _ _ 0 _ (show (["high", "wide", "rows"] : List Str).Nodup by decide +kernel) rfl (Or.inl rfl) (Or.inr rfl)) (@pgs_cons _ _ _ _ _ (@pg_name _ _ 1 _ (show (["high", "wide", "rows"] : List Str).Nodup by decide +kernel) rfl (Or.inl rfl) (Or.inr rfl)) (@pgs_cons _ _ _ _ _ (@pg_name _ _ 2 _ (show (["high", "wide", "rows"] : List Str).Nodup by decide +kernel) rfl (Or.inl rfl) (Or.inr rfl)) (@pgs_nil _) (by rfl)) (by rfl)) (by rfl)) (by rfl) (by rfl)), pts_nil, (@pe_tup _ _ _ _ _ (@pa_c _ _ _ _ _ (pv 0) (@pa_c _ _ _ _ _ (pv 1) (@pa_c _ _ _ _ _ (pe_comp (own := ["row"]) (fr := []) rfl (bl_of (by kernel_rfl)) (pi_listK K rfl (pv 2)) (fun _ _ _ _ => ⟨(@pg_name _ _ 0 _ (show (["row"] : List Str).Nodup by decide +kernel) rfl (Or.inl rfl) (Or.inr rfl)), pts_nil, (pe_cT (call_list_ofK K rfl) rfl T.n_list boot_list (@pa_c _ _ _ _ _ (pv 0) pa_nil (by rfl)))⟩)) pa_nil (by rfl)) (by rfl)) (by rfl)))⟩)) rfl)))))), ?_⟩
    walk_at "wp"
    obtain ⟨dxd, hd1, hd2⟩ := hd
    rcases hq with ⟨ws, hb, hE⟩ | ⟨z, ns, rfl, hz, hm, wt, hb, hE⟩ | ⟨z, l, ns, ts, cs, rfl, rfl, hz, hm, hT, ft, q⟩
    · refine ⟨d, lp, m, xs, vz, rfl, ⟨dxd, hd1, hd2⟩, ws, fun H1 s1 => ⟨_, rfl, ?_⟩⟩
      rw [hb]
      exact iteP (by decide) ⟨by decide, hE H1 s1⟩
    · refine ⟨d, lp, m, xs, .ref z, rfl, ⟨dxd, hd1, hd2⟩, hz.wfs, fun H1 s1 => ⟨_, rfl, ?_⟩⟩
      rw [hz.good hm]
      refine iteN (by decide) ⟨g, d, z, lp, p, m, xs, ps, ns, vl, rfl, hg.same s1, hp, ⟨dxd, s1 _ _ hd1, s1 _ _ hd2⟩, pr.same s1, ip, p9, hz.same s1, hm, wt.same s1, fun H2 s2 => ⟨_, rfl, ?_⟩⟩
      rw [tsB_same wt s1, hb]
      exact iteP (by decide) ⟨by decide, hE H2 (s1.trans s2)⟩
    · refine ⟨d, lp, m, xs, .ref z, rfl, ⟨dxd, hd1, hd2⟩, hz.wfs, fun H1 s1 => ⟨_, rfl, ?_⟩⟩
      rw [hz.good hm]
      refine iteN (by decide) ⟨g, d, z, lp, p, m, xs, ps, ns, .ref l, rfl, hg.same s1, hp, ⟨dxd, s1 _ _ hd1, s1 _ _ hd2⟩, pr.same s1, ip, p9, hz.same s1, hm, hT.wfs.same s1, fun H2 s2 => ⟨_, rfl, ?_⟩⟩
      rw [(hT.same s1).good ft]
      refine iteN (by decide) ?_
      have hT1 := hT
      obtain ⟨hl, hlen, h9, hc⟩ := hT
      have s12 := s1.trans s2
      have hx2 := s12 _ _ hx
      have nzx : z ≠ x := ne_of hz.1 hx (by intro w; cases w)
      refine ⟨S, dx, [], hx2, T.cl_Standing, T.nSg, by show 0 < 1000; decide, S, dx, _, upd_same, T.cl_Standing, T.nSd, by have l1 := length_putF "ground" (.ref g) []; simp at l1; omega, z, rfl, _, .inl (SqL.of (by rw [upd_ne nzx, upd_ne nzx]; exact s12 _ _ hz.1)), fun l1 hl1 => ?_⟩
      have nxl : x ≠ l1 := ne_of_none upd_same hl1
      have f1 : H l1 = none := by
        rw [upd_ne nxl.symm, upd_ne nxl.symm] at hl1
        exact s12.free hl1
      have g1 := length_putF "ground" (.ref g) []
      have g2 := length_putF "drawing" (.ref d) (putF "ground" (.ref g) [])
      have g3 := length_putF "sizes" (.ref l1) (putF "drawing" (.ref d) (putF "ground" (.ref g) []))
      simp only [List.length_nil] at g1
      refine ⟨S, dx, _, by rw [upd_ne nxl]; exact upd_same, T.cl_Standing, T.nSs, by omega, ?_⟩
      have e6 : Ext x H (upd (upd (upd (upd H2 x (.ins S dx (putF "ground" (.ref g) []))) x (.ins S dx (putF "drawing" (.ref d) (putF "ground" (.ref g) [])))) l1 (.lst (ns.map V.int))) x (.ins S dx (putF "sizes" (.ref l1) (putF "drawing" (.ref d) (putF "ground" (.ref g) []))))) := fun b o nb eb => by
        rw [upd_ne nb, upd_ne (ne_of_none eb f1), upd_ne nb, upd_ne nb]
        exact s12 _ _ eb
      have hx6 : (upd (upd (upd (upd H2 x (.ins S dx (putF "ground" (.ref g) []))) x (.ins S dx (putF "drawing" (.ref d) (putF "ground" (.ref g) [])))) l1 (.lst (ns.map V.int))) x (.ins S dx (putF "sizes" (.ref l1) (putF "drawing" (.ref d) (putF "ground" (.ref g) []))))) x = some (.ins S dx (putF "sizes" (.ref l1) (putF "drawing" (.ref d) (putF "ground" (.ref g) [])))) := upd_same
      have hl6 : (upd (upd (upd (upd H2 x (.ins S dx (putF "ground" (.ref g) []))) x (.ins S dx (putF "drawing" (.ref d) (putF "ground" (.ref g) [])))) l1 (.lst (ns.map V.int))) x (.ins S dx (putF "sizes" (.ref l1) (putF "drawing" (.ref d) (putF "ground" (.ref g) []))))) l1 = some (.lst (ns.map V.int)) := by rw [upd_ne nxl.symm]; exact upd_same
      generalize upd (upd (upd (upd H2 x (.ins S dx (putF "ground" (.ref g) []))) x (.ins S dx (putF "drawing" (.ref d) (putF "ground" (.ref g) [])))) l1 (.lst (ns.map V.int))) x (.ins S dx (putF "sizes" (.ref l1) (putF "drawing" (.ref d) (putF "ground" (.ref g) [])))) = H6 at *
      have fr6 : ∀ b, H6 b = none → H b = none := fun b hb => by
        cases eb : H b with
        | none => rfl
        | some o =>
          by_cases nb : b = x
          · rw [nb, hx6] at hb; cases hb
          · rw [e6 b o nb eb] at hb; cases hb
      have hT6 := hT1.extI hx e6
      refine ⟨_, rfl, l, rfl, ⟨_, SqL.of hT6.1⟩, fun D hD => copy_tabs hT6 hD fun ts' H7 s7 hD7 hl7 ht7 _ => ?_⟩
      have hx7 := s7 _ _ hx6
      have nDx : D ≠ x := fun w => by rw [w, hx6] at hD; cases hD
      refine ⟨S, dx, _, hx7, T.cl_Standing, T.nSt, by omega, ?_⟩
      refine q l1 D ts' _ (fun b o nb eb => by rw [upd_ne nb]; exact s7 _ _ (e6 b o nb eb)) upd_same f1 (fr6 D hD) ⟨by rw [upd_ne nxl.symm]; exact s7 _ _ hl6, hz.2⟩ (by rw [upd_ne nDx]; exact hD7) hl7 fun i t c e1 e2 => ?_
      obtain ⟨r, rs, a1, a2, a3, a4⟩ := ht7 i t c e1 e2
      exact ⟨r, rs, a1.extI hx7 (fun b o nb eb => by rw [upd_ne nb]; exact eb), fr6 t a2, fr6 r a3, fun a ha => fr6 a (a4 a ha)⟩
end
end Pf
set_option maxHeartbeats 1000000
namespace Pf
open PySem L2 PyProof.Rows
section
variable {P : Program} {w : World} {K : PySem.W.Frag} {mg : Str → Option Value} {base : Heap} {C G S : Addr} {cc : Cs}
theorem kit_self {t : Value} : PySem.W.kitOne K t t = some true := by unfold PySem.W.kitOne; rw [if_pos (by simp)]
def spWord (NS : Addr) : Sp := fun vs H Q _ => ∃ a : Addr, vs = [.ref a] ∧ H a = some (isExc a (.ref NS)) ∧ ∀ H', Same H H' → Q (.bl true) H'
theorem ok_word {f : Addr} {fd : FuncData} (F : Fun K "_law_word" "_law_word" s_law_word f fd) (T : Txt K mg C G S) (XT : Xt K mg base cc) : FnOkH P w K mg base CX0 1 f fd ["_law_e"] (spWord cc.NoStanding) := by
  have nd := sc_law_word.nd
  refine F.okH sc_law_word (fun vs H Q E h => ?_) (fun cdv A outer s H vs Q E hr h => ?_)
  · obtain ⟨a, rfl, _⟩ := h
    rfl
  · obtain ⟨a, rfl, ha, q⟩ := h
    refine ⟨_, (@pss_cons _ _ _ _ _ (@ps_if _ _ _ _ _ _ _ _ (pt_val (pe_cB (call_isxTK K rfl) rfl T.n_isinstance boot_isinstance (@pa_c _ _ _ _ _ (pv 0) (@pa_c _ _ _ _ _ (@pe_tup _ _ _ _ _ (@pa_c _ _ _ _ _ (pe_glob (v := .ref cc.NoGround) rfl XT.g_NoGround rfl) (@pa_c _ _ _ _ _ (pe_glob (v := .ref cc.NoNumber) rfl XT.g_NoNumber rfl) (@pa_c _ _ _ _ _ (pe_glob (v := .ref cc.NoTable) rfl XT.g_NoTable rfl) (@pa_c _ _ _ _ _ (pe_glob (v := .ref cc.NoDrawing) rfl XT.g_NoDrawing rfl) (@pa_c _ _ _ _ _ (pe_glob (v := .ref cc.NoKind) rfl XT.g_NoKind rfl) (@pa_c _ _ _ _ _ (pe_glob (v := .ref cc.NoChange) rfl XT.g_NoChange rfl) (@pa_c _ _ _ _ _ (pe_glob (v := .ref cc.NoMirror) rfl XT.g_NoMirror rfl) pa_nil (by rfl)) (by rfl)) (by rfl)) (by rfl)) (by rfl)) (by rfl)) (by rfl))) pa_nil (by rfl)) (by rfl)))) (@pss_one _ _ _ (@ps_ret _ _ _ _ pe_bl)) pss_nil) (@pss_cons _ _ _ _ _ (@ps_if _ _ _ _ _ _ _ _ (pt_val (pe_cB (call_isxTK K rfl) rfl T.n_isinstance boot_isinstance (@pa_c _ _ _ _ _ (pv 0) (@pa_c _ _ _ _ _ (@pe_tup _ _ _ _ _ (@pa_c _ _ _ _ _ (pe_glob (v := .ref cc.NoRoot) rfl XT.g_NoRoot rfl) (@pa_c _ _ _ _ _ (pe_glob (v := .ref cc.NoText) rfl XT.g_NoText rfl) (@pa_c _ _ _ _ _ (pe_glob (v := .ref cc.NoRow) rfl XT.g_NoRow rfl) (@pa_c _ _ _ _ _ (pe_glob (v := .ref cc.NoName) rfl XT.g_NoName rfl) pa_nil (by rfl)) (by rfl)) (by rfl)) (by rfl))) pa_nil (by rfl)) (by rfl)))) (@pss_one _ _ _ (@ps_ret _ _ _ _ pe_bl)) pss_nil) (@pss_one _ _ _ (@ps_ret _ _ _ _ (pe_and (pe_cB (call_isxK K rfl) rfl T.n_isinstance boot_isinstance (@pa_c _ _ _ _ _ (pv 0) (@pa_c _ _ _ _ _ (pe_glob (v := .ref cc.NoStanding) rfl XT.g_NoStanding rfl) pa_nil (by rfl)) (by rfl))) (pe_one (pe_cB (call_isxK K rfl) rfl T.n_isinstance boot_isinstance (@pa_c _ _ _ _ _ (pv 0) (@pa_c _ _ _ _ _ (pe_ty rfl T.n_ValueError boot_ValueError) pa_nil (by rfl)) (by rfl))))))))), ?_⟩
    walk_at "wp"
    refine ⟨by decide, fun p1 hp1 => ⟨a, cc.NoStanding, p1, ⟨rfl, rfl⟩, _, upd_same, [.ref cc.NoGround, .ref cc.NoNumber, .ref cc.NoTable, .ref cc.NoDrawing, .ref cc.NoKind, .ref cc.NoChange, .ref cc.NoMirror], rfl, (Same.new hp1) _ _ ha, XT.z, XT.i, false, XT.t1, iteF ?_⟩⟩
    have s1 := Same.new (o := .tup [V.ref cc.NoGround, V.ref cc.NoNumber, V.ref cc.NoTable, V.ref cc.NoDrawing, V.ref cc.NoKind, V.ref cc.NoChange, V.ref cc.NoMirror]) hp1
    have h1 := s1 _ _ ha
    generalize upd H p1 (.tup [V.ref cc.NoGround, V.ref cc.NoNumber, V.ref cc.NoTable, V.ref cc.NoDrawing, V.ref cc.NoKind, V.ref cc.NoChange, V.ref cc.NoMirror]) = H1 at *
    refine ⟨by decide, fun p2 hp2 => ⟨a, cc.NoStanding, p2, ⟨rfl, rfl⟩, _, upd_same, [.ref cc.NoRoot, .ref cc.NoText, .ref cc.NoRow, .ref cc.NoName], rfl, (Same.new hp2) _ _ h1, XT.z, XT.i, false, XT.t2, iteF ?_⟩⟩
    have s2 := Same.new (o := .tup [V.ref cc.NoRoot, V.ref cc.NoText, V.ref cc.NoRow, V.ref cc.NoName]) hp2
    have h2 := s2 _ _ h1
    generalize upd H1 p2 (.tup [V.ref cc.NoRoot, V.ref cc.NoText, V.ref cc.NoRow, V.ref cc.NoName]) = H2 at *
    exact ⟨a, cc.NoStanding, _, ⟨rfl, rfl⟩, .ref cc.NoStanding, rfl, h2, XT.z, XT.i, true, kit_self, iteT ⟨a, cc.NoStanding, _, ⟨rfl, rfl⟩, .type "ValueError", rfl, h2, XT.z, XT.i, true, XT.v, q H2 (s1.trans s2)⟩⟩
def Bad (p m : Int) (ps : List (Int × Int)) (H : Hp) (vz vl : V) : Prop := (WfS H vz ∧ szB m H vz = false) ∨ ∃ z ns, vz = .ref z ∧ Sizes H z ns ∧ (ns.length : Int) = m ∧ WfTs H vl ∧ tsB p ns ps H vl = false
theorem szB_same {m : Int} {H H' : Hp} {v : V} (h : WfS H v) (s : Same H H') : szB m H' v = szB m H v := by
  cases v <;> try rfl
  simp only [szB, Kn.at h.1 s]
theorem Bad.same {p m : Int} {ps : List (Int × Int)} {H H' : Hp} {vz vl : V} (h : Bad p m ps H vz vl) (s : Same H H') : Bad p m ps H' vz vl := by
  rcases h with ⟨a, b⟩ | ⟨z, ns, rfl, a, b, c, d⟩
  · exact .inl ⟨a.same s, by rw [szB_same a s]; exact b⟩
  · exact .inr ⟨z, ns, rfl, a.same s, b, c.same s, by rw [tsB_same c s]; exact d⟩
def spRefd (S C G : Addr) : Sp := fun vs H Q _ => ∃ (g d lp : Addr) (p m : Int) (xs : List V) (ps : List (Int × Int)) (vz vl : V), vs = [.ref g, .ref d, vz, vl] ∧ GAt G H g p ∧ GroundP p ∧ DrawAt C H d m lp xs ∧ Prs H xs ps ∧ InP m ps ∧ ps.length ≤ 9 ∧ Bad p m ps H vz vl ∧ ∀ H', Same H H' → Q (.bl true) H'
theorem ok_refd {f : Addr} {fd : FuncData} (F : Fun K "_law_refused" "_law_refused" s_law_refused f fd) (T : Txt K mg C G S) (XT : Xt K mg base cc) (C_Standing : CalIE P w K mg base "Standing" S 8 (spSI S C G cc.NoStanding)) (C_law_word : CalH P w K mg base "_law_word" 1 (spWord cc.NoStanding)) : FnOk P w K mg base CX0 10 f fd ["_law_ground", "_law_drawing", "_law_sizes_here", "_law_tables_here"] (spRefd S C G) := by
  have nd := sc_law_refused.nd
  refine F.ok sc_law_refused (fun vs H Q E h => ?_) (fun cdv A outer s H vs Q E hr h => ?_)
  · obtain ⟨g, d, lp, p, m, xs, ps, vz, vl, rfl, _⟩ := h
    rfl
  · obtain ⟨g, d, lp, p, m, xs, ps, vz, vl, rfl, hg, hp, hd, pr, ip, p9, bad, q⟩ := h
    refine ⟨_, (@pss_cons _ _ _ _ _ (ps_try (E' := (fun c _ H' => c = .ref cc.NoStanding ∧ Same H H')) (i := 4) rfl rfl rfl (fun pins xt hps => (@pss_one _ _ _ (ps_expr (pe_nE C_Standing hps (hr.mono (by decide)) rfl (@pa_c _ _ _ _ _ (pv 0) (@pa_c _ _ _ _ _ (pv 1) (@pa_c _ _ _ _ _ (pv 2) (@pa_c _ _ _ _ _ (pv 3) pa_nil (by rfl)) (by rfl)) (by rfl)) (by rfl)))))) (fun pins a => (@pss_one _ _ _ (@ps_ret _ _ _ _ (pe_cH C_law_word ((hr.mono (by decide)).mark _) rfl (@pa_c _ _ _ _ _ (pv 4) pa_nil (by rfl)))))) rfl XT.o_LimbError (by decide) (fun c H' h => h.1 ▸ XT.u_NoStanding) nd rfl rfl) (@pss_one _ _ _ (@ps_ret _ _ _ _ pe_bl))), ?_⟩
    refine ⟨?_, fun cls H' a' σ' hE ha hl => ?_⟩
    · walk_at "wp"
      intro x dx hx hdx ndx
      have fx : (upd H dx (.own x)) x = none := by rw [upd_ne ndx.symm]; exact hx
      have sx : Same H (upd (upd H dx (.own x)) x (.ins S dx [])) := (Same.new hdx).trans (Same.new fx)
      have hx1 : (upd (upd H dx (.own x)) x (.ins S dx [])) x = some (.ins S dx []) := upd_same
      have bad1 := bad.same sx
      obtain ⟨dd, hd1, hd2⟩ := hd
      refine ⟨x, dx, g, d, lp, p, m, xs, ps, vz, vl, rfl, hx1, hg.same sx, hp, ⟨dd, sx _ _ hd1, sx _ _ hd2⟩, pr.same sx, ip, p9, ?_⟩
      rcases bad1 with ⟨a, b⟩ | ⟨z, ns, rfl, a, b, c, e⟩
      · exact .inl ⟨a, b, fun H' s' => ⟨rfl, sx.trans s'⟩⟩
      · exact .inr (.inl ⟨z, ns, rfl, a, b, c, e, fun H' s' => ⟨rfl, sx.trans s'⟩⟩)
    · obtain ⟨v0, v1, v2, v3, v4, rfl⟩ : ∃ v0 v1 v2 v3 v4 : Option V, σ' = [v0, v1, v2, v3, v4] := by
        match σ', hl with
        | [v0, v1, v2, v3, v4], _ => exact ⟨v0, v1, v2, v3, v4, rfl⟩
      obtain ⟨rfl, sH⟩ := hE
      have h1 : upd H' a' (isExc a' (.ref cc.NoStanding)) a' = some (isExc a' (.ref cc.NoStanding)) := upd_same
      have s1 := sH.trans (Same.new (o := isExc a' (.ref cc.NoStanding)) ha)
      walk_at "wp"
      exact ⟨a', rfl, h1, fun H2 s2 => q H2 (s1.trans s2)⟩
end
end Pf
set_option maxHeartbeats 1000000
namespace Pf
open PySem L2 PyProof.Rows
section
variable {P : Program} {w : World} {K : PySem.W.Frag} {mg : Str → Option Value} {base : Heap} {C G S : Addr} {cc : Cs}
abbrev Tc := Int × Int × List (List V)
abbrev tc0 : Tc := (0, 0, [])
theorem comp_ord3 {a D : Addr} {xs : List V} {fr : List (Str × Nat)} {σ : L2.St} {te : TE} {H1 : Hp} {Q : VK} (R : Nat → Hp → V → Prop) (hS : ∀ {i H H' y}, R i H y → Same H H' → R i H' y) (hP : ∀ {i H y l o}, R i H y → H D = some (.lst l) → R i (upd H D o) y)
    (ha : H1 a = some (.lst xs)) (hD : H1 D = none) (hn : xs.length ≤ 1000)
    (hx3 : ∀ (i : Nat) x, xs[i]? = some x → ∃ t x1 x2 x3, x = .ref t ∧ H1 t = some (.tup [x1, x2, x3]))
    (h : ∀ (i : Nat) (t : Addr) (x1 x2 x3 : V) H (Q : VK), xs[i]? = some (.ref t) → H1 t = some (.tup [x1, x2, x3]) → Same H1 H → (∃ l, H D = some (.lst l)) → (∀ y H', Same H H' → R i H' y → Q y H') → te (some x1 :: some x2 :: some x3 :: capOf fr σ) H Q)
    (hQ : ∀ ys H', Same H1 H' → H' D = some (.lst ys) → ys.length = xs.length → (∀ (i : Nat) y, ys[i]? = some y → R i H' y) → Q (.ref D) H') : tBlock (gTup K 3 (gCons (gName 0) (gCons (gName 1) (gCons (gName 2) gNil)))) tYes te (Itl K a) D (capS 3 fr σ) H1 Q := by
  refine comp_itl (k := 3) (xs := xs) (fun i vs H => Same H1 H ∧ H D = some (.lst vs) ∧ vs.length = i ∧ ∀ (j : Nat) y, vs[j]? = some y → R j H y) ⟨Same.new hD, upd_same, rfl, fun j y e => by simp at e⟩ (fun i vs H _ p => SqL.of (p.1 _ _ ha)) ?_ (fun vs H ⟨s, e, hl, hr⟩ => hQ vs H s e hl hr)
  rintro i x vs σ' H hi hx sh ⟨s, e, hl, hr⟩
  obtain ⟨z1, z2, z3, rfl⟩ := sh_three sh
  obtain ⟨t, x1, x2, x3, rfl, ht⟩ := hx3 i x hx
  refine ⟨_, _, rfl, SqT.of (s _ _ ht), rfl, _, _, rfl, _, _, rfl, _, _, rfl, rfl, ?_⟩
  simp only [tYes, List.set_cons_zero, List.set_cons_succ, if_true]
  refine h i t x1 x2 x3 H _ hx ht s ⟨_, e⟩ fun y H' s' ry => ?_
  refine leaf (ws := vs ++ [y]) hi sh_mk3 (s' _ _ e) (small1000 (by omega)) ⟨(s.trans s').upd hD, upd_same, by rw [List.length_append, hl]; rfl, fun j u hu => ?_⟩
  by_cases hj : j < vs.length
  · rw [List.getElem?_append_left hj] at hu
    exact hP (hS (hr j u hu) s') (s' _ _ e)
  · rw [List.getElem?_append_right (by omega)] at hu
    have hj0 : j - vs.length = 0 := by
      by_cases z : j - vs.length = 0
      · exact z
      · rw [List.getElem?_eq_none (by simp; omega)] at hu; cases hu
    rw [hj0] at hu
    cases hu
    rw [show j = i by omega]
    exact hP ry (s' _ _ e)
structure Sha (H : Hp) (t r : Addr) (rs : List Addr) (c : Tc) : Prop where
  tup : H t = some (.tup [.int c.1, .int c.2.1, .ref r])
  lst : H r = some (.lst (rs.map V.ref))
  len : rs.length = c.2.2.length
  con : ∀ (i : Nat) a, rs[i]? = some a → H a = some (.lst (c.2.2.getD i []))
  nin : r ∉ rs
theorem Sha.same {H H' : Hp} {t r : Addr} {rs : List Addr} {c : Tc} (h : Sha H t r rs c) (s : Same H H') : Sha H' t r rs c := ⟨s _ _ h.tup, s _ _ h.lst, h.len, fun i a e => s _ _ (h.con i a e), h.nin⟩
theorem Sha.put {H : Hp} {t r D : Addr} {rs : List Addr} {c : Tc} {l : List V} {o : HO} (h : Sha H t r rs c) (hD : H D = some (.lst l)) (nr : r ≠ D) (ns : D ∉ rs) : Sha (upd H D o) t r rs c :=
  ⟨by rw [upd_ne (ne_of h.tup hD (by intro z; cases z))]; exact h.tup, by rw [upd_ne nr]; exact h.lst, h.len, fun i a e => by rw [upd_ne (fun z => ns (by rw [← z]; exact List.mem_of_getElem? e))]; exact h.con i a e, h.nin⟩
structure Shas (H : Hp) (l : Addr) (ts : List Addr) (us : List Tc) : Prop where
  lst : H l = some (.lst (ts.map V.ref))
  len : ts.length = us.length
  few : us.length ≤ 20
  at' : ∀ (i : Nat) t c, ts[i]? = some t → us[i]? = some c → (∃ r rs, Sha H t r rs c) ∧ c.2.2.length ≤ 60
theorem Shas.same {H H' : Hp} {l : Addr} {ts : List Addr} {us : List Tc} (h : Shas H l ts us) (s : Same H H') : Shas H' l ts us := ⟨s _ _ h.lst, h.len, h.few, fun i t c e1 e2 => let ⟨⟨r, rs, a⟩, b⟩ := h.at' i t c e1 e2; ⟨⟨r, rs, a.same s⟩, b⟩⟩
theorem refs_of {P : Nat → Addr → Prop} : ∀ {ys : List V}, (∀ (i : Nat) y, ys[i]? = some y → ∃ b, y = .ref b ∧ P i b) → ∃ bs : List Addr, ys = bs.map V.ref ∧ ∀ (i : Nat) b, bs[i]? = some b → P i b := by
  intro ys
  induction ys generalizing P with
  | nil => exact fun _ => ⟨[], rfl, fun i b e => by simp at e⟩
  | cons y ys ih =>
    intro h
    obtain ⟨b, rfl, hb⟩ := h 0 y rfl
    obtain ⟨bs, rfl, hbs⟩ := ih (P := fun i b => P (i + 1) b) fun i u e => h (i + 1) u (by simpa using e)
    exact ⟨b :: bs, rfl, fun i u e => by
      cases i with
      | zero => cases e; exact hb
      | succ i => exact hbs i u (by simpa using e)⟩
def spLent : Sp := fun vs H Q _ => ∃ (l : Addr) (ts : List Addr) (us : List Tc), vs = [.ref l] ∧ Shas H l ts us ∧ ∀ (l' : Addr) (ts' : List Addr) (H' : Hp), Same H H' → H l' = none → Shas H' l' ts' us → Q (.ref l') H'
theorem ok_lent {f : Addr} {fd : FuncData} (F : Fun K "_law_lent" "_law_lent" s_law_lent f fd) (T : Txt K mg C G S) : FnOk P w K mg base CX0 1 f fd ["_law_tables_here"] spLent := by
  have nd := sc_law_lent.nd
  refine F.ok sc_law_lent (fun vs H Q E h => ?_) (fun cdv A outer s H vs Q E hr h => ?_)
  · obtain ⟨l, ts, us, rfl, _⟩ := h
    rfl
  · obtain ⟨l, ts, us, rfl, hT, q⟩ := h
    have hlen := hT.len
    have few := hT.few
    refine ⟨_, (@pss_one _ _ _ (@ps_ret _ _ _ _ (pe_comp (own := ["_law_high", "_law_wide", "_law_rows"]) (fr := []) rfl (bl_of (by kernel_rfl)) (pi_list (pv 0)) (fun _ _ _ _ => ⟨(@pg_tupK _ K rfl _ _ _ _ 3 rfl (@pgs_cons _ _ _ _ _ (@pg_name _ _ 0 _ (show (["_law_high", "_law_wide", "_law_rows"] : List Str).Nodup by decide +kernel) rfl (Or.inl rfl) (Or.inr rfl)) (@pgs_cons _ _ _ _ _ (@pg_name _ _ 1 _ (show (["_law_high", "_law_wide", "_law_rows"] : List Str).Nodup by decide +kernel) rfl (Or.inl rfl) (Or.inr rfl)) (@pgs_cons _ _ _ _ _ (@pg_name _ _ 2 _ (show (["_law_high", "_law_wide", "_law_rows"] : List Str).Nodup by decide +kernel) rfl (Or.inl rfl) (Or.inr rfl)) (@pgs_nil _) (by rfl)) (by rfl)) (by rfl)) (by rfl) (by rfl)), pts_nil, (@pe_tup _ _ _ _ _ (@pa_c _ _ _ _ _ (pv 0) (@pa_c _ _ _ _ _ (pv 1) (@pa_c _ _ _ _ _ (pe_comp (own := ["_law_row"]) (fr := []) rfl (bl_of (by kernel_rfl)) (pi_listK K rfl (pv 2)) (fun _ _ _ _ => ⟨(@pg_name _ _ 0 _ (show (["_law_row"] : List Str).Nodup by decide +kernel) rfl (Or.inl rfl) (Or.inr rfl)), pts_nil, (pe_cT (call_list_ofK K rfl) rfl T.n_list boot_list (@pa_c _ _ _ _ _ (pv 0) pa_nil (by rfl)))⟩)) pa_nil (by rfl)) (by rfl)) (by rfl)))⟩)))), ?_⟩
    walk_at "wp"
    have at0 : ∀ (i : Nat) x, (ts.map V.ref)[i]? = some x → ∃ t r rs, x = .ref t ∧ i < us.length ∧ Sha H t r rs (us.getD i tc0) ∧ (us.getD i tc0).2.2.length ≤ 60 := fun i x hx => by
      rw [List.getElem?_map] at hx
      cases ht : ts[i]? with
      | none => rw [ht] at hx; cases hx
      | some t =>
        rw [ht] at hx
        cases hx
        have hi : i < us.length := by have := (List.getElem?_eq_some_iff.mp ht).1; omega
        obtain ⟨⟨r, rs, a⟩, b⟩ := hT.at' i t _ ht (List.getElem?_eq_getElem hi)
        refine ⟨t, r, rs, rfl, hi, ?_⟩
        rw [List.getD_eq_getElem?_getD, List.getElem?_eq_getElem hi]
        exact ⟨a, b⟩
    refine ⟨_, rfl, l, rfl, ⟨_, SqL.of hT.lst⟩, fun D hD => comp_ord3 (fun i Hc y => ∃ t, y = .ref t ∧ ∃ r rs, Sha Hc t r rs (us.getD i tc0) ∧ r ≠ D ∧ D ∉ rs) (fun ⟨t, e, r, rs, a, b⟩ s => ⟨t, e, r, rs, a.same s, b⟩) (fun ⟨t, e, r, rs, a, b, c⟩ hD => ⟨t, e, r, rs, a.put hD b c, b, c⟩) hT.lst hD (by rw [List.length_map]; omega) (fun i x hx => ?_) (fun i t x1 x2 x3 H' Q' hx ht s' ⟨lD, hlD⟩ q' => ?_) (fun ys H' s' h' hyl hys => ?_)⟩
    · obtain ⟨t, r, rs, rfl, _, a, _⟩ := at0 i x hx
      exact ⟨t, _, _, _, rfl, a.tup⟩
    · obtain ⟨t', r, rs, e, hi, a, b⟩ := at0 i _ hx
      cases e
      rw [a.tup] at ht
      cases ht
      have a' := a.same s'
      refine ⟨_, rfl, _, rfl, _, rfl, r, rfl, ⟨_, SqL.of a'.lst⟩, fun D2 hD2 => copy_rows (M := (us.getD i tc0).2.2) a'.lst a'.con (by have := a.len; omega) hD2 fun rs' H2 s2 hD2' hl2 hc2 fr2 nd2 => ⟨by show 3 ≤ sizeLine; decide, fun pt hpt => ?_⟩⟩
      have s3 := Same.new (o := .tup [V.int (us.getD i tc0).1, V.int (us.getD i tc0).2.1, V.ref D2]) hpt
      exact q' _ _ (s2.trans s3) ⟨pt, rfl, D2, rs', ⟨upd_same, s3 _ _ hD2', by rw [hl2]; exact a.len, fun j b ej => s3 _ _ (hc2 j b ej), fun z => (fr2 D2 z).2 rfl⟩, (fun z => by rw [z, hlD] at hD2; cases hD2), (fun z => by have := (fr2 D z).1; rw [hlD] at this; cases this)⟩
    · obtain ⟨ts', rfl, hts⟩ := refs_of hys
      rw [List.length_map, List.length_map] at hyl
      refine q D ts' H' s' hD ⟨h', by omega, few, fun i t c e1 e2 => ?_⟩
      obtain ⟨r, rs, a, _⟩ := hts i t e1
      have hi : i < us.length := (List.getElem?_eq_some_iff.mp e2).1
      have ec : us.getD i tc0 = c := by rw [List.getD_eq_getElem?_getD, e2]; rfl
      rw [ec] at a
      obtain ⟨_, hb⟩ := hT.at' i _ c (List.getElem?_eq_getElem (by omega)) e2
      exact ⟨⟨r, rs, a⟩, hb⟩
end
end Pf
set_option maxHeartbeats 1000000
namespace Pf
open PySem L2 PyProof.Rows
section
variable {P : Program} {w : World} {K : PySem.W.Frag} {mg : Str → Option Value} {base : Heap} {C G S : Addr} {cc : Cs}
theorem cut1 {A X : TS} {D : Ends} {σ : L2.St} {H : Hp} (h : ∀ X', X' = X → tSeq A X' D σ H) : tSeq A X D σ H := h X rfl
theorem cut2 {A B X : TS} {D : Ends} {σ : L2.St} {H : Hp} (h : ∀ X', X' = X → tSeq A (tSeq B X') D σ H) : tSeq A (tSeq B X) D σ H := h X rfl
theorem cut3 {A B C' X : TS} {D : Ends} {σ : L2.St} {H : Hp} (h : ∀ X', X' = X → tSeq A (tSeq B (tSeq C' X')) D σ H) : tSeq A (tSeq B (tSeq C' X)) D σ H := h X rfl
def Fine (H : Hp) (c : Tc) : Prop := c.2.2.length ≤ 60 ∧ ∀ row ∈ c.2.2, row.length ≤ 60 ∧ ∀ v ∈ row, WfN H v
theorem Fine.same {H H' : Hp} {c : Tc} (h : Fine H c) (s : Same H H') : Fine H' c := ⟨h.1, fun row hr => ⟨(h.2 row hr).1, fun v hv => ((h.2 row hr).2 v hv).same s⟩⟩
def rowT (p wd : Int) (H : Hp) (row : List V) : Bool := decide ((row.length : Int) = wd) && row.all (numB p H)
def shT (p hh wd : Int) (H : Hp) (c : Tc) : Bool := (decide (0 ≤ c.1) && decide (0 ≤ c.2.1) && decide ((c.2.2.length : Int) = c.1) && c.2.2.all (rowT p c.2.1 H)) && (decide (c.1 = hh) && decide (c.2.1 = wd))
theorem Sha.rows {p wd : Int} {H : Hp} {rs : List Addr} {M : List (List V)} (len : rs.length = M.length) (con : ∀ (i : Nat) a, rs[i]? = some a → H a = some (.lst (M.getD i []))) : (rs.map V.ref).all (rowB p wd H) = M.all (rowT p wd H) := by
  rw [Bool.eq_iff_iff, List.all_eq_true, List.all_eq_true]
  constructor
  · intro h row hr
    obtain ⟨j, hj, rfl⟩ := List.mem_iff_getElem.mp hr
    have e : rs[j]? = some (rs[j]'(by omega)) := List.getElem?_eq_getElem _
    have := h _ (List.mem_map.mpr ⟨_, List.mem_of_getElem? e, rfl⟩)
    rw [rowB_li (con j _ e)] at this
    rw [List.getD_eq_getElem?_getD, List.getElem?_eq_getElem hj] at this
    exact this
  · intro h v hv
    obtain ⟨a, ha, rfl⟩ := List.mem_map.mp hv
    obtain ⟨j, hj, rfl⟩ := List.mem_iff_getElem.mp ha
    have e : rs[j]? = some rs[j] := List.getElem?_eq_getElem hj
    rw [rowB_li (con j _ e)]
    rw [List.getD_eq_getElem?_getD, List.getElem?_eq_getElem (show j < M.length by omega)]
    exact h _ (List.getElem_mem _)
theorem Sha.to {p hh wd : Int} {H : Hp} {t r : Addr} {rs : List Addr} {c : Tc} (h : Sha H t r rs c) : toB p hh wd H (.ref t) = shT p hh wd H c := by
  rw [toB_tup h.tup]
  unfold shT
  congr 1
  simp only [tabB, h.tup, h.lst]
  rw [Sha.rows h.len h.con, List.length_map, h.len]
theorem Sha.wft {H : Hp} {t r : Addr} {rs : List Addr} {c : Tc} (h : Sha H t r rs c) (f : Fine H c) : WfT H (.ref t) := by
  refine ⟨.tup h.tup (by show 3 ≤ 1000; decide), fun a xs e1 e2 y hy => ?_⟩
  cases e1
  rw [h.tup] at e2
  cases e2
  have hl := h.len
  have f1 := f.1
  simp only [List.mem_cons, List.not_mem_nil, or_false] at hy
  rcases hy with rfl | rfl | rfl
  · exact ⟨.int, fun r rows z => by cases z⟩
  · exact ⟨.int, fun r rows z => by cases z⟩
  · refine ⟨.lst h.lst (by rw [List.length_map]; omega), fun r' rows z e z' hz => ?_⟩
    cases z
    rw [h.lst] at e
    cases e
    obtain ⟨a, ha, rfl⟩ := List.mem_map.mp hz
    obtain ⟨j, hj, rfl⟩ := List.mem_iff_getElem.mp ha
    have hc := h.con j _ (List.getElem?_eq_getElem hj)
    rw [List.getD_eq_getElem?_getD, List.getElem?_eq_getElem (show j < c.2.2.length by omega)] at hc
    have := f.2 _ (List.getElem_mem (show j < c.2.2.length by omega))
    refine ⟨.lst hc (Nat.le_trans this.1 (by decide)), fun b ys e1 e2 y hy => ?_⟩
    cases e1
    rw [hc] at e2
    cases e2
    exact this.2 y hy
theorem comp_ord {a D : Addr} {xs : List V} {fr : List (Str × Nat)} {σ : L2.St} {te : TE} {H1 : Hp} {Q : VK} (R : Nat → Hp → V → Prop) (hS : ∀ {i H H' y}, R i H y → Same H H' → R i H' y) (hP : ∀ {i H y l o}, R i H y → H D = some (.lst l) → R i (upd H D o) y)
    (ha : H1 a = some (.lst xs)) (hD : H1 D = none) (hn : xs.length ≤ 1000)
    (h : ∀ (i : Nat) x H (Q : VK), xs[i]? = some x → Same H1 H → (∃ l, H D = some (.lst l)) → (∀ y H', Same H H' → R i H' y → Q y H') → te (some x :: capOf fr σ) H Q)
    (hQ : ∀ ys H', Same H1 H' → H' D = some (.lst ys) → ys.length = xs.length → (∀ (i : Nat) y, ys[i]? = some y → R i H' y) → Q (.ref D) H') : tBlock (gName 0) tYes te (Itl K a) D (capS 1 fr σ) H1 Q := by
  refine comp_itl (xs := xs) (fun i vs H => Same H1 H ∧ H D = some (.lst vs) ∧ vs.length = i ∧ ∀ (j : Nat) y, vs[j]? = some y → R j H y) ⟨Same.new hD, upd_same, rfl, fun j y e => by simp at e⟩ (fun i vs H _ p => SqL.of (p.1 _ _ ha)) ?_ (fun vs H ⟨s, e, hl, hr⟩ => hQ vs H s e hl hr)
  rintro i x vs σ' H hi hx sh ⟨s, e, hl, hr⟩
  obtain ⟨z, rfl⟩ := sh.one
  simp only [tTurn, gName, tYes, List.set_cons_zero, if_true]
  refine h i x H _ hx s ⟨_, e⟩ fun y H' s' ry => ?_
  refine leaf (ws := vs ++ [y]) hi Sh.mk1 (s' _ _ e) (small1000 (by omega)) ⟨(s.trans s').upd hD, upd_same, by rw [List.length_append, hl]; rfl, fun j u hu => ?_⟩
  by_cases hj : j < vs.length
  · rw [List.getElem?_append_left hj] at hu
    exact hP (hS (hr j u hu) s') (s' _ _ e)
  · rw [List.getElem?_append_right (by omega)] at hu
    have hj0 : j - vs.length = 0 := by
      by_cases z : j - vs.length = 0
      · exact z
      · rw [List.getElem?_eq_none (by simp; omega)] at hu; cases hu
    rw [hj0] at hu
    cases hu
    rw [show j = i by omega]
    exact hP ry (s' _ _ e)
theorem comp_ordr {lo : Int} {n : Nat} {D : Addr} {fr : List (Str × Nat)} {σ : L2.St} {te : TE} {H1 : Hp} {Q : VK} (R : Nat → Hp → V → Prop) (hS : ∀ {i H H' y}, R i H y → Same H H' → R i H' y) (hP : ∀ {i H y l o}, R i H y → H D = some (.lst l) → R i (upd H D o) y)
    (hD : H1 D = none) (hn : n ≤ 1000)
    (h : ∀ (i : Nat) H (Q : VK), i < n → Same H1 H → (∃ l, H D = some (.lst l)) → (∀ y H', Same H H' → R i H' y → Q y H') → te (some (.int (lo + (i : Nat))) :: capOf fr σ) H Q)
    (hQ : ∀ ys H', Same H1 H' → H' D = some (.lst ys) → ys.length = n → (∀ (i : Nat) y, ys[i]? = some y → R i H' y) → Q (.ref D) H') : tBlock (gName 0) tYes te (Itr lo n) D (capS 1 fr σ) H1 Q := by
  refine comp_itr (n := n) (fun i vs H => Same H1 H ∧ H D = some (.lst vs) ∧ vs.length = i ∧ ∀ (j : Nat) y, vs[j]? = some y → R j H y) ⟨Same.new hD, upd_same, rfl, fun j y e => by simp at e⟩ ?_ (fun vs H ⟨s, e, hl, hr⟩ => hQ vs H s e hl hr)
  rintro i x vs σ' H hi rfl sh ⟨s, e, hl, hr⟩
  obtain ⟨z, rfl⟩ := sh.one
  simp only [tTurn, gName, tYes, List.set_cons_zero, if_true]
  refine h i H _ hi s ⟨_, e⟩ fun y H' s' ry => ?_
  refine leaf (ws := vs ++ [y]) hi Sh.mk1 (s' _ _ e) (small1000 (by omega)) ⟨(s.trans s').upd hD, upd_same, by rw [List.length_append, hl]; rfl, fun j u hu => ?_⟩
  by_cases hj : j < vs.length
  · rw [List.getElem?_append_left hj] at hu
    exact hP (hS (hr j u hu) s') (s' _ _ e)
  · rw [List.getElem?_append_right (by omega)] at hu
    have hj0 : j - vs.length = 0 := by
      by_cases z : j - vs.length = 0
      · exact z
      · rw [List.getElem?_eq_none (by simp; omega)] at hu; cases hu
    rw [hj0] at hu
    cases hu
    rw [show j = i by omega]
    exact hP ry (s' _ _ e)
theorem comp_rep {lo : Int} {n : Nat} {D : Addr} {fr : List (Str × Nat)} {σ : L2.St} {te : TE} {H1 : Hp} {Q : VK} (v : V) (hD : H1 D = none) (hn : n ≤ 1000)
    (h : ∀ (i : Nat) H (Q : VK), Q v H → te (some (.int (lo + (i : Nat))) :: capOf fr σ) H Q)
    (hQ : ∀ H', Same H1 H' → H' D = some (.lst (List.replicate n v)) → Q (.ref D) H') : tBlock (gName 0) tYes te (Itr lo n) D (capS 1 fr σ) H1 Q :=
  comp_ordr (fun _ _ y => y = v) (fun h _ => h) (fun h _ => h) hD hn (fun i H Q _ _ _ q => h i H Q (q v H (Same.refl _) rfl)) fun ys H' s e hl hr => hQ H' s (by
    rw [e]
    congr 2
    refine List.ext_getElem? fun i => ?_
    rw [List.getElem?_replicate]
    split
    · rename_i hi
      rw [List.getElem?_eq_getElem (by omega)]
      exact congrArg some (hr i _ (List.getElem?_eq_getElem (by omega)))
    · rw [List.getElem?_eq_none (by omega)])
theorem rowT_same {p wd : Int} {H H' : Hp} {row : List V} (f : ∀ v ∈ row, WfN H v) (s : Same H H') : rowT p wd H' row = rowT p wd H row := by
  unfold rowT
  congr 1
  exact all_congr' fun v hv => numB_same (f v hv) s
theorem shT_same {p hh wd : Int} {H H' : Hp} {c : Tc} (f : Fine H c) (s : Same H H') : shT p hh wd H' c = shT p hh wd H c := by
  unfold shT
  congr 2
  refine all_congr' fun row hr => ?_
  unfold rowT
  congr 1
  exact all_congr' fun v hv => numB_same ((f.2 row hr).2 v hv) s
theorem TabC.fine {H : Hp} {p hh wd : Int} {t r : Addr} {rs : List Addr} {M : List (List V)} (h : TabC H p hh wd t r rs M) (h24 : hh ≤ 24) (w24 : wd ≤ 24) : ∃ M0 : List (List V), Sha H t r rs (hh, wd, M0) ∧ Fine H (hh, wd, M0) ∧ (∀ row ∈ M0, (row.length : Int) = wd) ∧ (M0.length : Int) = hh := by
  have hl := h.tab.len
  have row : ∀ (i : Nat) a, rs[i]? = some a → (((M.getD i []).length : Int) = wd) ∧ ∀ v ∈ M.getD i [], WfN H v := fun i a e => by
    obtain ⟨xs, h1, h2, h3⟩ := h.tab.row a (List.mem_of_getElem? e)
    rw [h.con i a e] at h1
    cases h1
    exact ⟨h2, fun v hv => (h3 v hv).wf⟩
  have get : ∀ row ∈ (List.range rs.length).map (fun i => M.getD i []), ∃ (i : Nat) (a : Addr), rs[i]? = some a ∧ row = M.getD i [] := fun row hr => by
    obtain ⟨i, hi, rfl⟩ := List.mem_map.mp hr
    have hi := List.mem_range.mp hi
    exact ⟨i, _, List.getElem?_eq_getElem hi, rfl⟩
  refine ⟨(List.range rs.length).map (fun i => M.getD i []), ⟨h.tab.tup, h.tab.lst, by rw [List.length_map, List.length_range], fun i a e => ?_, h.tab.nin⟩, ⟨by show ((List.range rs.length).map _).length ≤ 60; rw [List.length_map, List.length_range]; omega, fun row' hr => ?_⟩, fun row' hr => ?_, by rw [List.length_map, List.length_range]; exact hl⟩
  · have hi : i < rs.length := (List.getElem?_eq_some_iff.mp e).1
    show H a = some (.lst (((List.range rs.length).map (fun i => M.getD i [])).getD i []))
    rw [List.getD_eq_getElem?_getD (l := List.map _ _), List.getElem?_map, List.getElem?_range hi]
    exact h.con i a e
  · obtain ⟨i, a, e, rfl⟩ := get row' hr
    obtain ⟨h1, h2⟩ := row i a e
    exact ⟨by omega, h2⟩
  · obtain ⟨i, a, e, rfl⟩ := get row' hr
    exact (row i a e).1
theorem ne_of_none' {H : Hp} {a b : Addr} {o : HO} (h : H a = none) (h' : H b = some o) : a ≠ b := fun z => by rw [z, h'] at h; cases h
theorem cut_takeI (xs : List V) {i : Int} (h0 : 0 ≤ i) (h1 : i ≤ xs.length) : cutV xs none (some i) = xs.take i.toNat := by
  unfold cutV
  have e0 : HT.sIx xs.length 0 none = 0 := rfl
  have e1 : HT.sIx xs.length xs.length (some i) = i.toNat := by
    simp only [HT.sIx]
    rw [if_neg (by omega)]
    omega
  rw [e0, e1, List.drop_zero, Nat.sub_zero]
theorem cut_dropI (xs : List V) {i : Int} (h0 : 0 ≤ i) (h1 : i ≤ xs.length) : cutV xs (some i) none = xs.drop i.toNat := by
  unfold cutV
  have e0 : HT.sIx xs.length xs.length none = xs.length := rfl
  have e1 : HT.sIx xs.length 0 (some i) = i.toNat := by
    simp only [HT.sIx]
    rw [if_neg (by omega)]
    omega
  rw [e0, e1]
  exact List.take_of_length_le (by rw [List.length_drop]; omega)
theorem ite_or {c d : Bool} {A B : Prop} (hA : A) (hB : ¬ c = true → ¬ d = true → B) : if c = true then A else if d = true then A else B := by
  split
  · exact hA
  · split
    · exact hA
    · exact hB ‹_› ‹_›
theorem wfn_pair {H : Hp} {a : Addr} {x y : Int} (h : H a = some (.tup [.int x, .int y])) (hx : x.natAbs ≤ 1000000000000000000000000000000000) (hy : y.natAbs ≤ 1000000000000000000000000000000000) : WfN H (.ref a) := by
  refine wfn_tup h (by show 2 ≤ 1000; decide) fun u hu => ?_
  simp only [List.mem_cons, List.not_mem_nil, or_false] at hu
  rcases hu with rfl | rfl
  · exact ⟨Kn.int, fun j e => by cases e; exact Top.of (Nat.le_trans hx (by decide))⟩
  · exact ⟨Kn.int, fun j e => by cases e; exact Top.of (Nat.le_trans hy (by decide))⟩
theorem frB_pair {H : Hp} {a : Addr} {x y : Int} (h : H a = some (.tup [.int x, .int y])) : numB 0 H (.ref a) = (decide (1 ≤ y) && decide (Int.gcd x y = 1)) := by
  unfold numB
  rw [if_pos rfl]
  simp only [frB, h]
def Con (H : Hp) (rs : List Addr) (M : List (List V)) : Prop := ∀ (i : Nat) a, rs[i]? = some a → H a = some (.lst (M.getD i []))
theorem Con.same {H H' : Hp} {rs : List Addr} {M : List (List V)} (h : Con H rs M) (s : Same H H') : Con H' rs M := fun i a e => s _ _ (h i a e)
theorem Con.app {H : Hp} {rs rs' : List Addr} {M M' : List (List V)} (h : Con H rs M) (h' : Con H rs' M') (hl : rs.length = M.length) : Con H (rs ++ rs') (M ++ M') := fun i a e => by
  rw [List.getD_eq_getElem?_getD]
  by_cases hi : i < rs.length
  · rw [List.getElem?_append_left hi] at e
    rw [List.getElem?_append_left (by omega), ← List.getD_eq_getElem?_getD]
    exact h i a e
  · rw [List.getElem?_append_right (by omega)] at e
    rw [List.getElem?_append_right (by omega), ← hl, ← List.getD_eq_getElem?_getD]
    exact h' _ a e
theorem Con.one {H : Hp} {b : Addr} {row : List V} (h : H b = some (.lst row)) : Con H [b] [row] := fun i a e => by
  cases i with
  | zero => cases e; exact h
  | succ i => simp at e
theorem Con.take {H : Hp} {rs : List Addr} {M : List (List V)} (h : Con H rs M) (n : Nat) : Con H (rs.take n) (M.take n) := fun i a e => by
  by_cases hi : i < n
  · rw [List.getElem?_take_of_lt hi] at e
    rw [List.getD_eq_getElem?_getD, List.getElem?_take_of_lt hi, ← List.getD_eq_getElem?_getD]
    exact h i a e
  · rw [List.getElem?_eq_none (by rw [List.length_take]; omega)] at e
    cases e
theorem Con.drop {H : Hp} {rs : List Addr} {M : List (List V)} (h : Con H rs M) (n : Nat) : Con H (rs.drop n) (M.drop n) := fun i a e => by
  rw [List.getElem?_drop] at e
  rw [List.getD_eq_getElem?_getD, List.getElem?_drop, ← List.getD_eq_getElem?_getD]
  exact h _ a e
theorem Con.free {H : Hp} {rs : List Addr} {M : List (List V)} {b : Addr} (h : Con H rs M) (hb : H b = none) : b ∉ rs := fun z => by
  obtain ⟨i, hi, rfl⟩ := List.mem_iff_getElem.mp z
  have := h i _ (List.getElem?_eq_getElem hi)
  rw [hb] at this
  cases this
theorem Fine.mk' {H : Hp} {h w : Int} {M : List (List V)} (h1 : M.length ≤ 60) (h2 : ∀ row ∈ M, row.length ≤ 60 ∧ ∀ v ∈ row, WfN H v) : Fine H (h, w, M) := ⟨h1, h2⟩
def spBt : Sp := fun vs H Q _ => ∃ (l t r : Addr) (p hh wd way : Int) (rs : List Addr) (M : List (List V)), vs = [.ref l, .int p, .ref t, .int way] ∧ Bag H l ∧ GroundP p ∧ TabC H p hh wd t r rs M ∧ 0 ≤ hh ∧ hh ≤ 24 ∧ 0 ≤ wd ∧ wd ≤ 24 ∧ r ≠ l ∧ l ∉ rs ∧ ∀ (t' r' : Addr) (rs' : List Addr) (c : Tc) (H' : Hp), Ext l H H' → Bag H' l → Sha H' t' r' rs' c → r' ≠ l → l ∉ rs' → Fine H' c → shT p hh wd H' c = false → Q (.ref t') H'
theorem ok_bt {f : Addr} {fd : FuncData} (F : Fun K "_law_bad_table" "_law_bad_table" s_law_bad_table f fd) (T : Txt K mg C G S) (C_law_draw : Cal P w K mg base "_law_draw" 1 spDraw) (C_law_whole : Cal P w K mg base "_law_whole" 1 spInt) : FnOk P w K mg base CX0 2 f fd ["_law_bag_here", "_law_p", "_law_table_here", "_law_way"] spBt := by
  have nd := sc_law_bad_table.nd
  refine F.ok sc_law_bad_table (fun vs H Q E h => ?_) (fun cdv A outer s H vs Q E hr h => ?_)
  · obtain ⟨l, t, r, p, hh, wd, way, rs, M, rfl, _⟩ := h
    rfl
  · obtain ⟨l, t, r, p, hh, wd, way, rs, M, rfl, hb, hp, tb, h0, h24, w0, w24, nrl, nlr, q⟩ := h
    refine ⟨_, (@pss_cons _ _ _ _ _ (ps_asg (pv 2) (@pg_tup _ _ _ _ _ 3 rfl (@pgs_cons _ _ _ _ _ (@pg_name _ _ 4 _ nd rfl (Or.inl rfl) (Or.inl rfl)) (@pgs_cons _ _ _ _ _ (@pg_name _ _ 5 _ nd rfl (Or.inl rfl) (Or.inl rfl)) (@pgs_cons _ _ _ _ _ (@pg_name _ _ 6 _ nd rfl (Or.inl rfl) (Or.inl rfl)) (@pgs_nil _) (by rfl)) (by rfl)) (by rfl)) (by rfl) (by rfl))) (@pss_cons _ _ _ _ _ (ps_set (i := 7) nd rfl (Or.inr rfl) (pe_c C_law_whole (hr.mono (by decide)) rfl (@pa_c _ _ _ _ _ (pv 1) (@pa_c _ _ _ _ _ pe_int pa_nil (by rfl)) (by rfl)))) (@pss_cons _ _ _ _ _ (@ps_if _ _ _ _ _ _ _ _ (pt_cmpR op_eq (pv 3) pe_int (nomark _)) (@pss_one _ _ _ (@ps_ret _ _ _ _ (@pe_tup _ _ _ _ _ (@pa_c _ _ _ _ _ (@pe_op _ _ _ _ _ _ _ _ op_add (pv 4) pe_int) (@pa_c _ _ _ _ _ (pv 5) (@pa_c _ _ _ _ _ (@pe_op _ _ _ _ _ _ _ _ op_cat (pv 6) (@pe_lst _ _ _ _ (@pa_c _ _ _ _ _ (pe_comp (own := ["_law_k"]) (fr := [("_law_number_here", 7)]) rfl (bl_of (by kernel_rfl)) (pi_r1 rfl T.n_range (@pa_c _ _ _ _ _ (pv 5) pa_nil (by rfl))) (fun _ _ _ _ => ⟨(@pg_name _ _ 0 _ (show (["_law_k", "_law_number_here"] : List Str).Nodup by decide +kernel) rfl (Or.inl rfl) (Or.inr rfl)), pts_nil, (pv 1)⟩)) pa_nil (by rfl)))) pa_nil (by rfl)) (by rfl)) (by rfl))))) pss_nil) (@pss_cons _ _ _ _ _ (@ps_if _ _ _ _ _ _ _ _ (pt_cmpR op_eq (pv 3) pe_int (nomark _)) (@pss_one _ _ _ (@ps_ret _ _ _ _ (@pe_tup _ _ _ _ _ (@pa_c _ _ _ _ _ (pv 4) (@pa_c _ _ _ _ _ (@pe_op _ _ _ _ _ _ _ _ op_add (pv 5) pe_int) (@pa_c _ _ _ _ _ (pe_comp (own := ["_law_row"]) (fr := [("_law_number_here", 7)]) rfl (bl_of (by kernel_rfl)) (pi_list (pv 6)) (fun _ _ _ _ => ⟨(@pg_name _ _ 0 _ (show (["_law_row", "_law_number_here"] : List Str).Nodup by decide +kernel) rfl (Or.inl rfl) (Or.inr rfl)), pts_nil, (@pe_op _ _ _ _ _ _ _ _ op_cat (pv 0) (@pe_lst _ _ _ _ (@pa_c _ _ _ _ _ (pv 1) pa_nil (by rfl))))⟩)) pa_nil (by rfl)) (by rfl)) (by rfl))))) pss_nil) (@pss_cons _ _ _ _ _ (@ps_if _ _ _ _ _ _ _ _ (pt_cmpR op_eq (pv 4) pe_int (nomark _)) (@pss_one _ _ _ (@ps_ret _ _ _ _ (@pe_tup _ _ _ _ _ (@pa_c _ _ _ _ _ pe_int (@pa_c _ _ _ _ _ (pv 5) (@pa_c _ _ _ _ _ (@pe_lst _ _ _ _ (@pa_c _ _ _ _ _ (pe_comp (own := ["_law_k"]) (fr := [("_law_number_here", 7)]) rfl (bl_of (by kernel_rfl)) (pi_r1 rfl T.n_range (@pa_c _ _ _ _ _ (pv 5) pa_nil (by rfl))) (fun _ _ _ _ => ⟨(@pg_name _ _ 0 _ (show (["_law_k", "_law_number_here"] : List Str).Nodup by decide +kernel) rfl (Or.inl rfl) (Or.inr rfl)), pts_nil, (pv 1)⟩)) pa_nil (by rfl))) pa_nil (by rfl)) (by rfl)) (by rfl))))) pss_nil) (@pss_cons _ _ _ _ _ (ps_set (i := 8) nd rfl (Or.inl rfl) (pe_c C_law_draw (hr.mono (by decide)) rfl (@pa_c _ _ _ _ _ (pv 0) (@pa_c _ _ _ _ _ (pv 4) pa_nil (by rfl)) (by rfl)))) (@pss_cons _ _ _ _ _ (@ps_if _ _ _ _ _ _ _ _ (PW.pt (pw_or (pt_cmpR op_eq (pv 3) pe_int (nomark _)) (pw_or1 (pt_cmpR op_eq (pv 5) pe_int (nomark _))))) (@pss_one _ _ _ (@ps_ret _ _ _ _ (@pe_tup _ _ _ _ _ (@pa_c _ _ _ _ _ (pv 4) (@pa_c _ _ _ _ _ (pv 5) (@pa_c _ _ _ _ _ (@pe_op _ _ _ _ _ _ _ _ op_cat (@pe_op _ _ _ _ _ _ _ _ op_cat (@pe_slice _ _ _ _ _ _ _ _ _ _ sl_list (pv 6) po_none (@po_some _ _ _ (pv 8))) (@pe_lst _ _ _ _ (@pa_c _ _ _ _ _ (@pe_op _ _ _ _ _ _ _ _ op_cat (@pe_ix _ _ _ _ _ _ _ ix_list (pv 6) (pv 8) (fun _ _ => rfl)) (@pe_lst _ _ _ _ (@pa_c _ _ _ _ _ (pv 7) pa_nil (by rfl)))) pa_nil (by rfl)))) (@pe_slice _ _ _ _ _ _ _ _ _ _ sl_list (pv 6) (@po_some _ _ _ (@pe_op _ _ _ _ _ _ _ _ op_add (pv 8) pe_int)) po_none)) pa_nil (by rfl)) (by rfl)) (by rfl))))) pss_nil) (@pss_cons _ _ _ _ _ (ps_set (i := 9) nd rfl (Or.inl rfl) (pe_c C_law_draw (hr.mono (by decide)) rfl (@pa_c _ _ _ _ _ (pv 0) (@pa_c _ _ _ _ _ (pv 5) pa_nil (by rfl)) (by rfl)))) (@pss_cons _ _ _ _ _ (ps_set (i := 10) nd rfl (Or.inl rfl) (pe_c C_law_draw (hr.mono (by decide)) rfl (@pa_c _ _ _ _ _ (pv 0) (@pa_c _ _ _ _ _ (@pe_op _ _ _ _ _ _ _ _ op_pow pe_int pe_int) pa_nil (by rfl)) (by rfl)))) (@pss_cons _ _ _ _ _ (ps_set (i := 11) nd rfl (Or.inl rfl) (@pe_ix _ _ _ _ _ _ _ ix_list (@pe_lst _ _ _ _ (@pa_c _ _ _ _ _ (@pe_op _ _ _ _ _ _ _ _ op_add (pv 1) (pv 10)) (@pa_c _ _ _ _ _ (@pe_op _ _ _ _ _ _ _ _ op_sub (pe_un un_neg pe_int) (pv 10)) pa_nil (by rfl)) (by rfl))) (pe_c C_law_draw (hr.mono (by decide)) rfl (@pa_c _ _ _ _ _ (pv 0) (@pa_c _ _ _ _ _ pe_int pa_nil (by rfl)) (by rfl))) (fun _ _ => rfl))) (@pss_cons _ _ _ _ _ (@ps_if _ _ _ _ _ _ _ _ (pt_cmpR op_eq (pv 1) pe_int (nomark _)) (@pss_one _ _ _ (ps_set (i := 11) nd rfl (Or.inl rfl) (@pe_ix _ _ _ _ _ _ _ ix_list (@pe_lst _ _ _ _ (@pa_c _ _ _ _ _ (@pe_tup _ _ _ _ _ (@pa_c _ _ _ _ _ (@pe_op _ _ _ _ _ _ _ _ op_add pe_int (@pe_op _ _ _ _ _ _ _ _ op_mul pe_int (pv 10))) (@pa_c _ _ _ _ _ pe_int pa_nil (by rfl)) (by rfl))) (@pa_c _ _ _ _ _ (@pe_tup _ _ _ _ _ (@pa_c _ _ _ _ _ (@pe_op _ _ _ _ _ _ _ _ op_add pe_int (pv 10)) (@pa_c _ _ _ _ _ pe_int pa_nil (by rfl)) (by rfl))) (@pa_c _ _ _ _ _ (@pe_tup _ _ _ _ _ (@pa_c _ _ _ _ _ (@pe_op _ _ _ _ _ _ _ _ op_add pe_int (pv 10)) (@pa_c _ _ _ _ _ (pe_un un_neg pe_int) pa_nil (by rfl)) (by rfl))) pa_nil (by rfl)) (by rfl)) (by rfl))) (pe_c C_law_draw (hr.mono (by decide)) rfl (@pa_c _ _ _ _ _ (pv 0) (@pa_c _ _ _ _ _ pe_int pa_nil (by rfl)) (by rfl))) (fun _ _ => rfl)))) pss_nil) (@pss_cons _ _ _ _ _ (ps_set (i := 12) nd rfl (Or.inl rfl) (@pe_op _ _ _ _ _ _ _ _ op_cat (@pe_op _ _ _ _ _ _ _ _ op_cat (@pe_slice _ _ _ _ _ _ _ _ _ _ sl_list (@pe_ix _ _ _ _ _ _ _ ix_list (pv 6) (pv 8) (fun _ _ => rfl)) po_none (@po_some _ _ _ (pv 9))) (@pe_lst _ _ _ _ (@pa_c _ _ _ _ _ (pv 11) pa_nil (by rfl)))) (@pe_slice _ _ _ _ _ _ _ _ _ _ sl_list (@pe_ix _ _ _ _ _ _ _ ix_list (pv 6) (pv 8) (fun _ _ => rfl)) (@po_some _ _ _ (@pe_op _ _ _ _ _ _ _ _ op_add (pv 9) pe_int)) po_none))) (@pss_one _ _ _ (@ps_ret _ _ _ _ (@pe_tup _ _ _ _ _ (@pa_c _ _ _ _ _ (pv 4) (@pa_c _ _ _ _ _ (pv 5) (@pa_c _ _ _ _ _ (@pe_op _ _ _ _ _ _ _ _ op_cat (@pe_op _ _ _ _ _ _ _ _ op_cat (@pe_slice _ _ _ _ _ _ _ _ _ _ sl_list (pv 6) po_none (@po_some _ _ _ (pv 8))) (@pe_lst _ _ _ _ (@pa_c _ _ _ _ _ (pv 12) pa_nil (by rfl)))) (@pe_slice _ _ _ _ _ _ _ _ _ _ sl_list (pv 6) (@po_some _ _ _ (@pe_op _ _ _ _ _ _ _ _ op_add (pv 8) pe_int)) po_none)) pa_nil (by rfl)) (by rfl)) (by rfl))))))))))))))))), ?_⟩
    obtain ⟨M0, sh, fi, rw0, ml⟩ := tb.fine h24 w24
    have hrl := tb.tab.len
    have nou : ∀ {v : V} {H2 : Hp}, NumV H2 p v (intN p 0) → WfN H2 v := fun hv => NumO.wf (p := p) (B := 5000) ⟨_, hv, isn_int hp.lo, bd_int0 hp⟩
    have fin : ∀ (r' : Addr) (rs' : List Addr) (c : Tc) (H5 : Hp), Ext l H H5 → Bag H5 l → H5 r' = some (.lst (rs'.map V.ref)) → rs'.length = c.2.2.length → (∀ (i : Nat) a, rs'[i]? = some a → H5 a = some (.lst (c.2.2.getD i []))) → r' ∉ rs' → r' ≠ l → l ∉ rs' → Fine H5 c → shT p hh wd H5 c = false → 3 ≤ sizeLine ∧ ∀ pt, H5 pt = none → Q (.ref pt) (upd H5 pt (.tup [.int c.1, .int c.2.1, .ref r'])) := by
      intro r' rs' c H5 e5 b5 h1 h2 h3 h4 h5 h6 h7 h8
      refine ⟨by decide, fun pt hpt => ?_⟩
      have s6 := Same.new (o := .tup [V.int c.1, V.int c.2.1, V.ref r']) hpt
      exact q pt r' rs' c _ (e5.trans s6.ext) (b5.same s6) ⟨upd_same, s6 _ _ h1, h2, fun i a e => s6 _ _ (h3 i a e), h4⟩ h5 h6 (h7.same s6) (by rw [shT_same h7 s6]; exact h8)
    have lr : (rs.map V.ref).length = rs.length := List.length_map _
    have sl := sh.len
    have wfE : ∀ H10 : Hp, Ext l H H10 → ∀ row ∈ M0, row.length ≤ 60 ∧ ∀ v ∈ row, WfN H10 v := fun H10 e10 row' hr => by
      obtain ⟨j, hj, rfl⟩ := List.mem_iff_getElem.mp hr
      exact ⟨(fi.2 _ hr).1, fun v hv => by
        have ej : rs[j]? = some (rs[j]'(by omega)) := List.getElem?_eq_getElem _
        obtain ⟨xs0, z1, z2, z3⟩ := tb.tab.row _ (List.mem_of_getElem? ej)
        have z4 := sh.con j _ ej
        rw [z1] at z4
        cases z4
        have : v ∈ (hh, wd, M0).2.2.getD j [] := by
          rw [List.getD_eq_getElem?_getD, List.getElem?_eq_getElem (show j < (hh, wd, M0).2.2.length from hj)]
          exact hv
        exact ((z3 v this).ext hb e10).wf⟩
    have mid : ∀ (at' : Int) (b p1 : Addr) (row : List V) (H6 : Hp), 0 ≤ at' → at' < hh → Ext l H H6 → Bag H6 l → H6 p1 = some (.lst ((rs.map V.ref).take at'.toNat)) → H6 b = some (.lst row) → b ≠ l → row.length ≤ 60 → (∀ x ∈ row, WfN H6 x) → rowT p wd H6 row = false →
        1 ≤ sizeLine ∧ ∀ (p_0 : Addr), H6 p_0 = none → ∃ x, (upd H6 p_0 (.lst [V.ref b])) p1 = some (.lst x) ∧ ∃ x_1, (upd H6 p_0 (.lst [V.ref b])) p_0 = some (.lst x_1) ∧ x.length + x_1.length ≤ sizeLine ∧ ∀ (p_1 : Addr), (upd H6 p_0 (.lst [V.ref b])) p_1 = none → ∃ x_2, SqL K (upd (upd H6 p_0 (.lst [V.ref b])) p_1 (.lst (x ++ x_1))) r x_2 ∧ ∀ (p_2 : Addr), (upd (upd H6 p_0 (.lst [V.ref b])) p_1 (.lst (x ++ x_1))) p_2 = none → ∃ x_3, (upd (upd (upd H6 p_0 (.lst [V.ref b])) p_1 (.lst (x ++ x_1))) p_2 (.lst (cutV x_2 (some (at' + 1)) none))) p_1 = some (.lst x_3) ∧ ∃ x_4, (upd (upd (upd H6 p_0 (.lst [V.ref b])) p_1 (.lst (x ++ x_1))) p_2 (.lst (cutV x_2 (some (at' + 1)) none))) p_2 = some (.lst x_4) ∧ x_3.length + x_4.length ≤ sizeLine ∧ ∀ (p_3 : Addr), (upd (upd (upd H6 p_0 (.lst [V.ref b])) p_1 (.lst (x ++ x_1))) p_2 (.lst (cutV x_2 (some (at' + 1)) none))) p_3 = none → 3 ≤ sizeLine ∧ ∀ (p_4 : Addr), (upd (upd (upd (upd H6 p_0 (.lst [V.ref b])) p_1 (.lst (x ++ x_1))) p_2 (.lst (cutV x_2 (some (at' + 1)) none))) p_3 (.lst (x_3 ++ x_4))) p_4 = none → Q (V.ref p_4) (upd (upd (upd (upd (upd H6 p_0 (.lst [V.ref b])) p_1 (.lst (x ++ x_1))) p_2 (.lst (cutV x_2 (some (at' + 1)) none))) p_3 (.lst (x_3 ++ x_4))) p_4 (.tup [.int hh, .int wd, .ref p_3])) := by
      intro at' b p1 row H6 a0 a1 e6 b6 k6 kb nbl lrow wrow bad
      refine ⟨by decide, fun p0 hp0 => ?_⟩
      have s7 := Same.new (o := .lst [V.ref b]) hp0
      have k7 : (upd H6 p0 (.lst [V.ref b])) p0 = some (.lst [V.ref b]) := upd_same
      generalize upd H6 p0 (.lst [V.ref b]) = H7 at *
      have ltk : ((rs.map V.ref).take at'.toNat).length ≤ 24 := by rw [List.length_take]; omega
      have l1 : ([V.ref b] : List V).length = 1 := rfl
      refine ⟨_, s7 _ _ k6, _, k7, Nat.le_of_lt (small1000 (by omega)), fun p1' hp1' => ?_⟩
      have s8 := Same.new (o := .lst ((rs.map V.ref).take at'.toNat ++ [V.ref b])) hp1'
      have k8 : (upd H7 p1' (.lst ((rs.map V.ref).take at'.toNat ++ [V.ref b]))) p1' = some (.lst ((rs.map V.ref).take at'.toNat ++ [V.ref b])) := upd_same
      generalize upd H7 p1' (.lst ((rs.map V.ref).take at'.toNat ++ [V.ref b])) = H8 at *
      have t8 := s7.trans s8
      refine ⟨_, SqL.of (t8 _ _ (e6 _ _ nrl sh.lst)), fun p2 hp2 => ?_⟩
      rw [cut_dropI _ (by omega) (by omega)]
      have s9 := Same.new (o := .lst ((rs.map V.ref).drop (at' + 1).toNat)) hp2
      have k9 : (upd H8 p2 (.lst ((rs.map V.ref).drop (at' + 1).toNat))) p2 = some (.lst ((rs.map V.ref).drop (at' + 1).toNat)) := upd_same
      generalize upd H8 p2 (.lst ((rs.map V.ref).drop (at' + 1).toNat)) = H9 at *
      have ldr : ((rs.map V.ref).drop (at' + 1).toNat).length ≤ 24 := by rw [List.length_drop]; omega
      have l8 : ((rs.map V.ref).take at'.toNat ++ [V.ref b]).length = ((rs.map V.ref).take at'.toNat).length + 1 := by rw [List.length_append]; rfl
      refine ⟨_, s9 _ _ k8, _, k9, Nat.le_of_lt (small1000 (by omega)), fun r' hr' => ?_⟩
      have emap : (rs.map V.ref).take at'.toNat ++ [V.ref b] ++ (rs.map V.ref).drop (at' + 1).toNat = (rs.take at'.toNat ++ [b] ++ rs.drop (at' + 1).toNat).map V.ref := by
        rw [List.map_append, List.map_append, List.map_take, List.map_drop]; rfl
      rw [emap]
      have t9 := t8.trans s9
      have c6 : Con H6 rs M0 := fun i a e => e6 _ _ (fun z => nlr (by rw [← z]; exact List.mem_of_getElem? e)) (sh.con i a e)
      have c9 : Con H9 (rs.take at'.toNat ++ [b] ++ rs.drop (at' + 1).toNat) (M0.take at'.toNat ++ [row] ++ M0.drop (at' + 1).toNat) := Con.app (Con.app ((c6.same t9).take _) (.one (t9 _ _ kb)) (by rw [List.length_take, List.length_take, sl])) ((c6.same t9).drop _) (by rw [List.length_append, List.length_append, List.length_take, List.length_take, sl]; rfl)
      have nr' : r' ≠ l := (b6.same t9).ne hr'
      have s10 := Same.new (o := .lst ((rs.take at'.toNat ++ [b] ++ rs.drop (at' + 1).toNat).map V.ref)) hr'
      have k10 : (upd H9 r' (.lst ((rs.take at'.toNat ++ [b] ++ rs.drop (at' + 1).toNat).map V.ref))) r' = some (.lst ((rs.take at'.toNat ++ [b] ++ rs.drop (at' + 1).toNat).map V.ref)) := upd_same
      generalize upd H9 r' (.lst ((rs.take at'.toNat ++ [b] ++ rs.drop (at' + 1).toNat).map V.ref)) = H10 at *
      have t10 := t9.trans s10
      have e10 := e6.trans t10.ext
      have wf0 := wfE H10 e10
      refine fin r' _ (hh, wd, M0.take at'.toNat ++ [row] ++ M0.drop (at' + 1).toNat) H10 e10 (b6.same t10) k10 ?_ (c9.same s10) (c9.free hr') nr' (fun z => ?_) (.mk' ?_ fun row' hr => ?_) ?_
      · show (rs.take at'.toNat ++ [b] ++ rs.drop (at' + 1).toNat).length = (M0.take at'.toNat ++ [row] ++ M0.drop (at' + 1).toNat).length
        have sl' : rs.length = M0.length := sl
        simp only [List.length_append, List.length_take, List.length_drop, List.length_cons, List.length_nil, sl']
      · rcases List.mem_append.mp z with z | z
        · rcases List.mem_append.mp z with z | z
          · exact nlr (List.mem_of_mem_take z)
          · exact nbl (List.mem_singleton.mp z).symm
        · exact nlr (List.mem_of_mem_drop z)
      · simp only [List.length_append, List.length_take, List.length_drop, List.length_cons, List.length_nil]
        omega
      · rcases List.mem_append.mp hr with z | z
        · rcases List.mem_append.mp z with z | z
          · exact wf0 row' (List.mem_of_mem_take z)
          · rw [List.mem_singleton.mp z]
            exact ⟨lrow, fun x hx => (wrow x hx).same t10⟩
        · exact wf0 row' (List.mem_of_mem_drop z)
      · have : (M0.take at'.toNat ++ [row] ++ M0.drop (at' + 1).toNat).all (rowT p wd H10) = false := List.all_eq_false.mpr ⟨row, by simp, by rw [rowT_same wrow t10, bad]; decide⟩
        show (_ && (M0.take at'.toNat ++ [row] ++ M0.drop (at' + 1).toNat).all (rowT p wd H10) && _) = false
        rw [this]
        simp
    refine cut2 fun X hX => ?_
    have aft : ∀ (v : V) (H2 : Hp), Same H H2 → NumV H2 p v (intN p 0) → X { nx := fun x H' => Q V.non H', rt := Q } [some (.ref l), some (.int p), some (.ref t), some (.int way), some (.int hh), some (.int wd), some (.ref r), some v, none, none, none, none, none] H2 := by
      intro v H2 s2 hv
      subst hX
      refine cut1 fun Y hY => ?_
      have aftY : Y { nx := fun x H' => Q V.non H', rt := Q } [some (.ref l), some (.int p), some (.ref t), some (.int way), some (.int hh), some (.int wd), some (.ref r), some v, none, none, none, none, none] H2 := by
        subst hY
        refine cut1 fun Z hZ => ?_
        have aftZ : Z { nx := fun x H' => Q V.non H', rt := Q } [some (.ref l), some (.int p), some (.ref t), some (.int way), some (.int hh), some (.int wd), some (.ref r), some v, none, none, none, none, none] H2 := by
          subst hZ
          refine cut1 fun U hU => ?_
          have aftU : 0 < hh → U { nx := fun x H' => Q V.non H', rt := Q } [some (.ref l), some (.int p), some (.ref t), some (.int way), some (.int hh), some (.int wd), some (.ref r), some v, none, none, none, none, none] H2 := by
            intro hh0
            subst hU
            refine cut2 fun W hW => ?_
            have aftW : ∀ (at' : Int) (H3 : Hp), 0 ≤ at' → at' < hh → 0 < wd → Ext l H H3 → Bag H3 l → W { nx := fun x H' => Q V.non H', rt := Q } [some (.ref l), some (.int p), some (.ref t), some (.int way), some (.int hh), some (.int wd), some (.ref r), some v, some (.int at'), none, none, none, none] H3 := by
              intro at' H3 a0 a1 wd0 e3 b3
              subst hW
              refine cut3 fun U hU => ?_
              have aftN : ∀ (j far bi : Int) (H4 : Hp), 0 ≤ j → j < wd → 0 ≤ far → far < 10 ^ 29 → (bi < 0 ∨ p ≤ bi) → bi.natAbs ≤ 100000000000000000000000000000000 → Ext l H H4 → Bag H4 l → U { nx := fun x H' => Q V.non H', rt := Q } [some (.ref l), some (.int p), some (.ref t), some (.int way), some (.int hh), some (.int wd), some (.ref r), some v, some (.int at'), some (.int j), some (.int far), some (.int bi), none] H4 := by
                intro j far bi H4 j0 j1 f0 f1 hbi hbb e4 b4
                subst hU
                refine cut1 fun N hN => ?_
                have aftB : ∀ (bad : V) (H5 : Hp), Ext l H H5 → Bag H5 l → WfN H5 bad → numB p H5 bad = false → N { nx := fun x H' => Q V.non H', rt := Q } [some (.ref l), some (.int p), some (.ref t), some (.int way), some (.int hh), some (.int wd), some (.ref r), some v, some (.int at'), some (.int j), some (.int far), some bad, none] H5 := by
                  intro bad H5 e5 b5 wb nb
                  subst hN
                  walk_at "wp"
                  have hat : at'.toNat < rs.length := by omega
                  have ra : rs[at'.toNat]? = some rs[at'.toNat] := List.getElem?_eq_getElem hat
                  have nra : rs[at'.toNat] ≠ l := fun z => nlr (by rw [← z]; exact List.getElem_mem hat)
                  have hM : M0[at'.toNat]? = some (M0.getD at'.toNat []) := by rw [List.getD_eq_getElem?_getD, List.getElem?_eq_getElem (show at'.toNat < M0.length by omega)]; rfl
                  have mrow := List.mem_of_getElem? hM
                  have wrow := rw0 _ mrow
                  have r5 := e5 _ _ nrl sh.lst
                  have hrow5 : H5 rs[at'.toNat] = some (.lst (M0.getD at'.toNat [])) := e5 _ _ nra (sh.con _ _ ra)
                  have wcell := (wfE _ e5 _ mrow).2
                  generalize M0.getD at'.toNat [] = row at *
                  refine ⟨_, SqL.of r5, _, atI_at a0 (get_refs hat), _, rfl, _, SqL.of hrow5, fun p1 hp1 => ⟨by decide, fun p2 hp2 => ?_⟩⟩
                  rw [cut_takeI _ j0 (by omega)] at hp2 ⊢
                  have s6 := Same.new (o := .lst (row.take j.toNat)) hp1
                  have k6 : (upd H5 p1 (.lst (row.take j.toNat))) p1 = some (.lst (row.take j.toNat)) := upd_same
                  generalize upd H5 p1 (.lst (row.take j.toNat)) = H6 at *
                  have s7 := Same.new (o := .lst [bad]) hp2
                  have k7 : (upd H6 p2 (.lst [bad])) p2 = some (.lst [bad]) := upd_same
                  generalize upd H6 p2 (.lst [bad]) = H7 at *
                  have t7 := s6.trans s7
                  have lt : (row.take j.toNat).length ≤ 60 := by rw [List.length_take]; omega
                  have l1 : ([bad] : List V).length = 1 := rfl
                  refine ⟨_, s7 _ _ k6, _, k7, Nat.le_of_lt (small1000 (by omega)), fun p3 hp3 => ?_⟩
                  have s8 := Same.new (o := .lst (row.take j.toNat ++ [bad])) hp3
                  have k8 : (upd H7 p3 (.lst (row.take j.toNat ++ [bad]))) p3 = some (.lst (row.take j.toNat ++ [bad])) := upd_same
                  generalize upd H7 p3 (.lst (row.take j.toNat ++ [bad])) = H8 at *
                  have t8 := t7.trans s8
                  refine ⟨_, SqL.of (t8 _ _ r5), _, atI_at a0 (get_refs hat), _, rfl, _, SqL.of (t8 _ _ hrow5), fun p4 hp4 => ?_⟩
                  rw [cut_dropI _ (by omega) (by omega)]
                  have s9 := Same.new (o := .lst (row.drop (j + 1).toNat)) hp4
                  have k9 : (upd H8 p4 (.lst (row.drop (j + 1).toNat))) p4 = some (.lst (row.drop (j + 1).toNat)) := upd_same
                  generalize upd H8 p4 (.lst (row.drop (j + 1).toNat)) = H9 at *
                  have ld : (row.drop (j + 1).toNat).length ≤ 60 := by rw [List.length_drop]; omega
                  have l8 : (row.take j.toNat ++ [bad]).length = (row.take j.toNat).length + 1 := by rw [List.length_append]; rfl
                  refine ⟨_, s9 _ _ k8, _, k9, Nat.le_of_lt (small1000 (by omega)), fun b hb' => ?_⟩
                  have nbl : b ≠ l := (((b5.same t8).same s9)).ne hb'
                  have s10 := Same.new (o := .lst (row.take j.toNat ++ [bad] ++ row.drop (j + 1).toNat)) hb'
                  have k10 : (upd H9 b (.lst (row.take j.toNat ++ [bad] ++ row.drop (j + 1).toNat))) b = some (.lst (row.take j.toNat ++ [bad] ++ row.drop (j + 1).toNat)) := upd_same
                  generalize upd H9 b (.lst (row.take j.toNat ++ [bad] ++ row.drop (j + 1).toNat)) = H10 at *
                  have t10 := (t8.trans s9).trans s10
                  refine ⟨_, SqL.of (t10 _ _ r5), fun p5 hp5 => ?_⟩
                  rw [cut_takeI _ a0 (by omega)]
                  have s11 := Same.new (o := .lst ((rs.map V.ref).take at'.toNat)) hp5
                  have k11 : (upd H10 p5 (.lst ((rs.map V.ref).take at'.toNat))) p5 = some (.lst ((rs.map V.ref).take at'.toNat)) := upd_same
                  have t11 := t10.trans s11
                  refine mid at' b p5 (row.take j.toNat ++ [bad] ++ row.drop (j + 1).toNat) _ a0 a1 (e5.trans t11.ext) (b5.same t11) k11 (s11 _ _ k10) nbl (by rw [List.length_append, l8, List.length_take, List.length_drop]; omega) (fun x hx => ?_) ?_
                  · rcases List.mem_append.mp hx with z | z
                    · rcases List.mem_append.mp z with z | z
                      · exact (wcell x (List.mem_of_mem_take z)).same t11
                      · rw [List.mem_singleton.mp z]
                        exact wb.same t11
                    · exact (wcell x (List.mem_of_mem_drop z)).same t11
                  · have : (row.take j.toNat ++ [bad] ++ row.drop (j + 1).toNat).all (numB p (upd H10 p5 (.lst ((rs.map V.ref).take at'.toNat)))) = false := List.all_eq_false.mpr ⟨bad, by simp, by rw [numB_same wb t11, nb]; decide⟩
                    unfold rowT
                    rw [this, Bool.and_false]
                walk_at "wp"
                refine ite2 (fun hc => ?_) (fun hc => aftB (.int bi) H4 e4 b4 (wfn_flat Kn.int (by intro a z; cases z)) ?_)
                rotate_left
                · have hp0 : ¬ p = 0 := of_decide_eq_false (by simpa using hc)
                  unfold numB
                  rw [if_neg hp0]
                  show (decide (0 ≤ bi) && decide (bi < p)) = false
                  rcases hbi with h | h
                  · rw [decide_eq_false (show ¬ 0 ≤ bi by omega)]; rfl
                  · rw [decide_eq_false (show ¬ bi < p by omega)]; simp
                · have hp0 : p = 0 := of_decide_eq_true hc
                  refine ⟨.inl ⟨by decide, by decide⟩, by decide, fun p1 hp1 => ⟨by decide, fun p2 hp2 => ⟨by decide, fun p3 hp3 => ⟨by decide, fun p4 hp4 => ?_⟩⟩⟩⟩
                  have s5 := Same.new (o := .tup [V.int (2 + 2 * far), V.int 4]) hp1
                  have k5 : (upd H4 p1 (.tup [V.int (2 + 2 * far), V.int 4])) p1 = some (.tup [V.int (2 + 2 * far), V.int 4]) := upd_same
                  generalize upd H4 p1 (.tup [V.int (2 + 2 * far), V.int 4]) = H5 at *
                  have s6 := Same.new (o := .tup [V.int (1 + far), V.int 0]) hp2
                  have k6 : (upd H5 p2 (.tup [V.int (1 + far), V.int 0])) p2 = some (.tup [V.int (1 + far), V.int 0]) := upd_same
                  generalize upd H5 p2 (.tup [V.int (1 + far), V.int 0]) = H6 at *
                  have s7 := Same.new (o := .tup [V.int (1 + far), V.int (-1)]) hp3
                  have k7 : (upd H6 p3 (.tup [V.int (1 + far), V.int (-1)])) p3 = some (.tup [V.int (1 + far), V.int (-1)]) := upd_same
                  generalize upd H6 p3 (.tup [V.int (1 + far), V.int (-1)]) = H7 at *
                  have s8 := Same.new (o := .lst [V.ref p1, V.ref p2, V.ref p3]) hp4
                  have k8 : (upd H7 p4 (.lst [V.ref p1, V.ref p2, V.ref p3])) p4 = some (.lst [V.ref p1, V.ref p2, V.ref p3]) := upd_same
                  have b7 := ((b4.same s5).same s6).same s7
                  have np4 : p4 ≠ l := b7.ne hp4
                  have np1 : p1 ≠ l := b4.ne hp1
                  have np2 : p2 ≠ l := (b4.same s5).ne hp2
                  have np3 : p3 ≠ l := ((b4.same s5).same s6).ne hp3
                  generalize upd H7 p4 (.lst [V.ref p1, V.ref p2, V.ref p3]) = H8 at *
                  have t8 := ((s5.trans s6).trans s7).trans s8
                  refine (b4.same t8).draw (n := 3) (by decide) (by decide) fun g3 H9 g0 g1 e9 b9 => ?_
                  have e49 := e4.trans (t8.ext.trans e9)
                  have f1' : far < 100000000000000000000000000000 := f1
                  have q1 : H9 p1 = some (.tup [V.int (2 + 2 * far), V.int 4]) := e9 _ _ np1 (((s6.trans s7).trans s8) _ _ k5)
                  have q2 : H9 p2 = some (.tup [V.int (1 + far), V.int 0]) := e9 _ _ np2 ((s7.trans s8) _ _ k6)
                  have q3 : H9 p3 = some (.tup [V.int (1 + far), V.int (-1)]) := e9 _ _ np3 (s8 _ _ k7)
                  obtain ⟨bad, hbad, hw, hn⟩ : ∃ bad : V, atI [V.ref p1, V.ref p2, V.ref p3] g3 = some bad ∧ WfN H9 bad ∧ numB p H9 bad = false := by
                    rw [hp0]
                    have : g3 = 0 ∨ g3 = 1 ∨ g3 = 2 := by omega
                    rcases this with rfl | rfl | rfl
                    · refine ⟨.ref p1, rfl, wfn_pair q1 (by omega) (by omega), ?_⟩
                      rw [frB_pair q1]
                      have h2 : (2 : Int) ∣ (Int.gcd (2 + 2 * far) 4 : Int) := Int.dvd_coe_gcd (by omega) (by omega)
                      rw [decide_eq_false (show ¬ Int.gcd (2 + 2 * far) 4 = 1 from fun z => by rw [z] at h2; exact absurd h2 (by decide))]
                      simp
                    · refine ⟨.ref p2, rfl, wfn_pair q2 (by omega) (by omega), ?_⟩
                      rw [frB_pair q2]
                      rfl
                    · refine ⟨.ref p3, rfl, wfn_pair q3 (by omega) (by omega), ?_⟩
                      rw [frB_pair q3]
                      rfl
                  exact ⟨_, g3, rfl, SqL.of (e9 _ _ np4 k8), _, hbad, aftB bad H9 e49 b9 hw hn⟩
              walk_at "wp"
              refine b3.draw (n := wd) (by omega) (by omega) fun j H4 j0 j1 e4 b4 => ⟨cpow 29 (by decide) (by decide), b4.draw (n := 10 ^ Int.toNat 29) (by decide) (by decide) fun far H5 f0 f1 e5 b5 => ⟨far, rfl, far, rfl, by decide, fun p1 hp1 => ?_⟩⟩
              have s6 := Same.new (o := .lst [V.int (p + far), V.int (-1 - far)]) hp1
              have k6 : (upd H5 p1 (.lst [V.int (p + far), V.int (-1 - far)])) p1 = some (.lst [V.int (p + far), V.int (-1 - far)]) := upd_same
              have np1 : p1 ≠ l := b5.ne hp1
              generalize upd H5 p1 (.lst [V.int (p + far), V.int (-1 - far)]) = H6 at *
              refine (b5.same s6).draw (n := 2) (by decide) (by decide) fun g2 H7 g0 g1 e7 b7 => ?_
              have e37 := ((e4.trans e5).trans s6.ext).trans e7
              have hp0 := hp.lo
              have hp97 := hp.hi
              have f29 : far < 10 ^ 29 := f1
              obtain ⟨bi, hbi, b1, b2⟩ : ∃ bi : Int, atI [V.int (p + far), V.int (-1 - far)] g2 = some (.int bi) ∧ (bi < 0 ∨ p ≤ bi) ∧ bi.natAbs ≤ 100000000000000000000000000000000 := by
                have : g2 = 0 ∨ g2 = 1 := by omega
                rcases this with rfl | rfl
                · exact ⟨p + far, rfl, .inr (by omega), by omega⟩
                · exact ⟨-1 - far, rfl, .inl (by omega), by omega⟩
              exact ⟨_, g2, rfl, SqL.of (e7 _ _ np1 k6), _, hbi, aftN j far bi H7 j0 j1 f0 f29 b1 b2 (e3.trans e37) b7⟩
            walk_at "wp"
            refine (hb.same s2).draw (n := hh) (by omega) (by omega) fun at' H3 a0 a1 e3 b3 => ?_
            walk_at "wp"
            refine ite_or ?_ (fun _ hw => aftW at' H3 a0 a1 (by have : ¬ wd = 0 := of_decide_eq_false (by simpa using hw); omega) (s2.ext.trans e3) b3)
            have e03 := s2.ext.trans e3
            have r3 := e03 _ _ nrl sh.lst
            have sl := sh.len
            have lr : (rs.map V.ref).length = rs.length := List.length_map _
            refine ⟨_, SqL.of r3, fun p1 hp1 => ?_⟩
            rw [cut_takeI _ a0 (by omega)]
            have np1 : p1 ≠ l := b3.ne hp1
            have s4 := Same.new (o := .lst ((rs.map V.ref).take at'.toNat)) hp1
            have k4 : (upd H3 p1 (.lst ((rs.map V.ref).take at'.toNat))) p1 = some (.lst ((rs.map V.ref).take at'.toNat)) := upd_same
            generalize upd H3 p1 (.lst ((rs.map V.ref).take at'.toNat)) = H4 at *
            have hat : at'.toNat < rs.length := by omega
            have ra : rs[at'.toNat]? = some rs[at'.toNat] := List.getElem?_eq_getElem hat
            have nra : rs[at'.toNat] ≠ l := fun z => nlr (by rw [← z]; exact List.getElem_mem hat)
            refine ⟨_, SqL.of (s4 _ _ r3), _, atI_at a0 (get_refs hat), by decide, fun p2 hp2 => ?_⟩
            have s5 := Same.new (o := .lst [v]) hp2
            have k5 : (upd H4 p2 (.lst [v])) p2 = some (.lst [v]) := upd_same
            generalize upd H4 p2 (.lst [v]) = H5 at *
            have hrow5 := (s4.trans s5) _ _ (e03 _ _ nra (sh.con _ _ ra))
            have hM : M0[at'.toNat]? = some (M0.getD at'.toNat []) := by rw [List.getD_eq_getElem?_getD, List.getElem?_eq_getElem (show at'.toNat < M0.length by omega)]; rfl
            have mrow := List.mem_of_getElem? hM
            have wrow := rw0 _ mrow
            have l1 : ([v] : List V).length = 1 := rfl
            refine ⟨_, rfl, _, hrow5, _, k5, Nat.le_of_lt (small1000 (by show (M0.getD at'.toNat []).length + 1 ≤ 1000; omega)), fun b hb6 => ?_⟩
            have s6 := Same.new (o := .lst (M0.getD at'.toNat [] ++ [v])) hb6
            have k6 : (upd H5 b (.lst (M0.getD at'.toNat [] ++ [v]))) b = some (.lst (M0.getD at'.toNat [] ++ [v])) := upd_same
            have t36 := (s4.trans s5).trans s6
            have nb : b ≠ l := ((b3.same s4).same s5).ne hb6
            refine mid at' b p1 (M0.getD at'.toNat [] ++ [v]) _ a0 a1 (e03.trans t36.ext) (b3.same t36) ((s5.trans s6) _ _ k4) k6 nb (by rw [List.length_append]; omega) (fun x hx => ?_) ?_
            · rcases List.mem_append.mp hx with hx | hx
              · exact (wfE _ (e03.trans t36.ext) _ mrow).2 x hx
              · rw [List.mem_singleton.mp hx]
                exact nou ((hv.ext (hb.same s2) e3).same t36)
            · show (decide (((M0.getD at'.toNat [] ++ [v]).length : Int) = wd) && _) = false
              rw [decide_eq_false (by rw [List.length_append]; omega), Bool.false_and]
          walk_at "wp"
          refine ite2 (fun hc => ?_) (fun hc => aftU (by have : ¬ hh = 0 := of_decide_eq_false (by simpa using hc); omega))
          have hc : hh = 0 := of_decide_eq_true hc
          refine ⟨_, rfl, wd, rfl, by omega, by omega, fun D hD => comp_rep v hD (by omega) (fun i H' Q' q' => ⟨_, rfl, q'⟩) fun H3 s3 h3 => ⟨by decide, fun r' hr' => ?_⟩⟩
          have nDl : D ≠ l := (hb.same s2).ne hD
          have t3 := s2.trans s3
          have nr' : r' ≠ l := (hb.same t3).ne hr'
          have s4 := Same.new (o := .lst (([D] : List Addr).map V.ref)) hr'
          have k4 : (upd H3 r' (.lst (([D] : List Addr).map V.ref))) r' = some (.lst (([D] : List Addr).map V.ref)) := upd_same
          have c3 : Con H3 [D] [List.replicate wd.toNat v] := .one h3
          show 3 ≤ sizeLine ∧ ∀ pt, (upd H3 r' (.lst (([D] : List Addr).map V.ref))) pt = none → Q (.ref pt) (upd (upd H3 r' (.lst (([D] : List Addr).map V.ref))) pt (.tup [.int 1, .int wd, .ref r']))
          generalize upd H3 r' (.lst (([D] : List Addr).map V.ref)) = H4 at *
          have t4 := t3.trans s4
          have wv := (nou hv).same (s3.trans s4)
          refine fin r' [D] (1, wd, [List.replicate wd.toNat v]) H4 t4.ext (hb.same t4) k4 rfl (c3.same s4) (c3.free hr') nr' (fun z => nDl (List.mem_singleton.mp z).symm) (.mk' (by show 1 ≤ 60; decide) fun row hr => ?_) ?_
          · rw [List.mem_singleton.mp hr]
            exact ⟨by rw [List.length_replicate]; omega, fun x hx => by rw [(List.mem_replicate.mp hx).2]; exact wv⟩
          · show (_ && (decide (1 = hh) && _)) = false
            rw [decide_eq_false (show ¬ 1 = hh by omega)]
            simp
        walk_at "wp"
        refine ite2 (fun _ => ?_) (fun _ => aftZ)
        have r2 := s2 _ _ sh.lst
        have b2 := hb.same s2
        have sl := sh.len
        have wv2 := nou hv
        refine ⟨_, rfl, r, rfl, ⟨_, SqL.of r2⟩, fun D hD => comp_ord (fun i Hc y => ∃ a, y = .ref a ∧ Hc a = some (.lst (M0.getD i [] ++ [v])) ∧ a ≠ D ∧ a ≠ l) (fun ⟨a, e, h1, h2⟩ s => ⟨a, e, s _ _ h1, h2⟩) (fun ⟨a, e, h1, h2, h3⟩ _ => ⟨a, e, by rw [upd_ne h2]; exact h1, h2, h3⟩) r2 hD (by rw [List.length_map]; omega) (fun i x H' Q' hx s' ⟨lD, hlD⟩ q' => ?_) (fun ys H3 s3 h3 hyl hys => ?_)⟩
        · rw [List.getElem?_map] at hx
          cases ht : rs[i]? with
          | none => rw [ht] at hx; cases hx
          | some a =>
            rw [ht] at hx
            cases hx
            have t' := s2.trans s'
            have hi : i < rs.length := (List.getElem?_eq_some_iff.mp ht).1
            have ha := t' _ _ (sh.con i a ht)
            have hrow : (M0.getD i []).length ≤ 60 := by
              rw [List.getD_eq_getElem?_getD, List.getElem?_eq_getElem (show i < M0.length by omega)]
              exact (fi.2 _ (List.getElem_mem _)).1
            refine ⟨_, rfl, _, rfl, by show 1 ≤ sizeLine; decide, fun a1 ha1 => ⟨a, a1, _, _, rfl, rfl, (Same.new ha1) _ _ ha, upd_same, Nat.le_of_lt (small1000 ?_), fun a2 ha2 => ?_⟩⟩
            · show (M0.getD i []).length + 1 ≤ 1000
              omega
            · have s1 := Same.new (o := .lst [v]) ha1
              have s2' := Same.new (o := .lst (M0.getD i [] ++ [v])) ha2
              exact q' _ _ (s1.trans s2') ⟨a2, rfl, upd_same, ne_of_none' ha2 (s1 _ _ hlD), ((hb.same t').same s1).ne ha2⟩
        · obtain ⟨rs', rfl, hrs⟩ := refs_of hys
          rw [List.length_map, List.length_map] at hyl
          have t3 := s2.trans s3
          have nDl : D ≠ l := b2.ne hD
          have lM : ((List.range rs.length).map (fun i => M0.getD i [] ++ [v])).length = rs.length := by rw [List.length_map, List.length_range]
          refine fin D rs' (hh, wd + 1, (List.range rs.length).map (fun i => M0.getD i [] ++ [v])) H3 t3.ext (hb.same t3) h3 (by show rs'.length = ((List.range rs.length).map (fun i => M0.getD i [] ++ [v])).length; omega) (fun i a e => ?_) (fun z => ?_) nDl (fun z => ?_) (.mk' (by omega) fun row hr => ?_) ?_
          · have hi : i < rs'.length := (List.getElem?_eq_some_iff.mp e).1
            show H3 a = some (.lst (((List.range rs.length).map (fun i => M0.getD i [] ++ [v])).getD i []))
            rw [List.getD_eq_getElem?_getD (l := List.map _ _), List.getElem?_map, List.getElem?_range (by omega)]
            exact (hrs i a e).1
          · obtain ⟨i, hi, e⟩ := List.mem_iff_getElem.mp z
            exact (hrs i D (by rw [List.getElem?_eq_getElem hi, e])).2.1 rfl
          · obtain ⟨i, hi, e⟩ := List.mem_iff_getElem.mp z
            exact (hrs i l (by rw [List.getElem?_eq_getElem hi, e])).2.2 rfl
          · obtain ⟨i, hi, rfl⟩ := List.mem_map.mp hr
            have hi := List.mem_range.mp hi
            have := (fi.same t3).2 _ (List.getElem_mem (show i < M0.length by omega))
            rw [List.getD_eq_getElem?_getD, List.getElem?_eq_getElem (show i < M0.length by omega)]
            have w1 := rw0 _ (List.getElem_mem (show i < M0.length by omega))
            refine ⟨?_, fun x hx => ?_⟩
            · rw [List.length_append]
              show (M0[i]).length + 1 ≤ 60
              omega
            · rcases List.mem_append.mp hx with hx | hx
              · exact this.2 x hx
              · rw [List.mem_singleton.mp hx]
                exact wv2.same s3
          · show (_ && (_ && decide (wd + 1 = wd))) = false
            rw [decide_eq_false (show ¬ wd + 1 = wd by omega)]
            simp
      walk_at "wp"
      refine ite2 (fun _ => ?_) (fun _ => aftY)
      refine ⟨_, rfl, wd, rfl, by omega, by omega, fun D hD => comp_rep v hD (by omega) (fun i H' Q' q' => ⟨_, rfl, q'⟩) fun H3 s3 h3 => ⟨by decide, fun a1 ha1 => ?_⟩⟩
      have nDl : D ≠ l := (hb.same s2).ne hD
      have s4 := Same.new (o := .lst [V.ref D]) ha1
      have k4 : (upd H3 a1 (.lst [V.ref D])) a1 = some (.lst [V.ref D]) := upd_same
      generalize upd H3 a1 (.lst [V.ref D]) = H4 at *
      have t4 := (s2.trans s3).trans s4
      have l1 : ([V.ref D] : List V).length = 1 := rfl
      have lr : (rs.map V.ref).length = rs.length := List.length_map _
      refine ⟨_, t4 _ _ sh.lst, _, k4, Nat.le_of_lt (small1000 (by omega)), fun r' hr' => ?_⟩
      rw [map_ref_snoc]
      have nr' : r' ≠ l := (hb.same t4).ne hr'
      have c4 : Con H4 (rs ++ [D]) (M0 ++ [List.replicate wd.toNat v]) := Con.app (fun i a e => t4 _ _ (sh.con i a e)) (.one (s4 _ _ h3)) sh.len
      have s5 := Same.new (o := .lst ((rs ++ [D]).map V.ref)) hr'
      have k5 : (upd H4 r' (.lst ((rs ++ [D]).map V.ref))) r' = some (.lst ((rs ++ [D]).map V.ref)) := upd_same
      generalize upd H4 r' (.lst ((rs ++ [D]).map V.ref)) = H5 at *
      have t5 := t4.trans s5
      have sl := sh.len
      have f5 := fi.same t5
      have wv := (nou hv).same ((s3.trans s4).trans s5)
      refine fin r' (rs ++ [D]) (hh + 1, wd, M0 ++ [List.replicate wd.toNat v]) H5 t5.ext (hb.same t5) k5 (by show (rs ++ [D]).length = (M0 ++ [List.replicate wd.toNat v]).length; rw [List.length_append, List.length_append, sl]; rfl) (c4.same s5) (c4.free hr') nr' (fun z => ?_) (.mk' (by rw [List.length_append]; show M0.length + 1 ≤ 60; omega) fun row hr => ?_) ?_
      · rcases List.mem_append.mp z with z | z
        · exact nlr z
        · exact nDl (List.mem_singleton.mp z).symm
      · rcases List.mem_append.mp hr with hr | hr
        · exact f5.2 row hr
        · rw [List.mem_singleton.mp hr]
          exact ⟨by rw [List.length_replicate]; omega, fun x hx => by rw [(List.mem_replicate.mp hx).2]; exact wv⟩
      · show (_ && (decide (hh + 1 = hh) && _)) = false
        rw [decide_eq_false (show ¬ hh + 1 = hh by omega)]
        simp
    walk_at "wp"
    refine ⟨_, SqT.of sh.tup, rfl, _, _, rfl, _, _, rfl, _, _, rfl, rfl, p, 0, rfl, hp, fun v H2 s2 hv => aft v H2 s2 hv⟩
end
end Pf
set_option maxHeartbeats 1000000
namespace Pf
open PySem L2 PyProof.Rows
section
variable {P : Program} {w : World} {K : PySem.W.Frag} {mg : Str → Option Value} {base : Heap} {C G S : Addr} {cc : Cs}
theorem pick_list {α : Type} {Q : Nat → Addr → α → Prop} : ∀ {ts : List Addr}, (∀ (i : Nat) t, ts[i]? = some t → ∃ m, Q i t m) → ∃ ms : List α, ms.length = ts.length ∧ ∀ (i : Nat) t m, ts[i]? = some t → ms[i]? = some m → Q i t m := by
  intro ts
  induction ts generalizing Q with
  | nil => exact fun _ => ⟨[], rfl, fun i t m e => by simp at e⟩
  | cons t ts ih =>
    intro h
    obtain ⟨m, hm⟩ := h 0 t rfl
    obtain ⟨ms, hl, hms⟩ := ih (Q := fun i t m => Q (i + 1) t m) fun i u e => h (i + 1) u (by simpa using e)
    exact ⟨m :: ms, by simp [hl], fun i u v e1 e2 => by
      cases i with
      | zero => cases e1; cases e2; exact hm
      | succ i => exact hms i u v (by simpa using e1) (by simpa using e2)⟩
def TbO (H : Hp) (p : Int) (l tl : Addr) (ts : List Addr) (cs : List Tc) : Prop := Tbs H p tl ts cs ∧ tl ≠ l ∧ ∀ (i : Nat) t c, ts[i]? = some t → cs[i]? = some c → ∃ r rs, TabC H p c.1 c.2.1 t r rs c.2.2 ∧ r ≠ l ∧ l ∉ rs
theorem TbO.ext {H H' : Hp} {p : Int} {l tl : Addr} {ts : List Addr} {cs : List Tc} (h : TbO H p l tl ts cs) (b : Bag H l) (e : Ext l H H') : TbO H' p l tl ts cs := by
  obtain ⟨⟨h1, h2, h3, h4⟩, h5, h6⟩ := h
  have n : ∀ (i : Nat) t c, ts[i]? = some t → cs[i]? = some c → ∃ r rs, TabC H' p c.1 c.2.1 t r rs c.2.2 ∧ r ≠ l ∧ l ∉ rs := fun i t c e1 e2 => let ⟨r, rs, a, nr, ns⟩ := h6 i t c e1 e2; ⟨r, rs, a.ext b e nr ns, nr, ns⟩
  exact ⟨⟨e _ _ h5 h1, h2, h3, fun i t c e1 e2 => let ⟨r, rs, a, _⟩ := n i t c e1 e2; ⟨⟨r, rs, a⟩, (h4 i t c e1 e2).2⟩⟩, h5, n⟩
def NumT (H : Hp) (p : Int) (u : Tc) : Prop := (u.2.2.length : Int) = u.1 ∧ ∀ row ∈ u.2.2, (row.length : Int) = u.2.1 ∧ ∀ v ∈ row, NumO H p BB v
theorem NumT.same {H H' : Hp} {p : Int} {u : Tc} (h : NumT H p u) (s : Same H H') : NumT H' p u := ⟨h.1, fun row hr => ⟨(h.2 row hr).1, fun v hv => ((h.2 row hr).2 v hv).same s⟩⟩
theorem NumT.ext {l : Addr} {H H' : Hp} {p : Int} {u : Tc} (h : NumT H p u) (b : Bag H l) (e : Ext l H H') : NumT H' p u := ⟨h.1, fun row hr => ⟨(h.2 row hr).1, fun v hv => ((h.2 row hr).2 v hv).ext b e⟩⟩
theorem NumT.fine {H : Hp} {p : Int} {u : Tc} (h : NumT H p u) (h1 : u.1 ≤ 24) (h2 : u.2.1 ≤ 24) : Fine H u := ⟨by have := h.1; omega, fun row hr => ⟨by have := (h.2 row hr).1; omega, fun v hv => ((h.2 row hr).2 v hv).wf⟩⟩
theorem Sha.tab {H : Hp} {p : Int} {t r : Addr} {rs : List Addr} {u : Tc} (h : Sha H t r rs u) (n : NumT H p u) : TabC H p u.1 u.2.1 t r rs u.2.2 := by
  have hl := h.len
  refine ⟨⟨h.tup, h.lst, by rw [hl]; exact n.1, fun a ha => ?_, h.nin⟩, h.con⟩
  obtain ⟨j, hj, rfl⟩ := List.mem_iff_getElem.mp ha
  have hc := h.con j _ (List.getElem?_eq_getElem hj)
  have hj' : j < u.2.2.length := by omega
  rw [List.getD_eq_getElem?_getD, List.getElem?_eq_getElem hj'] at hc
  have := n.2 _ (List.getElem_mem hj')
  exact ⟨_, hc, this.1, this.2⟩
theorem TbO.shas {H : Hp} {p : Int} {l tl : Addr} {ts : List Addr} {cs : List Tc} (h : TbO H p l tl ts cs) : ∃ us : List Tc, us.length = cs.length ∧ (∀ (i : Nat) t u, ts[i]? = some t → us[i]? = some u → ∃ r rs, Sha H t r rs u ∧ r ≠ l ∧ l ∉ rs) ∧ ∀ (i : Nat) c u, cs[i]? = some c → us[i]? = some u → u.1 = c.1 ∧ u.2.1 = c.2.1 ∧ NumT H p u ∧ Fine H u := by
  obtain ⟨⟨h1, h2, h3, h4⟩, h5, h6⟩ := h
  obtain ⟨us, hl, hu⟩ := pick_list (Q := fun i t u => ∀ c, cs[i]? = some c → (∃ r rs, Sha H t r rs u ∧ r ≠ l ∧ l ∉ rs) ∧ u.1 = c.1 ∧ u.2.1 = c.2.1 ∧ NumT H p u ∧ Fine H u) (ts := ts) (fun i t e => by
    have hi : i < cs.length := by have := (List.getElem?_eq_some_iff.mp e).1; omega
    obtain ⟨r, rs, tc, nr, ns⟩ := h6 i t _ e (List.getElem?_eq_getElem hi)
    obtain ⟨_, _, b1, _, b2⟩ := h4 i t _ e (List.getElem?_eq_getElem hi)
    obtain ⟨M0, sh, fi, w0, ml⟩ := tc.fine b1 b2
    refine ⟨(cs[i].1, cs[i].2.1, M0), fun c ec => ?_⟩
    rw [List.getElem?_eq_getElem hi] at ec
    cases ec
    refine ⟨⟨r, rs, sh, nr, ns⟩, rfl, rfl, ⟨ml, fun row hr => ⟨w0 row hr, fun v hv => ?_⟩⟩, fi⟩
    obtain ⟨j, hj, rfl⟩ := List.mem_iff_getElem.mp hr
    have sl : rs.length = M0.length := sh.len
    have hj : j < M0.length := hj
    have ej : rs[j]? = some (rs[j]'(by omega)) := List.getElem?_eq_getElem _
    obtain ⟨xs0, z1, z2, z3⟩ := tc.tab.row _ (List.mem_of_getElem? ej)
    have z4 := sh.con j _ ej
    rw [z1] at z4
    cases z4
    exact z3 v (by
      show v ∈ M0.getD j []
      rw [List.getD_eq_getElem?_getD, List.getElem?_eq_getElem hj]
      exact hv))
  refine ⟨us, by omega, fun i t u e1 e2 => ?_, fun i c u e1 e2 => ?_⟩
  · have hi : i < cs.length := by have := (List.getElem?_eq_some_iff.mp e1).1; omega
    exact (hu i t u e1 e2 _ (List.getElem?_eq_getElem hi)).1
  · have hi : i < ts.length := by have := (List.getElem?_eq_some_iff.mp e1).1; omega
    exact (hu i _ u (List.getElem?_eq_getElem hi) e2 c e1).2
def szL (m : Int) (zs : List V) : Bool := decide ((zs.length : Int) = m) && zs.all szV
abbrev shAt (p : Int) (ns : List Int) (ps : List (Int × Int)) (H : Hp) (us : List Tc) (i : Nat) : Bool := shT p (ns.getD (ps.getD i (0, 0)).2.toNat 0) (ns.getD (ps.getD i (0, 0)).1.toNat 0) H (us.getD i tc0)
def tsL (p : Int) (ns : List Int) (ps : List (Int × Int)) (H : Hp) (us : List Tc) : Bool := decide (us.length = ps.length) && ((List.range ps.length).map (shAt p ns ps H us)).all id
def SzN (ns : List Int) : Prop := ns.length ≤ 8 ∧ ∀ n ∈ ns, 0 ≤ n ∧ n ≤ 24
def BadL (p m : Int) (ps : List (Int × Int)) (H : Hp) (zs : List V) (us : List Tc) : Prop := szL m zs = false ∨ ∃ ns, zs = ns.map V.int ∧ SzN ns ∧ (ns.length : Int) = m ∧ tsL p ns ps H us = false
theorem BadL.same {p m : Int} {ps : List (Int × Int)} {H H' : Hp} {zs : List V} {us : List Tc} (h : BadL p m ps H zs us) (f : ∀ u ∈ us, Fine H u) (s : Same H H') : BadL p m ps H' zs us := by
  rcases h with h | ⟨ns, a, b, c, d⟩
  · exact .inl h
  · refine .inr ⟨ns, a, b, c, ?_⟩
    unfold tsL at d ⊢
    by_cases hl : us.length = ps.length
    · rw [decide_eq_true hl, Bool.true_and] at d ⊢
      rw [← d]
      congr 1
      refine List.map_congr_left fun j hj => ?_
      have hj : j < us.length := by have := List.mem_range.mp hj; omega
      show shT p _ _ H' (us.getD j tc0) = shT p _ _ H (us.getD j tc0)
      refine shT_same ?_ s
      rw [List.getD_eq_getElem?_getD, List.getElem?_eq_getElem hj]
      exact f _ (List.getElem_mem hj)
    · rw [decide_eq_false hl, Bool.false_and]
theorem BadL.bad {p m : Int} {ps : List (Int × Int)} {H : Hp} {z tl : Addr} {zs : List V} {ts : List Addr} {us : List Tc} (h : BadL p m ps H zs us) (hz : H z = some (.lst zs)) (h20 : zs.length ≤ 20) (hk : ∀ y ∈ zs, Kn H y) (hT : Shas H tl ts us) (f : ∀ u ∈ us, Fine H u) : Bad p m ps H (.ref z) (.ref tl) := by
  rcases h with h | ⟨ns, rfl, ⟨b1, b2⟩, c, d⟩
  · refine .inl ⟨⟨.lst hz (by omega), fun a xs e1 e2 y hy => ?_⟩, by rw [szB_li hz]; exact h⟩
    cases e1
    rw [hz] at e2
    cases e2
    exact hk y hy
  · have hl := hT.len
    have few := hT.few
    refine .inr ⟨z, ns, rfl, ⟨hz, b1, b2⟩, c, ⟨.lst hT.lst (by rw [List.length_map]; omega), fun a xs e1 e2 y hy => ?_⟩, ?_⟩
    · cases e1
      rw [hT.lst] at e2
      cases e2
      obtain ⟨t, ht, rfl⟩ := List.mem_map.mp hy
      obtain ⟨j, hj, rfl⟩ := List.mem_iff_getElem.mp ht
      have hj' : j < us.length := by omega
      obtain ⟨⟨r, rs, sh⟩, _⟩ := hT.at' j _ _ (List.getElem?_eq_getElem hj) (List.getElem?_eq_getElem hj')
      exact sh.wft (f _ (List.getElem_mem hj'))
    · rw [tsB_li hT.lst, List.length_map, hl]
      unfold tsL at d
      by_cases hlp : us.length = ps.length
      · rw [← d]
        congr 2
        refine List.map_congr_left fun j hj => ?_
        have hj' : j < us.length := by have := List.mem_range.mp hj; omega
        have et : ts[j]? = some (ts[j]'(by omega)) := List.getElem?_eq_getElem _
        obtain ⟨⟨r, rs, sh⟩, _⟩ := hT.at' j _ _ et (List.getElem?_eq_getElem hj')
        show toB p _ _ H ((ts.map V.ref).getD j .non) = shT p _ _ H (us.getD j tc0)
        rw [getD_of (x := .ref (ts[j]'(by omega))) (by rw [List.getElem?_map, et]; rfl), sh.to, List.getD_eq_getElem?_getD (l := us), List.getElem?_eq_getElem hj']
        rfl
      · rw [decide_eq_false hlp, Bool.false_and]
end
end Pf
set_option maxHeartbeats 1000000
namespace Pf
open PySem L2 PyProof.Rows
section
variable {P : Program} {w : World} {K : PySem.W.Frag} {mg : Str → Option Value} {base : Heap} {C G S : Addr} {cc : Cs}
theorem cut_init (xs : List V) : cutV xs none (some (-1)) = xs.dropLast := by
  unfold cutV
  have h0 : HT.sIx xs.length 0 none = 0 := rfl
  rw [h0, List.drop_zero, Nat.sub_zero, List.dropLast_eq_take]
  congr 1
  have : HT.sIx xs.length xs.length (some (-1)) = ((-1 : Int) + (xs.length : Int)).toNat := rfl
  rw [this]
  omega
def All2 {α β : Type} (P : α → β → Prop) (xs : List α) (ys : List β) : Prop := xs.length = ys.length ∧ ∀ (i : Nat) x y, xs[i]? = some x → ys[i]? = some y → P x y
theorem All2.take {α β : Type} {P : α → β → Prop} {xs : List α} {ys : List β} (h : All2 P xs ys) (n : Nat) : All2 P (xs.take n) (ys.take n) := ⟨by rw [List.length_take, List.length_take, h.1], fun i x y e1 e2 => by
  by_cases hi : i < n
  · rw [List.getElem?_take_of_lt hi] at e1 e2
    exact h.2 i x y e1 e2
  · rw [List.getElem?_eq_none (by rw [List.length_take]; omega)] at e1
    cases e1⟩
theorem All2.drop {α β : Type} {P : α → β → Prop} {xs : List α} {ys : List β} (h : All2 P xs ys) (n : Nat) : All2 P (xs.drop n) (ys.drop n) := ⟨by rw [List.length_drop, List.length_drop, h.1], fun i x y e1 e2 => by
  rw [List.getElem?_drop] at e1 e2
  exact h.2 _ x y e1 e2⟩
theorem All2.app {α β : Type} {P : α → β → Prop} {xs xs' : List α} {ys ys' : List β} (h : All2 P xs ys) (h' : All2 P xs' ys') : All2 P (xs ++ xs') (ys ++ ys') := ⟨by rw [List.length_append, List.length_append, h.1, h'.1], fun i x y e1 e2 => by
  have hl := h.1
  by_cases hi : i < xs.length
  · rw [List.getElem?_append_left hi] at e1
    rw [List.getElem?_append_left (by omega)] at e2
    exact h.2 i x y e1 e2
  · rw [List.getElem?_append_right (by omega)] at e1 e2
    rw [← hl] at e2
    exact h'.2 _ x y e1 e2⟩
theorem All2.one {α β : Type} {P : α → β → Prop} {x : α} {y : β} (h : P x y) : All2 P [x] [y] := ⟨rfl, fun i a b e1 e2 => by
  cases i with
  | zero => cases e1; cases e2; exact h
  | succ i => simp at e1⟩
theorem All2.mono {α β : Type} {P P' : α → β → Prop} {xs : List α} {ys : List β} (h : All2 P xs ys) (k : ∀ x y, P x y → P' x y) : All2 P' xs ys := ⟨h.1, fun i x y e1 e2 => k x y (h.2 i x y e1 e2)⟩
abbrev ShF (H : Hp) (t : Addr) (u : Tc) : Prop := (∃ r rs, Sha H t r rs u) ∧ Fine H u
theorem Sha.ext {l : Addr} {H H' : Hp} {t r : Addr} {rs : List Addr} {c : Tc} (h : Sha H t r rs c) (b : Bag H l) (e : Ext l H H') (nr : r ≠ l) (ns : l ∉ rs) : Sha H' t r rs c :=
  ⟨e _ _ (fun z => by obtain ⟨ys, hy⟩ := b.lst; rw [← z, h.tup] at hy; cases hy) h.tup, e _ _ nr h.lst, h.len, fun i a ei => e _ _ (fun z => ns (by rw [← z]; exact List.mem_of_getElem? ei)) (h.con i a ei), h.nin⟩
def spSpo : Sp := fun vs H Q _ => ∃ (l e z tl : Addr) (p m : Int) (xs : List V) (ps : List (Int × Int)) (ns : List Int) (ts : List Addr) (cs : List Tc), vs = [.ref l, .int p, .ref e, .ref z, .ref tl] ∧ Bag H l ∧ GroundP p ∧ e ≠ l ∧ H e = some (.lst xs) ∧ Prs H xs ps ∧ InP m ps ∧ ps.length ≤ 9 ∧ z ≠ l ∧ Sizes H z ns ∧ (∀ n ∈ ns, n ≤ 12) ∧ (ns.length : Int) = m ∧ 1 ≤ m ∧ m ≤ 8 ∧ TbO H p l tl ts cs ∧ Fits ns cs ps ∧
  ∀ (pt z' tl' : Addr) (zs : List V) (ts' : List Addr) (us : List Tc) (H' : Hp), Ext l H H' → Bag H' l → H' pt = some (.tup [.ref z', .ref tl']) → H' z' = some (.lst zs) → zs.length ≤ 20 → (∀ y ∈ zs, ∃ i, y = .int i) → Shas H' tl' ts' us → (∀ u ∈ us, Fine H' u) → BadL p m ps H' zs us → Q (.ref pt) H'
theorem ok_spo {f : Addr} {fd : FuncData} (F : Fun K "_law_spoiled" "_law_spoiled" s_law_spoiled f fd) (T : Txt K mg C G S) (C_law_draw : Cal P w K mg base "_law_draw" 1 spDraw) (C_law_bad_table : Cal P w K mg base "_law_bad_table" 2 spBt) : FnOk P w K mg base CX0 3 f fd ["_law_bag_here", "_law_p", "_law_arrows", "_law_sizes_here", "_law_tables_here"] spSpo := by
  have nd := sc_law_spoiled.nd
  refine F.ok sc_law_spoiled (fun vs H Q E h => ?_) (fun cdv A outer s H vs Q E hr h => ?_)
  · obtain ⟨l, e, z, tl, p, m, xs, ps, ns, ts, cs, rfl, _⟩ := h
    rfl
  · obtain ⟨l, e, z, tl, p, m, xs, ps, ns, ts, cs, rfl, hb, hp, nel, he, pr, ip, p9, nzl, hz, n12, hm, m0, m8, hT, ft, q⟩ := h
    refine ⟨_, (@pss_cons _ _ _ _ _ (ps_set (i := 5) nd rfl (Or.inl rfl) (pe_c C_law_draw (hr.mono (by decide)) rfl (@pa_c _ _ _ _ _ (pv 0) (@pa_c _ _ _ _ _ pe_int pa_nil (by rfl)) (by rfl)))) (@pss_cons _ _ _ _ _ (ps_set (i := 6) nd rfl (Or.inl rfl) (pe_c C_law_draw (hr.mono (by decide)) rfl (@pa_c _ _ _ _ _ (pv 0) (@pa_c _ _ _ _ _ (@pe_ix _ _ _ _ _ _ _ ix_list (@pe_lst _ _ _ _ (@pa_c _ _ _ _ _ pe_int (@pa_c _ _ _ _ _ (@pe_op _ _ _ _ _ _ _ _ op_pow pe_int pe_int) pa_nil (by rfl)) (by rfl))) (pe_c C_law_draw (hr.mono (by decide)) rfl (@pa_c _ _ _ _ _ (pv 0) (@pa_c _ _ _ _ _ pe_int pa_nil (by rfl)) (by rfl))) (fun _ _ => rfl)) pa_nil (by rfl)) (by rfl)))) (@pss_cons _ _ _ _ _ (@ps_if _ _ _ _ _ _ _ _ (PW.pt (pw_or (pt_cmpR op_eq (pv 5) pe_int (nomark _)) (pw_or1 (PW.pt (pw_and (pt_cmpR op_eq (pe_cB call_len_seq rfl T.n_len PySem.boot_len (@pa_c _ _ _ _ _ (pv 2) pa_nil (by rfl))) pe_int (nomark _)) (pw_and1 (pt_cmpR op_gt (pv 5) pe_int (nomark _)))))))) (@pss_one _ _ _ (@ps_ret _ _ _ _ (@pe_tup _ _ _ _ _ (@pa_c _ _ _ _ _ (@pe_op _ _ _ _ _ _ _ _ op_cat (pv 3) (@pe_lst _ _ _ _ (@pa_c _ _ _ _ _ (pv 6) pa_nil (by rfl)))) (@pa_c _ _ _ _ _ (pv 4) pa_nil (by rfl)) (by rfl))))) pss_nil) (@pss_cons _ _ _ _ _ (@ps_if _ _ _ _ _ _ _ _ (pt_cmpR op_eq (pv 5) pe_int (nomark _)) (@pss_one _ _ _ (@ps_ret _ _ _ _ (@pe_tup _ _ _ _ _ (@pa_c _ _ _ _ _ (@pe_slice _ _ _ _ _ _ _ _ _ _ sl_list (pv 3) po_none (@po_some _ _ _ (pe_un un_neg pe_int))) (@pa_c _ _ _ _ _ (pv 4) pa_nil (by rfl)) (by rfl))))) pss_nil) (@pss_cons _ _ _ _ _ (@ps_if _ _ _ _ _ _ _ _ (pt_cmpR op_eq (pv 5) pe_int (nomark _)) (@pss_cons _ _ _ _ _ (ps_set (i := 7) nd rfl (Or.inl rfl) (pe_c C_law_draw (hr.mono (by decide)) rfl (@pa_c _ _ _ _ _ (pv 0) (@pa_c _ _ _ _ _ (pe_cB call_len_seq rfl T.n_len PySem.boot_len (@pa_c _ _ _ _ _ (pv 3) pa_nil (by rfl))) pa_nil (by rfl)) (by rfl)))) (@pss_one _ _ _ (@ps_ret _ _ _ _ (@pe_tup _ _ _ _ _ (@pa_c _ _ _ _ _ (@pe_op _ _ _ _ _ _ _ _ op_cat (@pe_op _ _ _ _ _ _ _ _ op_cat (@pe_slice _ _ _ _ _ _ _ _ _ _ sl_list (pv 3) po_none (@po_some _ _ _ (pv 7))) (@pe_lst _ _ _ _ (@pa_c _ _ _ _ _ (@pe_op _ _ _ _ _ _ _ _ op_sub (pe_un un_neg pe_int) (pv 6)) pa_nil (by rfl)))) (@pe_slice _ _ _ _ _ _ _ _ _ _ sl_list (pv 3) (@po_some _ _ _ (@pe_op _ _ _ _ _ _ _ _ op_add (pv 7) pe_int)) po_none)) (@pa_c _ _ _ _ _ (pv 4) pa_nil (by rfl)) (by rfl)))))) pss_nil) (@pss_cons _ _ _ _ _ (ps_set (i := 7) nd rfl (Or.inl rfl) (pe_c C_law_draw (hr.mono (by decide)) rfl (@pa_c _ _ _ _ _ (pv 0) (@pa_c _ _ _ _ _ (pe_cB call_len_seq rfl T.n_len PySem.boot_len (@pa_c _ _ _ _ _ (pv 2) pa_nil (by rfl))) pa_nil (by rfl)) (by rfl)))) (@pss_cons _ _ _ _ _ (@ps_if _ _ _ _ _ _ _ _ (pt_cmpR op_eq (pv 5) pe_int (nomark _)) (@pss_cons _ _ _ _ _ (ps_set (i := 8) nd rfl (Or.inl rfl) (@pe_ix _ _ _ _ _ _ _ ix_tup (@pe_ix _ _ _ _ _ _ _ ix_list (pv 2) (pv 7) (fun _ _ => rfl)) (pe_c C_law_draw (hr.mono (by decide)) rfl (@pa_c _ _ _ _ _ (pv 0) (@pa_c _ _ _ _ _ pe_int pa_nil (by rfl)) (by rfl))) (fun _ _ => rfl))) (@pss_one _ _ _ (@ps_ret _ _ _ _ (@pe_tup _ _ _ _ _ (@pa_c _ _ _ _ _ (@pe_op _ _ _ _ _ _ _ _ op_cat (@pe_op _ _ _ _ _ _ _ _ op_cat (@pe_slice _ _ _ _ _ _ _ _ _ _ sl_list (pv 3) po_none (@po_some _ _ _ (pv 8))) (@pe_lst _ _ _ _ (@pa_c _ _ _ _ _ (@pe_op _ _ _ _ _ _ _ _ op_add (@pe_ix _ _ _ _ _ _ _ ix_list (pv 3) (pv 8) (fun _ _ => rfl)) pe_int) pa_nil (by rfl)))) (@pe_slice _ _ _ _ _ _ _ _ _ _ sl_list (pv 3) (@po_some _ _ _ (@pe_op _ _ _ _ _ _ _ _ op_add (pv 8) pe_int)) po_none)) (@pa_c _ _ _ _ _ (pv 4) pa_nil (by rfl)) (by rfl)))))) pss_nil) (@pss_cons _ _ _ _ _ (@ps_if _ _ _ _ _ _ _ _ (pt_cmpR op_eq (pv 5) pe_int (nomark _)) (@pss_one _ _ _ (@ps_ret _ _ _ _ (@pe_tup _ _ _ _ _ (@pa_c _ _ _ _ _ (pv 3) (@pa_c _ _ _ _ _ (@pe_op _ _ _ _ _ _ _ _ op_cat (@pe_op _ _ _ _ _ _ _ _ op_cat (@pe_slice _ _ _ _ _ _ _ _ _ _ sl_list (pv 4) po_none (@po_some _ _ _ (pv 7))) (@pe_lst _ _ _ _ (@pa_c _ _ _ _ _ (@pe_ix _ _ _ _ _ _ _ ix_list (pv 4) (pv 7) (fun _ _ => rfl)) pa_nil (by rfl)))) (@pe_slice _ _ _ _ _ _ _ _ _ _ sl_list (pv 4) (@po_some _ _ _ (pv 7)) po_none)) pa_nil (by rfl)) (by rfl))))) pss_nil) (@pss_cons _ _ _ _ _ (@ps_if _ _ _ _ _ _ _ _ (pt_cmpR op_eq (pv 5) pe_int (nomark _)) (@pss_one _ _ _ (@ps_ret _ _ _ _ (@pe_tup _ _ _ _ _ (@pa_c _ _ _ _ _ (pv 3) (@pa_c _ _ _ _ _ (@pe_op _ _ _ _ _ _ _ _ op_cat (@pe_slice _ _ _ _ _ _ _ _ _ _ sl_list (pv 4) po_none (@po_some _ _ _ (pv 7))) (@pe_slice _ _ _ _ _ _ _ _ _ _ sl_list (pv 4) (@po_some _ _ _ (@pe_op _ _ _ _ _ _ _ _ op_add (pv 7) pe_int)) po_none)) pa_nil (by rfl)) (by rfl))))) pss_nil) (@pss_one _ _ _ (@ps_ret _ _ _ _ (@pe_tup _ _ _ _ _ (@pa_c _ _ _ _ _ (pv 3) (@pa_c _ _ _ _ _ (@pe_op _ _ _ _ _ _ _ _ op_cat (@pe_op _ _ _ _ _ _ _ _ op_cat (@pe_slice _ _ _ _ _ _ _ _ _ _ sl_list (pv 4) po_none (@po_some _ _ _ (pv 7))) (@pe_lst _ _ _ _ (@pa_c _ _ _ _ _ (pe_c C_law_bad_table (hr.mono (by decide)) rfl (@pa_c _ _ _ _ _ (pv 0) (@pa_c _ _ _ _ _ (pv 1) (@pa_c _ _ _ _ _ (@pe_ix _ _ _ _ _ _ _ ix_list (pv 4) (pv 7) (fun _ _ => rfl)) (@pa_c _ _ _ _ _ (pv 5) pa_nil (by rfl)) (by rfl)) (by rfl)) (by rfl))) pa_nil (by rfl)))) (@pe_slice _ _ _ _ _ _ _ _ _ _ sl_list (pv 4) (@po_some _ _ _ (@pe_op _ _ _ _ _ _ _ _ op_add (pv 7) pe_int)) po_none)) pa_nil (by rfl)) (by rfl)))))))))))))), ?_⟩
    have fin : ∀ (z' tl' : Addr) (zs : List V) (ts' : List Addr) (us : List Tc) (H5 : Hp), Ext l H H5 → Bag H5 l → H5 z' = some (.lst zs) → zs.length ≤ 20 → (∀ y ∈ zs, ∃ i, y = .int i) → Shas H5 tl' ts' us → (∀ u ∈ us, Fine H5 u) → BadL p m ps H5 zs us → 2 ≤ sizeLine ∧ ∀ pt, H5 pt = none → Q (.ref pt) (upd H5 pt (.tup [.ref z', .ref tl'])) := by
      intro z' tl' zs ts' us H5 e5 b5 h1 h2 h3 h4 h5 h6
      refine ⟨by decide, fun pt hpt => ?_⟩
      have s6 := Same.new (o := .tup [V.ref z', V.ref tl']) hpt
      exact q pt z' tl' zs ts' us _ (e5.trans s6.ext) (b5.same s6) upd_same (s6 _ _ h1) h2 h3 (h4.same s6) (fun u hu => (h5 u hu).same s6) (h6.same h5 s6)
    have finS : ∀ (z' : Addr) (zs : List V) (H5 : Hp), Ext l H H5 → Bag H5 l → H5 z' = some (.lst zs) → zs.length ≤ 20 → (∀ y ∈ zs, ∃ i, y = .int i) → (szL m zs = false ∨ ∃ ns', zs = ns'.map V.int ∧ SzN ns' ∧ (ns'.length : Int) = m ∧ ∀ us : List Tc, us.length = cs.length → (∀ (i : Nat) c u, cs[i]? = some c → us[i]? = some u → u.1 = c.1 ∧ u.2.1 = c.2.1) → tsL p ns' ps H5 us = false) → 2 ≤ sizeLine ∧ ∀ pt, H5 pt = none → Q (.ref pt) (upd H5 pt (.tup [.ref z', .ref tl])) := by
      intro z' zs H5 e5 b5 h1 h2 h3 h4
      have hT5 := hT.ext hb e5
      obtain ⟨us, hl, hs, hd⟩ := hT5.shas
      have l2 := hT5.1.2.1
      have l9 := hT5.1.2.2.1
      have hf : ∀ u ∈ us, Fine H5 u := fun u hu => by
        obtain ⟨j, hj, rfl⟩ := List.mem_iff_getElem.mp hu
        exact (hd j _ _ (List.getElem?_eq_getElem (by omega)) (List.getElem?_eq_getElem hj)).2.2.2
      refine fin z' tl zs ts us H5 e5 b5 h1 h2 h3 ⟨hT5.1.1, by omega, by omega, fun i t u f1 f2 => ?_⟩ hf ?_
      · obtain ⟨r, rs, sh, _⟩ := hs i t u f1 f2
        exact ⟨⟨r, rs, sh⟩, (hf u (List.mem_of_getElem? f2)).1⟩
      · rcases h4 with h4 | ⟨ns', a, b, c, d⟩
        · exact .inl h4
        · exact .inr ⟨ns', a, b, c, d us hl fun i c u f1 f2 => ⟨(hd i c u f1 f2).1, (hd i c u f1 f2).2.1⟩⟩
    have finT : ∀ (tl' : Addr) (ts' : List Addr) (us' : List Tc) (H5 : Hp), Ext l H H5 → Bag H5 l → H5 tl' = some (.lst (ts'.map V.ref)) → All2 (ShF H5) ts' us' → us'.length ≤ 20 → tsL p ns ps H5 us' = false → 2 ≤ sizeLine ∧ ∀ pt, H5 pt = none → Q (.ref pt) (upd H5 pt (.tup [.ref z, .ref tl'])) := by
      intro tl' ts' us' H5 e5 b5 h1 h2 h3 h4
      have hl := h2.1
      have hf : ∀ u ∈ us', Fine H5 u := fun u hu => by
        obtain ⟨j, hj, rfl⟩ := List.mem_iff_getElem.mp hu
        exact (h2.2 j _ _ (List.getElem?_eq_getElem (by omega)) (List.getElem?_eq_getElem hj)).2
      refine fin z tl' (ns.map V.int) ts' us' H5 e5 b5 (e5 _ _ nzl hz.1) (by rw [List.length_map]; have := hz.2.1; omega) (fun y hy => let ⟨i, _, hi⟩ := List.mem_map.mp hy; ⟨i, hi.symm⟩) ⟨h1, hl, h3, fun i t u f1 f2 => ⟨(h2.2 i t u f1 f2).1, (hf u (List.mem_of_getElem? f2)).1⟩⟩ hf (.inr ⟨ns, rfl, hz.2, hm, h4⟩)
    refine cut2 fun X hX => ?_
    have aft : ∀ (way far : Int) (H2 : Hp), 0 ≤ way → way < 10 → 0 ≤ far → far < 10 ^ 29 → Ext l H H2 → Bag H2 l → X { nx := fun x H' => Q V.non H', rt := Q } [some (.ref l), some (.int p), some (.ref e), some (.ref z), some (.ref tl), some (.int way), some (.int far), none, none] H2 := by
      intro way far H2 w0 w1 f0 f1 e2 b2
      subst hX
      refine cut1 fun Y hY => ?_
      have he2 := e2 _ _ nel he
      have hz2 := e2 _ _ nzl hz.1
      have lz : (ns.map V.int).length = ns.length := List.length_map _
      have h8 := hz.2.1
      have allI : ∀ y ∈ ns.map V.int, ∃ i, y = V.int i := fun y hy => let ⟨i, _, hi⟩ := List.mem_map.mp hy; ⟨i, hi.symm⟩
      have aftY : ¬ way = 0 → (2 < way → 0 < xs.length) → Y { nx := fun x H' => Q V.non H', rt := Q } [some (.ref l), some (.int p), some (.ref e), some (.ref z), some (.ref tl), some (.int way), some (.int far), none, none] H2 := by
        intro wn0 wn2
        subst hY
        refine cut1 fun Z hZ => ?_
        have aftZ : ¬ way = 1 → Z { nx := fun x H' => Q V.non H', rt := Q } [some (.ref l), some (.int p), some (.ref e), some (.ref z), some (.ref tl), some (.int way), some (.int far), none, none] H2 := by
          intro wn1
          subst hZ
          refine cut1 fun U hU => ?_
          have aftU : 2 < way → U { nx := fun x H' => Q V.non H', rt := Q } [some (.ref l), some (.int p), some (.ref e), some (.ref z), some (.ref tl), some (.int way), some (.int far), none, none] H2 := by
            intro w2
            subst hU
            have xl := wn2 w2
            have hpl := pr.1
            refine cut1 fun A1 hA1 => ?_
            have aftA : ∀ (k : Int) (H3 : Hp), 0 ≤ k → k < xs.length → Ext l H H3 → Bag H3 l → A1 { nx := fun x H' => Q V.non H', rt := Q } [some (.ref l), some (.int p), some (.ref e), some (.ref z), some (.ref tl), some (.int way), some (.int far), some (.int k), none] H3 := by
              intro k H3 k0 k1 e3 b3
              subst hA1
              refine cut1 fun A2 hA2 => ?_
              have aftB : A2 { nx := fun x H' => Q V.non H', rt := Q } [some (.ref l), some (.int p), some (.ref e), some (.ref z), some (.ref tl), some (.int way), some (.int far), some (.int k), none] H3 := by
                subst hA2
                have hT3 := hT.ext hb e3
                obtain ⟨us, hul, hus, hud⟩ := hT3.shas
                have l2 := hT3.1.2.1
                have l9 := hT3.1.2.2.1
                have hfl := ft.1
                have hz3 := e3 _ _ nzl hz.1
                have tl3 := hT3.1.1
                have lts : (ts.map V.ref).length = ts.length := List.length_map _
                have kt : k.toNat < ts.length := by omega
                have a3 : All2 (ShF H3) ts us := ⟨by omega, fun i t u f1 f2 => by
                  obtain ⟨r, rs, sh, _⟩ := hus i t u f1 f2
                  have hi : i < cs.length := by have := (List.getElem?_eq_some_iff.mp f1).1; omega
                  exact ⟨⟨r, rs, sh⟩, (hud i _ u (List.getElem?_eq_getElem hi) f2).2.2.2⟩⟩
                refine cut1 fun A3 hA3 => ?_
                have aftC : A3 { nx := fun x H' => Q V.non H', rt := Q } [some (.ref l), some (.int p), some (.ref e), some (.ref z), some (.ref tl), some (.int way), some (.int far), some (.int k), none] H3 := by
                  subst hA3
                  refine cut1 fun A4 hA4 => ?_
                  have aftD : A4 { nx := fun x H' => Q V.non H', rt := Q } [some (.ref l), some (.int p), some (.ref e), some (.ref z), some (.ref tl), some (.int way), some (.int far), some (.int k), none] H3 := by
                    subst hA4
                    walk_at "wp"
                    refine ⟨_, SqL.of tl3, fun p1 hp1 => ?_⟩
                    rw [cut_takeI _ k0 (by omega)]
                    have np1 : p1 ≠ l := b3.ne hp1
                    have s4 := Same.new (o := .lst ((ts.map V.ref).take k.toNat)) hp1
                    have k4 : (upd H3 p1 (.lst ((ts.map V.ref).take k.toNat))) p1 = some (.lst ((ts.map V.ref).take k.toNat)) := upd_same
                    generalize upd H3 p1 (.lst ((ts.map V.ref).take k.toNat)) = H4 at *
                    have kc : k.toNat < cs.length := by omega
                    have ku : k.toNat < us.length := by omega
                    have kp : k.toNat < ps.length := by omega
                    have et : ts[k.toNat]? = some ts[k.toNat] := List.getElem?_eq_getElem kt
                    have ec : cs[k.toNat]? = some cs[k.toNat] := List.getElem?_eq_getElem kc
                    have ep : ps[k.toNat]? = some ps[k.toNat] := List.getElem?_eq_getElem kp
                    obtain ⟨r, rs, tc, nr, nrs⟩ := hT3.2.2 _ _ _ et ec
                    obtain ⟨_, c0, c24, w0', w24⟩ := hT3.1.2.2.2 _ _ _ et ec
                    obtain ⟨f1', f2'⟩ := ft.2 _ _ _ ec ep
                    refine ⟨_, SqL.of (s4 _ _ tl3), _, atI_at k0 (get_refs kt), l, _, r, p, _, _, way, rs, _, rfl, b3.same s4, hp, tc.same s4, c0, c24, w0', w24, nr, nrs, fun t' r' rs' c' H5 e5 b5 sh' nr' nl' fi' bad => ⟨by decide, fun p2 hp2 => ?_⟩⟩
                    have e35 := s4.ext.trans e5
                    have k5 := e5 _ _ np1 k4
                    have tl5 := e35 _ _ hT3.2.1 tl3
                    have a5 : All2 (ShF H5) ts us := ⟨by omega, fun i t u g1 g2 => by
                      obtain ⟨r0, rs0, sh0, nr0, nrs0⟩ := hus i t u g1 g2
                      have hi : i < cs.length := by have := (List.getElem?_eq_some_iff.mp g1).1; omega
                      obtain ⟨d1, d2, nt, _⟩ := hud i _ u (List.getElem?_eq_getElem hi) g2
                      obtain ⟨_, _, b24, _, v24⟩ := hT3.1.2.2.2 i t _ g1 (List.getElem?_eq_getElem hi)
                      exact ⟨⟨r0, rs0, sh0.ext b3 e35 nr0 nrs0⟩, (nt.ext b3 e35).fine (by omega) (by omega)⟩⟩
                    have s6 := Same.new (o := .lst [V.ref t']) hp2
                    have k6 : (upd H5 p2 (.lst [V.ref t'])) p2 = some (.lst [V.ref t']) := upd_same
                    generalize upd H5 p2 (.lst [V.ref t']) = H6 at *
                    have lt : ((ts.map V.ref).take k.toNat).length ≤ 9 := by rw [List.length_take]; omega
                    have l1 : ([V.ref t'] : List V).length = 1 := rfl
                    refine ⟨_, s6 _ _ k5, _, k6, Nat.le_of_lt (small1000 (by omega)), fun p3 hp3 => ?_⟩
                    have s7 := Same.new (o := .lst ((ts.map V.ref).take k.toNat ++ [V.ref t'])) hp3
                    have k7 : (upd H6 p3 (.lst ((ts.map V.ref).take k.toNat ++ [V.ref t']))) p3 = some (.lst ((ts.map V.ref).take k.toNat ++ [V.ref t'])) := upd_same
                    generalize upd H6 p3 (.lst ((ts.map V.ref).take k.toNat ++ [V.ref t'])) = H7 at *
                    have t7 := s6.trans s7
                    refine ⟨_, SqL.of (t7 _ _ tl5), fun p4 hp4 => ?_⟩
                    rw [cut_dropI _ (by omega) (by omega)]
                    have s8 := Same.new (o := .lst ((ts.map V.ref).drop (k + 1).toNat)) hp4
                    have k8 : (upd H7 p4 (.lst ((ts.map V.ref).drop (k + 1).toNat))) p4 = some (.lst ((ts.map V.ref).drop (k + 1).toNat)) := upd_same
                    generalize upd H7 p4 (.lst ((ts.map V.ref).drop (k + 1).toNat)) = H8 at *
                    have ld : ((ts.map V.ref).drop (k + 1).toNat).length ≤ 9 := by rw [List.length_drop]; omega
                    have l7 : ((ts.map V.ref).take k.toNat ++ [V.ref t']).length = ((ts.map V.ref).take k.toNat).length + 1 := by rw [List.length_append]; rfl
                    refine ⟨_, s8 _ _ k7, _, k8, Nat.le_of_lt (small1000 (by omega)), fun tl' htl' => ?_⟩
                    have emap : (ts.map V.ref).take k.toNat ++ [V.ref t'] ++ (ts.map V.ref).drop (k + 1).toNat = (ts.take k.toNat ++ [t'] ++ ts.drop (k + 1).toNat).map V.ref := by rw [List.map_append, List.map_append, List.map_take, List.map_drop]; rfl
                    rw [emap]
                    have s9 := Same.new (o := .lst ((ts.take k.toNat ++ [t'] ++ ts.drop (k + 1).toNat).map V.ref)) htl'
                    have k9 : (upd H8 tl' (.lst ((ts.take k.toNat ++ [t'] ++ ts.drop (k + 1).toNat).map V.ref))) tl' = some (.lst ((ts.take k.toNat ++ [t'] ++ ts.drop (k + 1).toNat).map V.ref)) := upd_same
                    generalize upd H8 tl' (.lst ((ts.take k.toNat ++ [t'] ++ ts.drop (k + 1).toNat).map V.ref)) = H9 at *
                    have t9 := (t7.trans s8).trans s9
                    have a9 : All2 (ShF H9) ts us := a5.mono fun t u ⟨⟨r, rs, sh⟩, f⟩ => ⟨⟨r, rs, sh.same t9⟩, f.same t9⟩
                    have lu : (us.take k.toNat ++ [c'] ++ us.drop (k + 1).toNat).length = us.length := by rw [List.length_append, List.length_append, List.length_take, List.length_drop]; show min k.toNat us.length + 1 + _ = _; omega
                    refine finT tl' _ (us.take k.toNat ++ [c'] ++ us.drop (k + 1).toNat) H9 ((e3.trans e35).trans t9.ext) (b5.same t9) k9 (((a9.take _).app (.one ⟨⟨r', rs', sh'.same t9⟩, fi'.same t9⟩)).app (a9.drop _)) (by omega) ?_
                    unfold tsL
                    have : ((List.range ps.length).map (shAt p ns ps H9 (us.take k.toNat ++ [c'] ++ us.drop (k + 1).toNat))).all id = false := by
                      refine List.all_eq_false.mpr ⟨_, List.mem_map.mpr ⟨k.toNat, List.mem_range.mpr kp, rfl⟩, ?_⟩
                      show ¬ shT p (ns.getD (ps.getD k.toNat (0, 0)).2.toNat 0) (ns.getD (ps.getD k.toNat (0, 0)).1.toNat 0) H9 ((us.take k.toNat ++ [c'] ++ us.drop (k + 1).toNat).getD k.toNat tc0) = true
                      have eg : (us.take k.toNat ++ [c'] ++ us.drop (k + 1).toNat).getD k.toNat tc0 = c' := by
                        rw [List.getD_eq_getElem?_getD, List.append_assoc, List.getElem?_append_right (by rw [List.length_take]; omega), List.length_take, show k.toNat - min k.toNat us.length = 0 by omega]
                        rfl
                      rw [eg, show ps.getD k.toNat (0, 0) = ps[k.toNat] by rw [List.getD_eq_getElem?_getD, ep]; rfl, ← f1', ← f2', shT_same fi' t9, bad]
                      decide
                    rw [this, Bool.and_false]
                  walk_at "wp"
                  refine ite2 (fun _ => ?_) (fun _ => aftD)
                  refine ⟨_, SqL.of tl3, fun p1 hp1 => ?_⟩
                  rw [cut_takeI _ k0 (by omega)]
                  have s4 := Same.new (o := .lst ((ts.map V.ref).take k.toNat)) hp1
                  have k4 : (upd H3 p1 (.lst ((ts.map V.ref).take k.toNat))) p1 = some (.lst ((ts.map V.ref).take k.toNat)) := upd_same
                  generalize upd H3 p1 (.lst ((ts.map V.ref).take k.toNat)) = H4 at *
                  refine ⟨_, SqL.of (s4 _ _ tl3), fun p2 hp2 => ?_⟩
                  rw [cut_dropI _ (by omega) (by omega)]
                  have s5 := Same.new (o := .lst ((ts.map V.ref).drop (k + 1).toNat)) hp2
                  have k5 : (upd H4 p2 (.lst ((ts.map V.ref).drop (k + 1).toNat))) p2 = some (.lst ((ts.map V.ref).drop (k + 1).toNat)) := upd_same
                  generalize upd H4 p2 (.lst ((ts.map V.ref).drop (k + 1).toNat)) = H5 at *
                  have lt : ((ts.map V.ref).take k.toNat).length ≤ 9 := by rw [List.length_take]; omega
                  have ld : ((ts.map V.ref).drop (k + 1).toNat).length ≤ 9 := by rw [List.length_drop]; omega
                  refine ⟨_, s5 _ _ k4, _, k5, Nat.le_of_lt (small1000 (by omega)), fun tl' htl' => ?_⟩
                  have emap : (ts.map V.ref).take k.toNat ++ (ts.map V.ref).drop (k + 1).toNat = (ts.take k.toNat ++ ts.drop (k + 1).toNat).map V.ref := by rw [List.map_append, List.map_take, List.map_drop]
                  rw [emap]
                  have s6 := Same.new (o := .lst ((ts.take k.toNat ++ ts.drop (k + 1).toNat).map V.ref)) htl'
                  have k6 : (upd H5 tl' (.lst ((ts.take k.toNat ++ ts.drop (k + 1).toNat).map V.ref))) tl' = some (.lst ((ts.take k.toNat ++ ts.drop (k + 1).toNat).map V.ref)) := upd_same
                  generalize upd H5 tl' (.lst ((ts.take k.toNat ++ ts.drop (k + 1).toNat).map V.ref)) = H6 at *
                  have t6 := (s4.trans s5).trans s6
                  have a6 : All2 (ShF H6) ts us := a3.mono fun t u ⟨⟨r, rs, sh⟩, f⟩ => ⟨⟨r, rs, sh.same t6⟩, f.same t6⟩
                  have lu : (us.take k.toNat ++ us.drop (k + 1).toNat).length + 1 = us.length := by rw [List.length_append, List.length_take, List.length_drop]; omega
                  refine finT tl' _ (us.take k.toNat ++ us.drop (k + 1).toNat) H6 (e3.trans t6.ext) (b3.same t6) k6 ((a6.take _).app (a6.drop _)) (by omega) ?_
                  unfold tsL
                  rw [decide_eq_false (by omega), Bool.false_and]
                walk_at "wp"
                refine ite2 (fun _ => ?_) (fun _ => aftC)
                refine ⟨_, SqL.of tl3, fun p1 hp1 => ?_⟩
                rw [cut_takeI _ k0 (by omega)]
                have s4 := Same.new (o := .lst ((ts.map V.ref).take k.toNat)) hp1
                have k4 : (upd H3 p1 (.lst ((ts.map V.ref).take k.toNat))) p1 = some (.lst ((ts.map V.ref).take k.toNat)) := upd_same
                generalize upd H3 p1 (.lst ((ts.map V.ref).take k.toNat)) = H4 at *
                refine ⟨_, SqL.of (s4 _ _ tl3), _, atI_at k0 (get_refs kt), by decide, fun p2 hp2 => ?_⟩
                have s5 := Same.new (o := .lst [V.ref ts[k.toNat]]) hp2
                have k5 : (upd H4 p2 (.lst [V.ref ts[k.toNat]])) p2 = some (.lst [V.ref ts[k.toNat]]) := upd_same
                generalize upd H4 p2 (.lst [V.ref ts[k.toNat]]) = H5 at *
                have lt : ((ts.map V.ref).take k.toNat).length ≤ 9 := by rw [List.length_take]; omega
                have l1 : ([V.ref ts[k.toNat]] : List V).length = 1 := rfl
                refine ⟨_, s5 _ _ k4, _, k5, Nat.le_of_lt (small1000 (by omega)), fun p3 hp3 => ?_⟩
                have s6 := Same.new (o := .lst ((ts.map V.ref).take k.toNat ++ [V.ref ts[k.toNat]])) hp3
                have k6 : (upd H5 p3 (.lst ((ts.map V.ref).take k.toNat ++ [V.ref ts[k.toNat]]))) p3 = some (.lst ((ts.map V.ref).take k.toNat ++ [V.ref ts[k.toNat]])) := upd_same
                generalize upd H5 p3 (.lst ((ts.map V.ref).take k.toNat ++ [V.ref ts[k.toNat]])) = H6 at *
                have t6 := (s4.trans s5).trans s6
                refine ⟨_, SqL.of (t6 _ _ tl3), fun p4 hp4 => ?_⟩
                rw [cut_dropI _ k0 (by omega)]
                have s7 := Same.new (o := .lst ((ts.map V.ref).drop k.toNat)) hp4
                have k7 : (upd H6 p4 (.lst ((ts.map V.ref).drop k.toNat))) p4 = some (.lst ((ts.map V.ref).drop k.toNat)) := upd_same
                generalize upd H6 p4 (.lst ((ts.map V.ref).drop k.toNat)) = H7 at *
                have ld : ((ts.map V.ref).drop k.toNat).length ≤ 9 := by rw [List.length_drop]; omega
                have l6 : ((ts.map V.ref).take k.toNat ++ [V.ref ts[k.toNat]]).length = ((ts.map V.ref).take k.toNat).length + 1 := by rw [List.length_append]; rfl
                refine ⟨_, s7 _ _ k6, _, k7, Nat.le_of_lt (small1000 (by omega)), fun tl' htl' => ?_⟩
                have emap : (ts.map V.ref).take k.toNat ++ [V.ref ts[k.toNat]] ++ (ts.map V.ref).drop k.toNat = (ts.take k.toNat ++ [ts[k.toNat]] ++ ts.drop k.toNat).map V.ref := by rw [List.map_append, List.map_append, List.map_take, List.map_drop]; rfl
                rw [emap]
                have s8 := Same.new (o := .lst ((ts.take k.toNat ++ [ts[k.toNat]] ++ ts.drop k.toNat).map V.ref)) htl'
                have k8 : (upd H7 tl' (.lst ((ts.take k.toNat ++ [ts[k.toNat]] ++ ts.drop k.toNat).map V.ref))) tl' = some (.lst ((ts.take k.toNat ++ [ts[k.toNat]] ++ ts.drop k.toNat).map V.ref)) := upd_same
                generalize upd H7 tl' (.lst ((ts.take k.toNat ++ [ts[k.toNat]] ++ ts.drop k.toNat).map V.ref)) = H8 at *
                have t8 := (t6.trans s7).trans s8
                have a8 : All2 (ShF H8) ts us := a3.mono fun t u ⟨⟨r, rs, sh⟩, f⟩ => ⟨⟨r, rs, sh.same t8⟩, f.same t8⟩
                have ku : k.toNat < us.length := by omega
                have lu : (us.take k.toNat ++ [us[k.toNat]] ++ us.drop k.toNat).length = us.length + 1 := by rw [List.length_append, List.length_append, List.length_take, List.length_drop]; show min k.toNat us.length + 1 + _ = _; omega
                refine finT tl' _ (us.take k.toNat ++ [us[k.toNat]] ++ us.drop k.toNat) H8 (e3.trans t8.ext) (b3.same t8) k8 (((a8.take _).app (.one (a8.2 k.toNat _ _ (List.getElem?_eq_getElem kt) (List.getElem?_eq_getElem ku)))).app (a8.drop _)) (by omega) ?_
                unfold tsL
                rw [decide_eq_false (by omega), Bool.false_and]
              walk_at "wp"
              refine ite2 (fun _ => ?_) (fun _ => aftB)
              have he3 := e3 _ _ nel he
              have pr3 := pr.bag hb e3
              have hk : k.toNat < ps.length := by omega
              have ek : ps[k.toNat]? = some ps[k.toNat] := List.getElem?_eq_getElem hk
              obtain ⟨ta, hta, ht3⟩ := pr3.2 k.toNat (xs[k.toNat]'(by omega)) _ (List.getElem?_eq_getElem _) ek
              obtain ⟨i0, i1, j0, j1⟩ := ip _ (List.getElem_mem hk)
              refine ⟨_, SqL.of he3, _, atI_at k0 (List.getElem?_eq_getElem (by omega)), b3.draw (n := 2) (by decide) (by decide) fun g2 H4 g0 g1 e4 b4 => ?_⟩
              rw [hta]
              have nta : ta ≠ l := fun y => by obtain ⟨ys, hy⟩ := b3.lst; rw [← y, ht3] at hy; cases hy
              have ht4 := e4 _ _ nta ht3
              have e04 := e3.trans e4
              have hz4 := e04 _ _ nzl hz.1
              obtain ⟨en, hen, en0, en1, enq⟩ : ∃ en : Int, atI [V.int ps[k.toNat].1, V.int ps[k.toNat].2] g2 = some (.int en) ∧ 0 ≤ en ∧ en < m ∧ (en = ps[k.toNat].1 ∨ en = ps[k.toNat].2) := by
                have : g2 = 0 ∨ g2 = 1 := by omega
                rcases this with rfl | rfl
                · exact ⟨_, rfl, i0, i1, .inl rfl⟩
                · exact ⟨_, rfl, j0, j1, .inr rfl⟩
              refine ⟨ta, rfl, _, g2, rfl, SqT.of ht4, _, hen, ?_⟩
              walk_at "wp"
              have hx : (ns.getD en.toNat 0) ∈ ns := by rw [List.getD_eq_getElem?_getD, List.getElem?_eq_getElem (show en.toNat < ns.length by omega)]; exact List.getElem_mem _
              have x0 := (hz.2.2 _ hx).1
              have x12 := n12 _ hx
              refine ⟨_, SqL.of hz4, fun p1 hp1 => ?_⟩
              rw [cut_takeI _ en0 (by omega)]
              have s6 := Same.new (o := .lst ((ns.map V.int).take en.toNat)) hp1
              have k6 : (upd H4 p1 (.lst ((ns.map V.int).take en.toNat))) p1 = some (.lst ((ns.map V.int).take en.toNat)) := upd_same
              generalize upd H4 p1 (.lst ((ns.map V.int).take en.toNat)) = H6 at *
              refine ⟨_, SqL.of (s6 _ _ hz4), _, at_int en0 (by omega), _, rfl, by decide, fun p2 hp2 => ?_⟩
              generalize hxe : ns.getD en.toNat 0 = xe at *
              have s7 := Same.new (o := .lst [V.int (xe + 1)]) hp2
              have k7 : (upd H6 p2 (.lst [V.int (xe + 1)])) p2 = some (.lst [V.int (xe + 1)]) := upd_same
              generalize upd H6 p2 (.lst [V.int (xe + 1)]) = H7 at *
              have t7 := s6.trans s7
              have lt : ((ns.map V.int).take en.toNat).length ≤ 8 := by rw [List.length_take]; omega
              have l1 : ([V.int (xe + 1)] : List V).length = 1 := rfl
              refine ⟨_, s7 _ _ k6, _, k7, Nat.le_of_lt (small1000 (by omega)), fun p3 hp3 => ?_⟩
              have s8 := Same.new (o := .lst ((ns.map V.int).take en.toNat ++ [V.int (xe + 1)])) hp3
              have k8 : (upd H7 p3 (.lst ((ns.map V.int).take en.toNat ++ [V.int (xe + 1)]))) p3 = some (.lst ((ns.map V.int).take en.toNat ++ [V.int (xe + 1)])) := upd_same
              generalize upd H7 p3 (.lst ((ns.map V.int).take en.toNat ++ [V.int (xe + 1)])) = H8 at *
              have t8 := t7.trans s8
              refine ⟨_, SqL.of (t8 _ _ hz4), fun p4 hp4 => ?_⟩
              rw [cut_dropI _ (by omega) (by omega)]
              have s9 := Same.new (o := .lst ((ns.map V.int).drop (en + 1).toNat)) hp4
              have k9 : (upd H8 p4 (.lst ((ns.map V.int).drop (en + 1).toNat))) p4 = some (.lst ((ns.map V.int).drop (en + 1).toNat)) := upd_same
              generalize upd H8 p4 (.lst ((ns.map V.int).drop (en + 1).toNat)) = H9 at *
              have ld : ((ns.map V.int).drop (en + 1).toNat).length ≤ 8 := by rw [List.length_drop]; omega
              have l8 : ((ns.map V.int).take en.toNat ++ [V.int (xe + 1)]).length = ((ns.map V.int).take en.toNat).length + 1 := by rw [List.length_append]; rfl
              refine ⟨_, s9 _ _ k8, _, k9, Nat.le_of_lt (small1000 (by omega)), fun z' hz' => ?_⟩
              have hlt : en.toNat < ns.length := by omega
              have eset : (ns.map V.int).take en.toNat ++ [V.int (xe + 1)] ++ (ns.map V.int).drop (en + 1).toNat = (ns.set en.toNat (xe + 1)).map V.int := by
                rw [List.set_eq_take_append_cons_drop, if_pos hlt, List.map_append, List.map_take, List.map_cons, List.map_drop, show (en + 1).toNat = en.toNat + 1 by omega, List.append_assoc]
                rfl
              rw [eset]
              have s10 := Same.new (o := .lst ((ns.set en.toNat (xe + 1)).map V.int)) hz'
              have k10 : (upd H9 z' (.lst ((ns.set en.toNat (xe + 1)).map V.int))) z' = some (.lst ((ns.set en.toNat (xe + 1)).map V.int)) := upd_same
              generalize upd H9 z' (.lst ((ns.set en.toNat (xe + 1)).map V.int)) = H10 at *
              have t10 := (t8.trans s9).trans s10
              have lset : (ns.set en.toNat (xe + 1)).length = ns.length := List.length_set
              refine finS z' _ H10 (e04.trans t10.ext) (b4.same t10) k10 (by rw [List.length_map]; omega) (fun y hy => let ⟨i, _, hi⟩ := List.mem_map.mp hy; ⟨i, hi.symm⟩) (.inr ⟨_, rfl, ⟨by omega, fun n hn => ?_⟩, by omega, fun us hl hd => ?_⟩)
              · rcases List.mem_or_eq_of_mem_set hn with hn | rfl
                · exact hz.2.2 n hn
                · omega
              · have hfl := ft.1
                unfold tsL
                have hu : k.toNat < us.length := by omega
                have ec : cs[k.toNat]? = some (cs[k.toNat]'(by omega)) := List.getElem?_eq_getElem _
                have eu : us[k.toNat]? = some us[k.toNat] := List.getElem?_eq_getElem hu
                obtain ⟨d1, d2⟩ := hd _ _ _ ec eu
                obtain ⟨f1, f2⟩ := ft.2 _ _ _ ec ek
                have sget : (ns.set en.toNat (xe + 1)).getD en.toNat 0 = xe + 1 := by rw [List.getD_eq_getElem?_getD, List.getElem?_set_self hlt]; rfl
                have : ((List.range ps.length).map (shAt p (ns.set en.toNat (xe + 1)) ps H10 us)).all id = false := by
                  refine List.all_eq_false.mpr ⟨_, List.mem_map.mpr ⟨k.toNat, List.mem_range.mpr hk, rfl⟩, ?_⟩
                  show ¬ shT p ((ns.set en.toNat (xe + 1)).getD (ps.getD k.toNat (0, 0)).2.toNat 0) ((ns.set en.toNat (xe + 1)).getD (ps.getD k.toNat (0, 0)).1.toNat 0) H10 (us.getD k.toNat tc0) = true
                  rw [show ps.getD k.toNat (0, 0) = ps[k.toNat] by rw [List.getD_eq_getElem?_getD, ek]; rfl, show us.getD k.toNat tc0 = us[k.toNat] by rw [List.getD_eq_getElem?_getD, eu]; rfl]
                  unfold shT
                  rcases enq with h | h
                  · rw [← h, sget, decide_eq_false (p := us[k.toNat].2.1 = xe + 1) (by rw [d2, f2, ← h, hxe]; omega)]
                    simp
                  · rw [← h, sget, decide_eq_false (p := us[k.toNat].1 = xe + 1) (by rw [d1, f1, ← h, hxe]; omega)]
                    simp
                rw [this, Bool.and_false]
            walk_at "wp"
            exact ⟨_, .inl (SqL.of he2), b2.draw (n := (xs.length : Int)) (by omega) (by omega) fun k H3 k0 k1 e3 b3 => aftA k H3 k0 k1 (e2.trans e3) b3⟩
          walk_at "wp"
          refine ite2 (fun hc => ?_) (fun hc => aftU (by have : ¬ way = 2 := of_decide_eq_false (by simpa using hc); omega))
          refine ⟨_, .inl (SqL.of hz2), b2.draw (n := ((ns.map V.int).length : Int)) (by omega) (by omega) fun k H3 k0 k1 e3 b3 => ?_⟩
          walk_at "wp"
          have e03 := e2.trans e3
          have hz3 := e03 _ _ nzl hz.1
          refine ⟨_, SqL.of hz3, fun p1 hp1 => ⟨by decide, fun p2 hp2 => ?_⟩⟩
          rw [cut_takeI _ k0 (by omega)] at hp2 ⊢
          have s6 := Same.new (o := .lst ((ns.map V.int).take k.toNat)) hp1
          have k6 : (upd H3 p1 (.lst ((ns.map V.int).take k.toNat))) p1 = some (.lst ((ns.map V.int).take k.toNat)) := upd_same
          generalize upd H3 p1 (.lst ((ns.map V.int).take k.toNat)) = H6 at *
          have s7 := Same.new (o := .lst [V.int (-1 - far)]) hp2
          have k7 : (upd H6 p2 (.lst [V.int (-1 - far)])) p2 = some (.lst [V.int (-1 - far)]) := upd_same
          generalize upd H6 p2 (.lst [V.int (-1 - far)]) = H7 at *
          have t7 := s6.trans s7
          have lt : ((ns.map V.int).take k.toNat).length ≤ 8 := by rw [List.length_take]; omega
          have l1 : ([V.int (-1 - far)] : List V).length = 1 := rfl
          refine ⟨_, s7 _ _ k6, _, k7, Nat.le_of_lt (small1000 (by omega)), fun p3 hp3 => ?_⟩
          have s8 := Same.new (o := .lst ((ns.map V.int).take k.toNat ++ [V.int (-1 - far)])) hp3
          have k8 : (upd H7 p3 (.lst ((ns.map V.int).take k.toNat ++ [V.int (-1 - far)]))) p3 = some (.lst ((ns.map V.int).take k.toNat ++ [V.int (-1 - far)])) := upd_same
          generalize upd H7 p3 (.lst ((ns.map V.int).take k.toNat ++ [V.int (-1 - far)])) = H8 at *
          have t8 := t7.trans s8
          refine ⟨_, SqL.of (t8 _ _ hz3), fun p4 hp4 => ?_⟩
          rw [cut_dropI _ (by omega) (by omega)]
          have s9 := Same.new (o := .lst ((ns.map V.int).drop (k + 1).toNat)) hp4
          have k9 : (upd H8 p4 (.lst ((ns.map V.int).drop (k + 1).toNat))) p4 = some (.lst ((ns.map V.int).drop (k + 1).toNat)) := upd_same
          generalize upd H8 p4 (.lst ((ns.map V.int).drop (k + 1).toNat)) = H9 at *
          have ld : ((ns.map V.int).drop (k + 1).toNat).length ≤ 8 := by rw [List.length_drop]; omega
          have l8 : ((ns.map V.int).take k.toNat ++ [V.int (-1 - far)]).length = ((ns.map V.int).take k.toNat).length + 1 := by rw [List.length_append]; rfl
          refine ⟨_, s9 _ _ k8, _, k9, Nat.le_of_lt (small1000 (by omega)), fun z' hz' => ?_⟩
          have s10 := Same.new (o := .lst ((ns.map V.int).take k.toNat ++ [V.int (-1 - far)] ++ (ns.map V.int).drop (k + 1).toNat)) hz'
          have k10 : (upd H9 z' (.lst ((ns.map V.int).take k.toNat ++ [V.int (-1 - far)] ++ (ns.map V.int).drop (k + 1).toNat))) z' = some (.lst ((ns.map V.int).take k.toNat ++ [V.int (-1 - far)] ++ (ns.map V.int).drop (k + 1).toNat)) := upd_same
          generalize upd H9 z' (.lst ((ns.map V.int).take k.toNat ++ [V.int (-1 - far)] ++ (ns.map V.int).drop (k + 1).toNat)) = H10 at *
          have t10 := (t8.trans s9).trans s10
          refine finS z' _ H10 (e03.trans t10.ext) (b3.same t10) k10 (by rw [List.length_append]; omega) (fun y hy => ?_) (.inl ?_)
          · rcases List.mem_append.mp hy with y1 | y1
            · rcases List.mem_append.mp y1 with y1 | y1
              · exact allI y (List.mem_of_mem_take y1)
              · exact ⟨_, List.mem_singleton.mp y1⟩
            · exact allI y (List.mem_of_mem_drop y1)
          · have : ((ns.map V.int).take k.toNat ++ [V.int (-1 - far)] ++ (ns.map V.int).drop (k + 1).toNat).all szV = false := List.all_eq_false.mpr ⟨V.int (-1 - far), by simp, by show ¬ decide (0 ≤ -1 - far) = true; rw [decide_eq_false (by omega)]; decide⟩
            unfold szL
            rw [this, Bool.and_false]
        walk_at "wp"
        refine ite2 (fun hc => ?_) (fun hc => aftZ (of_decide_eq_false (by simpa using hc)))
        refine ⟨_, SqL.of hz2, fun z' hz' => ?_⟩
        rw [cut_init]
        have s3 := Same.new (o := .lst (ns.map V.int).dropLast) hz'
        have k3 : (upd H2 z' (.lst (ns.map V.int).dropLast)) z' = some (.lst (ns.map V.int).dropLast) := upd_same
        generalize upd H2 z' (.lst (ns.map V.int).dropLast) = H3 at *
        refine finS z' _ H3 (e2.trans s3.ext) (b2.same s3) k3 (by rw [List.length_dropLast]; omega) (fun y hy => allI y (List.dropLast_subset _ hy)) (.inl ?_)
        show (decide ((((ns.map V.int).dropLast).length : Int) = m) && _) = false
        rw [decide_eq_false (by rw [List.length_dropLast]; omega), Bool.false_and]
      have retA : 1 ≤ sizeLine ∧ ∀ (p_0 : Addr), H2 p_0 = none → ∃ x, upd H2 p_0 (.lst [V.int far]) z = some (.lst x) ∧ ∃ x_1, upd H2 p_0 (.lst [V.int far]) p_0 = some (.lst x_1) ∧ x.length + x_1.length ≤ sizeLine ∧ ∀ (p_1 : Addr), upd H2 p_0 (.lst [V.int far]) p_1 = none → 2 ≤ sizeLine ∧ ∀ (p_2 : Addr), upd (upd H2 p_0 (.lst [V.int far])) p_1 (.lst (x ++ x_1)) p_2 = none → Q (V.ref p_2) (upd (upd (upd H2 p_0 (.lst [V.int far])) p_1 (.lst (x ++ x_1))) p_2 (.tup [V.ref p_1, V.ref tl])) := by
        refine ⟨by decide, fun p0 hp0 => ?_⟩
        have s3 := Same.new (o := .lst [V.int far]) hp0
        have k3 : (upd H2 p0 (.lst [V.int far])) p0 = some (.lst [V.int far]) := upd_same
        generalize upd H2 p0 (.lst [V.int far]) = H3 at *
        have l1 : ([V.int far] : List V).length = 1 := rfl
        refine ⟨_, s3 _ _ hz2, _, k3, Nat.le_of_lt (small1000 (by omega)), fun z' hz' => ?_⟩
        have s4 := Same.new (o := .lst (ns.map V.int ++ [V.int far])) hz'
        have k4 : (upd H3 z' (.lst (ns.map V.int ++ [V.int far]))) z' = some (.lst (ns.map V.int ++ [V.int far])) := upd_same
        generalize upd H3 z' (.lst (ns.map V.int ++ [V.int far])) = H4 at *
        have t4 := s3.trans s4
        have la : (ns.map V.int ++ [V.int far]).length = ns.length + 1 := by rw [List.length_append, lz]; rfl
        refine finS z' _ H4 (e2.trans t4.ext) (b2.same t4) k4 (by omega) (fun y hy => ?_) (.inl ?_)
        · rcases List.mem_append.mp hy with hy | hy
          · exact allI y hy
          · exact ⟨far, List.mem_singleton.mp hy⟩
        · show (decide (((ns.map V.int ++ [V.int far]).length : Int) = m) && _) = false
          rw [decide_eq_false (by omega), Bool.false_and]
      walk_at "wp"
      refine ite2 (fun _ => retA) (fun h1 => ?_)
      have wn0 : ¬ way = 0 := of_decide_eq_false (by simpa using h1)
      refine ⟨_, .inl (SqL.of he2), ite2 (fun h2 => ite2 (fun _ => retA) (fun h3 => aftY wn0 (fun z => ?_))) (fun h2 => aftY wn0 (fun _ => ?_))⟩
      · have : ¬ 2 < way := of_decide_eq_false (by simpa using h3)
        omega
      · have : ¬ (xs.length : Int) = 0 := of_decide_eq_false (by simpa using h2)
        omega
    walk_at "wp"
    refine hb.draw (n := 10) (by decide) (by decide) fun way H1 w0 w1 e1 b1 => ⟨cpow 29 (by decide) (by decide), by decide, fun p1 hp1 => ?_⟩
    have s2 := Same.new (o := .lst [V.int 3, V.int (10 ^ Int.toNat 29)]) hp1
    have k2 : (upd H1 p1 (.lst [V.int 3, V.int (10 ^ Int.toNat 29)])) p1 = some (.lst [V.int 3, V.int (10 ^ Int.toNat 29)]) := upd_same
    have np1 : p1 ≠ l := b1.ne hp1
    generalize upd H1 p1 (.lst [V.int 3, V.int (10 ^ Int.toNat 29)]) = H2 at *
    refine (b1.same s2).draw (n := 2) (by decide) (by decide) fun g2 H3 g0 g1 e3 b3 => ?_
    obtain ⟨n, hn, n0, n1⟩ : ∃ n : Int, atI [V.int 3, V.int (10 ^ Int.toNat 29)] g2 = some (.int n) ∧ 0 < n ∧ n ≤ 10 ^ 29 := by
      have : g2 = 0 ∨ g2 = 1 := by omega
      rcases this with rfl | rfl
      · exact ⟨3, rfl, by decide, by decide⟩
      · exact ⟨10 ^ Int.toNat 29, rfl, by decide, by decide⟩
    refine ⟨_, g2, rfl, SqL.of (e3 _ _ np1 k2), _, hn, b3.draw (n := n) n0 (by have : (10 : Int) ^ 29 = 100000000000000000000000000000 := rfl; omega) fun far H4 f0 f1 e4 b4 => aft way far H4 w0 w1 f0 (by omega) (((e1.trans s2.ext).trans e3).trans e4) b4⟩
end
end Pf
set_option maxHeartbeats 4000000
namespace Pf
open PySem L2 PyProof.Rows
section
variable {P : Program} {w : World} {K : PySem.W.Frag} {mg : Str → Option Value} {base : Heap} {C G S : Addr} {cc : Cs}
def Odd (H : Hp) (v : V) : Prop := (∃ b, v = .bl b) ∨ v = .non ∨ (∃ s, v = .str s) ∨ (∃ a xs, v = .ref a ∧ H a = some (.tup xs) ∧ (xs = [.int 1] ∨ xs = [])) ∨ ∃ a, v = .ref a ∧ H a = some (.lst [])
theorem Odd.same {H H' : Hp} {v : V} (h : Odd H v) (s : Same H H') : Odd H' v := by
  rcases h with h | h | h | ⟨a, xs, h1, h2, h3⟩ | ⟨a, h1, h2⟩
  · exact .inl h
  · exact .inr (.inl h)
  · exact .inr (.inr (.inl h))
  · exact .inr (.inr (.inr (.inl ⟨a, xs, h1, s _ _ h2, h3⟩)))
  · exact .inr (.inr (.inr (.inr ⟨a, h1, s _ _ h2⟩)))
theorem Odd.kn {H : Hp} {v : V} (h : Odd H v) : Kn H v := by
  rcases h with ⟨b, rfl⟩ | rfl | ⟨s, rfl⟩ | ⟨a, xs, rfl, h2, h3⟩ | ⟨a, rfl, h2⟩
  · exact .bl
  · exact .inl rfl
  · exact .str
  · exact .tup h2 (by rcases h3 with rfl | rfl <;> simp)
  · exact .lst h2 (by simp)
theorem Odd.szV {H : Hp} {v : V} (h : Odd H v) : szV v = false := by
  rcases h with ⟨b, rfl⟩ | rfl | ⟨s, rfl⟩ | ⟨a, xs, rfl, h2, h3⟩ | ⟨a, rfl, h2⟩ <;> rfl
theorem Odd.wft {H : Hp} {v : V} (h : Odd H v) : WfT H v := by
  refine ⟨h.kn, fun a xs e1 e2 y hy => ?_⟩
  rcases h with ⟨b, rfl⟩ | rfl | ⟨s, rfl⟩ | ⟨a', xs', rfl, h2, h3⟩ | ⟨a', rfl, h2⟩
  · cases e1
  · cases e1
  · cases e1
  · cases e1
    rw [h2] at e2
    cases e2
    rcases h3 with rfl | rfl
    · rw [List.mem_singleton.mp hy]
      exact ⟨.int, fun r rows z => by cases z⟩
    · cases hy
  · cases e1
    rw [h2] at e2
    cases e2
theorem Odd.tab {H : Hp} {p : Int} {v : V} (h : Odd H v) : tabB p H v = false := by
  rcases h with ⟨b, rfl⟩ | rfl | ⟨s, rfl⟩ | ⟨a, xs, rfl, h2, h3⟩ | ⟨a, rfl, h2⟩
  · rfl
  · rfl
  · rfl
  · exact tabB_len h2 (by rcases h3 with rfl | rfl <;> simp)
  · exact tabB_noT (by simp only [isTu, h2])
theorem Odd.wfs {H : Hp} {v : V} (h : Odd H v) : WfS H v := by
  refine ⟨h.kn, fun a xs e1 e2 y hy => ?_⟩
  rcases h with ⟨b, rfl⟩ | rfl | ⟨s, rfl⟩ | ⟨a', xs', rfl, h2, h3⟩ | ⟨a', rfl, h2⟩
  · cases e1
  · cases e1
  · cases e1
  · cases e1
    rw [h2] at e2
    cases e2
  · cases e1
    rw [h2] at e2
    cases e2
    cases hy
theorem Odd.sz {H : Hp} {m : Int} {v : V} (h : Odd H v) (m0 : 1 ≤ m) : szB m H v = false := by
  rcases h with ⟨b, rfl⟩ | rfl | ⟨s, rfl⟩ | ⟨a, xs, rfl, h2, h3⟩ | ⟨a, rfl, h2⟩
  · rfl
  · rfl
  · rfl
  · exact szB_noL (by simp only [isLi, h2])
  · rw [szB_li h2, decide_eq_false (by simp; omega), Bool.false_and]
theorem Odd.ext {l : Addr} {H H' : Hp} {v : V} (h : Odd H v) (nth : ∀ a, v = .ref a → a ≠ l) (e : Ext l H H') : Odd H' v := by
  rcases h with h | h | h | ⟨a, xs, h1, h2, h3⟩ | ⟨a, h1, h2⟩
  · exact .inl h
  · exact .inr (.inl h)
  · exact .inr (.inr (.inl h))
  · exact .inr (.inr (.inr (.inl ⟨a, xs, h1, e _ _ (nth a h1) h2, h3⟩)))
  · exact .inr (.inr (.inr (.inr ⟨a, h1, e _ _ (nth a h1) h2⟩)))
theorem Odd.wfr {H : Hp} {v : V} (h : Odd H v) : WfR H v := by
  refine ⟨h.kn, fun a xs e1 e2 y hy => ?_⟩
  rcases h with ⟨b, rfl⟩ | rfl | ⟨s, rfl⟩ | ⟨a', xs', rfl, h2, h3⟩ | ⟨a', rfl, h2⟩
  · cases e1
  · cases e1
  · cases e1
  · cases e1
    rw [h2] at e2
    cases e2
  · cases e1
    rw [h2] at e2
    cases e2
    cases hy
theorem wfts_non {H : Hp} {v : V} (k : Kn H v) (h : isLi H v = false) : WfTs H v := ⟨k, fun a xs e1 e2 y hy => by
  subst e1
  simp only [isLi, e2] at h
  cases h⟩
theorem wfs_non {H : Hp} {v : V} (k : Kn H v) (h : isLi H v = false) : WfS H v := ⟨k, fun a xs e1 e2 y hy => by
  subst e1
  simp only [isLi, e2] at h
  cases h⟩
theorem mid_at {us : List V} {k : Nat} {v : V} (h : k < us.length) : (us.take k ++ [v] ++ us.drop (k + 1)).getD k .non = v := by
  rw [List.getD_eq_getElem?_getD, List.append_assoc, List.getElem?_append_right (by rw [List.length_take]; omega), List.length_take, Nat.min_eq_left (by omega), Nat.sub_self]
  rfl
theorem mid_len {us : List V} {k : Nat} {v : V} (h : k < us.length) : (us.take k ++ [v] ++ us.drop (k + 1)).length = us.length := by
  rw [List.length_append, List.length_append, List.length_take, List.length_drop, List.length_singleton]; omega
def spStr : Sp := fun vs H Q _ => ∃ (l z tl : Addr) (p m : Int) (ps : List (Int × Int)) (ns : List Int) (ts : List Addr) (cs : List Tc), vs = [.ref l, .ref z, .ref tl] ∧ Bag H l ∧ GroundP p ∧ z ≠ l ∧ Sizes H z ns ∧ (ns.length : Int) = m ∧ 1 ≤ m ∧ m ≤ 8 ∧ TbO H p l tl ts cs ∧ Fits ns cs ps ∧
  ∀ (pt : Addr) (vz vl : V) (H' : Hp), Ext l H H' → Bag H' l → H' pt = some (.tup [vz, vl]) → Bad p m ps H' vz vl → Q (.ref pt) H'
theorem ok_str {f : Addr} {fd : FuncData} (F : Fun K "_law_strange" "_law_strange" s_law_strange f fd) (T : Txt K mg C G S) (C_law_draw : Cal P w K mg base "_law_draw" 1 spDraw) : FnOk P w K mg base CX0 2 f fd ["_law_bag_here", "_law_sizes_here", "_law_tables_here"] spStr := by
  have nd := sc_law_strange.nd
  refine F.ok sc_law_strange (fun vs H Q E h => ?_) (fun cdv A outer s H vs Q E hr h => ?_)
  · obtain ⟨l, z, tl, p, m, ps, ns, ts, cs, rfl, _⟩ := h
    rfl
  · obtain ⟨l, z, tl, p, m, ps, ns, ts, cs, rfl, hb, hp, nzl, hz, hm, m0, m8, hT, ft, q⟩ := h
    refine ⟨_, (@pss_cons _ _ _ _ _ (ps_set (i := 3) nd rfl (Or.inl rfl) (@pe_ix _ _ _ _ _ _ _ ix_list (@pe_lst _ _ _ _ (@pa_c _ _ _ _ _ pe_bl (@pa_c _ _ _ _ _ pe_bl (@pa_c _ _ _ _ _ pe_non (@pa_c _ _ _ _ _ pe_str (@pa_c _ _ _ _ _ (@pe_tup _ _ _ _ _ (@pa_c _ _ _ _ _ pe_int pa_nil (by rfl))) (@pa_c _ _ _ _ _ (@pe_lst _ _ _ _ pa_nil) (@pa_c _ _ _ _ _ pe_str (@pa_c _ _ _ _ _ (@pe_tup _ _ _ _ _ pa_nil) pa_nil (by rfl)) (by rfl)) (by rfl)) (by rfl)) (by rfl)) (by rfl)) (by rfl)) (by rfl))) (pe_c C_law_draw (hr.mono (by decide)) rfl (@pa_c _ _ _ _ _ (pv 0) (@pa_c _ _ _ _ _ pe_int pa_nil (by rfl)) (by rfl))) (fun _ _ => rfl))) (@pss_cons _ _ _ _ _ (ps_set (i := 4) nd rfl (Or.inl rfl) (pe_c C_law_draw (hr.mono (by decide)) rfl (@pa_c _ _ _ _ _ (pv 0) (@pa_c _ _ _ _ _ pe_int pa_nil (by rfl)) (by rfl)))) (@pss_cons _ _ _ _ _ (ps_set (i := 5) nd rfl (Or.inl rfl) (pe_c C_law_draw (hr.mono (by decide)) rfl (@pa_c _ _ _ _ _ (pv 0) (@pa_c _ _ _ _ _ (pe_cB call_len_seq rfl T.n_len PySem.boot_len (@pa_c _ _ _ _ _ (pv 1) pa_nil (by rfl))) pa_nil (by rfl)) (by rfl)))) (@pss_cons _ _ _ _ _ (@ps_if _ _ _ _ _ _ _ _ (PW.pt (pw_or (pt_cmpR op_eq (pv 4) pe_int (nomark _)) (pw_or1 (PW.pt (pw_and (pt_cmpR op_eq (pe_cB call_len_seq rfl T.n_len PySem.boot_len (@pa_c _ _ _ _ _ (pv 2) pa_nil (by rfl))) pe_int (nomark _)) (pw_and1 (pt_cmpR op_gt (pv 4) pe_int (nomark _)))))))) (@pss_one _ _ _ (@ps_ret _ _ _ _ (@pe_tup _ _ _ _ _ (@pa_c _ _ _ _ _ (@pe_op _ _ _ _ _ _ _ _ op_cat (@pe_op _ _ _ _ _ _ _ _ op_cat (@pe_slice _ _ _ _ _ _ _ _ _ _ sl_list (pv 1) po_none (@po_some _ _ _ (pv 5))) (@pe_lst _ _ _ _ (@pa_c _ _ _ _ _ (pv 3) pa_nil (by rfl)))) (@pe_slice _ _ _ _ _ _ _ _ _ _ sl_list (pv 1) (@po_some _ _ _ (@pe_op _ _ _ _ _ _ _ _ op_add (pv 5) pe_int)) po_none)) (@pa_c _ _ _ _ _ (pv 2) pa_nil (by rfl)) (by rfl))))) pss_nil) (@pss_cons _ _ _ _ _ (@ps_if _ _ _ _ _ _ _ _ (pt_cmpR op_eq (pv 4) pe_int (nomark _)) (@pss_one _ _ _ (@ps_ret _ _ _ _ (@pe_tup _ _ _ _ _ (@pa_c _ _ _ _ _ (@pe_ix _ _ _ _ _ _ _ ix_list (@pe_lst _ _ _ _ (@pa_c _ _ _ _ _ (pe_cT call_tuple_of rfl T.n_tuple boot_tuple (@pa_c _ _ _ _ _ (pv 1) pa_nil (by rfl))) (@pa_c _ _ _ _ _ (pv 3) pa_nil (by rfl)) (by rfl))) (pe_c C_law_draw (hr.mono (by decide)) rfl (@pa_c _ _ _ _ _ (pv 0) (@pa_c _ _ _ _ _ pe_int pa_nil (by rfl)) (by rfl))) (fun _ _ => rfl)) (@pa_c _ _ _ _ _ (pv 2) pa_nil (by rfl)) (by rfl))))) pss_nil) (@pss_cons _ _ _ _ _ (@ps_if _ _ _ _ _ _ _ _ (pt_cmpR op_eq (pv 4) pe_int (nomark _)) (@pss_one _ _ _ (@ps_ret _ _ _ _ (@pe_tup _ _ _ _ _ (@pa_c _ _ _ _ _ (pv 1) (@pa_c _ _ _ _ _ (@pe_ix _ _ _ _ _ _ _ ix_list (@pe_lst _ _ _ _ (@pa_c _ _ _ _ _ pe_non (@pa_c _ _ _ _ _ pe_bl (@pa_c _ _ _ _ _ pe_str (@pa_c _ _ _ _ _ (@pe_tup _ _ _ _ _ (@pa_c _ _ _ _ _ (@pe_lst _ _ _ _ pa_nil) pa_nil (by rfl))) pa_nil (by rfl)) (by rfl)) (by rfl)) (by rfl))) (pe_c C_law_draw (hr.mono (by decide)) rfl (@pa_c _ _ _ _ _ (pv 0) (@pa_c _ _ _ _ _ pe_int pa_nil (by rfl)) (by rfl))) (fun _ _ => rfl)) pa_nil (by rfl)) (by rfl))))) pss_nil) (@pss_cons _ _ _ _ _ (ps_set (i := 5) nd rfl (Or.inl rfl) (pe_c C_law_draw (hr.mono (by decide)) rfl (@pa_c _ _ _ _ _ (pv 0) (@pa_c _ _ _ _ _ (pe_cB call_len_seq rfl T.n_len PySem.boot_len (@pa_c _ _ _ _ _ (pv 2) pa_nil (by rfl))) pa_nil (by rfl)) (by rfl)))) (@pss_cons _ _ _ _ _ (ps_asg (@pe_ix _ _ _ _ _ _ _ ix_list (pv 2) (pv 5) (fun _ _ => rfl)) (@pg_tup _ _ _ _ _ 3 rfl (@pgs_cons _ _ _ _ _ (@pg_name _ _ 6 _ nd rfl (Or.inl rfl) (Or.inl rfl)) (@pgs_cons _ _ _ _ _ (@pg_name _ _ 7 _ nd rfl (Or.inl rfl) (Or.inl rfl)) (@pgs_cons _ _ _ _ _ (@pg_name _ _ 8 _ nd rfl (Or.inl rfl) (Or.inl rfl)) (@pgs_nil _) (by rfl)) (by rfl)) (by rfl)) (by rfl) (by rfl))) (@pss_cons _ _ _ _ _ (ps_set (i := 9) nd rfl (Or.inl rfl) (@pe_ix _ _ _ _ _ _ _ ix_list (@pe_lst _ _ _ _ (@pa_c _ _ _ _ _ (pv 3) (@pa_c _ _ _ _ _ (@pe_lst _ _ _ _ (@pa_c _ _ _ _ _ (pv 6) (@pa_c _ _ _ _ _ (pv 7) (@pa_c _ _ _ _ _ (pv 8) pa_nil (by rfl)) (by rfl)) (by rfl))) (@pa_c _ _ _ _ _ (@pe_tup _ _ _ _ _ (@pa_c _ _ _ _ _ (pv 6) (@pa_c _ _ _ _ _ (pv 7) (@pa_c _ _ _ _ _ (pe_cT call_tuple_of rfl T.n_tuple boot_tuple (@pa_c _ _ _ _ _ (pv 8) pa_nil (by rfl))) pa_nil (by rfl)) (by rfl)) (by rfl))) (@pa_c _ _ _ _ _ (@pe_tup _ _ _ _ _ (@pa_c _ _ _ _ _ (pv 6) (@pa_c _ _ _ _ _ (pv 7) (@pa_c _ _ _ _ _ (@pe_op _ _ _ _ _ _ _ _ op_cat (pv 8) (@pe_lst _ _ _ _ (@pa_c _ _ _ _ _ (pv 3) pa_nil (by rfl)))) pa_nil (by rfl)) (by rfl)) (by rfl))) pa_nil (by rfl)) (by rfl)) (by rfl)) (by rfl))) (@pe_op _ _ _ _ _ _ _ _ op_sub (pv 4) pe_int) (fun _ _ => rfl))) (@pss_one _ _ _ (@ps_ret _ _ _ _ (@pe_tup _ _ _ _ _ (@pa_c _ _ _ _ _ (pv 1) (@pa_c _ _ _ _ _ (@pe_op _ _ _ _ _ _ _ _ op_cat (@pe_op _ _ _ _ _ _ _ _ op_cat (@pe_slice _ _ _ _ _ _ _ _ _ _ sl_list (pv 2) po_none (@po_some _ _ _ (pv 5))) (@pe_lst _ _ _ _ (@pa_c _ _ _ _ _ (pv 9) pa_nil (by rfl)))) (@pe_slice _ _ _ _ _ _ _ _ _ _ sl_list (pv 2) (@po_some _ _ _ (@pe_op _ _ _ _ _ _ _ _ op_add (pv 5) pe_int)) po_none)) pa_nil (by rfl)) (by rfl)))))))))))))), ?_⟩
    refine cut3 fun X hX => ?_
    have aft : ∀ (th : V) (way k : Int) (H2 : Hp), Odd H2 th → (∀ a, th = .ref a → a ≠ l) → 0 ≤ way → way < 7 → 0 ≤ k → k < m → Ext l H H2 → Bag H2 l → X { nx := fun x H' => Q V.non H', rt := Q } [some (.ref l), some (.ref z), some (.ref tl), some th, some (.int way), some (.int k), none, none, none, none] H2 := by
      intro th way k H2 od nth w0 w1 k0 k1 e2 b2
      subst hX
      have hz2 := e2 _ _ nzl hz.1
      have hT2 := hT.ext hb e2
      have lz : (ns.map V.int).length = ns.length := List.length_map _
      have h8 := hz.2.1
      have retA : ∃ x_1, SqL K H2 z x_1 ∧ ∀ (p_0 : Addr), H2 p_0 = none → 1 ≤ sizeLine ∧ ∀ (p_1 : Addr), (upd H2 p_0 (.lst (cutV x_1 none (some k)))) p_1 = none → ∃ x_2, (upd (upd H2 p_0 (.lst (cutV x_1 none (some k)))) p_1 (.lst [th])) p_0 = some (.lst x_2) ∧ ∃ x_3, (upd (upd H2 p_0 (.lst (cutV x_1 none (some k)))) p_1 (.lst [th])) p_1 = some (.lst x_3) ∧ x_2.length + x_3.length ≤ sizeLine ∧ ∀ (p_2 : Addr), (upd (upd H2 p_0 (.lst (cutV x_1 none (some k)))) p_1 (.lst [th])) p_2 = none → ∃ x_4, SqL K (upd (upd (upd H2 p_0 (.lst (cutV x_1 none (some k)))) p_1 (.lst [th])) p_2 (.lst (x_2 ++ x_3))) z x_4 ∧ ∀ (p_3 : Addr), (upd (upd (upd H2 p_0 (.lst (cutV x_1 none (some k)))) p_1 (.lst [th])) p_2 (.lst (x_2 ++ x_3))) p_3 = none → ∃ x_5, (upd (upd (upd (upd H2 p_0 (.lst (cutV x_1 none (some k)))) p_1 (.lst [th])) p_2 (.lst (x_2 ++ x_3))) p_3 (.lst (cutV x_4 (some (k + 1)) none))) p_2 = some (.lst x_5) ∧ ∃ x_6, (upd (upd (upd (upd H2 p_0 (.lst (cutV x_1 none (some k)))) p_1 (.lst [th])) p_2 (.lst (x_2 ++ x_3))) p_3 (.lst (cutV x_4 (some (k + 1)) none))) p_3 = some (.lst x_6) ∧ x_5.length + x_6.length ≤ sizeLine ∧ ∀ (p_4 : Addr), (upd (upd (upd (upd H2 p_0 (.lst (cutV x_1 none (some k)))) p_1 (.lst [th])) p_2 (.lst (x_2 ++ x_3))) p_3 (.lst (cutV x_4 (some (k + 1)) none))) p_4 = none → 2 ≤ sizeLine ∧ ∀ (p_5 : Addr), (upd (upd (upd (upd (upd H2 p_0 (.lst (cutV x_1 none (some k)))) p_1 (.lst [th])) p_2 (.lst (x_2 ++ x_3))) p_3 (.lst (cutV x_4 (some (k + 1)) none))) p_4 (.lst (x_5 ++ x_6))) p_5 = none → Q (V.ref p_5) (upd (upd (upd (upd (upd (upd H2 p_0 (.lst (cutV x_1 none (some k)))) p_1 (.lst [th])) p_2 (.lst (x_2 ++ x_3))) p_3 (.lst (cutV x_4 (some (k + 1)) none))) p_4 (.lst (x_5 ++ x_6))) p_5 (.tup [V.ref p_4, V.ref tl])) := by
        refine ⟨_, SqL.of hz2, fun p1 hp1 => ⟨by decide, fun p2 hp2 => ?_⟩⟩
        rw [cut_takeI _ k0 (by omega)] at hp2 ⊢
        have s6 := Same.new (o := .lst ((ns.map V.int).take k.toNat)) hp1
        have k6 : (upd H2 p1 (.lst ((ns.map V.int).take k.toNat))) p1 = some (.lst ((ns.map V.int).take k.toNat)) := upd_same
        generalize upd H2 p1 (.lst ((ns.map V.int).take k.toNat)) = H6 at *
        have s7 := Same.new (o := .lst [th]) hp2
        have k7 : (upd H6 p2 (.lst [th])) p2 = some (.lst [th]) := upd_same
        generalize upd H6 p2 (.lst [th]) = H7 at *
        have t7 := s6.trans s7
        have lt : ((ns.map V.int).take k.toNat).length ≤ 8 := by rw [List.length_take]; omega
        have l1 : ([th] : List V).length = 1 := rfl
        refine ⟨_, s7 _ _ k6, _, k7, Nat.le_of_lt (small1000 (by omega)), fun p3 hp3 => ?_⟩
        have s8 := Same.new (o := .lst ((ns.map V.int).take k.toNat ++ [th])) hp3
        have k8 : (upd H7 p3 (.lst ((ns.map V.int).take k.toNat ++ [th]))) p3 = some (.lst ((ns.map V.int).take k.toNat ++ [th])) := upd_same
        generalize upd H7 p3 (.lst ((ns.map V.int).take k.toNat ++ [th])) = H8 at *
        have t8 := t7.trans s8
        refine ⟨_, SqL.of (t8 _ _ hz2), fun p4 hp4 => ?_⟩
        rw [cut_dropI _ (by omega) (by omega)]
        have s9 := Same.new (o := .lst ((ns.map V.int).drop (k + 1).toNat)) hp4
        have k9 : (upd H8 p4 (.lst ((ns.map V.int).drop (k + 1).toNat))) p4 = some (.lst ((ns.map V.int).drop (k + 1).toNat)) := upd_same
        generalize upd H8 p4 (.lst ((ns.map V.int).drop (k + 1).toNat)) = H9 at *
        have ld : ((ns.map V.int).drop (k + 1).toNat).length ≤ 8 := by rw [List.length_drop]; omega
        have l8 : ((ns.map V.int).take k.toNat ++ [th]).length = ((ns.map V.int).take k.toNat).length + 1 := by rw [List.length_append]; rfl
        refine ⟨_, s9 _ _ k8, _, k9, Nat.le_of_lt (small1000 (by omega)), fun z' hz' => ⟨by decide, fun pt hpt => ?_⟩⟩
        have s10 := Same.new (o := .lst ((ns.map V.int).take k.toNat ++ [th] ++ (ns.map V.int).drop (k + 1).toNat)) hz'
        have k10 : (upd H9 z' (.lst ((ns.map V.int).take k.toNat ++ [th] ++ (ns.map V.int).drop (k + 1).toNat))) z' = some (.lst ((ns.map V.int).take k.toNat ++ [th] ++ (ns.map V.int).drop (k + 1).toNat)) := upd_same
        generalize upd H9 z' (.lst ((ns.map V.int).take k.toNat ++ [th] ++ (ns.map V.int).drop (k + 1).toNat)) = H10 at *
        have s11 := Same.new (o := .tup [V.ref z', V.ref tl]) hpt
        have t11 := ((t8.trans s9).trans s10).trans s11
        have z11 := s11 _ _ k10
        refine q pt (.ref z') (.ref tl) _ (e2.trans t11.ext) (b2.same t11) upd_same (.inl ⟨⟨.lst z11 (by rw [List.length_append]; omega), fun a xs e1 e2' y hy => ?_⟩, ?_⟩)
        · cases e1
          rw [z11] at e2'
          cases e2'
          rcases List.mem_append.mp hy with y1 | y1
          · rcases List.mem_append.mp y1 with y1 | y1
            · obtain ⟨i, _, rfl⟩ := List.mem_map.mp (List.mem_of_mem_take y1)
              exact .int
            · rw [List.mem_singleton.mp y1]
              exact (od.same t11).kn
          · obtain ⟨i, _, rfl⟩ := List.mem_map.mp (List.mem_of_mem_drop y1)
            exact .int
        · have : ((ns.map V.int).take k.toNat ++ [th] ++ (ns.map V.int).drop (k + 1).toNat).all szV = false := List.all_eq_false.mpr ⟨th, by simp, by rw [od.szV]; decide⟩
          rw [szB_li z11, this, Bool.and_false]
      refine cut1 fun Y hY => ?_
      have aftY : ¬ way = 0 → (2 < way → 0 < ts.length) → Y { nx := fun x H' => Q V.non H', rt := Q } [some (.ref l), some (.ref z), some (.ref tl), some th, some (.int way), some (.int k), none, none, none, none] H2 := by
        intro wn0 wn2
        subst hY
        refine cut1 fun Z hZ => ?_
        have aftZ : ¬ way = 1 → Z { nx := fun x H' => Q V.non H', rt := Q } [some (.ref l), some (.ref z), some (.ref tl), some th, some (.int way), some (.int k), none, none, none, none] H2 := by
          intro wn1
          subst hZ
          refine cut1 fun U hU => ?_
          have aftU : 2 < way → U { nx := fun x H' => Q V.non H', rt := Q } [some (.ref l), some (.ref z), some (.ref tl), some th, some (.int way), some (.int k), none, none, none, none] H2 := by
            intro w2
            subst hU
            have ntl := wn2 w2
            refine cut2 fun A1 hA1 => ?_
            have aftA : ∀ (k : Int) (H3 : Hp) (t r : Addr) (rs : List Addr) (c : Tc), 0 ≤ k → k < ts.length → Ext l H H3 → Ext l H2 H3 → Bag H3 l → ts[k.toNat]? = some t → cs[k.toNat]? = some c → TabC H3 p c.1 c.2.1 t r rs c.2.2 → A1 { nx := fun x H' => Q V.non H', rt := Q } [some (.ref l), some (.ref z), some (.ref tl), some th, some (.int way), some (.int k), some (.int c.1), some (.int c.2.1), some (.ref r), none] H3 := by
              intro k H3 t r rs c k0 k1 e3 e23 b3 et ec tc
              subst hA1
              refine cut1 fun A2 hA2 => ?_
              have aftB : ∀ (bd : V) (H4 : Hp), Ext l H H4 → Bag H4 l → WfT H4 bd → tabB p H4 bd = false → A2 { nx := fun x H' => Q V.non H', rt := Q } [some (.ref l), some (.ref z), some (.ref tl), some th, some (.int way), some (.int k), some (.int c.1), some (.int c.2.1), some (.ref r), some bd] H4 := by
                intro bd H4 e4 b4 wb tb
                subst hA2
                walk_at "wp"
                have hT4 := hT.ext hb e4
                have tl4 := hT4.1.1
                have lts : (ts.map V.ref).length = ts.length := List.length_map _
                have l2 := hT4.1.2.1
                have l9 := hT4.1.2.2.1
                have hfl := ft.1
                refine ⟨_, SqL.of tl4, fun p1 hp1 => ⟨by decide, fun p2 hp2 => ?_⟩⟩
                rw [cut_takeI _ k0 (by omega)] at hp2 ⊢
                have s6 := Same.new (o := .lst ((ts.map V.ref).take k.toNat)) hp1
                have k6 : (upd H4 p1 (.lst ((ts.map V.ref).take k.toNat))) p1 = some (.lst ((ts.map V.ref).take k.toNat)) := upd_same
                generalize upd H4 p1 (.lst ((ts.map V.ref).take k.toNat)) = H6 at *
                have s7 := Same.new (o := .lst [bd]) hp2
                have k7 : (upd H6 p2 (.lst [bd])) p2 = some (.lst [bd]) := upd_same
                generalize upd H6 p2 (.lst [bd]) = H7 at *
                have t7 := s6.trans s7
                have lt : ((ts.map V.ref).take k.toNat).length ≤ 9 := by rw [List.length_take]; omega
                have l1 : ([bd] : List V).length = 1 := rfl
                refine ⟨_, s7 _ _ k6, _, k7, Nat.le_of_lt (small1000 (by omega)), fun p3 hp3 => ?_⟩
                have s8 := Same.new (o := .lst ((ts.map V.ref).take k.toNat ++ [bd])) hp3
                have k8 : (upd H7 p3 (.lst ((ts.map V.ref).take k.toNat ++ [bd]))) p3 = some (.lst ((ts.map V.ref).take k.toNat ++ [bd])) := upd_same
                generalize upd H7 p3 (.lst ((ts.map V.ref).take k.toNat ++ [bd])) = H8 at *
                have t8 := t7.trans s8
                refine ⟨_, SqL.of (t8 _ _ tl4), fun p4 hp4 => ?_⟩
                rw [cut_dropI _ (by omega) (by omega)]
                rw [show (k + 1).toNat = k.toNat + 1 by omega]
                have s9 := Same.new (o := .lst ((ts.map V.ref).drop (k.toNat + 1))) hp4
                have k9 : (upd H8 p4 (.lst ((ts.map V.ref).drop (k.toNat + 1)))) p4 = some (.lst ((ts.map V.ref).drop (k.toNat + 1))) := upd_same
                generalize upd H8 p4 (.lst ((ts.map V.ref).drop (k.toNat + 1))) = H9 at *
                have ld : ((ts.map V.ref).drop (k.toNat + 1)).length ≤ 9 := by rw [List.length_drop]; omega
                have l8 : ((ts.map V.ref).take k.toNat ++ [bd]).length = ((ts.map V.ref).take k.toNat).length + 1 := by rw [List.length_append]; rfl
                refine ⟨_, s9 _ _ k8, _, k9, Nat.le_of_lt (small1000 (by omega)), fun z' hz' => ⟨by decide, fun pt hpt => ?_⟩⟩
                have ml := mid_len (us := ts.map V.ref) (k := k.toNat) (v := bd) (by omega)
                have ma := mid_at (us := ts.map V.ref) (k := k.toNat) (v := bd) (by omega)
                have mm : ∀ y ∈ (ts.map V.ref).take k.toNat ++ [bd] ++ (ts.map V.ref).drop (k.toNat + 1), y = bd ∨ y ∈ ts.map V.ref := fun y hy => by
                  rcases List.mem_append.mp hy with y1 | y1
                  · rcases List.mem_append.mp y1 with y1 | y1
                    · exact .inr (List.mem_of_mem_take y1)
                    · exact .inl (List.mem_singleton.mp y1)
                  · exact .inr (List.mem_of_mem_drop y1)
                generalize (ts.map V.ref).take k.toNat ++ [bd] ++ (ts.map V.ref).drop (k.toNat + 1) = ys at *
                have s10 := Same.new (o := .lst ys) hz'
                have k10 : (upd H9 z' (.lst ys)) z' = some (.lst ys) := upd_same
                generalize upd H9 z' (.lst ys) = H10 at *
                have s11 := Same.new (o := .tup [V.ref z, V.ref z']) hpt
                have t11 := ((t8.trans s9).trans s10).trans s11
                have z11 := s11 _ _ k10
                have hz4 : Sizes H4 z ns := ⟨e4 _ _ nzl hz.1, hz.2⟩
                refine q pt (.ref z) (.ref z') _ (e4.trans t11.ext) (b4.same t11) upd_same (.inr ⟨z, ns, rfl, hz4.same t11, hm, ⟨.lst z11 (by omega), fun a xs e1 e2' y hy => ?_⟩, ?_⟩)
                · cases e1
                  rw [z11] at e2'
                  cases e2'
                  rcases mm y hy with rfl | hy
                  · exact wb.same t11
                  · exact (hT4.1.wfs.2 tl _ rfl tl4 y hy).same t11
                · rw [tsB_li z11]
                  have : ((List.range ps.length).map (toAt p ns ps (upd H10 pt (.tup [V.ref z, V.ref z'])) ys)).all id = false := by
                    refine List.all_eq_false.mpr ⟨_, List.mem_map.mpr ⟨k.toNat, List.mem_range.mpr (by omega), rfl⟩, ?_⟩
                    show ¬ toB p _ _ (upd H10 pt (.tup [V.ref z, V.ref z'])) (ys.getD k.toNat .non) = true
                    rw [ma, toB_same wb t11]
                    unfold toB
                    rw [tb]
                    simp
                  rw [this, Bool.and_false]
              walk_at "wp"
              have od3 := od.ext nth e23
              obtain ⟨_, c0, c24, d0, d24⟩ := (hT.ext hb e3).1.2.2.2 k.toNat t c et ec
              have rl := tc.tab.len
              have wt := tc.tab.wft (by omega) (by omega)
              refine ⟨by decide, fun pA hA => ⟨_, .inl ⟨SqL.of ((Same.new hA) _ _ tc.tab.lst), fun pB hB => ⟨by decide, fun pC hC => ⟨by decide, fun pD hD => ?_⟩⟩⟩⟩⟩
              have s1 := Same.new (o := .lst [V.int c.fst, V.int c.snd.fst, V.ref r]) hA
              have q1 : (upd H3 pA (.lst [V.int c.fst, V.int c.snd.fst, V.ref r])) pA = some (.lst [V.int c.fst, V.int c.snd.fst, V.ref r]) := upd_same
              generalize upd H3 pA (.lst [V.int c.fst, V.int c.snd.fst, V.ref r]) = J1 at *
              have s2 := Same.new (o := .tup (rs.map V.ref)) hB
              have q2 : (upd J1 pB (.tup (rs.map V.ref))) pB = some (.tup (rs.map V.ref)) := upd_same
              generalize upd J1 pB (.tup (rs.map V.ref)) = J2 at *
              have s3 := Same.new (o := .tup [V.int c.fst, V.int c.snd.fst, V.ref pB]) hC
              have q3 : (upd J2 pC (.tup [V.int c.fst, V.int c.snd.fst, V.ref pB])) pC = some (.tup [V.int c.fst, V.int c.snd.fst, V.ref pB]) := upd_same
              generalize upd J2 pC (.tup [V.int c.fst, V.int c.snd.fst, V.ref pB]) = J3 at *
              have s4 := Same.new (o := .lst [th]) hD
              have q4 : (upd J3 pD (.lst [th])) pD = some (.lst [th]) := upd_same
              generalize upd J3 pD (.lst [th]) = J4 at *
              have u4 := ((s1.trans s2).trans s3).trans s4
              have lr : (rs.map V.ref).length = rs.length := List.length_map _
              have l1 : ([th] : List V).length = 1 := rfl
              refine ⟨_, u4 _ _ tc.tab.lst, _, q4, Nat.le_of_lt (small1000 (by omega)), fun pE hE => ⟨by decide, fun pF hF => ⟨by decide, fun pG hG => ?_⟩⟩⟩
              have s5 := Same.new (o := .lst (rs.map V.ref ++ [th])) hE
              have q5 : (upd J4 pE (.lst (rs.map V.ref ++ [th]))) pE = some (.lst (rs.map V.ref ++ [th])) := upd_same
              generalize upd J4 pE (.lst (rs.map V.ref ++ [th])) = J5 at *
              have s6 := Same.new (o := .tup [V.int c.fst, V.int c.snd.fst, V.ref pE]) hF
              have q6 : (upd J5 pF (.tup [V.int c.fst, V.int c.snd.fst, V.ref pE])) pF = some (.tup [V.int c.fst, V.int c.snd.fst, V.ref pE]) := upd_same
              generalize upd J5 pF (.tup [V.int c.fst, V.int c.snd.fst, V.ref pE]) = J6 at *
              have s7 := Same.new (o := .lst [th, V.ref pA, V.ref pC, V.ref pF]) hG
              have q7 : (upd J6 pG (.lst [th, V.ref pA, V.ref pC, V.ref pF])) pG = some (.lst [th, V.ref pA, V.ref pC, V.ref pF]) := upd_same
              generalize upd J6 pG (.lst [th, V.ref pA, V.ref pC, V.ref pF]) = J7 at *
              have u7 := ((u4.trans s5).trans s6).trans s7
              have v1 := ((((((s2.trans s3).trans s4).trans s5).trans s6).trans s7)) _ _ q1
              have v2 := (((((s3.trans s4).trans s5).trans s6).trans s7)) _ _ q2
              have v3 := ((((s4.trans s5).trans s6).trans s7)) _ _ q3
              have v5 := (s6.trans s7) _ _ q5
              have v6 := s7 _ _ q6
              have e7 := e3.trans u7.ext
              have b7 := b3.same u7
              have od7 := od3.same u7
              have tc7 := tc.same u7
              have wt7 := wt.same u7
              have : way = 3 ∨ way = 4 ∨ way = 5 ∨ way = 6 := by omega
              rcases this with rfl | rfl | rfl | rfl
              · exact ⟨_, SqL.of q7, th, rfl, aftB th J7 e7 b7 od7.wft od7.tab⟩
              · refine ⟨_, SqL.of q7, _, rfl, aftB (.ref pA) J7 e7 b7 ⟨.lst v1 (by simp), fun a xs z1 z2 => ?_⟩ (tabB_noT (by simp only [isTu, v1]))⟩
                cases z1
                rw [v1] at z2
                cases z2
              · refine ⟨_, SqL.of q7, _, rfl, aftB (.ref pC) J7 e7 b7 ⟨.tup v3 (by simp), fun a xs z1 z2 y hy => ?_⟩ (tabB_ints v3 (.inr (by simp only [isLi, v2])))⟩
                cases z1
                rw [v3] at z2
                cases z2
                simp only [List.mem_cons, List.not_mem_nil, or_false] at hy
                rcases hy with rfl | rfl | rfl
                · exact ⟨.int, fun r rows z => by cases z⟩
                · exact ⟨.int, fun r rows z => by cases z⟩
                · refine ⟨.tup v2 (by omega), fun r rows z1 z2 => ?_⟩
                  cases z1
                  rw [v2] at z2
                  cases z2
              · refine ⟨_, SqL.of q7, _, rfl, aftB (.ref pF) J7 e7 b7 ⟨.tup v6 (by simp), fun a xs z1 z2 y hy => ?_⟩ ?_⟩
                · cases z1
                  rw [v6] at z2
                  cases z2
                  simp only [List.mem_cons, List.not_mem_nil, or_false] at hy
                  rcases hy with rfl | rfl | rfl
                  · exact ⟨.int, fun r rows z => by cases z⟩
                  · exact ⟨.int, fun r rows z => by cases z⟩
                  · refine ⟨.lst v5 (by rw [List.length_append]; omega), fun r' rows z1 z2 y hy => ?_⟩
                    cases z1
                    rw [v5] at z2
                    cases z2
                    rcases List.mem_append.mp hy with hy | hy
                    · exact (wt7.2 t _ rfl tc7.tab.tup (.ref r) (by simp)).2 r _ rfl tc7.tab.lst y hy
                    · rw [List.mem_singleton.mp hy]
                      exact od7.wfr
                · rw [tabB_rows v6 v5 (by omega) (by omega), decide_eq_false (by rw [List.length_append]; omega), Bool.false_and]
            walk_at "wp"
            have lts : (ts.map V.ref).length = ts.length := List.length_map _
            have l9 := hT2.1.2.2.1
            have l2 := hT2.1.2.1
            refine ⟨_, .inl (SqL.of hT2.1.1), b2.draw (n := ((ts.map V.ref).length : Int)) (by omega) (by omega) fun k H3 k0 k1 e3 b3 => ?_⟩
            have e03 := e2.trans e3
            have hT3 := hT.ext hb e03
            have kt : k.toNat < ts.length := by omega
            have et : ts[k.toNat]? = some ts[k.toNat] := List.getElem?_eq_getElem kt
            have ec : cs[k.toNat]? = some (cs[k.toNat]'(by omega)) := List.getElem?_eq_getElem _
            obtain ⟨r, rs, tc, _⟩ := hT3.2.2 _ _ _ et ec
            exact ⟨_, k, rfl, SqL.of hT3.1.1, _, atI_at k0 (by rw [List.getElem?_map, et]; rfl), _, rfl, _, SqT.of tc.tab.tup, rfl, _, _, rfl, _, _, rfl, _, _, rfl, rfl, aftA k H3 _ r rs _ k0 (by omega) e03 e3 b3 et ec tc⟩
          walk_at "wp"
          refine ite2 (fun hc => ?_) (fun hc => aftU (by have : ¬ way = 2 := of_decide_eq_false (by simpa using hc); omega))
          refine ⟨by decide, fun p1 hp1 => ⟨by decide, fun p2 hp2 => ⟨by decide, fun p3 hp3 => ?_⟩⟩⟩
          have s1 := Same.new (o := .lst []) hp1
          generalize upd H2 p1 (.lst []) = J1 at *
          have np2 : p2 ≠ l := (b2.same s1).ne hp2
          have s2 := Same.new (o := .tup [V.ref p1]) hp2
          have q2 : (upd J1 p2 (.tup [V.ref p1])) p2 = some (.tup [V.ref p1]) := upd_same
          generalize upd J1 p2 (.tup [V.ref p1]) = J2 at *
          have np3 : p3 ≠ l := (b2.same (s1.trans s2)).ne hp3
          have s3 := Same.new (o := .lst [V.non, V.bl true, V.str "", V.ref p2]) hp3
          have q3 : (upd J2 p3 (.lst [V.non, V.bl true, V.str "", V.ref p2])) p3 = some (.lst [V.non, V.bl true, V.str "", V.ref p2]) := upd_same
          generalize upd J2 p3 (.lst [V.non, V.bl true, V.str "", V.ref p2]) = J3 at *
          have u3 := (s1.trans s2).trans s3
          refine (b2.same u3).draw (n := 4) (by decide) (by decide) fun g4 J4 g0 g1 e4 b4 => ?_
          have v2 := e4 _ _ np2 (s3 _ _ q2)
          obtain ⟨vl, hvl, kvl, nvl⟩ : ∃ vl : V, atI [V.non, V.bl true, V.str "", V.ref p2] g4 = some vl ∧ Kn J4 vl ∧ isLi J4 vl = false := by
            have : g4 = 0 ∨ g4 = 1 ∨ g4 = 2 ∨ g4 = 3 := by omega
            rcases this with rfl | rfl | rfl | rfl
            · exact ⟨_, rfl, .inl rfl, rfl⟩
            · exact ⟨_, rfl, .bl, rfl⟩
            · exact ⟨_, rfl, .str, rfl⟩
            · exact ⟨_, rfl, .tup v2 (by simp), by simp only [isLi, v2]⟩
          refine ⟨_, g4, rfl, SqL.of (e4 _ _ np3 q3), vl, hvl, by decide, fun pt hpt => ?_⟩
          have s5 := Same.new (o := .tup [V.ref z, vl]) hpt
          have e5 := (e2.trans u3.ext).trans e4
          have hz5 : Sizes J4 z ns := ⟨e5 _ _ nzl hz.1, hz.2⟩
          have wv := wfts_non kvl nvl
          refine q pt (.ref z) vl _ (e5.trans s5.ext) (b4.same s5) upd_same (.inr ⟨z, ns, rfl, hz5.same s5, hm, wv.same s5, ?_⟩)
          rw [tsB_same wv s5]
          exact tsB_noL nvl
        walk_at "wp"
        refine ite2 (fun hc => ?_) (fun hc => aftZ (of_decide_eq_false (by simpa using hc)))
        refine ⟨_, .inl ⟨SqL.of hz2, fun p1 hp1 => ⟨by decide, fun p2 hp2 => ?_⟩⟩⟩
        have np1 : p1 ≠ l := b2.ne hp1
        have s1 := Same.new (o := .tup (ns.map V.int)) hp1
        have q1 : (upd H2 p1 (.tup (ns.map V.int))) p1 = some (.tup (ns.map V.int)) := upd_same
        generalize upd H2 p1 (.tup (ns.map V.int)) = J1 at *
        have np2 : p2 ≠ l := (b2.same s1).ne hp2
        have s2 := Same.new (o := .lst [V.ref p1, th]) hp2
        have q2 : (upd J1 p2 (.lst [V.ref p1, th])) p2 = some (.lst [V.ref p1, th]) := upd_same
        generalize upd J1 p2 (.lst [V.ref p1, th]) = J2 at *
        have u2 := s1.trans s2
        refine (b2.same u2).draw (n := 2) (by decide) (by decide) fun g2 J3 g0 g1 e3 b3 => ?_
        have v1 := e3 _ _ np1 (s2 _ _ q1)
        have od3 := (od.same u2).ext nth e3
        obtain ⟨vz, hvz, wz, nz⟩ : ∃ vz : V, atI [V.ref p1, th] g2 = some vz ∧ WfS J3 vz ∧ szB m J3 vz = false := by
          have : g2 = 0 ∨ g2 = 1 := by omega
          rcases this with rfl | rfl
          · exact ⟨_, rfl, wfs_non (.tup v1 (by omega)) (by simp only [isLi, v1]), szB_noL (by simp only [isLi, v1])⟩
          · exact ⟨_, rfl, od3.wfs, od3.sz m0⟩
        refine ⟨_, g2, rfl, SqL.of (e3 _ _ np2 q2), vz, hvz, by decide, fun pt hpt => ?_⟩
        have s5 := Same.new (o := .tup [vz, V.ref tl]) hpt
        have e5 := (e2.trans u2.ext).trans e3
        refine q pt vz (.ref tl) _ (e5.trans s5.ext) (b3.same s5) upd_same (.inl ⟨wz.same s5, ?_⟩)
        rw [szB_same wz s5]
        exact nz
      walk_at "wp"
      refine ite2 (fun _ => retA) (fun h1 => ?_)
      have wn0 : ¬ way = 0 := of_decide_eq_false (by simpa using h1)
      refine ⟨_, .inl (SqL.of hT2.1.1), ite2 (fun h2 => ite2 (fun _ => retA) (fun h3 => aftY wn0 (fun z => ?_))) (fun h2 => aftY wn0 (fun _ => ?_))⟩
      · have : ¬ 2 < way := of_decide_eq_false (by simpa using h3)
        omega
      · have : ¬ ((ts.map V.ref).length : Int) = 0 := of_decide_eq_false (by simpa using h2)
        rw [List.length_map] at this
        omega
    walk_at "wp"
    refine ⟨by decide, fun p1 hp1 => ⟨by decide, fun p2 hp2 => ⟨by decide, fun p3 hp3 => ⟨by decide, fun p4 hp4 => ?_⟩⟩⟩⟩
    have np1 : p1 ≠ l := hb.ne hp1
    have s1 := Same.new (o := .tup [V.int 1]) hp1
    have k1 : (upd H p1 (.tup [V.int 1])) p1 = some (.tup [V.int 1]) := upd_same
    generalize upd H p1 (.tup [V.int 1]) = H1 at *
    have np2 : p2 ≠ l := (hb.same s1).ne hp2
    have s2 := Same.new (o := .lst []) hp2
    have k2 : (upd H1 p2 (.lst [])) p2 = some (.lst []) := upd_same
    generalize upd H1 p2 (.lst []) = H2 at *
    have np3 : p3 ≠ l := ((hb.same s1).same s2).ne hp3
    have s3 := Same.new (o := .tup []) hp3
    have k3 : (upd H2 p3 (.tup [])) p3 = some (.tup []) := upd_same
    generalize upd H2 p3 (.tup []) = H3 at *
    have np4 : p4 ≠ l := (((hb.same s1).same s2).same s3).ne hp4
    have s4 := Same.new (o := .lst [V.bl true, V.bl false, V.non, V.str "1", V.ref p1, V.ref p2, V.str "", V.ref p3]) hp4
    have k4 : (upd H3 p4 (.lst [V.bl true, V.bl false, V.non, V.str "1", V.ref p1, V.ref p2, V.str "", V.ref p3])) p4 = some (.lst [V.bl true, V.bl false, V.non, V.str "1", V.ref p1, V.ref p2, V.str "", V.ref p3]) := upd_same
    generalize upd H3 p4 (.lst [V.bl true, V.bl false, V.non, V.str "1", V.ref p1, V.ref p2, V.str "", V.ref p3]) = H4 at *
    have t4 := ((s1.trans s2).trans s3).trans s4
    refine (hb.same t4).draw (n := 8) (by decide) (by decide) fun g8 H5 g0 g1 e5 b5 => ?_
    have q1 := e5 _ _ np1 (((s2.trans s3).trans s4) _ _ k1)
    have q2 := e5 _ _ np2 ((s3.trans s4) _ _ k2)
    have q3 := e5 _ _ np3 (s4 _ _ k3)
    obtain ⟨th, hth, od, nth⟩ : ∃ th : V, atI [V.bl true, V.bl false, V.non, V.str "1", V.ref p1, V.ref p2, V.str "", V.ref p3] g8 = some th ∧ Odd H5 th ∧ ∀ a, th = .ref a → a ≠ l := by
      have : g8 = 0 ∨ g8 = 1 ∨ g8 = 2 ∨ g8 = 3 ∨ g8 = 4 ∨ g8 = 5 ∨ g8 = 6 ∨ g8 = 7 := by omega
      rcases this with rfl | rfl | rfl | rfl | rfl | rfl | rfl | rfl
      · exact ⟨_, rfl, .inl ⟨_, rfl⟩, fun a z => by cases z⟩
      · exact ⟨_, rfl, .inl ⟨_, rfl⟩, fun a z => by cases z⟩
      · exact ⟨_, rfl, .inr (.inl rfl), fun a z => by cases z⟩
      · exact ⟨_, rfl, .inr (.inr (.inl ⟨_, rfl⟩)), fun a z => by cases z⟩
      · exact ⟨_, rfl, .inr (.inr (.inr (.inl ⟨_, _, rfl, q1, .inl rfl⟩))), fun a z => by cases z; exact np1⟩
      · exact ⟨_, rfl, .inr (.inr (.inr (.inr ⟨_, rfl, q2⟩))), fun a z => by cases z; exact np2⟩
      · exact ⟨_, rfl, .inr (.inr (.inl ⟨_, rfl⟩)), fun a z => by cases z⟩
      · exact ⟨_, rfl, .inr (.inr (.inr (.inl ⟨_, _, rfl, q3, .inr rfl⟩))), fun a z => by cases z; exact np3⟩
    refine ⟨_, g8, rfl, SqL.of (e5 _ _ np4 k4), _, hth, b5.draw (n := 7) (by decide) (by decide) fun way H6 w0 w1 e6 b6 => ?_⟩
    have e06 := (t4.ext.trans e5).trans e6
    have od6 : ∀ H7, Ext l H5 H7 → Odd H7 th := fun H7 e7 => by
      rcases od with h | h | h | ⟨a, xs, h1, h2, h3⟩ | ⟨a, h1, h2⟩
      · exact .inl h
      · exact .inr (.inl h)
      · exact .inr (.inr (.inl h))
      · exact .inr (.inr (.inr (.inl ⟨a, xs, h1, e7 _ _ (nth a h1) h2, h3⟩)))
      · exact .inr (.inr (.inr (.inr ⟨a, h1, e7 _ _ (nth a h1) h2⟩)))
    have lz : (ns.map V.int).length = ns.length := List.length_map _
    refine ⟨_, .inl (SqL.of (e06 _ _ nzl hz.1)), b6.draw (n := ((ns.map V.int).length : Int)) (by omega) (by omega) fun k H7 k0 k1' e7 b7 => aft th way k H7 (od6 H7 (e6.trans e7)) nth w0 w1 k0 (by omega) (e06.trans e7) b7⟩
end
end Pf
set_option maxHeartbeats 4000000
namespace Pf
open PySem L2 PyProof.Rows
section
variable {P : Program} {w : World} {K : PySem.W.Frag} {mg : Str → Option Value} {base : Heap} {C G S : Addr} {cc : Cs}
theorem cut7 {A1 A2 A3 A4 A5 A6 A7 X : TS} {D : Ends} {σ : L2.St} {H : Hp} (h : ∀ X', X' = X → tSeq A1 (tSeq A2 (tSeq A3 (tSeq A4 (tSeq A5 (tSeq A6 (tSeq A7 X')))))) D σ H) : tSeq A1 (tSeq A2 (tSeq A3 (tSeq A4 (tSeq A5 (tSeq A6 (tSeq A7 X)))))) D σ H := h X rfl
theorem pick_p {i : Int} (i0 : 0 ≤ i) (i1 : i < 5) : ∃ p : Int, atI [V.int 0, V.int 2, V.int 3, V.int 5, V.int 97] i = some (.int p) ∧ (p = 0 ∨ p = 2 ∨ p = 3 ∨ p = 5 ∨ p = 97) := by
  have : i = 0 ∨ i = 1 ∨ i = 2 ∨ i = 3 ∨ i = 4 := by omega
  rcases this with rfl | rfl | rfl | rfl | rfl
  · exact ⟨0, rfl, by decide⟩
  · exact ⟨2, rfl, by decide⟩
  · exact ⟨3, rfl, by decide⟩
  · exact ⟨5, rfl, by decide⟩
  · exact ⟨97, rfl, by decide⟩
theorem items_of {H : Hp} {n : Nat} {xs ys : List V} (hl : xs.length = ys.length) (he : ∀ (j : Nat) x y, xs[j]? = some x → ys[j]? = some y → EqD K H n x y true) : ItemsEq K H n xs ys (List.replicate xs.length true) :=
  ⟨hl, List.length_replicate, fun j x y b e1 e2 e3 => by
    rw [List.getElem?_replicate] at e3
    split at e3
    · cases e3; exact he j x y e1 e2
    · cases e3⟩
theorem kn_self {H : Hp} {n : Nat} {v : V} (h : Kn H v) : EqD K H n v v true := by
  rcases h with rfl | ⟨b, rfl⟩ | ⟨i, rfl⟩ | ⟨z, rfl⟩ | ⟨a, xs, rfl, h2, _⟩ | ⟨a, xs, rfl, h2, _⟩
  · exact EqD.flat (x := .non) (y := .non) rfl rfl
  · have := EqD.flat (K := K) (H := H) (n := n) (x := .bl b) (y := .bl b) rfl rfl
    rwa [show eqV (.bl b) (.bl b) = true by simp [eqV]] at this
  · exact int_self
  · have := EqD.flat (K := K) (H := H) (n := n) (x := .str z) (y := .str z) rfl rfl
    rwa [show eqV (.str z) (.str z) = true by simp [eqV]] at this
  · exact EqD.same
  · exact EqD.same
theorem Sha.eq {H : Hp} {t r t' r' : Addr} {rs rs' : List Addr} {u : Tc} {n : Nat} (h : Sha H t r rs u) (h' : Sha H t' r' rs' u) (f : Fine H u) : EqD K H (n + 3) (.ref t) (.ref t') true := by
  have l1 := h.len
  have l2 := h'.len
  refine tup_eq h.tup h'.tup rfl fun j x y e1 e2 => ?_
  match j, e1, e2 with
  | 0, e1, e2 => cases e1; cases e2; exact int_self
  | 1, e1, e2 => cases e1; cases e2; exact int_self
  | 2, e1, e2 =>
    cases e1; cases e2
    refine list_eq h.lst h'.lst (by rw [List.length_map, List.length_map]; omega) fun k x y e1 e2 => ?_
    rw [List.getElem?_map] at e1 e2
    cases f1 : rs[k]? with
    | none => rw [f1] at e1; cases e1
    | some a =>
      cases f2 : rs'[k]? with
      | none => rw [f2] at e2; cases e2
      | some c =>
        rw [f1] at e1; cases e1
        rw [f2] at e2; cases e2
        refine list_eq (h.con k a f1) (h'.con k c f2) rfl fun j x y e1 e2 => ?_
        rw [e1] at e2
        cases e2
        have hk : k < u.2.2.length := by have := (List.getElem?_eq_some_iff.mp f1).1; omega
        rw [List.getD_eq_getElem?_getD, List.getElem?_eq_getElem hk] at e1
        exact kn_self ((f.2 _ (List.getElem_mem hk)).2 _ (List.mem_of_getElem? e1)).1
  | j + 3, e1, e2 => cases e1
theorem Shas.eq {H : Hp} {l l' : Addr} {ts ts' : List Addr} {us : List Tc} {n : Nat} (h : Shas H l ts us) (h' : Shas H l' ts' us) (f : ∀ u ∈ us, Fine H u) : EqD K H (n + 4) (.ref l) (.ref l') true := by
  have l1 := h.len
  have l2 := h'.len
  refine list_eq h.lst h'.lst (by rw [List.length_map, List.length_map]; omega) fun k x y e1 e2 => ?_
  rw [List.getElem?_map] at e1 e2
  cases f1 : ts[k]? with
  | none => rw [f1] at e1; cases e1
  | some a =>
    cases f2 : ts'[k]? with
    | none => rw [f2] at e2; cases e2
    | some c =>
      rw [f1] at e1; cases e1
      rw [f2] at e2; cases e2
      have hk : k < us.length := by have := (List.getElem?_eq_some_iff.mp f1).1; omega
      have eu : us[k]? = some us[k] := List.getElem?_eq_getElem hk
      obtain ⟨⟨r, rs, s1⟩, _⟩ := h.at' k a _ f1 eu
      obtain ⟨⟨r', rs', s2⟩, _⟩ := h'.at' k c _ f2 eu
      exact s1.eq s2 (f _ (List.getElem_mem hk))
def spLaw (K : PySem.W.Frag) : Sp := fun vs H Q _ => ∃ (a : Addr) (ns : List Int), vs = [.ref a] ∧ SqL K H a (ns.map V.int) ∧ ns.length ≤ 63 ∧ ∀ H', Q (.bl true) H'
theorem ok_law {f : Addr} {fd : FuncData} (F : Fun K "law" "law" s_law f fd) (T : Txt K mg C G S) (XT : Xt K mg base cc) (C_law_cell : Cal P w K mg base "_law_cell" 1 (spCell K)) (C_law_bag : Cal P w K mg base "_law_bag" 1 spBag) (C_law_draw : Cal P w K mg base "_law_draw" 1 spDraw) (C_law_drawn : Cal P w K mg base "_law_drawn" 4 (spOut way1))
    (C_law_sizes : Cal P w K mg base "_law_sizes" 2 spSizes) (C_law_tables : Cal P w K mg base "_law_tables" 5 spTbs) (C_Ground : CalI P w K mg base "Ground" G 3 (spGInit G)) (C_Drawing : CalI P w K mg base "Drawing" C 4 (spInit C)) (C_Standing : CalIE P w K mg base "Standing" S 8 (spSI S C G cc.NoStanding))
    (C_law_spoiled : Cal P w K mg base "_law_spoiled" 3 spSpo) (C_law_lent : Cal P w K mg base "_law_lent" 1 spLent) (C_law_refused : Cal P w K mg base "_law_refused" 10 (spRefd S C G)) (C_law_strange : Cal P w K mg base "_law_strange" 2 spStr) : FnOk P w K mg base CX0 12 f fd ["_law_script"] (spLaw K) := by
  have nd := sc_law.nd
  refine F.ok sc_law (fun vs H Q E h => ?_) (fun cdv A outer s H vs Q E hr h => ?_)
  · obtain ⟨a, ns, rfl, _⟩ := h
    rfl
  · obtain ⟨a, ns, rfl, hS, hl, q⟩ := h
    have hu8 := room8 hr
    refine ⟨_, (@pss_cons _ _ _ _ _ (ps_for PassesOwn.never rfl (pi_r1 rfl T.n_range (@pa_c _ _ _ _ _ (@pe_op _ _ _ _ _ _ _ _ op_add (pe_cB (call_min2 rfl) rfl T.n_min boot_min (@pa_c _ _ _ _ _ (pe_cB call_len_seq rfl T.n_len PySem.boot_len (@pa_c _ _ _ _ _ (pv 0) pa_nil (by rfl))) (@pa_c _ _ _ _ _ pe_int pa_nil (by rfl)) (by rfl))) pe_int) pa_nil (by rfl))) (@pg_name _ _ 1 _ nd rfl (Or.inl rfl) (Or.inl rfl)) (@pss_cons _ _ _ _ _ (ps_set (i := 2) nd rfl (Or.inl rfl) (pe_c C_law_bag (hr.mono (by decide)) rfl (@pa_c _ _ _ _ _ (pe_c C_law_cell (hr.mono (by decide)) rfl (@pa_c _ _ _ _ _ (pv 0) (@pa_c _ _ _ _ _ (pv 1) pa_nil (by rfl)) (by rfl))) pa_nil (by rfl)))) (@pss_cons _ _ _ _ _ (ps_set (i := 3) nd rfl (Or.inl rfl) (@pe_ix _ _ _ _ _ _ _ ix_list (@pe_lst _ _ _ _ (@pa_c _ _ _ _ _ pe_int (@pa_c _ _ _ _ _ pe_int (@pa_c _ _ _ _ _ pe_int (@pa_c _ _ _ _ _ pe_int (@pa_c _ _ _ _ _ pe_int pa_nil (by rfl)) (by rfl)) (by rfl)) (by rfl)) (by rfl))) (pe_c C_law_draw (hr.mono (by decide)) rfl (@pa_c _ _ _ _ _ (pv 2) (@pa_c _ _ _ _ _ pe_int pa_nil (by rfl)) (by rfl))) (fun _ _ => rfl))) (@pss_cons _ _ _ _ _ (ps_asg (pe_c C_law_drawn (hr.mono (by decide)) rfl (@pa_c _ _ _ _ _ (pv 2) (@pa_c _ _ _ _ _ (pe_c C_law_draw (hr.mono (by decide)) rfl (@pa_c _ _ _ _ _ (pv 2) (@pa_c _ _ _ _ _ pe_int pa_nil (by rfl)) (by rfl))) pa_nil (by rfl)) (by rfl))) (@pg_tup _ _ _ _ _ 2 rfl (@pgs_cons _ _ _ _ _ (@pg_name _ _ 4 _ nd rfl (Or.inl rfl) (Or.inl rfl)) (@pgs_cons _ _ _ _ _ (@pg_name _ _ 5 _ nd rfl (Or.inl rfl) (Or.inl rfl)) (@pgs_nil _) (by rfl)) (by rfl)) (by rfl) (by rfl))) (@pss_cons _ _ _ _ _ (ps_set (i := 6) nd rfl (Or.inl rfl) (pe_c C_law_sizes (hr.mono (by decide)) rfl (@pa_c _ _ _ _ _ (pv 2) (@pa_c _ _ _ _ _ (pv 4) (@pa_c _ _ _ _ _ (@pe_ix _ _ _ _ _ _ _ ix_list (@pe_lst _ _ _ _ (@pa_c _ _ _ _ _ pe_int (@pa_c _ _ _ _ _ pe_int pa_nil (by rfl)) (by rfl))) (pe_cT call_int1 rfl T.n_int boot_int (@pa_c _ _ _ _ _ (pe_cmpR op_eq (pv 1) pe_int (nomark _)) pa_nil (by rfl))) (fun _ _ => rfl)) pa_nil (by rfl)) (by rfl)) (by rfl)))) (@pss_cons _ _ _ _ _ (ps_set (i := 7) nd rfl (Or.inl rfl) (pe_c C_law_tables (hr.mono (by decide)) rfl (@pa_c _ _ _ _ _ (pv 2) (@pa_c _ _ _ _ _ (pv 3) (@pa_c _ _ _ _ _ (pv 5) (@pa_c _ _ _ _ _ (pv 6) pa_nil (by rfl)) (by rfl)) (by rfl)) (by rfl)))) (@pss_cons _ _ _ _ _ (ps_set (i := 8) nd rfl (Or.inl rfl) (pe_n C_Ground (hr.mono (by decide)) rfl (@pa_c _ _ _ _ _ (pv 3) pa_nil (by rfl)))) (@pss_cons _ _ _ _ _ (ps_set (i := 9) nd rfl (Or.inl rfl) (pe_n C_Drawing (hr.mono (by decide)) rfl (@pa_c _ _ _ _ _ (pv 4) (@pa_c _ _ _ _ _ (pe_cT call_list_of rfl T.n_list boot_list (@pa_c _ _ _ _ _ (pv 5) pa_nil (by rfl))) pa_nil (by rfl)) (by rfl)))) (@pss_cons _ _ _ _ _ (ps_set (i := 10) nd rfl (Or.inl rfl) (pe_c C_law_spoiled (hr.mono (by decide)) rfl (@pa_c _ _ _ _ _ (pv 2) (@pa_c _ _ _ _ _ (pv 3) (@pa_c _ _ _ _ _ (pv 5) (@pa_c _ _ _ _ _ (pv 6) (@pa_c _ _ _ _ _ (pv 7) pa_nil (by rfl)) (by rfl)) (by rfl)) (by rfl)) (by rfl)))) (@pss_cons _ _ _ _ _ (ps_set (i := 11) nd rfl (Or.inl rfl) (@pe_tup _ _ _ _ _ (@pa_c _ _ _ _ _ (pe_cT call_list_of rfl T.n_list boot_list (@pa_c _ _ _ _ _ (@pe_ix _ _ _ _ _ _ _ ix_tup (pv 10) pe_int (fun _ _ => rfl)) pa_nil (by rfl))) (@pa_c _ _ _ _ _ (pe_c C_law_lent (hr.mono (by decide)) rfl (@pa_c _ _ _ _ _ (@pe_ix _ _ _ _ _ _ _ ix_tup (pv 10) pe_int (fun _ _ => rfl)) pa_nil (by rfl))) pa_nil (by rfl)) (by rfl)))) (@pss_cons _ _ _ _ _ (@ps_if _ _ _ _ _ _ _ _ (PW.pt (pw_or (pt_not (pt_val (pe_c C_law_refused (hr.mono (by decide)) rfl (@pa_c _ _ _ _ _ (pv 8) (@pa_c _ _ _ _ _ (pv 9) (@pa_c _ _ _ _ _ (@pe_ix _ _ _ _ _ _ _ ix_tup (pv 11) pe_int (fun _ _ => rfl)) (@pa_c _ _ _ _ _ (@pe_ix _ _ _ _ _ _ _ ix_tup (pv 11) pe_int (fun _ _ => rfl)) pa_nil (by rfl)) (by rfl)) (by rfl)) (by rfl))))) (pw_or1 (pt_cmpR (op_neT hu8) (pv 11) (@pe_tup _ _ _ _ _ (@pa_c _ _ _ _ _ (@pe_ix _ _ _ _ _ _ _ ix_tup (pv 10) pe_int (fun _ _ => rfl)) (@pa_c _ _ _ _ _ (@pe_ix _ _ _ _ _ _ _ ix_tup (pv 10) pe_int (fun _ _ => rfl)) pa_nil (by rfl)) (by rfl))) (nomark _))))) (@pss_one _ _ _ (@ps_ret _ _ _ _ pe_bl)) pss_nil) (@pss_cons _ _ _ _ _ (ps_set (i := 12) nd rfl (Or.inl rfl) (pe_c C_law_strange (hr.mono (by decide)) rfl (@pa_c _ _ _ _ _ (pv 2) (@pa_c _ _ _ _ _ (pv 6) (@pa_c _ _ _ _ _ (pv 7) pa_nil (by rfl)) (by rfl)) (by rfl)))) (@pss_cons _ _ _ _ _ (@ps_if _ _ _ _ _ _ _ _ (pt_not (pt_val (pe_c C_law_refused (hr.mono (by decide)) rfl (@pa_c _ _ _ _ _ (pv 8) (@pa_c _ _ _ _ _ (pv 9) (@pa_c _ _ _ _ _ (@pe_ix _ _ _ _ _ _ _ ix_tup (pv 12) pe_int (fun _ _ => rfl)) (@pa_c _ _ _ _ _ (@pe_ix _ _ _ _ _ _ _ ix_tup (pv 12) pe_int (fun _ _ => rfl)) pa_nil (by rfl)) (by rfl)) (by rfl)) (by rfl))))) (@pss_one _ _ _ (@ps_ret _ _ _ _ pe_bl)) pss_nil) (@pss_one _ _ _ (@ps_if _ _ _ _ _ _ _ _ (pt_cmpR (op_neL hu8) (pe_fld (pe_nE C_Standing pass_no (hr.mono (by decide)) rfl (@pa_c _ _ _ _ _ (pv 8) (@pa_c _ _ _ _ _ (pv 9) (@pa_c _ _ _ _ _ (pe_cT call_list_of rfl T.n_list boot_list (@pa_c _ _ _ _ _ (pv 6) pa_nil (by rfl))) (@pa_c _ _ _ _ _ (pe_c C_law_lent (hr.mono (by decide)) rfl (@pa_c _ _ _ _ _ (pv 7) pa_nil (by rfl))) pa_nil (by rfl)) (by rfl)) (by rfl)) (by rfl))) rfl) (pv 6) (nomark _)) (@pss_one _ _ _ (@ps_ret _ _ _ _ pe_bl)) pss_nil))))))))))))))) (@pss_one _ _ _ (@ps_ret _ _ _ _ pe_bl))), ?_⟩
    refine ⟨_, rfl, a, _, rfl, .inl hS, _, _, rfl, _, _, rfl, rfl, _, rfl, ?_, ?_, for_range (fun i σ H2 => ∃ v1 v2 v3 v4 v5 v6 v7 v8 v9 v10 v11 v12 : Option V, σ = [some (.ref a), v1, v2, v3, v4, v5, v6, v7, v8, v9, v10, v11, v12] ∧ Same H H2) ⟨none, none, none, none, none, none, none, none, none, none, none, none, rfl, Same.refl H⟩ ?_ ?_⟩
    · split <;> omega
    · split <;> omega
    · rintro i σ H2 hi ⟨v1, v2, v3, v4, v5, v6, v7, v8, v9, v10, v11, v12, rfl, s2⟩
      refine cut7 fun X hX => ?_
      have aft : ∀ (l e z tl g d : Addr) (p m : Int) (xs : List V) (ps : List (Int × Int)) (ms : List Int) (ts : List Addr) (cs : List Tc) (H3 : Hp) (D : Ends), (∀ σ' H', (∃ v1 v2 v3 v4 v5 v6 v7 v8 v9 v10 v11 v12 : Option V, σ' = [some (.ref a), v1, v2, v3, v4, v5, v6, v7, v8, v9, v10, v11, v12] ∧ Same H H') → D.nx σ' H') → H l = none → Same H H3 → Bag H3 l → GroundP p → 1 ≤ m → m ≤ 8 → e ≠ l → H3 e = some (.lst xs) → Prs H3 xs ps → InP m ps → ps.length ≤ 9 → z ≠ l → Sizes H3 z ms → (∀ n ∈ ms, n ≤ 12) → (ms.length : Int) = m → TbO H3 p l tl ts cs → Fits ms cs ps → g ≠ l → GAt G H3 g p → d ≠ l → (∃ lp, DrawAt C H3 d m lp xs ∧ lp ≠ l) →
          X D [some (.ref a), some (.int (0 + (i : Int))), some (.ref l), some (.int p), some (.int m), some (.ref e), some (.ref z), some (.ref tl), some (.ref g), some (.ref d), v10, v11, v12] H3 := by
        intro l e z tl g d p m xs ps ms ts cs H3 D hD fl sH b3 hp m0 m8 nel he pr ip p9 nzl hz n12 hm hT ft ngl hg ndl ⟨lp, hd, nlp⟩
        subst hX
        refine cut3 fun Y hY => ?_
        have aftY : ∀ (v10 v11 : Option V) (H4 : Hp), Ext l H3 H4 → Bag H4 l → Y D [some (.ref a), some (.int (0 + (i : Int))), some (.ref l), some (.int p), some (.int m), some (.ref e), some (.ref z), some (.ref tl), some (.ref g), some (.ref d), v10, v11, v12] H4 := by
          intro v10 v11 H4 e4 b4
          subst hY
          walk_at "wp"
          have e4' := e4
          obtain ⟨dd, hd1, hd2⟩ := hd
          obtain ⟨dg, hg1⟩ := hg
          have hT4 := hT.ext b3 e4
          have hz4 : Sizes H4 z ms := ⟨e4 _ _ nzl hz.1, hz.2⟩
          refine ⟨l, z, tl, p, m, ps, ms, ts, cs, rfl, b4, hp, nzl, hz4, hm, m0, m8, hT4, ft, fun pt vz vl H5 e5 b5 hpt bad => ?_⟩
          have e35 := e4.trans e5
          refine ⟨pt, rfl, _, SqT.of hpt, _, rfl, pt, rfl, _, SqT.of hpt, _, rfl, g, d, lp, p, m, xs, ps, _, _, rfl, ⟨dg, e35 _ _ ngl hg1⟩, hp, ⟨dd, e35 _ _ ndl hd1, e35 _ _ nlp hd2⟩, pr.bag b3 e35, ip, p9, bad, fun H6 s6 => ⟨_, rfl, iteN (by decide) ?_⟩⟩
          have e36 := e35.trans s6.ext
          have b6 := b5.same s6
          have hT6 := hT.ext b3 e36
          have hz6 : Sizes H6 z ms := ⟨e36 _ _ nzl hz.1, hz.2⟩
          refine ⟨_, .inl (SqL.of hz6.1), fun z1 hz1 => ?_⟩
          have s7 := Same.new (o := .lst (ms.map V.int)) hz1
          have q7 : (upd H6 z1 (.lst (ms.map V.int))) z1 = some (.lst (ms.map V.int)) := upd_same
          generalize upd H6 z1 (.lst (ms.map V.int)) = H7 at *
          obtain ⟨us, hl, hs, hd'⟩ := (hT6.ext b6 s7.ext).shas
          have T7 := hT6.1.same s7
          have l2 := T7.2.1
          have l9 := T7.2.2.1
          have hf : ∀ u ∈ us, Fine H7 u := fun u hu => by
            obtain ⟨j, hj, rfl⟩ := List.mem_iff_getElem.mp hu
            exact (hd' j _ _ (List.getElem?_eq_getElem (by omega)) (List.getElem?_eq_getElem hj)).2.2.2
          have sh7 : Shas H7 tl ts us := ⟨T7.1, by omega, by omega, fun i t u f1 f2 => by
            obtain ⟨r, rs, sh, _⟩ := hs i t u f1 f2
            exact ⟨⟨r, rs, sh⟩, (hf u (List.mem_of_getElem? f2)).1⟩⟩
          refine ⟨tl, ts, us, rfl, sh7, fun tl2 ts2 H8 s8 ftl2 hT2 x dx hx hdx ndx => ?_⟩
          have fx : (upd H8 dx (.own x)) x = none := by rw [upd_ne ndx.symm]; exact hx
          have sx : Same H8 (upd (upd H8 dx (.own x)) x (.ins S dx [])) := (Same.new hdx).trans (Same.new fx)
          have e38 := e36.trans (s7.trans s8).ext
          have e39 := e38.trans sx.ext
          have s79 := s8.trans sx
          have tb9 : Tbs (upd (upd H8 dx (.own x)) x (.ins S dx [])) p tl2 ts2 us := by
            have h2 := hT2.same sx
            have h2l := h2.len
            refine ⟨h2.lst, h2l, by omega, fun i t u f1 f2 => ?_⟩
            obtain ⟨⟨r, rs, sh⟩, _⟩ := h2.at' i t u f1 f2
            have hi : i < us.length := (List.getElem?_eq_some_iff.mp f2).1
            have f3 : cs[i]? = some (cs[i]'(by omega)) := List.getElem?_eq_getElem _
            have f4 : ts[i]? = some (ts[i]'(by omega)) := List.getElem?_eq_getElem _
            obtain ⟨u1, u2, nt, _⟩ := hd' i _ u f3 f2
            obtain ⟨_, b⟩ := T7.2.2.2 i _ _ f4 f3
            exact ⟨⟨r, rs, sh.tab (nt.same s79)⟩, by rw [u1, u2]; exact b⟩
          have ft9 : Fits ms us ps := ⟨by rw [hl]; exact ft.1, fun i u q' f1 f2 => by
            have hi : i < us.length := (List.getElem?_eq_some_iff.mp f1).1
            have f3 : cs[i]? = some (cs[i]'(by omega)) := List.getElem?_eq_getElem _
            obtain ⟨u1, u2, _⟩ := hd' i _ u f3 f1
            rw [u1, u2]
            exact ft.2 i _ q' f3 f2⟩
          refine ⟨x, dx, g, d, lp, p, m, xs, ps, _, _, rfl, upd_same, ⟨dg, e39 _ _ ngl hg1⟩, hp, ⟨dd, e39 _ _ ndl hd1, e39 _ _ nlp hd2⟩, pr.bag b3 e39, ip, p9, .inr (.inr ⟨z1, tl2, ms, ts2, us, rfl, rfl, ⟨s79 _ _ q7, hz.2⟩, hm, tb9, ft9, fun z' l' ts' H10 ex10 hx10 fz' fl' hz10 hl10 _ _ => ?_⟩)⟩
          refine ⟨rfl, S, dx, _, hx10, T.cl_Standing, T.nSs, ?_⟩
          have nzx : z ≠ x := fun w => by
            have := e38 _ _ nzl hz.1
            rw [w, hx] at this
            cases this
          have s810 : Same H8 H10 := Same.thru sx hx ex10
          refine ⟨_, sf_sizes g d z' l', z', rfl, _, SqL.of hz10.1, _, SqL.of (s810 _ _ (e38 _ _ nzl hz.1)), .inr ⟨_, ints_eq _, iteN (by rw [all_rep]; decide) (hD _ _ ⟨_, _, _, _, _, _, _, _, _, _, _, _, rfl, ?_⟩)⟩⟩
          exact (Same.thru sH fl e38).trans s810
        walk_at "wp"
        refine ⟨l, e, z, tl, p, m, xs, ps, ms, ts, cs, rfl, b3, hp, nel, he, pr, ip, p9, nzl, hz, n12, hm, m0, m8, hT, ft, fun pt z' tl' zs ts' us H4 e4 b4 hpt hz' z20 zi hT' fu bad => ?_⟩
        refine ⟨pt, rfl, _, SqT.of hpt, _, rfl, z', rfl, _, .inl (SqL.of hz'), fun z1 hz1 => ⟨pt, rfl, _, SqT.of ((Same.new hz1) _ _ hpt), _, rfl, ?_⟩⟩
        have s5 := Same.new (o := .lst zs) hz1
        have q5 : (upd H4 z1 (.lst zs)) z1 = some (.lst zs) := upd_same
        generalize upd H4 z1 (.lst zs) = H5 at *
        refine ⟨tl', ts', us, rfl, hT'.same s5, fun tl2 ts2 H6 s6 ftl2 hT2 => ⟨by decide, fun p4 hp4 => ?_⟩⟩
        have s7 := Same.new (o := .tup [V.ref z1, V.ref tl2]) hp4
        have q7 : (upd H6 p4 (.tup [V.ref z1, V.ref tl2])) p4 = some (.tup [V.ref z1, V.ref tl2]) := upd_same
        generalize upd H6 p4 (.tup [V.ref z1, V.ref tl2]) = H7 at *
        have s47 := (s5.trans s6).trans s7
        have e7 := e4.trans s47.ext
        have z7 := (s6.trans s7) _ _ q5
        have T7 := hT2.same s7
        have fu7 : ∀ u ∈ us, Fine H7 u := fun u hu => (fu u hu).same s47
        have kz : ∀ (H : Hp), ∀ y ∈ zs, Kn H y := fun H y hy => by
          obtain ⟨i, rfl⟩ := zi y hy
          exact .int
        have bad7 := (bad.same fu s47).bad z7 z20 (kz _) T7 fu7
        obtain ⟨dd, hd1, hd2⟩ := hd
        obtain ⟨dg, hg1⟩ := hg
        refine ⟨_, SqT.of q7, _, rfl, _, SqT.of q7, _, rfl, g, d, lp, p, m, xs, ps, _, _, rfl, ⟨dg, e7 _ _ ngl hg1⟩, hp, ⟨dd, e7 _ _ ndl hd1, e7 _ _ nlp hd2⟩, pr.bag b3 e7, ip, p9, bad7, fun H8 s8 => ⟨_, rfl, ?_⟩⟩
        have pt8 := (s47.trans s8) _ _ hpt
        refine iteN (by decide) ⟨pt, rfl, _, SqT.of pt8, _, rfl, pt, rfl, _, SqT.of pt8, _, rfl, by decide, fun p9' hp9 => ?_⟩
        have s9 := Same.new (o := .tup [V.ref z', V.ref tl']) hp9
        have s49 := (s47.trans s8).trans s9
        have s79 := s8.trans s9
        refine ⟨_, SqT.of (s79 _ _ q7), _, SqT.of upd_same, _, items_of (n := 6) rfl (fun j x y e1 e2 => ?_), iteN (by simp) (aftY _ _ _ (e4.trans s49.ext) (b4.same s49))⟩
        match j, e1, e2 with
        | 0, e1, e2 =>
          cases e1; cases e2
          exact list_eq (n := 5) (s79 _ _ z7) (s49 _ _ hz') rfl fun k x y f1 f2 => by
            rw [f1] at f2
            cases f2
            exact kn_self (kz _ _ (List.mem_of_getElem? f1))
        | 1, e1, e2 =>
          cases e1; cases e2
          exact Shas.eq (n := 2) (T7.same s79) (hT'.same s49) (fun u hu => (fu u hu).same s49)
        | j + 2, e1, e2 => cases e1
      walk_at "wp"
      refine ⟨a, ns, 0 + i, rfl, s2.seq hS, hl, by omega, fun c => ⟨c, rfl, fun l xa xb hl0 xb0 xb1 => ?_⟩⟩
      have b3 : Bag (upd H2 l (BagV xa xb)) l := Bag.set xb0 xb1
      have s3 : Same H (upd H2 l (BagV xa xb)) := s2.trans (Same.new hl0)
      have fl : H l = none := s2.free hl0
      refine ⟨by decide, fun p1 hp1 => ?_⟩
      have np1 : p1 ≠ l := b3.ne hp1
      have s3' := s3.trans (Same.new (o := .lst [V.int 0, V.int 2, V.int 3, V.int 5, V.int 97]) hp1)
      refine (b3.new np1).draw (n := 5) (by decide) (by decide) fun r5 H4 r50 r51 e4 b4 => ?_
      obtain ⟨p, hat, hpp⟩ := pick_p r50 r51
      have hp : GroundP p := by rcases hpp with rfl | rfl | rfl | rfl | rfl <;> exact goodB_ok (by decide)
      refine ⟨_, r5, rfl, SqL.of (e4 _ _ np1 upd_same), _, hat, b4.draw (n := 8) (by decide) (by decide) fun r H5 r0 r1 e5 b5 => ?_⟩
      refine ⟨l, _, rfl, ⟨r, rfl⟩, b5, fun pt e m xs H6 O => ⟨pt, rfl, _, SqT.of O.tup, rfl, _, _, rfl, _, _, rfl, rfl, by decide, fun p2 hp2 => ?_⟩⟩
      have s6 : Same H H6 := Same.thru (Same.thru (Same.thru s3' fl e4) fl e5) fl O.ext
      have m0 := O.lo
      have m8 := O.hi
      have x9 := O.len
      have nel : e ≠ l := b5.ne O.new
      have s67 := Same.new (o := .lst [V.int 5, V.int 12]) hp2
      have b7 := O.bag.same s67
      have e7 := s67 _ _ O.lst
      have d7 := O.ed.same s67
      have s7 := s6.trans s67
      have q7 : (upd H6 p2 (.lst [V.int 5, V.int 12])) p2 = some (.lst [V.int 5, V.int 12]) := upd_same
      generalize upd H6 p2 (.lst [V.int 5, V.int 12]) = H7 at *
      obtain ⟨mo, hmo, mo0, mo12⟩ : ∃ mo : Int, atI [V.int 5, V.int 12] (if decide (0 + (i : Int) = 0) = true then 1 else 0) = some (.int mo) ∧ 0 ≤ mo ∧ mo ≤ 12 := by
        split
        · exact ⟨12, rfl, by decide, by decide⟩
        · exact ⟨5, rfl, by decide, by decide⟩
      refine ⟨_, SqL.of q7, _, hmo, l, m, mo, rfl, b7, m0, m8, mo0, by omega, fun z ns H8 e8 b8 fz hz hm nmo => ?_⟩
      obtain ⟨ps, pr7, ip⟩ := prs_of' d7
      have hpl := pr7.1
      have p9 : ps.length ≤ 9 := by omega
      have nzl : z ≠ l := b7.ne fz
      have he8 := e8 _ _ nel e7
      have pr8 := pr7.bag b7 e8
      refine ⟨l, e, z, p, m, xs, ps, ns, rfl, b8, hp, he8, pr8, ip, by omega, hz, hm, nel, nzl, fun tl ts cs H9 e9 b9 ftl hT hF ft => ?_⟩
      have s9 : Same H H9 := Same.thru (Same.thru s7 fl e8) fl e9
      have he9 := e9 _ _ nel he8
      have pr9 := pr8.bag b8 e9
      have hz9 : Sizes H9 z ns := ⟨e9 _ _ nzl hz.1, hz.2⟩
      have ntl : tl ≠ l := b8.ne ftl
      have tbo : TbO H9 p l tl ts cs := ⟨hT, ntl, fun j t c f1 f2 => by
        obtain ⟨r, rs, tc, _, fr, frs⟩ := hF j t c f1 f2
        exact ⟨r, rs, tc, b8.ne fr, fun z => b8.ne (frs l z) rfl⟩⟩
      intro g dg hg hdg ndg
      have fg : (upd H9 dg (.own g)) g = none := by rw [upd_ne ndg.symm]; exact hg
      have sg : Same H9 (upd (upd H9 dg (.own g)) g (.ins G dg [])) := (Same.new hdg).trans (Same.new fg)
      refine ⟨g, dg, p, rfl, upd_same, hp, fun H13 ex13 hg13 => ?_⟩
      have s13 : Same H9 H13 := Same.thru sg hg ex13
      refine ⟨rfl, e, rfl, _, .inl (SqL.of (s13 _ _ he9)), fun e1 hle1 d dd hd hdd ndd => ?_⟩
      have s14 := Same.new (o := .lst xs) hle1
      have q14 : (upd H13 e1 (.lst xs)) e1 = some (.lst xs) := upd_same
      generalize upd H13 e1 (.lst xs) = H14 at *
      have fd0 : (upd H14 dd (.own d)) d = none := by rw [upd_ne ndd.symm]; exact hd
      have sd : Same H14 (upd (upd H14 dd (.own d)) d (.ins C dd [])) := (Same.new hdd).trans (Same.new fd0)
      have s94 : Same H9 H14 := s13.trans s14
      refine ⟨d, dd, m, e1, xs, rfl, upd_same, m0, m8, sd _ _ q14, x9, (edges_of (pr9.same s94) ip).same sd, fun lp H15 ex15 hd15 flp hlp => ?_⟩
      have s15 : Same H14 H15 := Same.thru sd hd ex15
      have t15 := s94.trans s15
      refine ⟨rfl, aft l e z tl g d p m xs ps ns ts cs H15 _ (fun _ _ h => h) fl (s9.trans t15) (b9.same t15) hp m0 m8 nel (t15 _ _ he9) (pr9.same t15) ip p9 nzl (hz9.same t15) (fun n hn => by have := nmo n hn; omega) hm (tbo.ext b9 t15.ext) ft (b9.ne hg) ⟨dg, (s14.trans s15) _ _ hg13⟩ ((b9.same s94).ne hd) ⟨lp, ⟨dd, hd15, hlp⟩, fun z => b9.ne ((s94.trans sd).free flp) z⟩⟩
    · rintro σ H2 ⟨v1, v2, v3, v4, v5, v6, v7, v8, v9, v10, v11, v12, rfl, s2⟩
      exact q H2
end
end Pf
set_option maxHeartbeats 4000000
namespace Pf
open PySem L2 PyProof.Rows
theorem all_mk {l : PySem.W.OpenLaw} {w : World} {K : PySem.W.Frag} {h : Heap} {mg : Str → Option Value} {fa C Cg Cs : Addr} {t1 t2 t3 t4 : Tok} (X : K.In h) (G : h.Ns mainGlobals mg) (hfa : mg "law" = some (.ref fa))
    {f1 : Addr} {od1 an1 : Option Addr} {sl1 : Array (Option Value)} {oc1 kV1 dc1 pm1 cd1 ct1 : Value}
    {f2 : Addr} {od2 an2 : Option Addr} {sl2 : Array (Option Value)} {oc2 kV2 dc2 pm2 cd2 ct2 : Value}
    {f3 : Addr} {od3 an3 : Option Addr} {sl3 : Array (Option Value)} {oc3 kV3 dc3 pm3 cd3 ct3 : Value}
    {f4 : Addr} {od4 an4 : Option Addr} {sl4 : Array (Option Value)} {oc4 kV4 dc4 pm4 cd4 ct4 : Value}
    {f5 : Addr} {od5 an5 : Option Addr} {sl5 : Array (Option Value)} {oc5 kV5 dc5 pm5 cd5 ct5 : Value}
    {f6 : Addr} {od6 an6 : Option Addr} {sl6 : Array (Option Value)} {oc6 kV6 dc6 pm6 cd6 ct6 : Value}
    {f7 : Addr} {od7 an7 : Option Addr} {sl7 : Array (Option Value)} {oc7 kV7 dc7 pm7 cd7 ct7 : Value}
    {f8 : Addr} {od8 an8 : Option Addr} {sl8 : Array (Option Value)} {oc8 kV8 dc8 pm8 cd8 ct8 : Value}
    {f9 : Addr} {od9 an9 : Option Addr} {sl9 : Array (Option Value)} {oc9 kV9 dc9 pm9 cd9 ct9 : Value}
    {f10 : Addr} {od10 an10 : Option Addr} {sl10 : Array (Option Value)} {oc10 kV10 dc10 pm10 cd10 ct10 : Value}
    {f11 : Addr} {od11 an11 : Option Addr} {sl11 : Array (Option Value)} {oc11 kV11 dc11 pm11 cd11 ct11 : Value}
    {f12 : Addr} {od12 an12 : Option Addr} {sl12 : Array (Option Value)} {oc12 kV12 dc12 pm12 cd12 ct12 : Value}
    {f13 : Addr} {od13 an13 : Option Addr} {sl13 : Array (Option Value)} {oc13 kV13 dc13 pm13 cd13 ct13 : Value}
    {f14 : Addr} {od14 an14 : Option Addr} {sl14 : Array (Option Value)} {oc14 kV14 dc14 pm14 cd14 ct14 : Value}
    {f15 : Addr} {od15 an15 : Option Addr} {sl15 : Array (Option Value)} {oc15 kV15 dc15 pm15 cd15 ct15 : Value}
    {f16 : Addr} {od16 an16 : Option Addr} {sl16 : Array (Option Value)} {oc16 kV16 dc16 pm16 cd16 ct16 : Value}
    {f17 : Addr} {od17 an17 : Option Addr} {sl17 : Array (Option Value)} {oc17 kV17 dc17 pm17 cd17 ct17 : Value}
    {f18 : Addr} {od18 an18 : Option Addr} {sl18 : Array (Option Value)} {oc18 kV18 dc18 pm18 cd18 ct18 : Value}
    {f19 : Addr} {od19 an19 : Option Addr} {sl19 : Array (Option Value)} {oc19 kV19 dc19 pm19 cd19 ct19 : Value}
    {f20 : Addr} {od20 an20 : Option Addr} {sl20 : Array (Option Value)} {oc20 kV20 dc20 pm20 cd20 ct20 : Value}
    {f21 : Addr} {od21 an21 : Option Addr} {sl21 : Array (Option Value)} {oc21 kV21 dc21 pm21 cd21 ct21 : Value}
    {f22 : Addr} {od22 an22 : Option Addr} {sl22 : Array (Option Value)} {oc22 kV22 dc22 pm22 cd22 ct22 : Value}
    {f23 : Addr} {od23 an23 : Option Addr} {sl23 : Array (Option Value)} {oc23 kV23 dc23 pm23 cd23 ct23 : Value}
    {f24 : Addr} {od24 an24 : Option Addr} {sl24 : Array (Option Value)} {oc24 kV24 dc24 pm24 cd24 ct24 : Value}
    {f25 : Addr} {od25 an25 : Option Addr} {sl25 : Array (Option Value)} {oc25 kV25 dc25 pm25 cd25 ct25 : Value}
    {f26 : Addr} {od26 an26 : Option Addr} {sl26 : Array (Option Value)} {oc26 kV26 dc26 pm26 cd26 ct26 : Value}
    {f27 : Addr} {od27 an27 : Option Addr} {sl27 : Array (Option Value)} {oc27 kV27 dc27 pm27 cd27 ct27 : Value}
    {f28 : Addr} {od28 an28 : Option Addr} {sl28 : Array (Option Value)} {oc28 kV28 dc28 pm28 cd28 ct28 : Value}
    {f29 : Addr} {od29 an29 : Option Addr} {sl29 : Array (Option Value)} {oc29 kV29 dc29 pm29 cd29 ct29 : Value}
    {f30 : Addr} {od30 an30 : Option Addr} {sl30 : Array (Option Value)} {oc30 kV30 dc30 pm30 cd30 ct30 : Value}
    {f31 : Addr} {od31 an31 : Option Addr} {sl31 : Array (Option Value)} {oc31 kV31 dc31 pm31 cd31 ct31 : Value}
    {f32 : Addr} {od32 an32 : Option Addr} {sl32 : Array (Option Value)} {oc32 kV32 dc32 pm32 cd32 ct32 : Value}
    {f33 : Addr} {od33 an33 : Option Addr} {sl33 : Array (Option Value)} {oc33 kV33 dc33 pm33 cd33 ct33 : Value}
    {f34 : Addr} {od34 an34 : Option Addr} {sl34 : Array (Option Value)} {oc34 kV34 dc34 pm34 cd34 ct34 : Value}
    {f35 : Addr} {od35 an35 : Option Addr} {sl35 : Array (Option Value)} {oc35 kV35 dc35 pm35 cd35 ct35 : Value}
    {f36 : Addr} {od36 an36 : Option Addr} {sl36 : Array (Option Value)} {oc36 kV36 dc36 pm36 cd36 ct36 : Value}
    {f37 : Addr} {od37 an37 : Option Addr} {sl37 : Array (Option Value)} {oc37 kV37 dc37 pm37 cd37 ct37 : Value}
    {x_LimbError x_NoGround x_NoNumber x_NoTable x_NoDrawing x_NoKind x_NoStanding x_NoChange x_NoMirror x_NoRoot x_NoText x_NoRow x_NoName : Addr}
    (a1 : PySem.W.nsIn K mainGlobals "is_whole" = some (some (.ref f1)))
    (l1 : K.lookup f1 = some ⟨oc1, od1, .func (PySem.W.fnOf "is_whole" "is_whole" (defArgs s_is_whole) (defBody s_is_whole) (defScope s_is_whole) .none kV1 dc1 pm1 an1 cd1 ct1), sl1⟩)
    (c1 : PySem.W.codeIn K cd1 "is_whole" = true)
    (k1 : PySem.W.keepIn K (.ref f1) = true)
    (a2 : PySem.W.nsIn K mainGlobals "makes_drawing" = some (some (.ref f2)))
    (l2 : K.lookup f2 = some ⟨oc2, od2, .func (PySem.W.fnOf "makes_drawing" "makes_drawing" (defArgs s_makes_drawing) (defBody s_makes_drawing) (defScope s_makes_drawing) .none kV2 dc2 pm2 an2 cd2 ct2), sl2⟩)
    (c2 : PySem.W.codeIn K cd2 "makes_drawing" = true)
    (k2 : PySem.W.keepIn K (.ref f2) = true)
    (a3 : PySem.W.nsIn K mainGlobals "is_arrow" = some (some (.ref f3)))
    (l3 : K.lookup f3 = some ⟨oc3, od3, .func (PySem.W.fnOf "is_arrow" "is_arrow" (defArgs s_is_arrow) (defBody s_is_arrow) (defScope s_is_arrow) .none kV3 dc3 pm3 an3 cd3 ct3), sl3⟩)
    (c3 : PySem.W.codeIn K cd3 "is_arrow" = true)
    (k3 : PySem.W.keepIn K (.ref f3) = true)
    (a4 : PySem.W.nsIn K mainGlobals "_law_cell" = some (some (.ref f4)))
    (l4 : K.lookup f4 = some ⟨oc4, od4, .func (PySem.W.fnOf "_law_cell" "_law_cell" (defArgs s_law_cell) (defBody s_law_cell) (defScope s_law_cell) .none kV4 dc4 pm4 an4 cd4 ct4), sl4⟩)
    (c4 : PySem.W.codeIn K cd4 "_law_cell" = true)
    (k4 : PySem.W.keepIn K (.ref f4) = true)
    (a5 : PySem.W.nsIn K mainGlobals "_law_bag" = some (some (.ref f5)))
    (l5 : K.lookup f5 = some ⟨oc5, od5, .func (PySem.W.fnOf "_law_bag" "_law_bag" (defArgs s_law_bag) (defBody s_law_bag) (defScope s_law_bag) .none kV5 dc5 pm5 an5 cd5 ct5), sl5⟩)
    (c5 : PySem.W.codeIn K cd5 "_law_bag" = true)
    (k5 : PySem.W.keepIn K (.ref f5) = true)
    (a6 : PySem.W.nsIn K mainGlobals "_law_draw" = some (some (.ref f6)))
    (l6 : K.lookup f6 = some ⟨oc6, od6, .func (PySem.W.fnOf "_law_draw" "_law_draw" (defArgs s_law_draw) (defBody s_law_draw) (defScope s_law_draw) .none kV6 dc6 pm6 an6 cd6 ct6), sl6⟩)
    (c6 : PySem.W.codeIn K cd6 "_law_draw" = true)
    (k6 : PySem.W.keepIn K (.ref f6) = true)
    (a7 : PySem.W.nsIn K mainGlobals "_law_order" = some (some (.ref f7)))
    (l7 : K.lookup f7 = some ⟨oc7, od7, .func (PySem.W.fnOf "_law_order" "_law_order" (defArgs s_law_order) (defBody s_law_order) (defScope s_law_order) .none kV7 dc7 pm7 an7 cd7 ct7), sl7⟩)
    (c7 : PySem.W.codeIn K cd7 "_law_order" = true)
    (k7 : PySem.W.keepIn K (.ref f7) = true)
    (a8 : PySem.W.nsIn K mainGlobals "_law_rest_edges" = some (some (.ref f8)))
    (l8 : K.lookup f8 = some ⟨oc8, od8, .func (PySem.W.fnOf "_law_rest_edges" "_law_rest_edges" (defArgs s_law_rest_edges) (defBody s_law_rest_edges) (defScope s_law_rest_edges) .none kV8 dc8 pm8 an8 cd8 ct8), sl8⟩)
    (c8 : PySem.W.codeIn K cd8 "_law_rest_edges" = true)
    (k8 : PySem.W.keepIn K (.ref f8) = true)
    (a9 : PySem.W.nsIn K mainGlobals "_law_bad_edges" = some (some (.ref f9)))
    (l9 : K.lookup f9 = some ⟨oc9, od9, .func (PySem.W.fnOf "_law_bad_edges" "_law_bad_edges" (defArgs s_law_bad_edges) (defBody s_law_bad_edges) (defScope s_law_bad_edges) .none kV9 dc9 pm9 an9 cd9 ct9), sl9⟩)
    (c9 : PySem.W.codeIn K cd9 "_law_bad_edges" = true)
    (k9 : PySem.W.keepIn K (.ref f9) = true)
    (a10 : PySem.W.nsIn K mainGlobals "_law_edges" = some (some (.ref f10)))
    (l10 : K.lookup f10 = some ⟨oc10, od10, .func (PySem.W.fnOf "_law_edges" "_law_edges" (defArgs s_law_edges) (defBody s_law_edges) (defScope s_law_edges) .none kV10 dc10 pm10 an10 cd10 ct10), sl10⟩)
    (c10 : PySem.W.codeIn K cd10 "_law_edges" = true)
    (k10 : PySem.W.keepIn K (.ref f10) = true)
    (a11 : PySem.W.nsIn K mainGlobals "_law_drawn" = some (some (.ref f11)))
    (l11 : K.lookup f11 = some ⟨oc11, od11, .func (PySem.W.fnOf "_law_drawn" "_law_drawn" (defArgs s_law_drawn) (defBody s_law_drawn) (defScope s_law_drawn) .none kV11 dc11 pm11 an11 cd11 ct11), sl11⟩)
    (c11 : PySem.W.codeIn K cd11 "_law_drawn" = true)
    (k11 : PySem.W.keepIn K (.ref f11) = true)
    (a12 : PySem.W.nsIn K mainGlobals "common_divisor" = some (some (.ref f12)))
    (l12 : K.lookup f12 = some ⟨oc12, od12, .func (PySem.W.fnOf "common_divisor" "common_divisor" (defArgs s_common_divisor) (defBody s_common_divisor) (defScope s_common_divisor) .none kV12 dc12 pm12 an12 cd12 ct12), sl12⟩)
    (c12 : PySem.W.codeIn K cd12 "common_divisor" = true)
    (k12 : PySem.W.keepIn K (.ref f12) = true)
    (a13 : PySem.W.nsIn K mainGlobals "is_prime" = some (some (.ref f13)))
    (l13 : K.lookup f13 = some ⟨oc13, od13, .func (PySem.W.fnOf "is_prime" "is_prime" (defArgs s_is_prime) (defBody s_is_prime) (defScope s_is_prime) .none kV13 dc13 pm13 an13 cd13 ct13), sl13⟩)
    (c13 : PySem.W.codeIn K cd13 "is_prime" = true)
    (k13 : PySem.W.keepIn K (.ref f13) = true)
    (a14 : PySem.W.nsIn K mainGlobals "tells_ground" = some (some (.ref f14)))
    (l14 : K.lookup f14 = some ⟨oc14, od14, .func (PySem.W.fnOf "tells_ground" "tells_ground" (defArgs s_tells_ground) (defBody s_tells_ground) (defScope s_tells_ground) .none kV14 dc14 pm14 an14 cd14 ct14), sl14⟩)
    (c14 : PySem.W.codeIn K cd14 "tells_ground" = true)
    (k14 : PySem.W.keepIn K (.ref f14) = true)
    (a15 : PySem.W.nsIn K mainGlobals "is_fraction" = some (some (.ref f15)))
    (l15 : K.lookup f15 = some ⟨oc15, od15, .func (PySem.W.fnOf "is_fraction" "is_fraction" (defArgs s_is_fraction) (defBody s_is_fraction) (defScope s_is_fraction) .none kV15 dc15 pm15 an15 cd15 ct15), sl15⟩)
    (c15 : PySem.W.codeIn K cd15 "is_fraction" = true)
    (k15 : PySem.W.keepIn K (.ref f15) = true)
    (a16 : PySem.W.nsIn K mainGlobals "is_row" = some (some (.ref f16)))
    (l16 : K.lookup f16 = some ⟨oc16, od16, .func (PySem.W.fnOf "is_row" "is_row" (defArgs s_is_row) (defBody s_is_row) (defScope s_is_row) .none kV16 dc16 pm16 an16 cd16 ct16), sl16⟩)
    (c16 : PySem.W.codeIn K cd16 "is_row" = true)
    (k16 : PySem.W.keepIn K (.ref f16) = true)
    (a17 : PySem.W.nsIn K mainGlobals "is_table" = some (some (.ref f17)))
    (l17 : K.lookup f17 = some ⟨oc17, od17, .func (PySem.W.fnOf "is_table" "is_table" (defArgs s_is_table) (defBody s_is_table) (defScope s_is_table) .none kV17 dc17 pm17 an17 cd17 ct17), sl17⟩)
    (c17 : PySem.W.codeIn K cd17 "is_table" = true)
    (k17 : PySem.W.keepIn K (.ref f17) = true)
    (a18 : PySem.W.nsIn K mainGlobals "are_sizes" = some (some (.ref f18)))
    (l18 : K.lookup f18 = some ⟨oc18, od18, .func (PySem.W.fnOf "are_sizes" "are_sizes" (defArgs s_are_sizes) (defBody s_are_sizes) (defScope s_are_sizes) .none kV18 dc18 pm18 an18 cd18 ct18), sl18⟩)
    (c18 : PySem.W.codeIn K cd18 "are_sizes" = true)
    (k18 : PySem.W.keepIn K (.ref f18) = true)
    (a19 : PySem.W.nsIn K mainGlobals "is_table_of" = some (some (.ref f19)))
    (l19 : K.lookup f19 = some ⟨oc19, od19, .func (PySem.W.fnOf "is_table_of" "is_table_of" (defArgs s_is_table_of) (defBody s_is_table_of) (defScope s_is_table_of) .none kV19 dc19 pm19 an19 cd19 ct19), sl19⟩)
    (c19 : PySem.W.codeIn K cd19 "is_table_of" = true)
    (k19 : PySem.W.keepIn K (.ref f19) = true)
    (a20 : PySem.W.nsIn K mainGlobals "are_tables" = some (some (.ref f20)))
    (l20 : K.lookup f20 = some ⟨oc20, od20, .func (PySem.W.fnOf "are_tables" "are_tables" (defArgs s_are_tables) (defBody s_are_tables) (defScope s_are_tables) .none kV20 dc20 pm20 an20 cd20 ct20), sl20⟩)
    (c20 : PySem.W.codeIn K cd20 "are_tables" = true)
    (k20 : PySem.W.keepIn K (.ref f20) = true)
    (a21 : PySem.W.nsIn K mainGlobals "_law_low" = some (some (.ref f21)))
    (l21 : K.lookup f21 = some ⟨oc21, od21, .func (PySem.W.fnOf "_law_low" "_law_low" (defArgs s_law_low) (defBody s_law_low) (defScope s_law_low) .none kV21 dc21 pm21 an21 cd21 ct21), sl21⟩)
    (c21 : PySem.W.codeIn K cd21 "_law_low" = true)
    (k21 : PySem.W.keepIn K (.ref f21) = true)
    (a22 : PySem.W.nsIn K mainGlobals "_law_number" = some (some (.ref f22)))
    (l22 : K.lookup f22 = some ⟨oc22, od22, .func (PySem.W.fnOf "_law_number" "_law_number" (defArgs s_law_number) (defBody s_law_number) (defScope s_law_number) .none kV22 dc22 pm22 an22 cd22 ct22), sl22⟩)
    (c22 : PySem.W.codeIn K cd22 "_law_number" = true)
    (k22 : PySem.W.keepIn K (.ref f22) = true)
    (a23 : PySem.W.nsIn K mainGlobals "_law_whole" = some (some (.ref f23)))
    (l23 : K.lookup f23 = some ⟨oc23, od23, .func (PySem.W.fnOf "_law_whole" "_law_whole" (defArgs s_law_whole) (defBody s_law_whole) (defScope s_law_whole) .none kV23 dc23 pm23 an23 cd23 ct23), sl23⟩)
    (c23 : PySem.W.codeIn K cd23 "_law_whole" = true)
    (k23 : PySem.W.keepIn K (.ref f23) = true)
    (a24 : PySem.W.nsIn K mainGlobals "_law_sizes" = some (some (.ref f24)))
    (l24 : K.lookup f24 = some ⟨oc24, od24, .func (PySem.W.fnOf "_law_sizes" "_law_sizes" (defArgs s_law_sizes) (defBody s_law_sizes) (defScope s_law_sizes) .none kV24 dc24 pm24 an24 cd24 ct24), sl24⟩)
    (c24 : PySem.W.codeIn K cd24 "_law_sizes" = true)
    (k24 : PySem.W.keepIn K (.ref f24) = true)
    (a25 : PySem.W.nsIn K mainGlobals "_law_table" = some (some (.ref f25)))
    (l25 : K.lookup f25 = some ⟨oc25, od25, .func (PySem.W.fnOf "_law_table" "_law_table" (defArgs s_law_table) (defBody s_law_table) (defScope s_law_table) .none kV25 dc25 pm25 an25 cd25 ct25), sl25⟩)
    (c25 : PySem.W.codeIn K cd25 "_law_table" = true)
    (k25 : PySem.W.keepIn K (.ref f25) = true)
    (a26 : PySem.W.nsIn K mainGlobals "_law_tables" = some (some (.ref f26)))
    (l26 : K.lookup f26 = some ⟨oc26, od26, .func (PySem.W.fnOf "_law_tables" "_law_tables" (defArgs s_law_tables) (defBody s_law_tables) (defScope s_law_tables) .none kV26 dc26 pm26 an26 cd26 ct26), sl26⟩)
    (c26 : PySem.W.codeIn K cd26 "_law_tables" = true)
    (k26 : PySem.W.keepIn K (.ref f26) = true)
    (a27 : PySem.W.nsIn K mainGlobals "_law_lent" = some (some (.ref f27)))
    (l27 : K.lookup f27 = some ⟨oc27, od27, .func (PySem.W.fnOf "_law_lent" "_law_lent" (defArgs s_law_lent) (defBody s_law_lent) (defScope s_law_lent) .none kV27 dc27 pm27 an27 cd27 ct27), sl27⟩)
    (c27 : PySem.W.codeIn K cd27 "_law_lent" = true)
    (k27 : PySem.W.keepIn K (.ref f27) = true)
    (a28 : PySem.W.nsIn K mainGlobals "_law_bad_table" = some (some (.ref f28)))
    (l28 : K.lookup f28 = some ⟨oc28, od28, .func (PySem.W.fnOf "_law_bad_table" "_law_bad_table" (defArgs s_law_bad_table) (defBody s_law_bad_table) (defScope s_law_bad_table) .none kV28 dc28 pm28 an28 cd28 ct28), sl28⟩)
    (c28 : PySem.W.codeIn K cd28 "_law_bad_table" = true)
    (k28 : PySem.W.keepIn K (.ref f28) = true)
    (a29 : PySem.W.nsIn K mainGlobals "_law_spoiled" = some (some (.ref f29)))
    (l29 : K.lookup f29 = some ⟨oc29, od29, .func (PySem.W.fnOf "_law_spoiled" "_law_spoiled" (defArgs s_law_spoiled) (defBody s_law_spoiled) (defScope s_law_spoiled) .none kV29 dc29 pm29 an29 cd29 ct29), sl29⟩)
    (c29 : PySem.W.codeIn K cd29 "_law_spoiled" = true)
    (k29 : PySem.W.keepIn K (.ref f29) = true)
    (a30 : PySem.W.nsIn K mainGlobals "_law_strange" = some (some (.ref f30)))
    (l30 : K.lookup f30 = some ⟨oc30, od30, .func (PySem.W.fnOf "_law_strange" "_law_strange" (defArgs s_law_strange) (defBody s_law_strange) (defScope s_law_strange) .none kV30 dc30 pm30 an30 cd30 ct30), sl30⟩)
    (c30 : PySem.W.codeIn K cd30 "_law_strange" = true)
    (k30 : PySem.W.keepIn K (.ref f30) = true)
    (a31 : PySem.W.nsIn K mainGlobals "_law_word" = some (some (.ref f31)))
    (l31 : K.lookup f31 = some ⟨oc31, od31, .func (PySem.W.fnOf "_law_word" "_law_word" (defArgs s_law_word) (defBody s_law_word) (defScope s_law_word) .none kV31 dc31 pm31 an31 cd31 ct31), sl31⟩)
    (c31 : PySem.W.codeIn K cd31 "_law_word" = true)
    (k31 : PySem.W.keepIn K (.ref f31) = true)
    (a32 : PySem.W.nsIn K mainGlobals "_law_refused" = some (some (.ref f32)))
    (l32 : K.lookup f32 = some ⟨oc32, od32, .func (PySem.W.fnOf "_law_refused" "_law_refused" (defArgs s_law_refused) (defBody s_law_refused) (defScope s_law_refused) .none kV32 dc32 pm32 an32 cd32 ct32), sl32⟩)
    (c32 : PySem.W.codeIn K cd32 "_law_refused" = true)
    (k32 : PySem.W.keepIn K (.ref f32) = true)
    (a33 : PySem.W.nsIn K mainGlobals "law" = some (some (.ref f33)))
    (l33 : K.lookup f33 = some ⟨oc33, od33, .func (PySem.W.fnOf "law" "law" (defArgs s_law) (defBody s_law) (defScope s_law) .none kV33 dc33 pm33 an33 cd33 ct33), sl33⟩)
    (c33 : PySem.W.codeIn K cd33 "law" = true)
    (k33 : PySem.W.keepIn K (.ref f33) = true)
    (aC : PySem.W.nsIn K mainGlobals "Drawing" = some (some (.ref C)))
    (a34 : PySem.W.findIn K (.ref C) "__init__" = some (some (.ref f34)))
    (i34 : PySem.W.isFn K (.ref f34) = true)
    (l34 : K.lookup f34 = some ⟨oc34, od34, .func (PySem.W.fnOf "__init__" "Drawing.__init__" (defArgs s_Drawing_init) (defBody s_Drawing_init) (defScope s_Drawing_init) .none kV34 dc34 pm34 an34 cd34 ct34), sl34⟩)
    (c34 : PySem.W.codeIn K cd34 "Drawing.__init__" = true)
    (k34 : PySem.W.keepIn K (.ref f34) = true)
    (pg : PySem.W.plainGet K C Str.empty = true)
    (hd : PySem.W.hasDictIn K C = true)
    (po : PySem.W.plainOver K C = true)
    (sa : PySem.W.findIn K (.ref C) "__setattr__" = some (some (.builtin "object.__setattr__")))
    (mk : PySem.W.makesIn K C = true)
    (kc : PySem.W.keepIn K (.ref C) = true)
    (nM : PySem.W.findIn K (.ref C) "many" = some none)
    (nA : PySem.W.findIn K (.ref C) "arrows" = some none)
    (aCg : PySem.W.nsIn K mainGlobals "Ground" = some (some (.ref Cg)))
    (a35 : PySem.W.findIn K (.ref Cg) "__init__" = some (some (.ref f35)))
    (i35 : PySem.W.isFn K (.ref f35) = true)
    (l35 : K.lookup f35 = some ⟨oc35, od35, .func (PySem.W.fnOf "__init__" "Ground.__init__" (defArgs s_Ground_init) (defBody s_Ground_init) (defScope s_Ground_init) .none kV35 dc35 pm35 an35 cd35 ct35), sl35⟩)
    (c35 : PySem.W.codeIn K cd35 "Ground.__init__" = true)
    (k35 : PySem.W.keepIn K (.ref f35) = true)
    (a36 : PySem.W.findIn K (.ref Cg) "is_number" = some (some (.ref f36)))
    (i36 : PySem.W.isFn K (.ref f36) = true)
    (l36 : K.lookup f36 = some ⟨oc36, od36, .func (PySem.W.fnOf "is_number" "Ground.is_number" (defArgs s_Ground_is_number) (defBody s_Ground_is_number) (defScope s_Ground_is_number) .none kV36 dc36 pm36 an36 cd36 ct36), sl36⟩)
    (c36 : PySem.W.codeIn K cd36 "Ground.is_number" = true)
    (k36 : PySem.W.keepIn K (.ref f36) = true)
    (pg_Cg : PySem.W.plainGet K Cg Str.empty = true)
    (hd_Cg : PySem.W.hasDictIn K Cg = true)
    (po_Cg : PySem.W.plainOver K Cg = true)
    (sa_Cg : PySem.W.findIn K (.ref Cg) "__setattr__" = some (some (.builtin "object.__setattr__")))
    (mk_Cg : PySem.W.makesIn K Cg = true)
    (kc_Cg : PySem.W.keepIn K (.ref Cg) = true)
    (nP : PySem.W.findIn K (.ref Cg) "prime" = some none)
    (aCs : PySem.W.nsIn K mainGlobals "Standing" = some (some (.ref Cs)))
    (a37 : PySem.W.findIn K (.ref Cs) "__init__" = some (some (.ref f37)))
    (i37 : PySem.W.isFn K (.ref f37) = true)
    (l37 : K.lookup f37 = some ⟨oc37, od37, .func (PySem.W.fnOf "__init__" "Standing.__init__" (defArgs s_Standing_init) (defBody s_Standing_init) (defScope s_Standing_init) .none kV37 dc37 pm37 an37 cd37 ct37), sl37⟩)
    (c37 : PySem.W.codeIn K cd37 "Standing.__init__" = true)
    (k37 : PySem.W.keepIn K (.ref f37) = true)
    (pg_Cs : PySem.W.plainGet K Cs Str.empty = true)
    (hd_Cs : PySem.W.hasDictIn K Cs = true)
    (po_Cs : PySem.W.plainOver K Cs = true)
    (sa_Cs : PySem.W.findIn K (.ref Cs) "__setattr__" = some (some (.builtin "object.__setattr__")))
    (mk_Cs : PySem.W.makesIn K Cs = true)
    (kc_Cs : PySem.W.keepIn K (.ref Cs) = true)
    (nSg : PySem.W.findIn K (.ref Cs) "ground" = some none)
    (nSd : PySem.W.findIn K (.ref Cs) "drawing" = some none)
    (nSs : PySem.W.findIn K (.ref Cs) "sizes" = some none)
    (nSt : PySem.W.findIn K (.ref Cs) "tables" = some none)
    (g1 : PySem.W.nsIn K mainGlobals "MOST_POINTS" = some (some (.int 8 t1)))
    (g2 : PySem.W.nsIn K mainGlobals "MOST_ARROWS" = some (some (.int 9 t2)))
    (g3 : PySem.W.nsIn K mainGlobals "LARGEST_PRIME" = some (some (.int 97 t3)))
    (g4 : PySem.W.nsIn K mainGlobals "LONG" = some (some (.int 4000 t4)))
    (z0 : PySem.W.nsIn K mainGlobals "len" = some none)
    (z1 : PySem.W.nsIn K mainGlobals "range" = some none)
    (z2 : PySem.W.nsIn K mainGlobals "list" = some none)
    (z3 : PySem.W.nsIn K mainGlobals "min" = some none)
    (z4 : PySem.W.nsIn K mainGlobals "int" = some none)
    (z5 : PySem.W.nsIn K mainGlobals "bool" = some none)
    (z6 : PySem.W.nsIn K mainGlobals "tuple" = some none)
    (z7 : PySem.W.nsIn K mainGlobals "all" = some none)
    (z8 : PySem.W.nsIn K mainGlobals "isinstance" = some none)
    (z9 : PySem.W.nsIn K mainGlobals "abs" = some none)
    (z10 : PySem.W.nsIn K mainGlobals "zip" = some none)
    (z11 : PySem.W.nsIn K mainGlobals "ValueError" = some none)
    (a_LimbError : PySem.W.nsIn K mainGlobals "LimbError" = some (some (.ref x_LimbError)))
    (a_NoGround : PySem.W.nsIn K mainGlobals "NoGround" = some (some (.ref x_NoGround)))
    (a_NoNumber : PySem.W.nsIn K mainGlobals "NoNumber" = some (some (.ref x_NoNumber)))
    (a_NoTable : PySem.W.nsIn K mainGlobals "NoTable" = some (some (.ref x_NoTable)))
    (a_NoDrawing : PySem.W.nsIn K mainGlobals "NoDrawing" = some (some (.ref x_NoDrawing)))
    (a_NoKind : PySem.W.nsIn K mainGlobals "NoKind" = some (some (.ref x_NoKind)))
    (a_NoStanding : PySem.W.nsIn K mainGlobals "NoStanding" = some (some (.ref x_NoStanding)))
    (a_NoChange : PySem.W.nsIn K mainGlobals "NoChange" = some (some (.ref x_NoChange)))
    (a_NoMirror : PySem.W.nsIn K mainGlobals "NoMirror" = some (some (.ref x_NoMirror)))
    (a_NoRoot : PySem.W.nsIn K mainGlobals "NoRoot" = some (some (.ref x_NoRoot)))
    (a_NoText : PySem.W.nsIn K mainGlobals "NoText" = some (some (.ref x_NoText)))
    (a_NoRow : PySem.W.nsIn K mainGlobals "NoRow" = some (some (.ref x_NoRow)))
    (a_NoName : PySem.W.nsIn K mainGlobals "NoName" = some (some (.ref x_NoName)))
    (e_LimbError : PySem.W.excIn K x_LimbError [.type "ValueError", .type "Exception", .type "BaseException", .type "object"] "ValueError.__new__" = true)
    (e_NoStanding : PySem.W.excIn K x_NoStanding [.type "ValueError", .type "Exception", .type "BaseException", .type "object"] "ValueError.__new__" = true)
    (m_R : PySem.W.mroIn K x_NoStanding (.ref x_LimbError) = some true)
    (n_R : x_NoStanding ≠ x_LimbError)
    (y_ga : PySem.W.findIn K (.ref x_NoStanding) "__getattribute__" = some (some (.builtin "BaseException.__getattribute__")))
    (y_gt : PySem.W.findIn K (.ref x_NoStanding) "__getattr__" = some none)
    (y_cl : PySem.W.findIn K (.ref x_NoStanding) "__class__" = some (some (.builtin "object.__class__")))
    (y_so : PySem.W.mroIn K x_NoStanding (.type "object") = some true)
    (y_sb : PySem.W.mroIn K x_NoStanding (.type "BaseException") = some true)
    (y_t1 : PySem.W.kitAny K (.ref x_NoStanding) [.ref x_NoGround, .ref x_NoNumber, .ref x_NoTable, .ref x_NoDrawing, .ref x_NoKind, .ref x_NoChange, .ref x_NoMirror] = some false)
    (y_t2 : PySem.W.kitAny K (.ref x_NoStanding) [.ref x_NoRoot, .ref x_NoText, .ref x_NoRow, .ref x_NoName] = some false)
    (y_v : PySem.W.kitOne K (.ref x_NoStanding) (.type "ValueError") = some true) :
    ∃ fd : FuncData, (∀ (s : Shared) (v : Value), BindsTo s fd ⟨[v], []⟩ [("_law_script", v)]) ∧ ∀ base : Heap, K.In base → base.Ns mainGlobals mg → FnOk l.prog w K mg base CX0 12 fa fd ["_law_script"] (spLaw K) := by
  have e := hfa.symm.trans (PySem.W.mg_of X G a33)
  cases e
  have T : Txt K mg C Cg Cs := ⟨⟨pg, hd, po, sa⟩, nM, nA, ⟨pg_Cg, hd_Cg, po_Cg, sa_Cg⟩, nP, ⟨pg_Cs, hd_Cs, po_Cs, sa_Cs⟩, nSg, nSd, nSs, nSt, PySem.W.mg_none_of X G z0, PySem.W.mg_none_of X G z1, PySem.W.mg_none_of X G z2, PySem.W.mg_none_of X G z3, PySem.W.mg_none_of X G z4, PySem.W.mg_none_of X G z5, PySem.W.mg_none_of X G z6, PySem.W.mg_none_of X G z7, PySem.W.mg_none_of X G z8, PySem.W.mg_none_of X G z9, PySem.W.mg_none_of X G z10, PySem.W.mg_none_of X G z11, ⟨t1, PySem.W.mg_of X G g1⟩, ⟨t2, PySem.W.mg_of X G g2⟩, ⟨t3, PySem.W.mg_of X G g3⟩, ⟨t4, PySem.W.mg_of X G g4⟩⟩
  have F1 := fun_mk (st := s_is_whole) l1 c1 k1
  have b1 := F1.binds (ps := ["thing"]) fun _ _ _ _ _ _ us hl => match us, hl with | [_], _ => rfl
  have F2 := fun_mk (st := s_makes_drawing) l2 c2 k2
  have b2 := F2.binds (ps := ["many", "arrows"]) fun _ _ _ _ _ _ us hl => match us, hl with | [_, _], _ => rfl
  have F3 := fun_mk (st := s_is_arrow) l3 c3 k3
  have b3 := F3.binds (ps := ["many", "thing"]) fun _ _ _ _ _ _ us hl => match us, hl with | [_, _], _ => rfl
  have F4 := fun_mk (st := s_law_cell) l4 c4 k4
  have b4 := F4.binds (ps := ["_law_script", "_law_k"]) fun _ _ _ _ _ _ us hl => match us, hl with | [_, _], _ => rfl
  have F5 := fun_mk (st := s_law_bag) l5 c5 k5
  have b5 := F5.binds (ps := ["_law_cell_here"]) fun _ _ _ _ _ _ us hl => match us, hl with | [_], _ => rfl
  have F6 := fun_mk (st := s_law_draw) l6 c6 k6
  have b6 := F6.binds (ps := ["_law_bag_here", "_law_many"]) fun _ _ _ _ _ _ us hl => match us, hl with | [_, _], _ => rfl
  have F7 := fun_mk (st := s_law_order) l7 c7 k7
  have b7 := F7.binds (ps := ["_law_bag_here", "_law_many"]) fun _ _ _ _ _ _ us hl => match us, hl with | [_, _], _ => rfl
  have F8 := fun_mk (st := s_law_rest_edges) l8 c8 k8
  have b8 := F8.binds (ps := ["_law_bag_here", "_law_way"]) fun _ _ _ _ _ _ us hl => match us, hl with | [_, _], _ => rfl
  have F9 := fun_mk (st := s_law_bad_edges) l9 c9 k9
  have b9 := F9.binds (ps := ["_law_bag_here"]) fun _ _ _ _ _ _ us hl => match us, hl with | [_], _ => rfl
  have F10 := fun_mk (st := s_law_edges) l10 c10 k10
  have b10 := F10.binds (ps := ["_law_bag_here", "_law_way"]) fun _ _ _ _ _ _ us hl => match us, hl with | [_, _], _ => rfl
  have F11 := fun_mk (st := s_law_drawn) l11 c11 k11
  have b11 := F11.binds (ps := ["_law_bag_here", "_law_way"]) fun _ _ _ _ _ _ us hl => match us, hl with | [_, _], _ => rfl
  have F12 := fun_mk (st := s_common_divisor) l12 c12 k12
  have b12 := F12.binds (ps := ["one", "other"]) fun _ _ _ _ _ _ us hl => match us, hl with | [_, _], _ => rfl
  have F13 := fun_mk (st := s_is_prime) l13 c13 k13
  have b13 := F13.binds (ps := ["number"]) fun _ _ _ _ _ _ us hl => match us, hl with | [_], _ => rfl
  have F14 := fun_mk (st := s_tells_ground) l14 c14 k14
  have b14 := F14.binds (ps := ["thing"]) fun _ _ _ _ _ _ us hl => match us, hl with | [_], _ => rfl
  have F15 := fun_mk (st := s_is_fraction) l15 c15 k15
  have b15 := F15.binds (ps := ["thing"]) fun _ _ _ _ _ _ us hl => match us, hl with | [_], _ => rfl
  have F16 := fun_mk (st := s_is_row) l16 c16 k16
  have b16 := F16.binds (ps := ["ground", "wide", "thing"]) fun _ _ _ _ _ _ us hl => match us, hl with | [_, _, _], _ => rfl
  have F17 := fun_mk (st := s_is_table) l17 c17 k17
  have b17 := F17.binds (ps := ["ground", "thing"]) fun _ _ _ _ _ _ us hl => match us, hl with | [_, _], _ => rfl
  have F18 := fun_mk (st := s_are_sizes) l18 c18 k18
  have b18 := F18.binds (ps := ["drawing", "thing"]) fun _ _ _ _ _ _ us hl => match us, hl with | [_, _], _ => rfl
  have F19 := fun_mk (st := s_is_table_of) l19 c19 k19
  have b19 := F19.binds (ps := ["ground", "high", "wide", "thing"]) fun _ _ _ _ _ _ us hl => match us, hl with | [_, _, _, _], _ => rfl
  have F20 := fun_mk (st := s_are_tables) l20 c20 k20
  have b20 := F20.binds (ps := ["ground", "drawing", "sizes", "thing"]) fun _ _ _ _ _ _ us hl => match us, hl with | [_, _, _, _], _ => rfl
  have F21 := fun_mk (st := s_law_low) l21 c21 k21
  have b21 := F21.binds (ps := ["_law_top", "_law_bottom"]) fun _ _ _ _ _ _ us hl => match us, hl with | [_, _], _ => rfl
  have F22 := fun_mk (st := s_law_number) l22 c22 k22
  have b22 := F22.binds (ps := ["_law_bag_here", "_law_p"]) fun _ _ _ _ _ _ us hl => match us, hl with | [_, _], _ => rfl
  have F23 := fun_mk (st := s_law_whole) l23 c23 k23
  have b23 := F23.binds (ps := ["_law_p", "_law_k"]) fun _ _ _ _ _ _ us hl => match us, hl with | [_, _], _ => rfl
  have F24 := fun_mk (st := s_law_sizes) l24 c24 k24
  have b24 := F24.binds (ps := ["_law_bag_here", "_law_many", "_law_most"]) fun _ _ _ _ _ _ us hl => match us, hl with | [_, _, _], _ => rfl
  have F25 := fun_mk (st := s_law_table) l25 c25 k25
  have b25 := F25.binds (ps := ["_law_bag_here", "_law_p", "_law_high", "_law_wide"]) fun _ _ _ _ _ _ us hl => match us, hl with | [_, _, _, _], _ => rfl
  have F26 := fun_mk (st := s_law_tables) l26 c26 k26
  have b26 := F26.binds (ps := ["_law_bag_here", "_law_p", "_law_arrows", "_law_sizes_here"]) fun _ _ _ _ _ _ us hl => match us, hl with | [_, _, _, _], _ => rfl
  have F27 := fun_mk (st := s_law_lent) l27 c27 k27
  have b27 := F27.binds (ps := ["_law_tables_here"]) fun _ _ _ _ _ _ us hl => match us, hl with | [_], _ => rfl
  have F28 := fun_mk (st := s_law_bad_table) l28 c28 k28
  have b28 := F28.binds (ps := ["_law_bag_here", "_law_p", "_law_table_here", "_law_way"]) fun _ _ _ _ _ _ us hl => match us, hl with | [_, _, _, _], _ => rfl
  have F29 := fun_mk (st := s_law_spoiled) l29 c29 k29
  have b29 := F29.binds (ps := ["_law_bag_here", "_law_p", "_law_arrows", "_law_sizes_here", "_law_tables_here"]) fun _ _ _ _ _ _ us hl => match us, hl with | [_, _, _, _, _], _ => rfl
  have F30 := fun_mk (st := s_law_strange) l30 c30 k30
  have b30 := F30.binds (ps := ["_law_bag_here", "_law_sizes_here", "_law_tables_here"]) fun _ _ _ _ _ _ us hl => match us, hl with | [_, _, _], _ => rfl
  have F31 := fun_mk (st := s_law_word) l31 c31 k31
  have b31 := F31.binds (ps := ["_law_e"]) fun _ _ _ _ _ _ us hl => match us, hl with | [_], _ => rfl
  have F32 := fun_mk (st := s_law_refused) l32 c32 k32
  have b32 := F32.binds (ps := ["_law_ground", "_law_drawing", "_law_sizes_here", "_law_tables_here"]) fun _ _ _ _ _ _ us hl => match us, hl with | [_, _, _, _], _ => rfl
  have F33 := fun_mk (st := s_law) l33 c33 k33
  have F34 := fun_mk (st := s_Drawing_init) l34 c34 k34
  have b34 := F34.binds (ps := ["self", "many", "arrows"]) fun _ _ _ _ _ _ us hl => match us, hl with | [_, _, _], _ => rfl
  have F35 := fun_mk (st := s_Ground_init) l35 c35 k35
  have b35 := F35.binds (ps := ["self", "prime"]) fun _ _ _ _ _ _ us hl => match us, hl with | [_, _], _ => rfl
  have F36 := fun_mk (st := s_Ground_is_number) l36 c36 k36
  have b36 := F36.binds (ps := ["self", "thing"]) fun _ _ _ _ _ _ us hl => match us, hl with | [_, _], _ => rfl
  have F37 := fun_mk (st := s_Standing_init) l37 c37 k37
  have b37 := F37.binds (ps := ["self", "ground", "drawing", "sizes", "tables"]) fun _ _ _ _ _ _ us hl => match us, hl with | [_, _, _, _, _], _ => rfl
  refine ⟨PySem.W.fnOf "law" "law" (defArgs s_law) (defBody s_law) (defScope s_law) .none kV33 dc33 pm33 an33 cd33 ct33, fun s v => .of_eq rfl, fun base KB _ => ?_⟩
  have XT : Xt K mg base ⟨x_LimbError, x_NoGround, x_NoNumber, x_NoTable, x_NoDrawing, x_NoKind, x_NoStanding, x_NoChange, x_NoMirror, x_NoRoot, x_NoText, x_NoRow, x_NoName⟩ := ⟨PySem.W.mg_of X G a_LimbError, PySem.W.mg_of X G a_NoGround, PySem.W.mg_of X G a_NoNumber, PySem.W.mg_of X G a_NoTable, PySem.W.mg_of X G a_NoDrawing, PySem.W.mg_of X G a_NoKind, PySem.W.mg_of X G a_NoStanding, PySem.W.mg_of X G a_NoChange, PySem.W.mg_of X G a_NoMirror, PySem.W.mg_of X G a_NoRoot, PySem.W.mg_of X G a_NoText, PySem.W.mg_of X G a_NoRow, PySem.W.mg_of X G a_NoName, own_cls KB (PySem.W.mg_of X G a_LimbError) e_LimbError, own_cls KB (PySem.W.mg_of X G a_NoStanding) e_NoStanding, own_under KB e_NoStanding m_R n_R, ⟨y_ga, y_gt, y_cl, y_so, y_sb⟩, cls_of_mro y_so, y_t1, y_t2, y_v⟩
  have C1 : Cal l.prog w K mg base "is_whole" 1 spWhole := ⟨_, _, _, ok_whole F1 T , PySem.W.mg_of X G a1, k1, b1⟩
  have C1A : Cal l.prog w K mg base "is_whole" 1 spWholeA := ⟨_, _, _, ok_wholeA F1 T , PySem.W.mg_of X G a1, k1, b1⟩
  have C3 : Cal l.prog w K mg base "is_arrow" 2 spArrow := ⟨_, _, _, ok_arrow F3 T C1, PySem.W.mg_of X G a3, k3, b3⟩
  have C2 : Cal l.prog w K mg base "makes_drawing" 3 spMakes := ⟨_, _, _, ok_makes F2 T C1 C3, PySem.W.mg_of X G a2, k2, b2⟩
  have C34 : CalI l.prog w K mg base "Drawing" C 4 (spInit C) := ⟨_, _, _, ok_init F34 T C2, ⟨mk, a34, i34, kc⟩, PySem.W.mg_of X G aC, b34⟩
  have C12 : Cal l.prog w K mg base "common_divisor" 1 spCd := ⟨_, _, _, ok_cd F12 T , PySem.W.mg_of X G a12, k12, b12⟩
  have C13 : Cal l.prog w K mg base "is_prime" 1 spPrime := ⟨_, _, _, ok_prime F13 T , PySem.W.mg_of X G a13, k13, b13⟩
  have C14 : Cal l.prog w K mg base "tells_ground" 2 spTells := ⟨_, _, _, ok_tells F14 T C1 C13, PySem.W.mg_of X G a14, k14, b14⟩
  have C15 : Cal l.prog w K mg base "is_fraction" 2 spFr := ⟨_, _, _, ok_fr F15 T C1A C12, PySem.W.mg_of X G a15, k15, b15⟩
  have C35 : CalI l.prog w K mg base "Ground" Cg 3 (spGInit Cg) := ⟨_, _, _, ok_ginit F35 T C14, ⟨mk_Cg, a35, i35, kc_Cg⟩, PySem.W.mg_of X G aCg, b35⟩
  have C36 : CalM l.prog w K mg base Cg "is_number" 3 (spIsN Cg) := ⟨_, _, _, ok_isn F36 T C1A C15, ⟨a36, i36, k36⟩, b36⟩
  have C16 : Cal l.prog w K mg base "is_row" 4 (spRowI Cg) := ⟨_, _, _, ok_isrow F16 T C36, PySem.W.mg_of X G a16, k16, b16⟩
  have C17 : Cal l.prog w K mg base "is_table" 5 (spTabI Cg) := ⟨_, _, _, ok_istab F17 T C1A C16, PySem.W.mg_of X G a17, k17, b17⟩
  have C18 : Cal l.prog w K mg base "are_sizes" 2 (spSz C) := ⟨_, _, _, ok_sz F18 T C1A, PySem.W.mg_of X G a18, k18, b18⟩
  have C19 : Cal l.prog w K mg base "is_table_of" 6 (spTo Cg) := ⟨_, _, _, ok_to F19 T C17, PySem.W.mg_of X G a19, k19, b19⟩
  have C20 : Cal l.prog w K mg base "are_tables" 7 (spTs C Cg) := ⟨_, _, _, ok_ts F20 T C19, PySem.W.mg_of X G a20, k20, b20⟩
  have C37 : CalIE l.prog w K mg base "Standing" Cs 8 (spSI Cs C Cg (⟨x_LimbError, x_NoGround, x_NoNumber, x_NoTable, x_NoDrawing, x_NoKind, x_NoStanding, x_NoChange, x_NoMirror, x_NoRoot, x_NoText, x_NoRow, x_NoName⟩ : Pf.Cs).NoStanding) := ⟨_, _, _, ok_sinit F37 T XT C18 C20, ⟨mk_Cs, a37, i37, kc_Cs⟩, PySem.W.mg_of X G aCs, b37⟩
  have C4 : Cal l.prog w K mg base "_law_cell" 1 (spCell K) := ⟨_, _, _, ok_cell F4 T , PySem.W.mg_of X G a4, k4, b4⟩
  have C5 : Cal l.prog w K mg base "_law_bag" 1 spBag := ⟨_, _, _, ok_bag F5 T , PySem.W.mg_of X G a5, k5, b5⟩
  have C6 : Cal l.prog w K mg base "_law_draw" 1 spDraw := ⟨_, _, _, ok_draw F6 T , PySem.W.mg_of X G a6, k6, b6⟩
  have C7 : Cal l.prog w K mg base "_law_order" 2 spOrder := ⟨_, _, _, ok_order F7 T C6, PySem.W.mg_of X G a7, k7, b7⟩
  have C8 : Cal l.prog w K mg base "_law_rest_edges" 2 (spOut way1) := ⟨_, _, _, ok_rest F8 T C6, PySem.W.mg_of X G a8, k8, b8⟩
  have C9 : Cal l.prog w K mg base "_law_bad_edges" 2 (spOut way0) := ⟨_, _, _, ok_bad F9 T C6, PySem.W.mg_of X G a9, k9, b9⟩
  have C10 : Cal l.prog w K mg base "_law_edges" 3 (spOut way1) := ⟨_, _, _, ok_edges F10 T C6 C9 C8, PySem.W.mg_of X G a10, k10, b10⟩
  have C11 : Cal l.prog w K mg base "_law_drawn" 4 (spOut way1) := ⟨_, _, _, ok_drawn F11 T C6 C10 C7, PySem.W.mg_of X G a11, k11, b11⟩
  have C21 : Cal l.prog w K mg base "_law_low" 1 spFrac := ⟨_, _, _, ok_low F21 T , PySem.W.mg_of X G a21, k21, b21⟩
  have C22 : Cal l.prog w K mg base "_law_number" 3 spNum := ⟨_, _, _, ok_lnum F22 T C6 C21, PySem.W.mg_of X G a22, k22, b22⟩
  have C23 : Cal l.prog w K mg base "_law_whole" 1 spInt := ⟨_, _, _, ok_lint F23 T , PySem.W.mg_of X G a23, k23, b23⟩
  have C24 : Cal l.prog w K mg base "_law_sizes" 2 spSizes := ⟨_, _, _, ok_lsz F24 T C6, PySem.W.mg_of X G a24, k24, b24⟩
  have C25 : Cal l.prog w K mg base "_law_table" 4 spTb := ⟨_, _, _, ok_tb F25 T C6 C22 C23, PySem.W.mg_of X G a25, k25, b25⟩
  have C26 : Cal l.prog w K mg base "_law_tables" 5 spTbs := ⟨_, _, _, ok_tbs F26 T C25, PySem.W.mg_of X G a26, k26, b26⟩
  have C27 : Cal l.prog w K mg base "_law_lent" 1 spLent := ⟨_, _, _, ok_lent F27 T , PySem.W.mg_of X G a27, k27, b27⟩
  have C28 : Cal l.prog w K mg base "_law_bad_table" 2 spBt := ⟨_, _, _, ok_bt F28 T C6 C23, PySem.W.mg_of X G a28, k28, b28⟩
  have C29 : Cal l.prog w K mg base "_law_spoiled" 3 spSpo := ⟨_, _, _, ok_spo F29 T C6 C28, PySem.W.mg_of X G a29, k29, b29⟩
  have C30 : Cal l.prog w K mg base "_law_strange" 2 spStr := ⟨_, _, _, ok_str F30 T C6, PySem.W.mg_of X G a30, k30, b30⟩
  have C31 : CalH l.prog w K mg base "_law_word" 1 (spWord (⟨x_LimbError, x_NoGround, x_NoNumber, x_NoTable, x_NoDrawing, x_NoKind, x_NoStanding, x_NoChange, x_NoMirror, x_NoRoot, x_NoText, x_NoRow, x_NoName⟩ : Pf.Cs).NoStanding) := ⟨_, _, _, ok_word F31 T XT, PySem.W.mg_of X G a31, k31, b31⟩
  have C32 : Cal l.prog w K mg base "_law_refused" 10 (spRefd Cs C Cg) := ⟨_, _, _, ok_refd F32 T XT C37 C31, PySem.W.mg_of X G a32, k32, b32⟩
  exact ok_law F33 T XT C4 C5 C6 C11 C24 C26 C35 C34 C37 C29 C27 C32 C30
theorem walk {l : PySem.W.OpenLaw} {q : Program} {loose : List Str} {XP : (Str → Option Value) → Heap → Prop} {YP : World → Heap → Prop} {d : DefRec} {K : Params → PySem.W.Frag} (hn : l.most = some 63) (hdf : d.params.defaults = [])
    (hY : ∀ (w : World) (h : Heap), YP w h → (K w.params).In h)
    (F : ∀ (w : World) (mg : Str → Option Value) (fa : Addr) (h : Heap), (K w.params).In h → h.Ns mainGlobals mg → mg d.name = some (.ref fa) →
      ∃ fd : FuncData, (∀ (s : Shared) (u : Value), BindsTo s fd ⟨[u], []⟩ [("_law_script", u)]) ∧ ∀ base : Heap, (K w.params).In base → base.Ns mainGlobals mg → FnOk l.prog w (K w.params) mg base CX0 12 fa fd ["_law_script"] (spLaw (K w.params))) :
    PySem.W.WalkO q loose XP YP l.row.toRowW d [] (fun f vs => PySem.call f vs) :=
  L2.walk_of (n := 63) (k := 12) (x := "_law_script") (CX := fun _ => CX0) (sp := fun w => spLaw (K w.params)) hn (by decide) hdf ⟨rfl, by decide, by decide⟩ hY F (fun _ _ a ns hl _ hS => ⟨a, ns, rfl, hS, hl, fun _ => rfl⟩) (fun _ _ _ _ _ h => h)
end Pf
def PySem.W.Fast.tw3886943340461607623 : Nat := 0
def PySem.W.Fast.tw12775917882170662149 : Nat := 0
def PySem.W.Fast.tw17233538568650443878 : Nat := 0
def PySem.W.Fast.tw12989630601492676720 : Nat := 0
def PySem.W.Fast.tw2401292291081837064 : Nat := 0
def PySem.W.Fast.tw12194802021336431987 : Nat := 0
def PySem.W.Fast.tw595505241219621611 : Nat := 0
def PySem.W.Fast.tw3244720514637744520 : Nat := 0
def PySem.W.Fast.tw10321723235074628162 : Nat := 0
def PySem.W.Fast.tw12934041550635708203 : Nat := 0
def PySem.W.Fast.tw7790850382595636714 : Nat := 0
def PySem.W.Fast.tw622562564159304733 : Nat := 0
def PySem.W.Fast.tw1041154874946364182 : Nat := 0
def PySem.W.Fast.tw9041645106330669015 : Nat := 0
def PySem.W.Fast.tw4558720087994536870 : Nat := 0
def PySem.W.Fast.tw2217608933328397346 : Nat := 0
def PySem.W.Fast.tw14262056938111554490 : Nat := 0
def PySem.W.Fast.tw6071656902879621605 : Nat := 0
def PySem.W.Fast.tw15873824630784853458 : Nat := 0
def PySem.W.Fast.tw17223777140615597088 : Nat := 0
def PySem.W.Fast.tw2198431150448156919 : Nat := 0
def PySem.W.Fast.tw15620842898813053264 : Nat := 0
def PySem.W.Fast.tw1786913267725435923 : Nat := 0
def PySem.W.Fast.tw5430443555796310351 : Nat := 0
def PySem.W.Fast.tw16228238730803471035 : Nat := 0
def PySem.W.Fast.tw1194943709819421616 : Nat := 0
def PySem.W.Fast.tw9997939198992535476 : Nat := 0
def PySem.W.Fast.tw6723159653174490486 : Nat := 0
def PySem.W.Fast.tw11034247114137161685 : Nat := 0
def PySem.W.Fast.tw15457060176508445993 : Nat := 0
def PySem.W.Fast.tw16760458656793320335 : Nat := 0
def PySem.W.Fast.tw3220162645821001176 : Nat := 0
def PySem.W.Fast.tw10713715044841663356 : Nat := 0
def PySem.W.Fast.tw224509462636640840 : Nat := 0
def PySem.W.Fast.tw15929618050483325809 : Nat := 0
def PySem.W.Fast.tw7487651678381527548 : Nat := 0
def PySem.W.Fast.tw6273954152441369897 : Nat := 0
def PySem.W.Fast.tw10352115517341952612 : Nat := 0
def PySem.W.Fast.tw2901977557992551656 : Nat := 0
def PySem.W.Fast.tw14253114093767406390 : Nat := 0
def PySem.W.Fast.tw3844696445032599319 : Nat := 0
def PySem.W.Fast.tw10466664581911700300 : Nat := 0
def PySem.W.Fast.tw1522551293840315926 : Nat := 0
def PySem.W.Fast.tw7174876655465999043 : Nat := 0
def PySem.W.Fast.tw17951018617478879720 : Nat := 0
def PySem.W.Fast.tw2825910006664460807 : Nat := 0
open PySem PySem.W PyProof.Rows
set_option maxRecDepth 100000 in
set_option maxHeartbeats 0 in
theorem PySem.Challenge.cw_limbtables_k27_standings_refused_holds : PySem.Challenge.rw_limbtables_k27_standings_refused.Holds := by
  w_on; o_law; k_head; (case hw => w_witness2)
  k_fill
  refine Pf.walk (l := PySem.Challenge.rw_limbtables_k27_standings_refused) rfl rfl (fun w h Y => by first | exact PySem.W.kIn_of Y | exact PySem.W.km_in_of Y) ?F
  case F =>
    intro w mg fa h KX G hmg
    refine' Pf.all_mk KX G hmg ?a1 ?l1 ?c1 ?k1 ?a2 ?l2 ?c2 ?k2 ?a3 ?l3 ?c3 ?k3 ?a4 ?l4 ?c4 ?k4 ?a5 ?l5 ?c5 ?k5 ?a6 ?l6 ?c6 ?k6 ?a7 ?l7 ?c7 ?k7 ?a8 ?l8 ?c8 ?k8 ?a9 ?l9 ?c9 ?k9 ?a10 ?l10 ?c10 ?k10 ?a11 ?l11 ?c11 ?k11 ?a12 ?l12 ?c12 ?k12 ?a13 ?l13 ?c13 ?k13 ?a14 ?l14 ?c14 ?k14 ?a15 ?l15 ?c15 ?k15 ?a16 ?l16 ?c16 ?k16 ?a17 ?l17 ?c17 ?k17 ?a18 ?l18 ?c18 ?k18 ?a19 ?l19 ?c19 ?k19 ?a20 ?l20 ?c20 ?k20 ?a21 ?l21 ?c21 ?k21 ?a22 ?l22 ?c22 ?k22 ?a23 ?l23 ?c23 ?k23 ?a24 ?l24 ?c24 ?k24 ?a25 ?l25 ?c25 ?k25 ?a26 ?l26 ?c26 ?k26 ?a27 ?l27 ?c27 ?k27 ?a28 ?l28 ?c28 ?k28 ?a29 ?l29 ?c29 ?k29 ?a30 ?l30 ?c30 ?k30 ?a31 ?l31 ?c31 ?k31 ?a32 ?l32 ?c32 ?k32 ?a33 ?l33 ?c33 ?k33 ?aC ?a34 ?i34 ?l34 ?c34 ?k34 ?pg ?hd ?po ?sa ?mk ?kc ?nM ?nA ?aCg ?a35 ?i35 ?l35 ?c35 ?k35 ?a36 ?i36 ?l36 ?c36 ?k36 ?pg_Cg ?hd_Cg ?po_Cg ?sa_Cg ?mk_Cg ?kc_Cg ?nP ?aCs ?a37 ?i37 ?l37 ?c37 ?k37 ?pg_Cs ?hd_Cs ?po_Cs ?sa_Cs ?mk_Cs ?kc_Cs ?nSg ?nSd ?nSs ?nSt ?g1 ?g2 ?g3 ?g4 ?z0 ?z1 ?z2 ?z3 ?z4 ?z5 ?z6 ?z7 ?z8 ?z9 ?z10 ?z11 ?a_LimbError ?a_NoGround ?a_NoNumber ?a_NoTable ?a_NoDrawing ?a_NoKind ?a_NoStanding ?a_NoChange ?a_NoMirror ?a_NoRoot ?a_NoText ?a_NoRow ?a_NoName ?e_LimbError ?e_NoStanding ?m_R ?n_R ?y_ga ?y_gt ?y_cl ?y_so ?y_sb ?y_t1 ?y_t2 ?y_v
    (case a1 => k_is)
    (case l1 => k_is)
    (case c1 => k_is)
    (case k1 => k_is)
    (case a2 => k_is)
    (case l2 => k_is)
    (case c2 => k_is)
    (case k2 => k_is)
    (case a3 => k_is)
    (case l3 => k_is)
    (case c3 => k_is)
    (case k3 => k_is)
    (case a4 => k_is)
    (case l4 => k_is)
    (case c4 => k_is)
    (case k4 => k_is)
    (case a5 => k_is)
    (case l5 => k_is)
    (case c5 => k_is)
    (case k5 => k_is)
    (case a6 => k_is)
    (case l6 => k_is)
    (case c6 => k_is)
    (case k6 => k_is)
    (case a7 => k_is)
    (case l7 => k_is)
    (case c7 => k_is)
    (case k7 => k_is)
    (case a8 => k_is)
    (case l8 => k_is)
    (case c8 => k_is)
    (case k8 => k_is)
    (case a9 => k_is)
    (case l9 => k_is)
    (case c9 => k_is)
    (case k9 => k_is)
    (case a10 => k_is)
    (case l10 => k_is)
    (case c10 => k_is)
    (case k10 => k_is)
    (case a11 => k_is)
    (case l11 => k_is)
    (case c11 => k_is)
    (case k11 => k_is)
    (case a12 => k_is)
    (case l12 => k_is)
    (case c12 => k_is)
    (case k12 => k_is)
    (case a13 => k_is)
    (case l13 => k_is)
    (case c13 => k_is)
    (case k13 => k_is)
    (case a14 => k_is)
    (case l14 => k_is)
    (case c14 => k_is)
    (case k14 => k_is)
    (case a15 => k_is)
    (case l15 => k_is)
    (case c15 => k_is)
    (case k15 => k_is)
    (case a16 => k_is)
    (case l16 => k_is)
    (case c16 => k_is)
    (case k16 => k_is)
    (case a17 => k_is)
    (case l17 => k_is)
    (case c17 => k_is)
    (case k17 => k_is)
    (case a18 => k_is)
    (case l18 => k_is)
    (case c18 => k_is)
    (case k18 => k_is)
    (case a19 => k_is)
    (case l19 => k_is)
    (case c19 => k_is)
    (case k19 => k_is)
    (case a20 => k_is)
    (case l20 => k_is)
    (case c20 => k_is)
    (case k20 => k_is)
    (case a21 => k_is)
    (case l21 => k_is)
    (case c21 => k_is)
    (case k21 => k_is)
    (case a22 => k_is)
    (case l22 => k_is)
    (case c22 => k_is)
    (case k22 => k_is)
    (case a23 => k_is)
    (case l23 => k_is)
    (case c23 => k_is)
    (case k23 => k_is)
    (case a24 => k_is)
    (case l24 => k_is)
    (case c24 => k_is)
    (case k24 => k_is)
    (case a25 => k_is)
    (case l25 => k_is)
    (case c25 => k_is)
    (case k25 => k_is)
    (case a26 => k_is)
    (case l26 => k_is)
    (case c26 => k_is)
    (case k26 => k_is)
    (case a27 => k_is)
    (case l27 => k_is)
    (case c27 => k_is)
    (case k27 => k_is)
    (case a28 => k_is)
    (case l28 => k_is)
    (case c28 => k_is)
    (case k28 => k_is)
    (case a29 => k_is)
    (case l29 => k_is)
    (case c29 => k_is)
    (case k29 => k_is)
    (case a30 => k_is)
    (case l30 => k_is)
    (case c30 => k_is)
    (case k30 => k_is)
    (case a31 => k_is)
    (case l31 => k_is)
    (case c31 => k_is)
    (case k31 => k_is)
    (case a32 => k_is)
    (case l32 => k_is)
    (case c32 => k_is)
    (case k32 => k_is)
    (case a33 => k_is)
    (case l33 => k_is)
    (case c33 => k_is)
    (case k33 => k_is)
    (case aC => k_is)
    (case a34 => k_is)
    (case i34 => k_is)
    (case l34 => k_is)
    (case c34 => k_is)
    (case k34 => k_is)
    (case pg => k_is)
    (case hd => k_is)
    (case po => k_is)
    (case sa => k_is)
    (case mk => k_is)
    (case kc => k_is)
    (case nM => k_is)
    (case nA => k_is)
    (case aCg => k_is)
    (case a35 => k_is)
    (case i35 => k_is)
    (case l35 => k_is)
    (case c35 => k_is)
    (case k35 => k_is)
    (case a36 => k_is)
    (case i36 => k_is)
    (case l36 => k_is)
    (case c36 => k_is)
    (case k36 => k_is)
    (case pg_Cg => k_is)
    (case hd_Cg => k_is)
    (case po_Cg => k_is)
    (case sa_Cg => k_is)
    (case mk_Cg => k_is)
    (case kc_Cg => k_is)
    (case nP => k_is)
    (case aCs => k_is)
    (case a37 => k_is)
    (case i37 => k_is)
    (case l37 => k_is)
    (case c37 => k_is)
    (case k37 => k_is)
    (case pg_Cs => k_is)
    (case hd_Cs => k_is)
    (case po_Cs => k_is)
    (case sa_Cs => k_is)
    (case mk_Cs => k_is)
    (case kc_Cs => k_is)
    (case nSg => k_is)
    (case nSd => k_is)
    (case nSs => k_is)
    (case nSt => k_is)
    (case g1 => k_is)
    (case g2 => k_is)
    (case g3 => k_is)
    (case g4 => k_is)
    (case z0 => k_is)
    (case z1 => k_is)
    (case z2 => k_is)
    (case z3 => k_is)
    (case z4 => k_is)
    (case z5 => k_is)
    (case z6 => k_is)
    (case z7 => k_is)
    (case z8 => k_is)
    (case z9 => k_is)
    (case z10 => k_is)
    (case z11 => k_is)
    (case a_LimbError => k_is)
    (case a_NoGround => k_is)
    (case a_NoNumber => k_is)
    (case a_NoTable => k_is)
    (case a_NoDrawing => k_is)
    (case a_NoKind => k_is)
    (case a_NoStanding => k_is)
    (case a_NoChange => k_is)
    (case a_NoMirror => k_is)
    (case a_NoRoot => k_is)
    (case a_NoText => k_is)
    (case a_NoRow => k_is)
    (case a_NoName => k_is)
    (case e_LimbError => k_exc)
    (case e_NoStanding => k_exc)
    (case m_R => k_is)
    (case n_R => decide)
    (case y_ga => k_is)
    (case y_gt => k_is)
    (case y_cl => k_is)
    (case y_so => k_is)
    (case y_sb => k_is)
    (case y_t1 => kit_is)
    (case y_t2 => kit_is)
    (case y_v => kit_is)
#print axioms PySem.Challenge.cw_limbtables_k27_standings_refused_holds