import PyProof.Rows.All
import Wide.All
import OpenK.AllK
import Wide.FinOn
import Lean
import PyProof.EqAt
import PyProof.EqKinds
import PyProof.TupleCall
import PyProof.ZipIter
import PyProof.Rows.ZipGen
import PyProof.SumWalkG
import PyProof.FactsAll.int_6
import PyProof.AutoIntG2
import PyProof.RulesAs
import PyProof.Rows.TopTwo
import PyProof.ExcArgsOwn
import PyProof.ExcBaseAll.ValueError
import OpenK.KDescr
import KE.RegKIsAll
import PyProof.NeKinds
import PySem.Challenge.RW_limbtables_k13_drawings_refused
-- CHANGE: your row's module here, as the last of these rows
set_option Elab.async false
set_option linter.all false
set_option maxRecDepth 100000
/-! THE HAND LAYER, for ints, bools, texts, own classes, LISTS and tuples (index, slices, in, append, pop ..), calls, loops. Paste it whole ahead of your own text; what your proof does not reach may be deleted. -/
namespace L2
open PySem PySem.Spec PyProof.Rows

/-- a key: an int or a str -/
abbrev Key := Sum Int Str
def keyIs : Key → Value → Bool
  | .inl k, v => Value.isInt k v
  | .inr x, v => Value.isStrOf x v
def keyH (w : World) : Key → Int
  | .inl k => hashInt k
  | .inr x => hashStr w x
theorem keyIs_shape : ∀ {k : Key} {v : Value}, keyIs k v = true → (∃ i t, k = Sum.inl i ∧ v = Value.int i t) ∨ (∃ x t, k = Sum.inr x ∧ v = Value.str x t)
  | .inl i, v, h => by
    obtain ⟨t, e⟩ := Value.isInt_shape (k := i) (v := v) h
    exact .inl ⟨i, t, rfl, e⟩
  | .inr x, v, h => by
    obtain ⟨t, e⟩ := Value.isStrOf_shape (x := x) (v := v) h
    exact .inr ⟨x, t, rfl, e⟩
theorem key_ll (a b : Int) : decide ((Sum.inl a : Key) = Sum.inl b) = (a == b) := by
  by_cases e : a = b
  · subst e; simp
  · have h : ¬ (Sum.inl a : Key) = Sum.inl b := fun q => e (Sum.inl.inj q)
    rw [decide_eq_false h]
    exact (beq_eq_false_iff_ne.mpr e).symm
theorem key_rr (a b : Str) : decide ((Sum.inr a : Key) = Sum.inr b) = decide (a = b) := by
  by_cases e : a = b
  · subst e; simp
  · have h : ¬ (Sum.inr a : Key) = Sum.inr b := fun q => e (Sum.inr.inj q)
    rw [decide_eq_false h, decide_eq_false e]
theorem key_lr (a : Int) (b : Str) : decide ((Sum.inl a : Key) = Sum.inr b) = false := decide_eq_false (fun q => nomatch q)
theorem key_rl (a : Str) (b : Int) : decide ((Sum.inr a : Key) = Sum.inl b) = false := decide_eq_false (fun q => nomatch q)

def mixKind (prog : Program) (w : World) : PySem.KeyKind prog w Key where
  is := keyIs
  hash := keyH w
  inj := fun v a b ha hb => by
    rcases keyIs_shape ha with ⟨i, t, rfl, rfl⟩ | ⟨x, t, rfl, rfl⟩
    · rcases keyIs_shape hb with ⟨j, u, rfl, e⟩ | ⟨y, u, rfl, e⟩
      · injection e with e1 _; rw [e1]
      · exact nomatch e
    · rcases keyIs_shape hb with ⟨j, u, rfl, e⟩ | ⟨y, u, rfl, e⟩
      · exact nomatch e
      · injection e with e1 _; rw [e1]
  byValue := fun k v h => by
    rcases keyIs_shape h with ⟨i, t, rfl, rfl⟩ | ⟨x, t, rfl, rfl⟩ <;> rfl
  pyHash := fun hv h => by
    rcases keyIs_shape hv with ⟨i, t, rfl, rfl⟩ | ⟨x, t, rfl, rfl⟩
    · exact wpAny_pyHash_int h
    · exact wpAny_pyHash_str h
  eqBool := fun hu hv h => by
    rcases keyIs_shape hu with ⟨i, t, rfl, rfl⟩ | ⟨x, t, rfl, rfl⟩
    · rcases keyIs_shape hv with ⟨j, u, rfl, rfl⟩ | ⟨y, u, rfl, rfl⟩
      · rw [key_ll] at h; exact wpAny_eqBool_int h
      · rw [key_lr] at h; exact SeqAt.EqAt.int_str i t y u _ _ _ _ h
    · rcases keyIs_shape hv with ⟨j, u, rfl, rfl⟩ | ⟨y, u, rfl, rfl⟩
      · rw [key_rl] at h; exact SeqAt.EqAt.str_int x t j u _ _ _ _ h
      · rw [key_rr] at h; exact wpAny_eqBool_str h
  «strs» := fun k x t v h => by
    rcases keyIs_shape h with ⟨i, u, rfl, e⟩ | ⟨y, u, rfl, e⟩
    · exact nomatch e
    · injection e with e1 _
      subst e1
      cases v <;> rfl

end L2

namespace L2
open PySem PySem.Spec PyProof.Rows

/-- a value, without the heap -/
inductive V where
  | non | bl (b : Bool) | int (i : Int) | str (x : Str) | byt (b : Array UInt8) | flt (b : UInt64) | ref (a : Addr) | ty (n : String)
  deriving DecidableEq

def RelV : V → Value → Prop
  | .non, u => u = Value.none
  | .bl b, u => u = Value.bool b
  | .int i, u => ∃ t, u = Value.int i t
  | .str x, u => ∃ t, u = Value.str x t
  | .byt b, u => ∃ t, u = Value.bytes b t
  | .flt b, u => ∃ t, u = Value.float b t
  | .ref a, u => u = Value.ref a
  | .ty n, u => u = Value.type n

abbrev Vals : List V → List Value → Prop := Paired RelV
theorem Vals.length {xs : List V} {us : List Value} (r : Vals xs us) : xs.length = us.length := Paired.length r
theorem Vals.get : ∀ {xs : List V} {us : List Value} {i : Nat} {x : V}, Vals xs us → xs[i]? = some x → ∃ u, us[i]? = some u ∧ RelV x u
  | _, _, _, _, .nil, e => by simp at e
  | _, _, 0, _, .cons r _, e => by simp at e; subst e; exact ⟨_, rfl, r⟩
  | _, _, i + 1, x, .cons _ t, e => by
    obtain ⟨u, h1, h2⟩ := Vals.get (i := i) (x := x) t (by simpa using e)
    exact ⟨u, by simpa using h1, h2⟩
theorem Vals.set {x : V} {u : Value} (r : RelV x u) : ∀ {xs : List V} {us : List Value} (i : Nat), Vals xs us → Vals (xs.set i x) (us.set i u)
  | _, _, _, .nil => .nil
  | _, _, 0, .cons _ t => .cons r t
  | _, _, i + 1, .cons q t => .cons q (Vals.set r i t)
theorem Vals.append : ∀ {xs ys : List V} {us ws : List Value}, Vals xs us → Vals ys ws → Vals (xs ++ ys) (us ++ ws)
  | _, _, _, _, .nil, s => s
  | _, _, _, _, .cons r t, s => .cons r (Vals.append t s)
theorem Vals.take : ∀ {xs : List V} {us : List Value} (n : Nat), Vals xs us → Vals (xs.take n) (us.take n)
  | _, _, 0, _ => .nil
  | _, _, _ + 1, .nil => .nil
  | _, _, n + 1, .cons r t => .cons r (Vals.take n t)
theorem Vals.drop : ∀ {xs : List V} {us : List Value} (n : Nat), Vals xs us → Vals (xs.drop n) (us.drop n)
  | _, _, 0, r => r
  | _, _, _ + 1, .nil => .nil
  | _, _, n + 1, .cons _ t => Vals.drop n t
def RelO : Option V → Option Value → Prop
  | some v, some u => RelV v u
  | none, none => True
  | _, _ => False
def KV {κ : Type} : List (κ × V) → List (κ × Value) → Prop := Paired fun (p : κ × V) (q : κ × Value) => p.1 = q.1 ∧ RelV p.2 q.2

/-- a key of a dict (00_mix): an int or a text -/
def kV : Key → V
  | .inl i => .int i
  | .inr x => .str x

/-- what stands at a tracked address -/
inductive HO where
  /-- a list -/
  | lst (xs : List V)
  /-- a tuple (never changes) -/
  | tup (xs : List V)
  /-- a dict whose keys are ints and texts; one whose keys are tuples of ints and texts (the empty one is both) -/
  | dK (kvs : List (Key × V)) | dT (kvs : List (List Key × V))
  /-- a set of ints: its members, its size -/
  | set (S : Int → Bool) (n : Nat)
  /-- an instance of the class at C, its dict at dx, its attributes -/
  | ins (C dx : Addr) (fs : List (Str × V))
  /-- the dict of the instance at x -/
  | own (x : Addr)
  /-- the dict of an exception -/
  | xd (fs : List (Str × V))
  /-- a bound method, f of x -/
  | met (f x : Addr)
  /-- a range object lo, lo + 1, .. below hi -/
  | rng (lo hi : Int)
  /-- a thing that is known to the object (the script; a dict while a loop walks it): read, never written while it is so -/
  | frz (o : Obj) (u : HO)
  /-- a code object's table -/
  | tbl (ps : Array Value)
  /-- any other thing, by what is true of its one object (a def of one's own: SetO a S n := HO.ext fun h => ..) -/
  | ext (φ : Heap → Prop)

abbrev Hp := Addr → Option HO
def upd (H : Hp) (a : Addr) (o : HO) : Hp := fun b => if b = a then some o else H b
theorem upd_same {H : Hp} {a : Addr} {o : HO} : upd H a o a = some o := by unfold upd; rw [if_pos rfl]
theorem upd_ne {H : Hp} {a b : Addr} {o : HO} (h : b ≠ a) : upd H a o b = H b := by unfold upd; rw [if_neg h]
theorem upd_upd {H : Hp} {a : Addr} {o u : HO} : upd (upd H a o) a u = upd H a u := by
  funext b; unfold upd; split <;> rfl
/-- two objects of different content stand apart -/
theorem ne_of {H : Hp} {a b : Addr} {o u : HO} (h : H a = some o) (h' : H b = some u) (d : o ≠ u) : a ≠ b := by
  intro e; subst e; rw [h] at h'; exact d (Option.some.inj h')
theorem ne_of_none {H : Hp} {a b : Addr} {o : HO} (h : H a = some o) (h' : H b = none) : a ≠ b := by
  intro e; subst e; rw [h] at h'; cases h'

section
variable (P : Program) (w : World)
def ObjOk (H : Hp) (h : Heap) (a : Addr) : HO → Prop
  | .lst xs => xs.length ≤ sizeLine ∧ ∃ (its : List Value) (n : Nat), Vals xs its ∧ h.get? a = some { cls := .type "list", data := .seq its.toArray n }
  | .tup xs => xs.length ≤ sizeLine ∧ ∃ its : List Value, Vals xs its ∧ IsTup h a its.toArray
  | .dK kvs => kvs.length ≤ sizeLine ∧ (a == sysModules) = false ∧ ∃ vs, KV kvs vs ∧ h.DictOf (mixKind P w) a vs
  | .dT kvs => kvs.length ≤ sizeLine ∧ (a == sysModules) = false ∧ ∃ xs : List (List Key × Addr × Value),
      Paired (fun (p : List Key × V) (q : List Key × Addr × Value) => p.1 = q.1 ∧ H q.2.1 = some (.tup (p.1.map kV)) ∧ RelV p.2 q.2.2) kvs xs ∧
      ∃ o es ep, h.get? a = some o ∧ o.ExactDict ∧ o.data = .dict es ep ∧ es.toList = xs.map (entryOfKey (tupleKind (mixKind P w))) ∧ (xs.map (·.1)).Nodup
  | .set S n => h.SetOf (intKind P w) a S n
  | .ins C dx fs => H dx = some (.own a) ∧ fs.length ≤ 1000 ∧ dx ≠ a ∧ h.get? a = some (PySem.W.instObj C dx) ∧
      ∃ mA, h.Ns1 dx mA ∧ (∀ f, RelO (fs.lookup f) (mA f)) ∧ PySem.Within mA (fs.map (·.1))
  | .own _ => ∃ o, h.get? a = some o
  | .xd fs => ∃ mA, h.Ns1 a mA ∧ ∀ f, RelO (fs.lookup f) (mA f)
  | .rng lo hi => ∃ t u v, h.get? a = some { cls := .type "range", data := .fields #[.int lo t, .int hi u, .int 1 v] }
  | .frz o u => h.get? a = some o ∧ ObjOk H h a u
  | .tbl ps => h.get? a = some { cls := .none, data := .fields ps }
  | .met f x => h.get? a = some (PySem.W.methodObj (.ref f) (.ref x))
  | .ext φ => φ h ∧ (∃ o, h.get? a = some o) ∧ ∀ h1 h2 : Heap, φ h1 → (∀ o, h1.get? a = some o → h2.get? a = some o) → φ h2
/-- the abstract heap is held -/
def HOk (H : Hp) (h : Heap) : Prop := ∀ a o, H a = some o → ObjOk P w H h a o
end

section
variable {P : Program} {w : World} {H H' : Hp} {h h' : Heap} {a : Addr} {o : HO}
theorem ObjOk.lt (x : ObjOk P w H h a o) : a < h.objs.size := by
  cases o with
  | lst xs => obtain ⟨_, _, _, _, e⟩ := x; exact Heap.lt_size e
  | tup xs => obtain ⟨_, _, _, p⟩ := x; exact p.lt
  | dK kvs => obtain ⟨_, _, _, _, o, _, _, e, _⟩ := x; exact Heap.lt_size e
  | dT kvs => obtain ⟨_, _, _, _, o, _, _, e, _⟩ := x; exact Heap.lt_size e
  | set S n => obtain ⟨o, _, _, _, e, _⟩ := x; exact Heap.lt_size e
  | ins C dx fs => obtain ⟨_, _, _, e, _⟩ := x; exact Heap.lt_size e
  | own y => obtain ⟨_, e⟩ := x; exact Heap.lt_size e
  | xd fs => obtain ⟨_, ⟨_, _, _, e, _⟩, _⟩ := x; exact Heap.lt_size e
  | rng lo hi => obtain ⟨_, _, _, e⟩ := x; exact Heap.lt_size e
  | frz ob u => obtain ⟨e, _⟩ := x; exact Heap.lt_size e
  | tbl ps => exact Heap.lt_size (show h.get? a = some _ from x)
  | met f y => exact Heap.lt_size (show h.get? a = some _ from x)
  | ext φ => obtain ⟨_, ⟨_, e⟩, _⟩ := x; exact Heap.lt_size e
theorem Paired.mapP {α β : Type} {F G : α → β → Prop} : ∀ {l₁ : List α} {l₂ : List β}, Paired F l₁ l₂ → (∀ a b, F a b → G a b) → Paired G l₁ l₂
  | _, _, .nil, _ => .nil
  | _, _, .cons r t, f => .cons (f _ _ r) (Paired.mapP t f)
/-- what an object's description leans on: its own object, its own dict, the tuples -/
theorem ObjOk.stay (x : ObjOk P w H h a o) (k : ∀ b u, (b = a ∨ H b = some (.own a)) → h.get? b = some u → h'.get? b = some u)
    (ho : ∀ b, H b = some (.own a) → H' b = some (.own a)) (ht : ∀ b xs, H b = some (.tup xs) → H' b = some (.tup xs)) : ObjOk P w H' h' a o := by
  induction o with
  | lst xs => obtain ⟨z, its, n, r, e⟩ := x; exact ⟨z, its, n, r, k _ _ (.inl rfl) e⟩
  | tup xs => obtain ⟨z, its, r, ob, e, c⟩ := x; exact ⟨z, its, r, ob, k _ _ (.inl rfl) e, c⟩
  | dK kvs => obtain ⟨z, y, vs, r, ob, es, ep, e, c⟩ := x; exact ⟨z, y, vs, r, ob, es, ep, k _ _ (.inl rfl) e, c⟩
  | dT kvs =>
    obtain ⟨z, y, xs, r, ob, es, ep, e, c⟩ := x
    exact ⟨z, y, xs, Paired.mapP r fun p q z => ⟨z.1, ht _ _ z.2.1, z.2.2⟩, ob, es, ep, k _ _ (.inl rfl) e, c⟩
  | set S n => obtain ⟨ob, es, ep, t, e, c⟩ := x; exact ⟨ob, es, ep, t, k _ _ (.inl rfl) e, c⟩
  | ins C dx fs =>
    obtain ⟨d, z, ne, e, mA, ⟨od, es, ep, e2, c⟩, r⟩ := x
    exact ⟨ho _ d, z, ne, k _ _ (.inl rfl) e, mA, ⟨od, es, ep, k _ _ (.inr d) e2, c⟩, r⟩
  | own y => obtain ⟨ob, e⟩ := x; exact ⟨ob, k _ _ (.inl rfl) e⟩
  | xd fs => obtain ⟨mA, ⟨od, es, ep, e, c⟩, r⟩ := x; exact ⟨mA, ⟨od, es, ep, k _ _ (.inl rfl) e, c⟩, r⟩
  | rng lo hi => obtain ⟨t, u, v, e⟩ := x; exact ⟨t, u, v, k _ _ (.inl rfl) e⟩
  | frz ob u ih => obtain ⟨e, q⟩ := x; exact ⟨k _ _ (.inl rfl) e, ih q⟩
  | tbl ps =>
    have e : h.get? a = some { cls := .none, data := .fields ps } := x
    show h'.get? a = some { cls := .none, data := .fields ps }
    exact k a _ (.inl rfl) e
  | met f y =>
    have e : h.get? a = some (PySem.W.methodObj (.ref f) (.ref y)) := x
    show h'.get? a = some (PySem.W.methodObj (.ref f) (.ref y))
    exact k a _ (.inl rfl) e
  | ext φ => obtain ⟨p, ⟨o, e⟩, st⟩ := x; exact ⟨st _ _ p fun o q => k _ _ (.inl rfl) q, ⟨o, k _ _ (.inl rfl) e⟩, st⟩
theorem HOk.lt (x : HOk P w H h) (e : H a = some o) : a < h.objs.size := (x a o e).lt
theorem HOk.fresh (x : HOk P w H h) (e : h.objs.size ≤ a) : H a = none := by
  cases q : H a with
  | none => rfl
  | some u => exact absurd (Nat.lt_of_lt_of_le (x.lt q) e) (Nat.lt_irrefl _)
/-- every object of the heap is kept -/
theorem HOk.kept (x : HOk P w H h) (k : ∀ b u, h.get? b = some u → h'.get? b = some u) : HOk P w H h' := fun a o e =>
  (x a o e).stay (fun b u _ q => k b u q) (fun _ q => q) fun _ _ q => q
/-- a new object is laid and tracked -/
theorem HOk.laid (x : HOk P w H h) (k : ∀ b u, h.get? b = some u → h'.get? b = some u) (hp : h.objs.size ≤ a) (new : ObjOk P w (upd H a o) h' a o) : HOk P w (upd H a o) h' := fun b u e => by
  have hn := x.fresh hp
  by_cases hb : b = a
  · subst hb; rw [upd_same] at e; cases e; exact new
  · rw [upd_ne hb] at e
    exact (x b u e).stay (fun c v _ q => k c v q) (fun c q => by rw [upd_ne (ne_of_none q hn)]; exact q) fun c xs q => by rw [upd_ne (ne_of_none q hn)]; exact q
end

/-- what may be read as u: it is u, or a known u -/
def Rd (H : Hp) (a : Addr) (u : HO) : Prop := H a = some u ∨ ∃ o, H a = some (.frz o u)
theorem Rd.of {H : Hp} {a : Addr} {u : HO} (h : H a = some u) : Rd H a u := .inl h
theorem Rd.ok {P : Program} {w : World} {H : Hp} {h : Heap} {a : Addr} {u : HO} (r : Rd H a u) (x : HOk P w H h) : ObjOk P w H h a u := by
  rcases r with r | ⟨o, r⟩
  · exact x a u r
  · obtain ⟨_, q⟩ := x a _ r
    exact q
/-- what may be written -/
def Mut : Option HO → Prop
  | some (.lst _) => True
  | some (.dK _) => True
  | some (.dT _) => True
  | some (.set _ _) => True
  | some (.ins _ _ _) => True
  | some (.ext _) => True
  | _ => False
section
variable {P : Program} {w : World} {H : Hp} {h h' : Heap} {x e : Addr} {o' : HO}
/-- the object at e is changed: x itself, or the dict of the instance x -/
theorem HOk.write (ok : HOk P w H h) (mu : Mut (H x)) (he : e = x ∨ H e = some (.own x)) (k : ∀ b u, b ≠ e → h.get? b = some u → h'.get? b = some u) (heo : ∃ u, h'.get? e = some u)
    (new : ObjOk P w (upd H x o') h' x o') : HOk P w (upd H x o') h' := fun b u q => by
  have nown : ∀ c y, H c = some (.own y) → c ≠ x := fun c y r z => by subst z; rw [r] at mu; exact mu
  have ntup : ∀ c xs, H c = some (.tup xs) → c ≠ x := fun c xs r z => by subst z; rw [r] at mu; exact mu
  by_cases hb : b = x
  · subst hb; rw [upd_same] at q; cases q; exact new
  · rw [upd_ne hb] at q
    by_cases hbe : b = e
    · have q' : H b = some (.own x) := by
        rcases he with z | z
        · exact absurd (hbe.trans z) hb
        · rw [hbe]; exact z
      rw [q] at q'; cases q'
      obtain ⟨v, hv⟩ := heo
      exact ⟨v, by rw [hbe]; exact hv⟩
    · refine (ok b u q).stay (fun c v hc r => k c v ?_ r) (fun c r => by rw [upd_ne (nown c b r)]; exact r) fun c xs r => by rw [upd_ne (ntup c xs r)]; exact r
      rcases hc with rfl | hc
      · exact hbe
      · rintro rfl
        rcases he with z | z
        · exact nown c b hc z
        · rw [hc] at z; cases z; exact hb rfl
end

/-! ### kept unless tracked; of the frames at fs (the callers') the slots may change (an exception that passes writes there); of the records at ex (iterators) nothing is said -/
structure Un (fs ex : List Addr) (H H' : Hp) (h h' : Heap) : Prop where
  keep : ∀ b o, h.get? b = some o → H b = none → b ∉ fs → b ∉ ex → h'.get? b = some o
  slot : ∀ b o, h.get? b = some o → H b = none → b ∈ fs → b ∉ ex → ∃ sl, h'.get? b = some { o with slots := sl }
  free : ∀ b o, h.get? b = some o → H b = none → b ∉ ex → H' b = none
  there : ∀ b o, h.get? b = some o → b ∉ ex → ∃ o', h'.get? b = some o'
  tups : ∀ b xs, H b = some (.tup xs) → H' b = some (.tup xs)
  frzs : ∀ b o u, H b = some (.frz o u) → H' b = some (.frz o u)
  tbls : ∀ b ps, H b = some (.tbl ps) → ∃ more, H' b = some (.tbl (ps ++ more))
section
variable {fs fs' ex ex' : List Addr} {H H1 H2 : Hp} {h h1 h2 h' : Heap} {a x e : Addr} {o : HO}
theorem Un.any (u : Un fs ex H H1 h h1) {b : Addr} {ob : Obj} (q : h.get? b = some ob) (n : H b = none) (hx : b ∉ ex) : ∃ sl, h1.get? b = some { ob with slots := sl } := by
  by_cases hb : b ∈ fs
  · exact u.slot b ob q n hb hx
  · exact ⟨ob.slots, u.keep b ob q n hb hx⟩
theorem Un.trans (a : Un fs ex H H1 h h1) (b : Un fs ex H1 H2 h1 h2) : Un fs ex H H2 h h2 where
  keep := fun c ob q n hc hx => b.keep c ob (a.keep c ob q n hc hx) (a.free c ob q n hx) hc hx
  slot := fun c ob q n hc hx => by
    obtain ⟨sl, e1⟩ := a.slot c ob q n hc hx
    obtain ⟨sl', e2⟩ := b.slot c _ e1 (a.free c ob q n hx) hc hx
    exact ⟨sl', e2⟩
  free := fun c ob q n hx => by
    obtain ⟨o', e1⟩ := a.there c ob q hx
    exact b.free c o' e1 (a.free c ob q n hx) hx
  there := fun c ob q hx => by
    obtain ⟨o', e1⟩ := a.there c ob q hx
    exact b.there c o' e1 hx
  tups := fun c xs q => b.tups c xs (a.tups c xs q)
  frzs := fun c ob xs q => b.frzs c ob xs (a.frzs c ob xs q)
  tbls := fun c ps q => by
    obtain ⟨m1, e1⟩ := a.tbls c ps q
    obtain ⟨m2, e2⟩ := b.tbls c _ e1
    exact ⟨m1 ++ m2, by rw [e2, Array.append_assoc]⟩
theorem Un.kept (k : ∀ b u, h.get? b = some u → h'.get? b = some u) : Un fs ex H H h h' :=
  ⟨fun b ob q _ _ _ => k b ob q, fun b ob q _ _ _ => ⟨ob.slots, k b ob q⟩, fun _ _ _ n _ => n, fun b ob q _ => ⟨ob, k b ob q⟩, fun _ _ q => q, fun _ _ _ q => q, fun _ ps q => ⟨#[], by rw [q]; simp⟩⟩
theorem Un.refl : Un fs ex H H h h := Un.kept fun _ _ q => q
theorem Un.laid (k : ∀ b u, h.get? b = some u → h'.get? b = some u) (hp : h.objs.size ≤ a) (hn : H a = none) : Un fs ex H (upd H a o) h h' where
  keep := fun b u q _ _ _ => k b u q
  slot := fun b u q _ _ _ => ⟨u.slots, k b u q⟩
  free := fun b u q n _ => by rw [upd_ne (Nat.ne_of_lt (Nat.lt_of_lt_of_le (Heap.lt_size q) hp))]; exact n
  there := fun b u q _ => ⟨u, k b u q⟩
  tups := fun b xs q => by rw [upd_ne (ne_of_none q hn)]; exact q
  frzs := fun b u xs q => by rw [upd_ne (ne_of_none q hn)]; exact q
  tbls := fun b ps q => ⟨#[], by rw [upd_ne (ne_of_none q hn), q]; simp⟩
theorem Un.write (mu : Mut (H x)) (he : e = x ∨ H e = some (.own x)) (k : ∀ b u, b ≠ e → h.get? b = some u → h'.get? b = some u) (heo : ∃ u, h'.get? e = some u) : Un fs ex H (upd H x o) h h' := by
  have hx : ∀ b, H b = none → b ≠ x := fun b n z => by subst z; rw [n] at mu; exact mu
  have hb : ∀ b, H b = none → b ≠ e := fun b n z => by
    subst z
    rcases he with r | r
    · exact hx b n r
    · rw [n] at r; cases r
  have hm : ∀ b u, H b = some u → ¬ Mut (some u) → b ≠ x := fun b u q nm z => by subst z; rw [q] at mu; exact nm mu
  refine ⟨fun b u q n _ _ => k b u (hb b n) q, fun b u q n _ _ => ⟨u.slots, k b u (hb b n) q⟩, fun b u q n _ => by rw [upd_ne (hx b n)]; exact n, fun b u q _ => ?_,
    fun b xs q => by rw [upd_ne (hm b _ q fun z => z)]; exact q, fun b u xs q => by rw [upd_ne (hm b _ q fun z => z)]; exact q, fun b ps q => ⟨#[], by rw [upd_ne (hm b _ q fun z => z), q]; simp⟩⟩
  by_cases hbe : b = e
  · subst hbe; exact heo
  · exact ⟨u, k b u hbe q⟩
theorem Un.mono (u : Un fs ex H H1 h h1) (hs : ∀ b ∈ fs, b ∈ fs') (hx : ∀ b ∈ ex, b ∈ ex') : Un fs' ex' H H1 h h1 :=
  ⟨fun b ob q n hb he => u.keep b ob q n (fun z => hb (hs b z)) fun z => he (hx b z), fun _ _ q n _ he => u.any q n fun z => he (hx _ z), fun b ob q n he => u.free b ob q n fun z => he (hx b z), fun b ob q he => u.there b ob q fun z => he (hx b z), u.tups, u.frzs, u.tbls⟩
end

/-! ### the heap without what is tracked -/
def trk (h : Heap) (H : Hp) : List Addr := (List.range h.objs.size).filter fun a => (H a).isSome
def hidT (h : Heap) (H : Hp) : Heap := PySem.W.hideAll h (trk h H)
theorem hidT_size (h : Heap) (H : Hp) : (hidT h H).objs.size = h.objs.size := PySem.W.hideAll_size _ _
theorem hidT_get {h : Heap} {H : Hp} {b : Addr} {o : Obj} (e : h.get? b = some o) (n : H b = none) : (hidT h H).get? b = some o :=
  PySem.W.hideAll_get _ e fun hm => by
    have q : (H b).isSome = true := (List.mem_filter.mp hm).2
    rw [n] at q; simp at q
theorem of_hidT {h : Heap} {H : Hp} {b : Addr} {o : Obj} (e : (hidT h H).get? b = some o) : h.get? b = some o ∧ H b = none := by
  have e' : h.get? b = some o := PySem.W.of_hideAll (trk h H) e
  refine ⟨e', ?_⟩
  cases q : H b with
  | none => rfl
  | some x =>
    have hm : b ∈ trk h H := List.mem_filter.mpr ⟨List.mem_range.mpr (Heap.lt_size e'), by simp [q]⟩
    have z : (hidT h H).get? b = none := PySem.W.hideAll_none (trk h H) hm
    rw [z] at e; cases e

/-! ### OpenK's ledger, filled with every new object but one -/
def allNews (g h : Heap) (L : Addr) : List (Addr × Obj) := (List.range h.objs.size).filterMap fun a => if a = L ∨ (g.get? a).isSome = true then none else (h.get? a).map fun o => (a, o)
def rest (g h : Heap) (L d : Addr) : List (Addr × Obj) := (allNews g h L).filter fun p => decide (p.1 ≠ d)
end L2

namespace L2
open PySem PySem.Spec PyProof.Rows

/-- the module's facts, over the base: the heap at the law's entry without what is tracked there -/
structure Mod (K : PySem.W.Frag) (mg : Str → Option Value) (base : Heap) : Prop where
  kin : K.In base
  glob : base.Ns mainGlobals mg
  blt : ∃ mb, base.Ns builtinsNs mb ∧ ∀ x : Str, x ≠ "__name__" → mb x = bootBuiltins x
  nolimit : base.NoLimit

/-- the context: a def's body (or a comprehension's block) running. base: fixed through the whole law; s₀, H₀: the entry; outer: the frames whose slots others may change (a def's callers); stack: all frames that run;
   ex: iterators that were made ahead of the entry and are walked here (a comprehension's); fn: the names whose cells were made at the entry (a def: all; a comprehension's block: its own); calm: not within an except suite; pn: pins that every state bears; xe: what is wanted of an exception that leaves the code -/
structure Cx where
  prog : Program
  w : World
  K : PySem.W.Frag
  mg : Str → Option Value
  base : Heap
  A : Around
  N : List Str
  s₀ : Shared
  H₀ : Hp
  env : Env
  outer : List Env
  stack : List Env
  ex : List Addr
  fn : Str → Bool
  calm : Bool
  pn : List (Addr × Obj)
  xe : Value → Shared → Prop
/-- the callers' frames -/
def frs (l : List Env) : List Addr := l.filterMap (·.frame)
abbrev Cx.fs (X : Cx) : List Addr := frs X.outer

def Vis (sc : Scope) (x : Str) : Prop := sc.names.lookup x = some .local ∨ sc.names.lookup x = some .cell ∨ sc.names.lookup x = some .free
def Loc (sc : Scope) (x : Str) : Prop := sc.names.lookup x = some .local ∨ sc.names.lookup x = some .cell
def Look (env : Env) (h : Heap) (m : Str → Option Value) (x : Str) (u : Value) : Prop :=
  (env.kindOf x = some .local ∧ m x = some u) ∨ ((env.kindOf x = some .cell ∨ env.kindOf x = some .free) ∧ ∃ c, env.cells.lookup x = some c ∧ h.IsCell c (some u))

structure Cx.Ok (X : Cx) : Prop where
  mod : Mod X.K X.mg X.base
  kind : X.env.scope.kind = .function
  glob : X.env.globals = mainGlobals
  blt : X.env.builtins = builtinsNs
  above : X.s₀.heap.objs.size ≤ X.env.locals
  inj : ∀ x y c, X.env.cells.lookup x = some c → X.env.cells.lookup y = some c → x = y
  has : ∀ x, (X.env.kindOf x = some .cell ∨ X.env.kindOf x = some .free) → ∃ c, X.env.cells.lookup x = some c
  cab : ∀ x c, X.fn x = true → X.env.cells.lookup x = some c → X.s₀.heap.objs.size ≤ c
  hd : X.calm = true → X.A.handled = none
  frames : X.A.frames = some X.stack
  stk : X.stack = X.outer ∨ (X.stack = X.env :: X.outer ∧ X.env.frame = some X.env.locals)
  exf : ∀ b ∈ X.ex, b ≠ X.env.locals ∧ ∀ x c, X.env.cells.lookup x = some c → c ≠ b
  bs : ∀ b o, X.base.get? b = some o → X.s₀.heap.get? b = some o ∧ X.H₀ b = none
  bsz : X.base.objs.size ≤ X.s₀.heap.objs.size
  noex : ∀ b o, X.base.get? b = some o → b ∉ X.ex
  exfs : ∀ b ∈ X.ex, b ∉ X.fs
  funs : X.s₀.heap.FunFrames X.base X.outer
  frf : ∀ b ∈ X.fs, X.H₀ b = none

structure Inv (X : Cx) (pins : List (Addr × Obj)) (σ : List (Option V)) (H : Hp) (s : Shared) : Prop where
  ok : X.Ok
  os : s.os = X.s₀.os
  bare : AllBare s.gens
  base : Un X.fs X.ex X.H₀ H X.s₀.heap s.heap
  loc : ∃ m, s.heap.Ns X.env.locals m ∧ ∀ (i : Nat) (x : Str) (v : V), X.N[i]? = some x → σ[i]? = some (some v) → Vis X.env.scope x → ∃ u, RelV v u ∧ Look X.env s.heap m x u
  cell : ∀ x c, X.env.cells.lookup x = some c → ∃ v, s.heap.IsCell c v
  free : H X.env.locals = none
  freeC : ∀ x c, X.env.cells.lookup x = some c → H c = none
  pin : ∀ p ∈ X.pn ++ pins, s.heap.get? p.1 = some p.2 ∧ H p.1 = none ∧ p.1 ≠ X.env.locals ∧ p.1 ∉ X.fs ∧ ∀ v, p.2.data ≠ .cell v
  hok : HOk X.prog X.w H s.heap
  len : σ.length = X.N.length

section
variable {X : Cx} {pins : List (Addr × Obj)} {σ : List (Option V)} {H H' : Hp} {s : Shared} {h' : Heap}

theorem Cx.Ok.nofr (ok : X.Ok) {b : Addr} {o : Obj} (e : X.base.get? b = some o) : b ∉ X.fs := fun hb => by
  have := (ok.funs.mem hb).1
  rw [e] at this; cases this
theorem Inv.bs (I : Inv X pins σ H s) : ∀ b o, X.base.get? b = some o → s.heap.get? b = some o ∧ H b = none := fun b o e =>
  ⟨I.base.keep b o (I.ok.bs b o e).1 (I.ok.bs b o e).2 (I.ok.nofr e) (I.ok.noex b o e), I.base.free b o (I.ok.bs b o e).1 (I.ok.bs b o e).2 (I.ok.noex b o e)⟩
theorem Inv.bk (I : Inv X pins σ H s) : ∀ b o, X.base.get? b = some o → s.heap.get? b = some o := fun b o e => (I.bs b o e).1
theorem Inv.mod (I : Inv X pins σ H s) : Mod X.K X.mg X.base := I.ok.mod
theorem Inv.kIn (I : Inv X pins σ H s) : X.K.In s.heap := I.ok.mod.kin.keeps I.bk
theorem Inv.nolimit (I : Inv X pins σ H s) : s.heap.NoLimit := I.ok.mod.nolimit.keeps I.bk
/-- the frame over the base: for OpenK's rules (K.In X.base is I.mod.kin) -/
theorem Inv.fr (I : Inv X pins σ H s) : ∃ m, Fr X.base X.env.locals s.heap m :=
  let ⟨m, hn, _⟩ := I.loc
  ⟨m, hn, I.bk, Nat.le_trans I.ok.bsz I.ok.above⟩
theorem Inv.lt (I : Inv X pins σ H s) : X.env.locals < s.heap.objs.size := let ⟨_, hn, _⟩ := I.loc; hn.lt
theorem Inv.sz (I : Inv X pins σ H s) : X.s₀.heap.objs.size ≤ s.heap.objs.size := Nat.le_trans I.ok.above (Nat.le_of_lt I.lt)
theorem Inv.nofs (I : Inv X pins σ H s) {a : Addr} (h : s.heap.objs.size ≤ a) : a ∉ X.fs := fun hb => by
  obtain ⟨_, o, ho, _⟩ := I.ok.funs.mem hb
  exact absurd (Nat.lt_of_lt_of_le (Heap.lt_size ho) (Nat.le_trans I.sz h)) (Nat.lt_irrefl _)
theorem Inv.cne (I : Inv X pins σ H s) : ∀ x c, X.env.cells.lookup x = some c → c ≠ X.env.locals := fun x c e z => by
  obtain ⟨v, o, ho, hd⟩ := I.cell x c e
  obtain ⟨m, ⟨o', es, ep, ho', hd', _⟩, _⟩ := I.loc
  rw [z, ho'] at ho; cases ho; rw [hd'] at hd; cases hd
theorem Inv.funs (I : Inv X pins σ H s) : s.heap.FunFrames X.base X.outer := by
  have all : ∀ (l : List Env), (∀ b ∈ frs l, b ∈ X.fs) → X.s₀.heap.FunFrames X.base l → s.heap.FunFrames X.base l := by
    intro l
    induction l with
    | nil => intro _ _; trivial
    | cons env r ih =>
      intro hs hl
      obtain ⟨hk, ⟨L, o, hf, hn, ho, hd⟩, hr⟩ := hl
      have hL : L ∈ X.fs := hs L (by unfold frs; rw [List.filterMap_cons, hf]; exact List.mem_cons_self)
      obtain ⟨sl, e⟩ := I.base.slot L o ho (I.ok.frf L hL) hL fun z => I.ok.exfs L z hL
      exact ⟨hk, ⟨L, _, hf, hn, e, hd⟩, ih (fun b hb => hs b (by unfold frs; rw [List.filterMap_cons, hf]; exact List.mem_cons_of_mem _ hb)) hr⟩
  exact all X.outer (fun _ hb => hb) I.ok.funs

/-- the frames that run, for a call -/
theorem Inv.stack (I : Inv X pins σ H s) : s.heap.FunFrames X.base X.stack := by
  rcases I.ok.stk with e | ⟨e, hf⟩
  · rw [e]; exact I.funs
  · rw [e]
    obtain ⟨m, hn, _⟩ := I.loc
    refine .cons (by rw [I.ok.kind]; decide) hf hn ?_ I.funs
    exact Heap.get?_none_of_le (Nat.le_trans I.ok.bsz I.ok.above)
theorem Inv.stkSub (I : Inv X pins σ H s) : ∀ b ∈ frs X.stack, b ∈ X.env.locals :: X.fs := fun b hb => by
  rcases I.ok.stk with e | ⟨e, hf⟩
  · rw [e] at hb; exact List.mem_cons_of_mem _ hb
  · rw [e] at hb
    unfold frs at hb
    rw [List.filterMap_cons, hf] at hb
    exact hb
theorem Inv.stkFree (I : Inv X pins σ H s) : ∀ b ∈ frs X.stack, H b = none := fun b hb => by
  rcases List.mem_cons.mp (I.stkSub b hb) with e | hb
  · rw [e]; exact I.free
  · obtain ⟨_, o, ho, _⟩ := I.ok.funs.mem hb
    exact I.base.free b o ho (I.ok.frf b hb) fun z => I.ok.exfs b z hb

/-- THE STEP: the untracked objects but the frame and the records at ch are kept (the callers' frames up to slots), the frame's map is kept, the new abstract heap is held -/
theorem Inv.step {g' : Array GenState} {t' : Nat} {d' : Drawn} {ch : List Addr} (I : Inv X pins σ H s)
    (hch : ∀ b ∈ ch, (b ∈ X.ex ∨ X.s₀.heap.objs.size ≤ b) ∧ b ≠ X.env.locals ∧ (∀ x c, X.env.cells.lookup x = some c → c ≠ b) ∧ ∀ p ∈ X.pn ++ pins, p.1 ≠ b)
    (keep : ∀ b o, b ≠ X.env.locals → b ∉ X.fs → b ∉ ch → s.heap.get? b = some o → H b = none → h'.get? b = some o)
    (slot : ∀ b o, b ≠ X.env.locals → b ∈ X.fs → b ∉ ch → s.heap.get? b = some o → H b = none → ∃ sl, h'.get? b = some { o with slots := sl }) (free : ∀ b o, b ∉ ch → s.heap.get? b = some o → H b = none → H' b = none)
    (there : ∀ b o, b ∉ ch → s.heap.get? b = some o → ∃ o', h'.get? b = some o')
    (tups : ∀ b xs, H b = some (.tup xs) → H' b = some (.tup xs)) (frzs : ∀ b o u, H b = some (.frz o u) → H' b = some (.frz o u)) (tbls : ∀ b ps, H b = some (.tbl ps) → ∃ more, H' b = some (.tbl (ps ++ more)))
    (ns : ∀ m, s.heap.Ns X.env.locals m → h'.Ns X.env.locals m) (hok : HOk X.prog X.w H' h') (hg : AllBare g') :
    Inv X pins σ H' { s with heap := h', gens := g', drawn := d', toks := t' } := by
  have neL : ∀ b o, X.s₀.heap.get? b = some o → b ≠ X.env.locals := fun b o e => Nat.ne_of_lt (Nat.lt_of_lt_of_le (Heap.lt_size e) I.ok.above)
  have neC : ∀ b o, X.s₀.heap.get? b = some o → b ∉ X.ex → b ∉ ch := fun b o e hx hb => by
    rcases (hch b hb).1 with z | z
    · exact hx z
    · exact absurd (Nat.lt_of_lt_of_le (Heap.lt_size e) z) (Nat.lt_irrefl _)
  have cellK : ∀ x c, X.env.cells.lookup x = some c → ∀ v, s.heap.IsCell c v → h'.IsCell c v := fun x c e v ⟨o, ho, hd⟩ => by
    have nch : c ∉ ch := fun z => (hch c z).2.2.1 x c e rfl
    by_cases hc : c ∈ X.fs
    · obtain ⟨sl, q⟩ := slot c o (I.cne x c e) hc nch ho (I.freeC x c e)
      exact ⟨_, q, hd⟩
    · exact ⟨o, keep c o (I.cne x c e) hc nch ho (I.freeC x c e), hd⟩
  refine ⟨I.ok, I.os, hg, ⟨fun b o e n hb hx => ?_, fun b o e n hb hx => ?_, fun b o e n hx => ?_, fun b o e hx => ?_, fun b xs e => tups b xs (I.base.tups b xs e), fun b o xs e => frzs b o xs (I.base.frzs b o xs e), fun b ps e => ?_⟩, ?_, fun x c e => ?_, ?_, fun x c e => ?_, fun p hp => ?_, hok, I.len⟩
  · exact keep b o (neL b o e) hb (neC b o e hx) (I.base.keep b o e n hb hx) (I.base.free b o e n hx)
  · obtain ⟨sl, e1⟩ := I.base.slot b o e n hb hx
    obtain ⟨sl', e2⟩ := slot b _ (neL b o e) hb (neC b o e hx) e1 (I.base.free b o e n hx)
    exact ⟨sl', e2⟩
  · obtain ⟨o', e1⟩ := I.base.there b o e hx
    exact free b o' (neC b o e hx) e1 (I.base.free b o e n hx)
  · obtain ⟨o', e1⟩ := I.base.there b o e hx
    exact there b o' (neC b o e hx) e1
  · obtain ⟨m1, e1⟩ := I.base.tbls b ps e
    obtain ⟨m2, e2⟩ := tbls b _ e1
    exact ⟨m1 ++ m2, by rw [e2, Array.append_assoc]⟩
  · obtain ⟨m, hn, hl⟩ := I.loc
    refine ⟨m, ns m hn, fun i x v e1 e2 e3 => ?_⟩
    obtain ⟨u, r, l⟩ := hl i x v e1 e2 e3
    refine ⟨u, r, ?_⟩
    rcases l with l | ⟨k, c, e, z⟩
    · exact .inl l
    · exact .inr ⟨k, c, e, cellK x c e _ z⟩
  · obtain ⟨v, z⟩ := I.cell x c e
    exact ⟨v, cellK x c e v z⟩
  · obtain ⟨m, ⟨o, _, _, ho, _⟩, _⟩ := I.loc
    exact free _ o (fun z => (hch _ z).2.1 rfl) ho I.free
  · obtain ⟨v, o, ho, hd⟩ := I.cell x c e
    exact free c o (fun z => (hch c z).2.2.1 x c e rfl) ho (I.freeC x c e)
  · obtain ⟨e, n, ne, nf, d⟩ := I.pin p hp
    have nch : p.1 ∉ ch := fun z => (hch p.1 z).2.2.2 p hp rfl
    exact ⟨keep p.1 p.2 ne nf nch e n, free p.1 p.2 nch e n, ne, nf, d⟩
/-- .. where the frame's own object is kept too -/
theorem Inv.un {t' : Nat} (I : Inv X pins σ H s) (u : Un X.fs [] H H' s.heap h') (hok : HOk X.prog X.w H' h') : Inv X pins σ H' { s with heap := h', toks := t' } := by
  obtain ⟨m, ⟨o, es, ep, ho, r⟩, _⟩ := id I.loc
  obtain ⟨sl, hL⟩ := u.any ho I.free (by simp)
  exact I.step (g' := s.gens) (d' := s.drawn) (ch := []) (fun _ z => nomatch z) (fun b o _ hb _ e n => u.keep b o e n hb (by simp)) (fun b o _ hb _ e n => u.slot b o e n hb (by simp)) (fun b o _ e n => u.free b o e n (by simp)) (fun b o _ e => u.there b o e (by simp)) u.tups u.frzs u.tbls (fun m' hm => by
    obtain ⟨o', es', ep', ho', r'⟩ := hm
    rw [ho] at ho'; cases ho'
    exact ⟨_, es', ep', hL, r'⟩) hok I.bare
/-- behind a call (or a comprehension's block): the slots of this frame may have changed too, the records at ch may have turned -/
theorem Inv.call {g' : Array GenState} {t' : Nat} {d' : Drawn} {ch : List Addr} (I : Inv X pins σ H s) (u : Un (frs X.stack) ch H H' s.heap h') (hok : HOk X.prog X.w H' h') (hg : AllBare g')
    (hch : ∀ b ∈ ch, (b ∈ X.ex ∨ X.s₀.heap.objs.size ≤ b) ∧ b ≠ X.env.locals ∧ (∀ x c, X.env.cells.lookup x = some c → c ≠ b) ∧ ∀ p ∈ X.pn ++ pins, p.1 ≠ b) :
    Inv X pins σ H' { s with heap := h', gens := g', drawn := d', toks := t' } := by
  obtain ⟨m, ⟨o, es, ep, ho, r⟩, _⟩ := id I.loc
  obtain ⟨sl, hL⟩ := u.any ho I.free fun z => (hch _ z).2.1 rfl
  exact I.step (ch := ch) hch (fun b o hL hb hc e n => u.keep b o e n (fun z => (List.mem_cons.mp (I.stkSub b z)).elim hL hb) hc) (fun b o _ _ hc e n => u.any e n hc) (fun b o hc e n => u.free b o e n hc) (fun b o hc e => u.there b o e hc) u.tups u.frzs u.tbls (fun m' hm => by
    obtain ⟨o', es', ep', ho', r'⟩ := hm
    rw [ho] at ho'; cases ho'
    exact ⟨_, es', ep', hL, r'⟩) hok hg
/-- an untracked record of ours (an iterator) has turned -/
theorem Inv.turned {t' : Nat} {it : Addr} (I : Inv X pins σ H s) (k : ∀ b o, b ≠ it → s.heap.get? b = some o → h'.get? b = some o) (hn : H it = none) (hL : it ≠ X.env.locals)
    (h1 : it ∈ X.ex ∨ X.s₀.heap.objs.size ≤ it) (h2 : ∀ x c, X.env.cells.lookup x = some c → c ≠ it) (h3 : ∀ p ∈ X.pn ++ pins, p.1 ≠ it) : Inv X pins σ H { s with heap := h', toks := t' } := by
  have nit : ∀ b u, H b = some u → b ≠ it := fun b u e z => by rw [z, hn] at e; cases e
  refine I.step (g' := s.gens) (d' := s.drawn) (ch := [it]) (fun b hb => ?_) (fun b o _ _ hc e _ => k b o (fun z => hc (by simp [z])) e) (fun b o _ _ hc e _ => ⟨o.slots, k b o (fun z => hc (by simp [z])) e⟩) (fun _ _ _ _ n => n)
    (fun b o hc e => ⟨o, k b o (fun z => hc (by simp [z])) e⟩) (fun _ _ e => e) (fun _ _ _ e => e) (fun b ps e => ⟨#[], by rw [e]; simp⟩) (fun m hm => ?_) (fun b u e => ?_) I.bare
  · have e : b = it := by simpa using hb
    subst e
    exact ⟨h1, hL, h2, h3⟩
  · obtain ⟨o, es, ep, ho, r⟩ := hm
    exact ⟨o, es, ep, k _ o (Ne.symm hL) ho, r⟩
  · refine (I.hok b u e).stay (fun c v hc q => k c v ?_ q) (fun _ q => q) fun _ _ q => q
    rcases hc with z | z
    · rw [z]; exact nit b u e
    · exact nit c _ z
theorem Inv.tok (I : Inv X pins σ H s) (t : Nat) : Inv X pins σ H { s with toks := t } := I.un (h' := s.heap) (t' := t) Un.refl I.hok
/-- all objects kept -/
theorem Inv.kept {t' : Nat} (I : Inv X pins σ H s) (k : ∀ b u, s.heap.get? b = some u → h'.get? b = some u) : Inv X pins σ H { s with heap := h', toks := t' } := I.un (Un.kept k) (I.hok.kept k)
/-- a new object laid and tracked -/
theorem Inv.laid {a : Addr} {o : HO} {t' : Nat} (I : Inv X pins σ H s) (k : ∀ b u, s.heap.get? b = some u → h'.get? b = some u) (hp : s.heap.objs.size ≤ a) (new : ObjOk X.prog X.w (upd H a o) h' a o) :
    Inv X pins σ (upd H a o) { s with heap := h', toks := t' } := I.un (Un.laid k hp (I.hok.fresh hp)) (I.hok.laid k hp new)
/-- an object written -/
theorem Inv.write {x e : Addr} {o : HO} {t' : Nat} (I : Inv X pins σ H s) (mu : Mut (H x)) (he : e = x ∨ H e = some (.own x)) (k : ∀ b u, b ≠ e → s.heap.get? b = some u → h'.get? b = some u) (heo : ∃ u, h'.get? e = some u)
    (new : ObjOk X.prog X.w (upd H x o) h' x o) : Inv X pins σ (upd H x o) { s with heap := h', toks := t' } := I.un (Un.write mu he k heo) (I.hok.write mu he k heo new)
theorem Inv.pins_of {pins' : List (Addr × Obj)} (I : Inv X pins σ H s) (h : ∀ p ∈ pins', s.heap.get? p.1 = some p.2 ∧ H p.1 = none ∧ p.1 ≠ X.env.locals ∧ p.1 ∉ X.fs ∧ ∀ v, p.2.data ≠ .cell v) : Inv X pins' σ H s :=
  ⟨I.ok, I.os, I.bare, I.base, I.loc, I.cell, I.free, I.freeC, fun p hp => (List.mem_append.mp hp).elim (fun z => I.pin p (List.mem_append_left _ z)) (h p), I.hok, I.len⟩

theorem nodup_ix {N : List Str} (hN : N.Nodup) {i j : Nat} {x : Str} (a : N[i]? = some x) (b : N[j]? = some x) : i = j := by
  obtain ⟨h1, e1⟩ := List.getElem?_eq_some_iff.mp a
  obtain ⟨h2, e2⟩ := List.getElem?_eq_some_iff.mp b
  exact (List.getElem_inj hN).mp (e1.trans e2.symm)

/-- a name is stored; what changed -/
theorem store_ok2 {M : Model} {A : Around} {E : Value → Shared → Prop} {i : Nat} {x : Str} {v : V} {u : Value} {Q : Unit → Shared → Prop} (I : Inv X pins σ H s) (hN : X.N.Nodup) (hi : X.N[i]? = some x) (hx : Loc X.env.scope x) (r : RelV v u)
    (h : ∀ s', Inv X pins (σ.set i (some v)) H s' → (∃ a, Heap.SameBut a s.heap s'.heap ∧ (a = X.env.locals ∨ X.env.cells.lookup x = some a)) → Q () s') (hf : X.fn x = true ∨ X.env.scope.names.lookup x = some .local := by first | exact .inl rfl | exact .inr rfl | assumption) : wpAny M A (storeName X.env x u) Q E s := by
  obtain ⟨m, hn, hl⟩ := id I.loc
  have hcls : (X.env.scope.kind == .class || (X.env.scope.kind == .module && X.env.locals != X.env.globals)) = false := by rw [I.ok.kind]; rfl
  have hiσ : i < σ.length := by rw [I.len]; exact (List.getElem?_eq_some_iff.mp hi).1
  have cne := I.cne
  have tracked : ∀ {a : Addr} {h' : Heap}, (∃ o, s.heap.get? a = some o ∧ H a = none) → Heap.SameBut a s.heap h' → HOk X.prog X.w H h' := fun {a h'} ha hs b ob e => by
    obtain ⟨_, _, hfree⟩ := ha
    refine (I.hok b ob e).stay (fun c w' hc q => (hs.2 c ?_).trans q) (fun _ q => q) fun _ _ q => q
    rintro rfl
    rcases hc with rfl | hc
    · rw [hfree] at e; cases e
    · rw [hfree] at hc; cases hc
  rcases hx with hk | hk
  · refine wpAny_storeName_local hk hn (fun h' hn' hs => ?_) hcls
    obtain ⟨oL, _, _, hoL, _⟩ := id hn
    refine h _ ⟨I.ok, I.os, I.bare, ⟨fun b o e n hb hx => ?_, fun b o e n hb hx => ?_, I.base.free, fun b o e hx => ?_, I.base.tups, I.base.frzs, I.base.tbls⟩, ⟨_, hn', fun j y v' e1 e2 e3 => ?_⟩, fun y c e => ?_, I.free, I.freeC, fun p hp => ?_, tracked ⟨oL, hoL, I.free⟩ hs, by simpa using I.len⟩ ⟨_, hs, .inl rfl⟩
    · exact (hs.2 b (Nat.ne_of_lt (Nat.lt_of_lt_of_le (Heap.lt_size e) I.ok.above))).trans (I.base.keep b o e n hb hx)
    · obtain ⟨sl, e1⟩ := I.base.slot b o e n hb hx
      exact ⟨sl, (hs.2 b (Nat.ne_of_lt (Nat.lt_of_lt_of_le (Heap.lt_size e) I.ok.above))).trans e1⟩
    · obtain ⟨o', e1⟩ := I.base.there b o e hx
      exact ⟨o', (hs.2 b (Nat.ne_of_lt (Nat.lt_of_lt_of_le (Heap.lt_size e) I.ok.above))).trans e1⟩
    · by_cases hj : j = i
      · subst hj
        rw [hi] at e1; cases e1
        rw [List.getElem?_set_self hiσ] at e2
        cases e2
        exact ⟨u, r, .inl ⟨hk, by simp⟩⟩
      · rw [List.getElem?_set_ne (Ne.symm hj)] at e2
        obtain ⟨u', r', q⟩ := hl j y v' e1 e2 e3
        refine ⟨u', r', ?_⟩
        rcases q with ⟨k, e⟩ | ⟨k, c, e, z⟩
        · refine .inl ⟨k, ?_⟩
          have : y ≠ x := fun e => hj (nodup_ix hN e1 (e ▸ hi))
          simp [this, e]
        · exact .inr ⟨k, c, e, z.sameBut hs (cne y c e)⟩
    · obtain ⟨w', z⟩ := I.cell y c e
      exact ⟨w', z.sameBut hs (cne y c e)⟩
    · obtain ⟨e, n, ne, nf, d⟩ := I.pin p hp
      exact ⟨(hs.2 p.1 ne).trans e, n, ne, nf, d⟩
  · have hfn : X.fn x = true := by
      rcases hf with z | z
      · exact z
      · rw [z] at hk; cases hk
    obtain ⟨c, hc⟩ := I.ok.has x (.inl hk)
    obtain ⟨w', z⟩ := I.cell x c hc
    refine wpAny_storeName_cell I.ok.kind hk hc z (fun h' hc' hs => ?_)
    obtain ⟨oc, hoc, hocd⟩ := id z
    refine h { s with heap := h' } ⟨I.ok, I.os, I.bare, ⟨fun b o e n hb hx => ?_, fun b o e n hb hx => ?_, I.base.free, fun b o e hx => ?_, I.base.tups, I.base.frzs, I.base.tbls⟩, ⟨m, hn.sameBut hs (Ne.symm (cne x c hc)), fun j y v' e1 e2 e3 => ?_⟩, fun y c' e => ?_, I.free, I.freeC, fun p hp => ?_, tracked ⟨oc, hoc, I.freeC x c hc⟩ hs, by simpa using I.len⟩ ⟨c, hs, .inr hc⟩
    · exact (hs.2 b (Nat.ne_of_lt (Nat.lt_of_lt_of_le (Heap.lt_size e) (I.ok.cab x c hfn hc)))).trans (I.base.keep b o e n hb hx)
    · obtain ⟨sl, e1⟩ := I.base.slot b o e n hb hx
      exact ⟨sl, (hs.2 b (Nat.ne_of_lt (Nat.lt_of_lt_of_le (Heap.lt_size e) (I.ok.cab x c hfn hc)))).trans e1⟩
    · obtain ⟨o', e1⟩ := I.base.there b o e hx
      exact ⟨o', (hs.2 b (Nat.ne_of_lt (Nat.lt_of_lt_of_le (Heap.lt_size e) (I.ok.cab x c hfn hc)))).trans e1⟩
    · by_cases hj : j = i
      · subst hj
        rw [hi] at e1; cases e1
        rw [List.getElem?_set_self hiσ] at e2
        cases e2
        exact ⟨u, r, .inr ⟨.inl hk, c, hc, hc'⟩⟩
      · rw [List.getElem?_set_ne (Ne.symm hj)] at e2
        obtain ⟨u', r', q⟩ := hl j y v' e1 e2 e3
        refine ⟨u', r', ?_⟩
        rcases q with q | ⟨k, c', e, z'⟩
        · exact .inl q
        · refine .inr ⟨k, c', e, z'.sameBut hs ?_⟩
          rintro rfl
          exact hj (nodup_ix hN e1 (I.ok.inj _ _ _ e hc ▸ hi))
    · by_cases hcc : c' = c
      · subst hcc; exact ⟨_, hc'⟩
      · obtain ⟨w2, z2⟩ := I.cell y c' e
        exact ⟨w2, z2.sameBut hs hcc⟩
    · obtain ⟨e, n, ne, nf, d⟩ := I.pin p hp
      refine ⟨(hs.2 p.1 ?_).trans e, n, ne, nf, d⟩
      intro q
      rw [q, hoc] at e
      have q' : oc = p.2 := Option.some.inj e
      exact d w' (by rw [← q']; exact hocd)
theorem store_ok {M : Model} {A : Around} {E : Value → Shared → Prop} {i : Nat} {x : Str} {v : V} {u : Value} {Q : Unit → Shared → Prop} (I : Inv X pins σ H s) (hN : X.N.Nodup) (hi : X.N[i]? = some x) (hx : Loc X.env.scope x) (r : RelV v u)
    (h : ∀ s', Inv X pins (σ.set i (some v)) H s' → Q () s') (hf : X.fn x = true ∨ X.env.scope.names.lookup x = some .local := by first | exact .inl rfl | exact .inr rfl | assumption) : wpAny M A (storeName X.env x u) Q E s :=
  store_ok2 I hN hi hx r (fun s' I' _ => h s' I') hf
/-- behind a call or a block, the state as it is -/
theorem Inv.call' {s' : Shared} {ch : List Addr} (I : Inv X pins σ H s) (ho : s'.os = s.os) (u : Un (frs X.stack) ch H H' s.heap s'.heap) (hok : HOk X.prog X.w H' s'.heap) (hg : AllBare s'.gens)
    (hch : ∀ b ∈ ch, (b ∈ X.ex ∨ X.s₀.heap.objs.size ≤ b) ∧ b ≠ X.env.locals ∧ (∀ x c, X.env.cells.lookup x = some c → c ≠ b) ∧ ∀ p ∈ X.pn ++ pins, p.1 ≠ b) : Inv X pins σ H' s' := by
  obtain ⟨h', g', d', t', o'⟩ := s'
  have e : o' = s.os := ho
  subst e
  exact I.call (g' := g') (t' := t') (d' := d') u hok hg hch
end

/-! ### the judgements -/
/-- an exception: its class, its own dict's address (where it has one), the abstract heap behind it -/
abbrev XK := Value → Option Addr → Hp → Prop
abbrev St := List (Option V)
abbrev VK := V → Hp → Prop
/-- an expression's reading; a test's; an argument list's -/
abbrev TE := St → Hp → VK → Prop
abbrev TT := St → Hp → (Bool → Hp → Prop) → Prop
abbrev TA := St → Hp → (List V → Hp → Prop) → Prop
/-- what is wanted behind a statement -/
structure Ends where
  nx : St → Hp → Prop
  rt : VK
  bk : St → Hp → Prop := fun _ _ => False
  ct : St → Hp → Prop := fun _ _ => False
abbrev TS := Ends → St → Hp → Prop

def EP (X : Cx) (pins : List (Addr × Obj)) (σ : St) (Q : VK) (u : Value) (s' : Shared) : Prop := ∃ v H', Inv X pins σ H' s' ∧ RelV v u ∧ Q v H'
def TP (X : Cx) (pins : List (Addr × Obj)) (σ : St) (Q : Bool → Hp → Prop) (b : Bool) (s' : Shared) : Prop := ∃ H', Inv X pins σ H' s' ∧ Q b H'
def AP (X : Cx) (pins : List (Addr × Obj)) (σ : St) (Q : List V → Hp → Prop) (us : List Value) (s' : Shared) : Prop := ∃ vs H', Inv X pins σ H' s' ∧ Vals vs us ∧ Q vs H'
def SP (X : Cx) (pins : List (Addr × Obj)) (D : Ends) (f : Flow) (s' : Shared) : Prop :=
  match f with
  | .next => ∃ σ' H', Inv X pins σ' H' s' ∧ D.nx σ' H'
  | .brk => ∃ σ' H', Inv X pins σ' H' s' ∧ D.bk σ' H'
  | .cont => ∃ σ' H', Inv X pins σ' H' s' ∧ D.ct σ' H'
  | .ret u => ∃ v σ' H', Inv X pins σ' H' s' ∧ RelV v u ∧ D.rt v H'

def PE (X : Cx) (e : Expr) (t : TE) : Prop :=
  ∀ (pins : List (Addr × Obj)) (s : Shared) (σ : St) (H : Hp) (Q : VK), Inv X pins σ H s → t σ H Q → wpAny (model X.prog X.w) X.A (eval e X.env) (EP X pins σ Q) X.xe s
def PT (X : Cx) (e : Expr) (t : TT) : Prop :=
  ∀ (pins : List (Addr × Obj)) (s : Shared) (σ : St) (H : Hp) (Q : Bool → Hp → Prop), Inv X pins σ H s → t σ H Q → wpAny (model X.prog X.w) X.A (isTrue e X.env (eval e X.env)) (TP X pins σ Q) X.xe s
/-- a test whatever its 'whole' is (and, or) -/
def PW (X : Cx) (e : Expr) (t : TT) : Prop :=
  ∀ (whole : Sem Value) (pins : List (Addr × Obj)) (s : Shared) (σ : St) (H : Hp) (Q : Bool → Hp → Prop), Inv X pins σ H s → t σ H Q → wpAny (model X.prog X.w) X.A (isTrue e X.env whole) (TP X pins σ Q) X.xe s
theorem PW.pt {X : Cx} {e : Expr} {t : TT} (h : PW X e t) : PT X e t := h _
/-- an argument list (no star), from the left -/
def PA (X : Cx) (es : List Expr) (t : TA) : Prop :=
  ∀ (pos : Pos) (pins : List (Addr × Obj)) (s : Shared) (σ : St) (H : Hp) (Q : List V → Hp → Prop), Inv X pins σ H s → t σ H Q → wpAny (model X.prog X.w) X.A (spliced (backTo pos (starEach es X.env))) (AP X pins σ Q) X.xe s
def PS (X : Cx) (st : Stmt) (t : TS) : Prop :=
  ∀ (pins : List (Addr × Obj)) (s : Shared) (σ : St) (H : Hp) (D : Ends), Inv X pins σ H s → t D σ H → wpAny (model X.prog X.w) X.A (exec st X.env) (SP X pins D) X.xe s
def PSs (X : Cx) (st : List Stmt) (t : TS) : Prop :=
  ∀ (pins : List (Addr × Obj)) (s : Shared) (σ : St) (H : Hp) (D : Ends), Inv X pins σ H s → t D σ H → wpAny (model X.prog X.w) X.A (execs st X.env) (SP X pins D) X.xe s
/-- weaken the end -/
theorem thn {α : Type} {t : Sem α} {Q Q' : α → Shared → Prop} {M : Model} {A : Around} {E : Value → Shared → Prop} {s : Shared} (h : wpAny M A t Q E s) (hQ : ∀ a s, Q a s → Q' a s) : wpAny M A t Q' E s := wpAny_mono h hQ fun _ _ x => x
end L2

namespace L2
open PySem PySem.Spec PyProof.Rows
section
variable {X : Cx}

/-- two expressions in a row -/
theorem bin {a b : Expr} {ta tb : TE} (ha : PE X a ta) (hb : PE X b tb) {pins : List (Addr × Obj)} {s : Shared} {σ : St} {H : Hp} {R : V → V → Hp → Prop} (I : Inv X pins σ H s) (h : ta σ H fun x H1 => tb σ H1 fun y H2 => R x y H2)
    {α : Type} {Q : α → Shared → Prop} {f : Value → Value → Sem α}
    (hf : ∀ v u s2 x y H2, Inv X pins σ H2 s2 → RelV x v → RelV y u → R x y H2 → wpAny (model X.prog X.w) X.A (f v u) Q X.xe s2) :
    wpAny (model X.prog X.w) X.A (eval a X.env) (fun v s₁ => wpAny (model X.prog X.w) X.A (eval b X.env) (fun u s₂ => wpAny (model X.prog X.w) X.A (f v u) Q X.xe s₂) X.xe s₁) X.xe s := by
  refine thn (ha pins s σ H _ I h) fun v s1 ⟨x, H1, I1, r1, q1⟩ => ?_
  refine thn (hb pins s1 σ H1 _ I1 q1) fun u s2 ⟨y, H2, I2, r2, q2⟩ => ?_
  exact hf v u s2 x y H2 I2 r1 r2 q2

/-! ### names and constants -/
def tVar (i : Nat) : TE := fun σ H Q => ∃ v, σ[i]? = some (some v) ∧ Q v H
def tC (v : V) : TE := fun _ H Q => Q v H
theorem pe_var {i : Nat} {x : Str} {pos : Pos} (hN : X.N[i]? = some x) (hv : Vis X.env.scope x) (hd : (x == ("__debug__" : Str)) = false := by decide) (hcd : (x == ("__classdict__" : Str)) = false := by decide) : PE X (.Name x pos) (tVar i) := by
  intro pins s σ H Q I h
  obtain ⟨v, e, h⟩ := h
  obtain ⟨m, hn, hl⟩ := I.loc
  obtain ⟨u, r, l⟩ := hl i x v hN e hv
  have fin : EP X pins σ Q u s := ⟨v, H, I, r, h⟩
  rcases l with ⟨hk, hm⟩ | ⟨hk, c, hc, hcell⟩
  · exact wpAny_Name (wpAny_loadName_local I.ok.kind hk hn hm fin) hd
  · rcases hk with hk | hk
    · exact wpAny_Name (wpAny_loadName_cell I.ok.kind hk hc hcell fin) hd
    · exact wpAny_Name (wpAny_loadName_free I.ok.kind hk hc hcell fin hcd) hd
theorem pe_int {i j pos} : PE X (.Constant (.int i) j pos) (tC (.int i)) := fun _ _ _ H _ I h => wpAny_Constant_int ⟨.int i, H, I.tok _, ⟨_, rfl⟩, h⟩
theorem pe_bl {b j pos} : PE X (.Constant (.bool b) j pos) (tC (.bl b)) := fun _ _ _ H _ I h => Constant_bool ⟨.bl b, H, I, rfl, h⟩
theorem pe_non {j pos} : PE X (.Constant .none j pos) (tC .non) := fun _ _ _ H _ I h => Constant_none ⟨.non, H, I, rfl, h⟩
theorem pe_str {x j pos} : PE X (.Constant (.str x) j pos) (tC (.str x)) := fun _ _ _ H _ I h => Calls.Constant_str ⟨.str x, H, I.tok _, ⟨_, rfl⟩, h⟩

/-- a global name of the def -/
def Gl (X : Cx) (x : Str) : Prop := X.env.kindOf x = some .globalImplicit
theorem ld_glob {E : Value → Shared → Prop} {pins : List (Addr × Obj)} {s : Shared} {σ : St} {H : Hp} {x : Str} {u : Value} {pos : Pos} {Q : Value → Shared → Prop} (I : Inv X pins σ H s) (hg : Gl X x) (hm : X.mg x = some u) (h : Q u s)
    (hd : (x == ("__debug__" : Str)) = false := by decide) : wpAny (model X.prog X.w) X.A (eval (.Name x pos) X.env) Q E s :=
  Calls.Name_function_global I.ok.kind hg (Calls.loadGlobal_global (by rw [I.ok.glob]; exact I.mod.glob.keeps I.bk) hm h) hd
theorem ld_blt {E : Value → Shared → Prop} {pins : List (Addr × Obj)} {s : Shared} {σ : St} {H : Hp} {x : Str} {u : Value} {pos : Pos} {Q : Value → Shared → Prop} (I : Inv X pins σ H s) (hg : Gl X x) (hm : X.mg x = none) (hv : bootBuiltins x = some u) (h : Q u s)
    (hn : x ≠ "__name__" := by decide) (hd : (x == ("__debug__" : Str)) = false := by decide) : wpAny (model X.prog X.w) X.A (eval (.Name x pos) X.env) Q E s := by
  obtain ⟨mb, h1, h2⟩ := I.mod.blt
  exact Calls.Name_function_global I.ok.kind hg (Calls.loadGlobal_builtin (by rw [I.ok.glob]; exact I.mod.glob.keeps I.bk) hm (by rw [I.ok.blt]; exact h1.keeps I.bk) ((h2 x hn).trans hv) h) hd
/-- a module's constant, a class, a function, as a value -/
theorem pe_glob {x : Str} {v : V} {u : Value} {pos : Pos} (hg : Gl X x) (hm : X.mg x = some u) (r : RelV v u) (hd : (x == ("__debug__" : Str)) = false := by decide) : PE X (.Name x pos) (tC v) :=
  fun _ _ _ H _ I h => ld_glob I hg hm ⟨v, H, I, r, h⟩ hd
theorem pe_bltn {x : Str} {v : V} {u : Value} {pos : Pos} (hg : Gl X x) (hm : X.mg x = none) (hv : bootBuiltins x = some u) (r : RelV v u) (hn : x ≠ "__name__" := by decide) (hd : (x == ("__debug__" : Str)) = false := by decide) : PE X (.Name x pos) (tC v) :=
  fun _ _ _ H _ I h => ld_blt I hg hm hv ⟨v, H, I, r, h⟩ hn hd

/-! ### arithmetic -/
/-- two ints -/
def t2I (ta tb : TE) (k : Int → Int → Hp → Prop) : St → Hp → Prop := fun σ H => ta σ H fun x H1 => tb σ H1 fun y H2 => ∃ i j, x = .int i ∧ y = .int j ∧ k i j H2
def tAdd (ta tb : TE) : TE := fun σ H Q => t2I ta tb (fun i j H2 => Q (.int (i + j)) H2) σ H
def tSub (ta tb : TE) : TE := fun σ H Q => t2I ta tb (fun i j H2 => Q (.int (i - j)) H2) σ H
/-- the left factor below 2^64 -/
def tMul (ta tb : TE) : TE := fun σ H Q => t2I ta tb (fun i j H2 => (-(2 ^ 64) < i ∧ i < 2 ^ 64) ∧ Q (.int (i * j)) H2) σ H
variable {a b : Expr} {ta tb : TE} {pos : Pos}
/-! ### comparisons -/
def PC (X : Cx) (op : CmpOp) (a b : Expr) (t : TE) : Prop :=
  ∀ (pins : List (Addr × Obj)) (s : Shared) (σ : St) (H : Hp) (Q : VK), Inv X pins σ H s → t σ H Q →
    wpAny (model X.prog X.w) X.A (eval a X.env) (fun v s₁ => wpAny (model X.prog X.w) X.A (eval b X.env) (fun u s₂ => wpAny (model X.prog X.w) X.A (compareOp op v u) (EP X pins σ Q) X.xe s₂) X.xe s₁) X.xe s
theorem nobehind (b : Expr) {op : CmpOp} (h : op ≠ .In) (h2 : op ≠ .NotIn) : behindInMarks op b = false := by
  have e1 : (op == CmpOp.In) = false := by cases op <;> first | rfl | exact absurd rfl h
  have e2 : (op == CmpOp.NotIn) = false := by cases op <;> first | rfl | exact absurd rfl h2
  cases b <;> simp [behindInMarks, e1, e2]
def tCmp (p : Int → Int → Bool) (ta tb : TE) : TE := fun σ H Q => t2I ta tb (fun i j H2 => Q (.bl (p i j)) H2) σ H
abbrev tLt : TE → TE → TE := tCmp fun i j => decide (i < j)
abbrev tLe : TE → TE → TE := tCmp fun i j => decide (i ≤ j)
abbrev tGt : TE → TE → TE := tCmp fun i j => decide (j < i)
abbrev tGe : TE → TE → TE := tCmp fun i j => decide (j ≤ i)
abbrev tEqI : TE → TE → TE := tCmp fun i j => decide (i = j)
abbrev tNeI : TE → TE → TE := tCmp fun i j => !decide (i = j)
/-- is None -/
def tIsN (ta : TE) : TE := fun σ H Q => ta σ H fun x H1 => Q (.bl (decide (x = .non))) H1
def tNotN (ta : TE) : TE := fun σ H Q => ta σ H fun x H1 => Q (.bl (!decide (x = .non))) H1
/-- a comparison as a value, as a test -/
def tB (t : TE) : TT := fun σ H Q => t σ H fun x H1 => ∃ c, x = .bl c ∧ Q c H1
theorem pt_cmp {op : CmpOp} {t : TE} (h : PC X op a b t) (h1 : behindInMarks op b = false := by first | exact nobehind _ (by decide) (by decide) | rfl) : PT X (.Compare a [op] [b] pos) (tB t) := by
  intro pins s σ H Q I hw
  refine wpAny_isTrue_Compare1 (thn (h pins s σ H _ I hw) fun v s1 h1 => thn h1 fun u s2 h2 => thn h2 fun c s3 ⟨x, H1, I1, r1, q1⟩ => ?_) h1
  obtain ⟨d, rfl, q⟩ := q1
  cases r1
  exact wpAny_truthy_bool ⟨H1, I1, q⟩
/-- an expression whose value is a bool, as a test -/
theorem pt_val {e : Expr} {t : TE} (h : PE X e t) (he : ∀ whole, isTrue e X.env whole = (do let v ← whole; standAt e.pos; holding [v] (truthy v)) := by intro _; rfl) : PT X e (tB t) := by
  intro pins s σ H Q I hw
  refine isTrue_plain (thn (h pins s σ H _ I hw) fun v s1 ⟨x, H1, I1, r1, q1⟩ => ?_) (he _)
  obtain ⟨d, rfl, q⟩ := q1
  cases r1
  exact wpAny_truthy_bool ⟨H1, I1, q⟩

/-! ### and, or, not -/
variable {tA tB' : TT} {rest : List Expr}
def tAnd (t u : TT) : TT := fun σ H Q => t σ H fun c H1 => if c = true then u σ H1 Q else Q false H1
def tOr (t u : TT) : TT := fun σ H Q => t σ H fun c H1 => if c = true then Q true H1 else u σ H1 Q
def tNot (t : TT) : TT := fun σ H Q => t σ H fun c H1 => Q (!c) H1
theorem pw_or1 (ha : PT X a tA) : PW X (.BoolOp .Or [a] pos) tA := by
  intro wh pins s σ H Q I h
  refine isTrue_or (thn (ha pins s σ H Q I h) fun c s1 e => ?_)
  cases c with
  | false => exact isTrue_or_nil e
  | true => exact e
theorem pw_or (ha : PT X a tA) (hb : PW X (.BoolOp .Or (b :: rest) pos) tB') : PW X (.BoolOp .Or (a :: b :: rest) pos) (tOr tA tB') := by
  intro wh pins s σ H Q I h
  refine isTrue_or (thn (ha pins s σ H _ I h) fun c s1 ⟨H1, I1, q1⟩ => ?_)
  cases c with
  | true => exact ⟨H1, I1, q1⟩
  | false => exact hb wh pins s1 σ H1 Q I1 q1
theorem pt_not (ha : PT X a tA) : PT X (.UnaryOp .Not a pos) (tNot tA) := by
  intro pins s σ H Q I h
  exact isTrue_not (ha pins s σ H (fun c H1 => Q (!c) H1) I h)
/-- .. as values (bools) -/
def tAndV (ta tb : TE) : TE := fun σ H Q => ta σ H fun x H1 => ∃ c, x = .bl c ∧ if c = true then tb σ H1 Q else Q (.bl false) H1
def tOrV (ta tb : TE) : TE := fun σ H Q => ta σ H fun x H1 => ∃ c, x = .bl c ∧ if c = true then Q (.bl true) H1 else tb σ H1 Q
def tNotV (ta : TE) : TE := fun σ H Q => ta σ H fun x H1 => ∃ c, x = .bl c ∧ Q (.bl (!c)) H1
theorem pe_one {op} {t : TE} (h : PE X a t) : PE X (.BoolOp op [a] pos) t := fun pins s σ H Q I hw => BoolOp_one (h pins s σ H Q I hw)
theorem pe_and (ha : PE X a ta) (hb : PE X (.BoolOp .And (b :: rest) pos) tb) : PE X (.BoolOp .And (a :: b :: rest) pos) (tAndV ta tb) := by
  intro pins s σ H Q I h
  refine BoolOp_and (thn (ha pins s σ H _ I h) fun v s1 ⟨x, H1, I1, r1, q1⟩ => ?_)
  obtain ⟨c, rfl, q1⟩ := q1
  cases r1
  refine wpAny_truthy_bool ?_
  cases c with
  | true => exact hb pins s1 σ H1 Q I1 q1
  | false => exact ⟨.bl false, H1, I1, rfl, q1⟩
theorem pe_not (ha : PE X a ta) : PE X (.UnaryOp .Not a pos) (tNotV ta) := by
  intro pins s σ H Q I h
  refine UnaryOp_ (thn (ha pins s σ H _ I h) fun v s1 ⟨x, H1, I1, r1, q1⟩ => ?_)
  obtain ⟨c, rfl, q1⟩ := q1
  cases r1
  exact not_of (wpAny_truthy_bool ⟨.bl (!c), H1, I1, rfl, q1⟩)
/-- a if t else b -/
def tIf (t : TT) (ta tb : TE) : TE := fun σ H Q => t σ H fun c H1 => if c = true then ta σ H1 Q else tb σ H1 Q
end
end L2

namespace L2
open PySem PySem.Spec PyProof.Rows

/-! ### a list, a tuple that is read: tracked, frozen, or an object of the module -/
def SqL (K : PySem.W.Frag) (H : Hp) (a : Addr) (xs : List V) : Prop :=
  Rd H a (.lst xs) ∨
    ∃ (o : Obj) (its : Array Value) (n : Nat), K.lookup a = some o ∧ o.cls = .type "list" ∧ o.dict = none ∧ o.data = .seq its n ∧ its.size ≤ sizeLine ∧ Vals xs its.toList
def SqT (K : PySem.W.Frag) (H : Hp) (a : Addr) (xs : List V) : Prop :=
  Rd H a (.tup xs) ∨
    ∃ (o : Obj) (its : Array Value) (n : Nat), K.lookup a = some o ∧ o.cls = .type "tuple" ∧ o.data = .seq its n ∧ its.size ≤ sizeLine ∧ Vals xs its.toList
def absV : Value → Option V
  | .none => some .non
  | .bool b => some (.bl b)
  | .int i _ => some (.int i)
  | .str x _ => some (.str x)
  | .bytes b _ => some (.byt b)
  | .float b _ => some (.flt b)
  | .ref a => some (.ref a)
  | .type n => some (.ty n)
  | _ => none
theorem RelV.abs {x : V} {u : Value} (r : RelV x u) : absV u = some x := by
  cases x with
  | non => cases r; rfl
  | bl _ => cases r; rfl
  | int _ => obtain ⟨t, rfl⟩ := r; rfl
  | str _ => obtain ⟨t, rfl⟩ := r; rfl
  | byt _ => obtain ⟨t, rfl⟩ := r; rfl
  | flt _ => obtain ⟨t, rfl⟩ := r; rfl
  | ref _ => cases r; rfl
  | ty _ => cases r; rfl
theorem RelV.inj {x y : V} {u : Value} (r : RelV x u) (q : RelV y u) : x = y := Option.some.inj (r.abs.symm.trans q.abs)
theorem Vals.inj : ∀ {xs ys : List V} {us : List Value}, Vals xs us → Vals ys us → xs = ys
  | _, _, _, .nil, .nil => rfl
  | _, _, _, .cons r t, .cons r' t' => by rw [r.inj r', Vals.inj t t']
section
variable {X : Cx} {pins : List (Addr × Obj)} {σ : St} {H : Hp} {s : Shared} {a : Addr} {xs ys : List V}
theorem SqL.of {K : PySem.W.Frag} (h : H a = some (.lst xs)) : SqL K H a xs := .inl (.inl h)
theorem SqT.of {K : PySem.W.Frag} (h : H a = some (.tup xs)) : SqT K H a xs := .inl (.inl h)
theorem Inv.list (I : Inv X pins σ H s) (h : SqL X.K H a xs) : ∃ its : List Value, Vals xs its ∧ PlainL s.heap a its.toArray ∧ xs.length ≤ sizeLine := by
  rcases h with h | ⟨o, its, n, hk, hc, hd, hs, hz, r⟩
  · obtain ⟨z, its, n, r, e⟩ := h.ok I.hok
    exact ⟨its, r, ⟨_, n, e, rfl, rfl, rfl⟩, z⟩
  · refine ⟨its.toList, r, ⟨o, n, I.kIn a o hk, hc, hd, by simpa using hs⟩, ?_⟩
    have e := r.length
    simp only [Array.length_toList] at e
    omega
theorem Inv.tuple (I : Inv X pins σ H s) (h : SqT X.K H a xs) : ∃ its : List Value, Vals xs its ∧ IsTup s.heap a its.toArray ∧ xs.length ≤ sizeLine := by
  rcases h with h | ⟨o, its, n, hk, hc, hs, hz, r⟩
  · obtain ⟨z, its, r, p⟩ := h.ok I.hok
    exact ⟨its, r, p, z⟩
  · refine ⟨its.toList, r, ⟨o, I.kIn a o hk, hc, n, by simpa using hs⟩, ?_⟩
    have e := r.length
    simp only [Array.length_toList] at e
    omega
theorem Inv.list_inj (I : Inv X pins σ H s) (h : SqL X.K H a xs) (h' : SqL X.K H a ys) : xs = ys := by
  obtain ⟨its, r, ⟨o, n, e, _, _, d⟩, _⟩ := I.list h
  obtain ⟨its', r', ⟨o', n', e', _, _, d'⟩, _⟩ := I.list h'
  rw [e] at e'; cases e'
  rw [d] at d'
  injection d' with d1 _
  have : its = its' := by simpa using congrArg Array.toList d1
  subst this
  exact r.inj r'
theorem Inv.tuple_inj (I : Inv X pins σ H s) (h : SqT X.K H a xs) (h' : SqT X.K H a ys) : xs = ys := by
  obtain ⟨its, r, ⟨o, e, _, n, d⟩, _⟩ := I.tuple h
  obtain ⟨its', r', ⟨o', e', _, n', d'⟩, _⟩ := I.tuple h'
  rw [e] at e'; cases e'
  rw [d] at d'
  injection d' with d1 _
  have : its = its' := by simpa using congrArg Array.toList d1
  subst this
  exact r.inj r'
end

/-! ### another wish about exceptions -/
abbrev Cx.wish (X : Cx) (E : Value → Shared → Prop) : Cx := { X with xe := E }
/-- no exception leaves -/
abbrev Cx.nox (X : Cx) : Cx := X.wish fun _ _ => False
theorem Cx.Ok.wish {X : Cx} (ok : X.Ok) (E : Value → Shared → Prop) : (X.wish E).Ok :=
  ⟨ok.mod, ok.kind, ok.glob, ok.blt, ok.above, ok.inj, ok.has, ok.cab, ok.hd, ok.frames, ok.stk, ok.exf, ok.bs, ok.bsz, ok.noex, ok.exfs, ok.funs, ok.frf⟩
theorem Cx.Ok.unwish {X : Cx} {E : Value → Shared → Prop} (ok : (X.wish E).Ok) : X.Ok :=
  ⟨ok.mod, ok.kind, ok.glob, ok.blt, ok.above, ok.inj, ok.has, ok.cab, ok.hd, ok.frames, ok.stk, ok.exf, ok.bs, ok.bsz, ok.noex, ok.exfs, ok.funs, ok.frf⟩
section
variable {X : Cx} {pins : List (Addr × Obj)} {σ : St} {H : Hp} {s : Shared} {E : Value → Shared → Prop}
theorem Inv.wish (I : Inv X pins σ H s) (E : Value → Shared → Prop) : Inv (X.wish E) pins σ H s := ⟨I.ok.wish E, I.os, I.bare, I.base, I.loc, I.cell, I.free, I.freeC, I.pin, I.hok, I.len⟩
theorem Inv.unwish (I : Inv (X.wish E) pins σ H s) : Inv X pins σ H s := ⟨I.ok.unwish, I.os, I.bare, I.base, I.loc, I.cell, I.free, I.freeC, I.pin, I.hok, I.len⟩
theorem SP.unwish {D : Ends} {f : Flow} {s' : Shared} (h : SP (X.wish E) pins D f s') : SP X pins D f s' := by
  cases f with
  | next => obtain ⟨σ', H', I, q⟩ := h; exact ⟨σ', H', I.unwish, q⟩
  | brk => obtain ⟨σ', H', I, q⟩ := h; exact ⟨σ', H', I.unwish, q⟩
  | cont => obtain ⟨σ', H', I, q⟩ := h; exact ⟨σ', H', I.unwish, q⟩
  | ret u => obtain ⟨v, σ', H', I, r, q⟩ := h; exact ⟨v, σ', H', I.unwish, r, q⟩
theorem PE.nox {e : Expr} {t : TE} (h : PE X.nox e t) : PE X e t := fun pins s σ H Q I hw =>
  wpAny_mono (h pins s σ H Q (I.wish _) hw) (fun _ _ ⟨v, H', I', r, q⟩ => ⟨v, H', I'.unwish, r, q⟩) fun _ _ z => False.elim z
theorem PT.nox {e : Expr} {t : TT} (h : PT X.nox e t) : PT X e t := fun pins s σ H Q I hw =>
  wpAny_mono (h pins s σ H Q (I.wish _) hw) (fun _ _ ⟨H', I', q⟩ => ⟨H', I'.unwish, q⟩) fun _ _ z => False.elim z
theorem PSs.nox {st : List Stmt} {t : TS} (h : PSs X.nox st t) : PSs X st t := fun pins s σ H D I hw =>
  wpAny_mono (h pins s σ H D (I.wish _) hw) (fun _ _ q => q.unwish) fun _ _ z => False.elim z
end

/-! ### blocks and small statements -/
section
variable {X : Cx} {st : Stmt} {rest : List Stmt} {t u : TS} {e : Expr} {te : TE} {pos : Pos}
def tNext : TS := fun D σ H => D.nx σ H
def tSeq (t u : TS) : TS := fun D σ H => t { D with nx := u D } σ H
theorem pss_nil : PSs X [] tNext := fun _ _ σ H _ I h => wpAny_execs_nil ⟨σ, H, I, h⟩
theorem pss_cons (h1 : PS X st t) (h2 : PSs X rest u) : PSs X (st :: rest) (tSeq t u) := by
  intro pins s σ H D I h
  refine wpAny_execs_cons (thn (h1 pins s σ H { D with nx := u D } I h) fun f s1 q => ?_)
  cases f with
  | next =>
    obtain ⟨σ', H', I', q⟩ := q
    exact h2 pins s1 σ' H' D I' q
  | ret v => exact q
  | brk => exact q
  | cont => exact q
theorem pss_one (h1 : PS X st t) : PSs X [st] t := by
  intro pins s σ H D I h
  refine wpAny_execs_cons (thn (h1 pins s σ H D I h) fun f s1 q => ?_)
  cases f with
  | next => exact wpAny_execs_nil q
  | ret v => exact q
  | brk => exact q
  | cont => exact q
def tBreak : TS := fun D σ H => D.bk σ H
def tCont : TS := fun D σ H => D.ct σ H
/-- in a def's body nothing is shown -/
theorem Inv.quiet {pins : List (Addr × Obj)} {σ : St} {H : Hp} {s : Shared} (I : Inv X pins σ H s) : interactive X.env = false := by simp [interactive, I.ok.kind]
/-- an expression whose value is dropped -/
def tDrop (te : TE) : TS := fun D σ H => te σ H fun _ H1 => D.nx σ H1
theorem ps_expr (he : PE X e te) (hs : swapsWith e none pos.line X.env = pure false := by rfl) : PS X (.Expr e pos) (tDrop te) := by
  intro pins s σ H D I h
  exact wpAny_Expr_any (thn (he pins s σ H _ I h) fun v s1 ⟨x, H1, I1, r1, q1⟩ => ⟨σ, H1, I1, q1⟩) I.quiet hs
def tRet (te : TE) : TS := fun D σ H => te σ H D.rt
theorem ps_ret (he : PE X e te) : PS X (.Return (some e) pos) (tRet te) := by
  intro pins s σ H D I h
  exact wpAny_Return_some (thn (he pins s σ H _ I h) fun v s1 ⟨x, H1, I1, r1, q1⟩ => ⟨x, σ, H1, I1, r1, q1⟩)
def tRetN : TS := fun D _ H => D.rt .non H
def tIfS (c : TT) (t u : TS) : TS := fun D σ H => c σ H fun b H1 => if b = true then t D σ H1 else u D σ H1
theorem ps_if {c : Expr} {a b : List Stmt} {tc : TT} (hc : PT X c tc) (ha : PSs X a t) (hb : PSs X b u) : PS X (.If c a b pos) (tIfS tc t u) := by
  intro pins s σ H D I h
  refine wpAny_If (thn (hc pins s σ H _ I h) fun d s1 ⟨H1, I1, q1⟩ => ?_)
  cases d with
  | true => exact ha pins s1 σ H1 D I1 q1
  | false => exact hb pins s1 σ H1 D I1 q1
/-- code that the proof never comes to -/
def tNever : TS := fun _ _ _ => False
end

/-! ### targets -/
abbrev TG := V → St → Hp → (St → Hp → Prop) → Prop
abbrev TGs := List V → St → Hp → (St → Hp → Prop) → Prop
def PG (X : Cx) (target : Expr) (t : TG) : Prop :=
  ∀ (pins : List (Addr × Obj)) (s : Shared) (σ : St) (H : Hp) (v : V) (u : Value) (Q : St → Hp → Prop), Inv X pins σ H s → RelV v u → t v σ H Q →
    wpAny (model X.prog X.w) X.A (assign target X.env u) (fun _ s' => ∃ σ' H', Inv X pins σ' H' s' ∧ Q σ' H') X.xe s
/-- several targets, one after another -/
def PGs (X : Cx) (ts : List Expr) (t : TGs) : Prop :=
  ∀ (pins : List (Addr × Obj)) (s : Shared) (σ : St) (H : Hp) (vs : List V) (us : List Value) (Q : St → Hp → Prop), Inv X pins σ H s → Vals vs us → t vs σ H Q →
    wpAny (model X.prog X.w) X.A (assignInOrder ((assignEach ts X.env).map (·.2)) us) (fun _ s' => ∃ σ' H', Inv X pins σ' H' s' ∧ Q σ' H') X.xe s
/-- o[i] = v, by values -/
abbrev TSet := V → V → V → Hp → (Hp → Prop) → Prop
def PSet (X : Cx) (t : TSet) : Prop :=
  ∀ (pins : List (Addr × Obj)) (s : Shared) (σ : St) (H : Hp) (o i v : V) (ov iv u : Value) (Q : Hp → Prop), Inv X pins σ H s → RelV o ov → RelV i iv → RelV v u → t o i v H Q →
    wpAny (model X.prog X.w) X.A (setItem ov iv u) (fun _ s' => ∃ H', Inv X pins σ H' s' ∧ Q H') X.xe s
/-- a op= b, by values -/
abbrev TIp := V → V → Hp → VK → Prop
def PIp (X : Cx) (op : Operator) (t : TIp) : Prop :=
  ∀ (pins : List (Addr × Obj)) (s : Shared) (σ : St) (H : Hp) (x y : V) (v u : Value) (Q : VK), Inv X pins σ H s → RelV x v → RelV y u → t x y H Q →
    wpAny (model X.prog X.w) X.A (inplaceOp op v u) (EP X pins σ Q) X.xe s
section
variable {X : Cx} {pos : Pos}
def gName (i : Nat) : TG := fun v σ H Q => Q (σ.set i (some v)) H
theorem pg_name {i : Nat} {x : Str} (hN : X.N.Nodup) (hi : X.N[i]? = some x) (hx : Loc X.env.scope x) (hf : X.fn x = true ∨ X.env.scope.names.lookup x = some .local := by first | exact .inl rfl | exact .inr rfl | assumption) : PG X (.Name x pos) (gName i) := by
  intro pins s σ H v u Q I r h
  exact wpAny_assign_Name (store_ok I hN hi hx r (fun s' I' => ⟨_, H, I', h⟩) hf)
def gNil : TGs := fun vs σ H Q => vs = [] ∧ Q σ H
def gCons (t : TG) (u : TGs) : TGs := fun vs σ H Q => ∃ v r, vs = v :: r ∧ t v σ H fun σ' H' => u r σ' H' Q
theorem pgs_nil : PGs X [] gNil := by
  intro pins s σ H vs us Q I r h
  obtain ⟨e, h⟩ := h
  subst e
  cases r
  exact assignInOrder_nil ⟨σ, H, I, h⟩
theorem pgs_cons {e : Expr} {es : List Expr} {t : TG} {u : TGs} (h1 : PG X e t) (h2 : PGs X es u)
    (hs : (assignEach (e :: es) X.env).map (·.2) = assign e X.env :: (assignEach es X.env).map (·.2) := by rfl) : PGs X (e :: es) (gCons t u) := by
  intro pins s σ H vs us Q I r h
  obtain ⟨v, vr, e1, h⟩ := h
  subst e1
  cases r with
  | cons r rr =>
    rw [hs]
    refine assignInOrder_cons (thn (h1 pins s σ H _ _ _ I r h) fun _ s1 ⟨σ1, H1, I1, q1⟩ => ?_)
    exact h2 pins s1 σ1 H1 _ _ Q I1 rr q1
/-- (a, b, ..) = a tuple of that length -/
def gTup (K : PySem.W.Frag) (n : Nat) (t : TGs) : TG := fun v σ H Q => ∃ a xs, v = .ref a ∧ SqT K H a xs ∧ xs.length = n ∧ t xs σ H Q
theorem pg_tup {es : List Expr} {k : Nat} {t : TGs} {n : Nat} (hc : X.calm = true) (h : PGs X es t)
    (hn : (assignEach es X.env).length = n := by rfl) (hst : (assignEach es X.env).findIdx? (·.1) = none := by rfl) : PG X (.Tuple es k pos) (gTup X.K n t) := by
  intro pins s σ H v u Q I r hw
  obtain ⟨a, xs, e1, hq, hl, hw⟩ := hw
  subst e1
  cases r
  obtain ⟨its, rv, ht, hz⟩ := I.tuple hq
  refine assign_Tuple_tuple (I.ok.hd hc) ht (by simp [hn, ← hl, rv.length]) hst fun h' hx => ?_
  have I1 : Inv X pins σ H { s with heap := h' } := I.kept (t' := s.toks) fun b o e => hx b o (Nat.ne_of_lt (Heap.lt_size e)) e
  exact h pins _ σ H xs _ Q I1 (by simpa using rv) hw
/-- o[i] = .. -/
def gSub (to ti : TE) (t : TSet) : TG := fun v σ H Q => to σ H fun o H1 => ti σ H1 fun i H2 => t o i v H2 fun H3 => Q σ H3
theorem pg_sub {o i : Expr} {to ti : TE} {t : TSet} (ho : PE X o to) (hi : PE X i ti) (hs : PSet X t)
    (ha : ∀ v, assign (.Subscript o i pos) X.env v = (do
      let ov ← holding [v] (eval o X.env)
      let iv ← holding [v, ov] (eval i X.env)
      standAt pos
      holding [v, ov, iv] (setItem ov iv v)
      release [v, ov, iv] []) := by intro _; rfl) : PG X (.Subscript o i pos) (gSub to ti t) := by
  intro pins s σ H v u Q I r h
  rw [ha]
  refine wpAny_bind (wpAny_holding (thn (ho pins s σ H _ I h) fun ov s1 ⟨x, H1, I1, r1, q1⟩ => ?_))
  refine wpAny_bind (wpAny_holding (thn (hi pins s1 σ H1 _ I1 q1) fun iv s2 ⟨y, H2, I2, r2, q2⟩ => ?_))
  refine wpAny_bind (wpAny_standAt (wpAny_bind (wpAny_holding (thn (hs pins s2 σ H2 x y v ov iv u _ I2 r1 r2 r q2) fun _ s3 ⟨H3, I3, q3⟩ => ?_))))
  exact wpAny_release ⟨σ, H3, I3, q3⟩
/-- target = value -/
def tAsg (te : TE) (g : TG) : TS := fun D σ H => te σ H fun x H1 => g x σ H1 D.nx
theorem ps_asg {tg e : Expr} {te : TE} {g : TG} (he : PE X e te) (hg : PG X tg g) (hs : swapsWithSole [tg] e pos.line X.env = pure false := by rfl) (hw : swappedStores [tg] e X.env = pure none := by rfl)
    (h1 : (assignEach [tg] X.env).map (·.2) = [assign tg X.env] := by rfl) : PS X (.Assign [tg] e pos) (tAsg te g) := by
  intro pins s σ H D I h
  refine wpAny_Assign_stores (thn (he pins s σ H _ I h) fun v s1 ⟨x, H1, I1, r1, q1⟩ => ?_) hs hw
  rw [h1]
  exact thn (hg pins s1 σ H1 x v _ I1 r1 q1) fun _ s2 q => q
/-- name = value -/
theorem ps_set {i : Nat} {x : Str} {e : Expr} {te : TE} {pos' : Pos} (hN : X.N.Nodup) (hi : X.N[i]? = some x) (hx : Loc X.env.scope x) (he : PE X e te) (hs : swapsWith e (some (.Name x pos')) pos.line X.env = pure false := by rfl) (hf : X.fn x = true ∨ X.env.scope.names.lookup x = some .local := by first | exact .inl rfl | exact .inr rfl | assumption) :
    PS X (.Assign [.Name x pos'] e pos) (tAsg te (gName i)) := by
  intro pins s σ H D I h
  refine wpAny_Assign_Name (thn (he pins s σ H _ I h) fun v s1 ⟨y, H1, I1, r1, q1⟩ => ?_) hs
  exact store_ok I1 hN hi hx r1 (fun s2 I2 => ⟨_, H1, I2, q1⟩) hf
/-- a, b = x, y with plain local names: stored from the right; the pair itself is not tracked (the opening rows as in PyProof/Rows/TupAssign.lean:23) -/
def tPar (i j : Nat) (ta : TA) : TS := fun D σ H => ta σ H fun vs H1 => ∃ v w, vs = [v, w] ∧ D.nx ((σ.set i (some v)).set j (some w)) H1
theorem ps_par {i j : Nat} {x y : Str} {a b : Expr} {ta : TA} {px py pt : Pos} {kt k2 pt2} (hc : X.calm = true) (hN : X.N.Nodup) (hi : X.N[i]? = some x) (hj : X.N[j]? = some y) (hij : i ≠ j)
    (hx : X.env.scope.names.lookup x = some .local) (hy : X.env.scope.names.lookup y = some .local) (ha : PA X [a, b] ta)
    (hw : swappedStores [.Tuple [.Name x px, .Name y py] kt pt] (.Tuple [a, b] k2 pt2) X.env = pure (some [x, y]))
    (hs : swapsWithSole [.Tuple [.Name x px, .Name y py] kt pt] (.Tuple [a, b] k2 pt2) pos.line X.env = pure false := by rfl) :
    PS X (.Assign [.Tuple [.Name x px, .Name y py] kt pt] (.Tuple [a, b] k2 pt2) pos) (tPar i j ta) := by
  intro pins s σ H D I h
  rw [exec_Assign_arm]
  refine wpAny_bind (wpAny_standAt ?_)
  rw [hs]
  refine wpAny_bind (wpAny_pure ?_)
  rw [if_neg (by decide)]
  refine wpAny_bind (Tuple_ (thn (ha _ pins s σ H _ I h) fun us s1 ⟨vs, H1, I1, r1, q1⟩ => ?_))
  obtain ⟨v, w, e1, q1⟩ := q1
  subst e1
  obtain ⟨u1, u2, rfl, rv, rw'⟩ : ∃ u1 u2, us = [u1, u2] ∧ RelV v u1 ∧ RelV w u2 := by
    cases r1 with
    | cons p q =>
      cases q with
      | cons p' q' =>
        cases q'
        exact ⟨_, _, rfl, p, p'⟩
  refine wpAny_newObj_type ?_ (by show 2 ≤ sizeLine; decide)
  have I2 : Inv X pins σ H1 { s1 with heap := s1.heap.push { cls := .type "tuple", data := .seq [u1, u2].toArray } } := I1.kept (t' := s1.toks) fun b o e => Heap.get?_push_of_some _ e
  rw [hw]
  refine wpAny_bind (wpAny_pure ?_)
  show wpAny (model X.prog X.w) X.A (do rule "assign.swapped-stores"; let items ← unpackItems (.ref s1.heap.objs.size) 2 none; assignInOrder [fun v => bindName X.env y v, fun v => bindName X.env x v] items.reverse; pure Flow.next) _ _ _
  refine wpAny_bind (wpAny_rule (wpAny_bind (unpackItems_tuple (items := #[u1, u2]) (I.ok.hd hc) (IsTup.new s1.heap _) fun h' hx' => ?_)))
  have I3 := I2.kept (h' := h') (t' := s1.toks) fun b o e => hx' b o (Nat.ne_of_lt (Heap.lt_size e)) e
  show wpAny _ _ (assignInOrder [fun v => bindName X.env y v, fun v => bindName X.env x v] [u2, u1] >>= fun _ => pure Flow.next) _ _ _
  refine wpAny_bind (assignInOrder_cons (wpAny_bindName (store_ok I3 hN hj (.inl hy) rw' (fun s2 I4 => ?_) (.inr hy))))
  refine assignInOrder_cons (wpAny_bindName (store_ok I4 hN hi (.inl hx) rv (fun s3 I5 => assignInOrder_nil (wpAny_pure ?_)) (.inr hx)))
  rw [List.set_comm _ _ (Ne.symm hij)] at I5
  exact ⟨_, H1, I5, q1⟩
/-- name op= e -/
def tAug (i : Nat) (te : TE) (ti : TIp) : TS := fun D σ H => ∃ x, σ[i]? = some (some x) ∧ te σ H fun y H1 => ti x y H1 fun z H2 => D.nx (σ.set i (some z)) H2
/-- o[i] op= e -/
def tAugS (to ti te : TE) (tget : V → V → Hp → VK → Prop) (tip : TIp) (tset : TSet) : TS := fun D σ H => to σ H fun o H1 => ti σ H1 fun i H2 => tget o i H2 fun x H3 => te σ H3 fun y H4 => tip x y H4 fun z H5 => tset o i z H5 fun H6 => D.nx σ H6
/-- o[i], by values -/
def PGet (X : Cx) (t : V → V → Hp → VK → Prop) : Prop :=
  ∀ (pins : List (Addr × Obj)) (s : Shared) (σ : St) (H : Hp) (o i : V) (ov iv : Value) (Q : VK), Inv X pins σ H s → RelV o ov → RelV i iv → t o i H Q →
    wpAny (model X.prog X.w) X.A (getItem ov iv) (EP X pins σ Q) X.xe s
/-- ints -/
def ipI (f : Int → Int → Int) : TIp := fun x y H Q => ∃ i j, x = .int i ∧ y = .int j ∧ Q (.int (f i j)) H
end

/-! ### while -/
section
variable {X : Cx} {pos : Pos}
/-- the invariant W with its measure -/
def tWhile (c : TT) (tb : TS) : TS := fun D σ H => ∃ W : Nat → St → Hp → Prop, (∃ m, W m σ H) ∧ ∀ m σ H, W m σ H →
  c σ H fun b H1 => if b = true then ∃ N : St → Hp → Prop, (∀ σ' H', N σ' H' → ∃ m', m' < m ∧ W m' σ' H') ∧ tb { D with nx := N, ct := N, bk := D.nx } σ H1 else D.nx σ H1
theorem ps_while {c : Expr} {body : List Stmt} {tc : TT} {tb : TS} (hp : PassesOwn (model X.prog X.w) X.A X.env X.xe) (hc : PT X c tc) (hb : PSs X body tb) : PS X (.While c body [] pos) (tWhile tc tb) := by
  intro pins s σ H D I h
  obtain ⟨W, ⟨m0, w0⟩, turn⟩ := h
  refine wpAny_While (codeAny_whileLoop (fun n s' => ∃ σ' H', Inv X pins σ' H' s' ∧ W n σ' H') ?_ m0 ⟨σ, H, I, w0⟩)
  rintro n s1 ⟨σ1, H1, I1, w1⟩
  refine wpAny_passesOwn hp (thn (hc pins s1 σ1 H1 _ I1 (turn n σ1 H1 w1)) fun b s2 ⟨H2, I2, q2⟩ => ?_)
  cases b with
  | true =>
    obtain ⟨N, hN, q2⟩ := q2
    rw [if_pos rfl]
    refine wpAny_passesOwn hp (thn (hb pins s2 σ1 H2 _ I2 q2) fun f s3 q3 => ?_)
    cases f with
    | next =>
      obtain ⟨σ3, H3, I3, n3⟩ := q3
      obtain ⟨m', hm, w3⟩ := hN σ3 H3 n3
      exact ⟨m', hm, σ3, H3, I3, w3⟩
    | cont =>
      obtain ⟨σ3, H3, I3, n3⟩ := q3
      obtain ⟨m', hm, w3⟩ := hN σ3 H3 n3
      exact ⟨m', hm, σ3, H3, I3, w3⟩
    | brk => exact q3
    | ret v => exact q3
  | false =>
    rw [if_neg Bool.false_ne_true]
    exact wpAny_execs_nil ⟨σ1, H2, I2, q2⟩
end

/-! ### what a loop or a comprehension walks -/
/-- at turn i: it yields x (the heap may grow), or it stops -/
structure It where
  go : Nat → Hp → Prop
  yld : Nat → Hp → V → Hp → Prop
  stop : Nat → Hp → Prop
/-- the iterator's own objects may turn: they are not the frame's, not pinned, younger than the entry (or a comprehension's own) -/
def FpOk (X : Cx) (pins : List (Addr × Obj)) (H : Hp) (b : Addr) : Prop :=
  H b = none ∧ b ≠ X.env.locals ∧ b ∉ X.fs ∧ (b ∈ X.ex ∨ X.s₀.heap.objs.size ≤ b) ∧ (∀ x c, X.env.cells.lookup x = some c → c ≠ b) ∧ ∀ p ∈ X.pn ++ pins, p.1 ≠ b
theorem Inv.fpOk {X : Cx} {pins : List (Addr × Obj)} {σ : St} {H H' : Hp} {s : Shared} {b : Addr} (I : Inv X pins σ H s) (hb : s.heap.objs.size ≤ b) (hn : H' b = none) : FpOk X pins H' b := by
  refine ⟨hn, Nat.ne_of_gt (Nat.lt_of_lt_of_le I.lt hb), I.nofs hb, .inr (Nat.le_trans I.sz hb), fun x c e z => ?_, fun p hp z => ?_⟩
  · obtain ⟨v, q⟩ := I.cell x c e
    exact absurd (Nat.lt_of_lt_of_le q.lt (by rw [z]; exact hb)) (Nat.lt_irrefl _)
  · exact absurd (Nat.lt_of_lt_of_le (Heap.lt_size (I.pin p hp).1) (by rw [z]; exact hb)) (Nat.lt_irrefl _)
structure Turn (P : Program) (w : World) (K : PySem.W.Frag) (tg : Expr) (J : It) (fp : List Addr) (it : Addr) (tn : Nat → Heap → Prop) : Prop where
  mem : it ∈ fp
  obj : ∀ i h, tn i h → ∀ b ∈ fp, ∃ o, h.get? b = some o ∧ ∀ v, o.data ≠ .cell v
  keep : ∀ i h h', tn i h → (∀ b ∈ fp, ∀ o, h.get? b = some o → h'.get? b = some o) → tn i h'
  item : ∀ (X : Cx), X.prog = P → X.w = w → X.K = K → X.calm = true → ∀ (i : Nat) (pins : List (Addr × Obj)) (s : Shared) (σ : St) (H : Hp) (E : Value → Shared → Prop), Inv X pins σ H s → (∀ b ∈ fp, FpOk X pins H b) → tn i s.heap → J.go i H →
    wpAny (model P w) X.A (pyNext (.ref it)) (fun r s1 => ∃ u, r = some u ∧
      wpAny (model P w) X.A (letOwnedTupleGo tg (.ref it) u) (fun _ s2 => ∃ x H', Inv X pins σ H' s2 ∧ RelV x u ∧ J.yld i H x H' ∧ tn (i + 1) s2.heap ∧ ∀ b ∈ fp, H' b = none) E s1) E s
  done : ∀ (X : Cx), X.prog = P → X.w = w → X.K = K → X.calm = true → ∀ (i : Nat) (pins : List (Addr × Obj)) (s : Shared) (σ : St) (H : Hp) (E : Value → Shared → Prop), Inv X pins σ H s → (∀ b ∈ fp, FpOk X pins H b) → tn i s.heap → J.stop i H →
    wpAny (model P w) X.A (pyNext (.ref it)) (fun r s1 => r = none ∧ Inv X pins σ H s1) E s
  self : ∀ (A : Around) (i : Nat) (s : Shared) (Q : Value → Shared → Prop) (E : Value → Shared → Prop), tn i s.heap → Q (.ref it) s → wpAny (model P w) A (pyIter (.ref it)) Q E s
abbrev TI := St → Hp → (It → Hp → Prop) → Prop
/-- an iterator has come -/
def PIE (X : Cx) (pins : List (Addr × Obj)) (σ : St) (tg : Expr) (R : It → Hp → Prop) (itv : Value) (s2 : Shared) : Prop :=
  ∃ (it : Addr) (fp : List Addr) (tn : Nat → Heap → Prop) (J : It) (H' : Hp), itv = .ref it ∧ Inv X pins σ H' s2 ∧ Turn X.prog X.w X.K tg J fp it tn ∧ tn 0 s2.heap ∧ (∀ b ∈ fp, FpOk X pins H' b) ∧ R J H'
def PI (X : Cx) (tg iter : Expr) (wi : TI) : Prop :=
  ∀ (pins : List (Addr × Obj)) (s : Shared) (σ : St) (H : Hp) (R : It → Hp → Prop), Inv X pins σ H s → wi σ H R →
    wpAny (model X.prog X.w) X.A (eval iter X.env) (fun v s1 => wpAny (model X.prog X.w) X.A (pyIter v) (PIE X pins σ tg R) X.xe s1) X.xe s

/-- the step ahead of the store is nothing for an iterator that keeps no tuple -/
theorem go_of {M : Model} {A : Around} {E : Value → Shared → Prop} {s : Shared} {tg : Expr} {it : Addr} {u : Value} {o : Obj} {n : String} {vs : Array Value} {Q : Unit → Shared → Prop} (ho : s.heap.get? it = some o) (hc : o.cls = .type n) (hd : o.data = .fields vs)
    (hn : ["enumerate", "zip", "dict_itemiterator", "dict_reverseitemiterator", "odict_iterator", "itertools.zip_longest", "itertools.pairwise"].contains n = false) (hQ : Q () s) : wpAny M A (letOwnedTupleGo tg (.ref it) u) Q E s := by
  unfold letOwnedTupleGo
  cases tg <;> first
    | exact wpAny_pure hQ
    | (cases u <;> first
        | exact wpAny_pure hQ
        | (refine wpAny_bind (wpAny_load ho ?_)
           rw [hc, hd]
           show wpAny M A (if (["enumerate", "zip", "dict_itemiterator", "dict_reverseitemiterator", "odict_iterator", "itertools.zip_longest", "itertools.pairwise"].contains n && vs[0]? == some (rawInt _)) = true then _ else _) Q E s
           rw [if_neg (by intro h; rw [hn, Bool.false_and] at h; cases h)]
           exact wpAny_pure hQ))

/-- the list at a, as it stands at each turn (a loop may append to it) -/
def Itl (K : PySem.W.Frag) (a : Addr) : It :=
  ⟨fun i H => ∃ xs x, SqL K H a xs ∧ xs[i]? = some x, fun i H x H' => H' = H ∧ ∀ xs, SqL K H a xs → xs[i]? = some x, fun i H => ∃ xs, SqL K H a xs ∧ xs.length ≤ i⟩
def Itt (K : PySem.W.Frag) (a : Addr) : It :=
  ⟨fun i H => ∃ xs x, SqT K H a xs ∧ xs[i]? = some x, fun i H x H' => H' = H ∧ ∀ xs, SqT K H a xs → xs[i]? = some x, fun i H => ∃ xs, SqT K H a xs ∧ xs.length ≤ i⟩
/-- lo, lo + 1, .. (n of them) -/
def Itr (lo : Int) (n : Nat) : It := ⟨fun i _ => i < n, fun i H x H' => H' = H ∧ x = .int (lo + i), fun i _ => n ≤ i⟩
theorem turn_list {P : Program} {w : World} {K : PySem.W.Frag} {tg : Expr} (a it : Addr) : Turn P w K tg (Itl K a) [it] it (fun i h => h.IsListIter it a i) where
  mem := by simp
  obj := fun i h st b hb => by
    have e : b = it := by simpa using hb
    subst e
    obtain ⟨o, e, c, d⟩ := st
    exact ⟨o, e, fun v z => by rw [d] at z; cases z⟩
  keep := fun i h h' st k => st.at fun o e => k it (by simp) o e
  item := by
    intro X hP hw hK hc i pins s σ H E I hf st hg
    subst hP hw hK
    obtain ⟨xs, x, hq, hx⟩ := hg
    obtain ⟨its, rv, p, hz⟩ := I.list hq
    obtain ⟨u, hu, ru⟩ := rv.get hx
    obtain ⟨f0, f1, f2, f3, f4, f5⟩ := hf it (by simp)
    refine wpAny_pyNext_list_item st p.isList (x := u) (by simpa using hu) fun h' st' sb => ?_
    have I1 : Inv X pins σ H { s with heap := h' } := I.turned (t' := s.toks) (fun b o hb e => (sb.2 b hb).trans e) f0 f1 f3 f4 f5
    obtain ⟨o, e, c, d⟩ := id st'
    exact ⟨u, rfl, go_of (s := { s with heap := h' }) e c d (by decide) ⟨x, H, I1, ru, ⟨rfl, fun ys hy => by rw [I.list_inj hy hq]; exact hx⟩, st', fun b hb => (hf b hb).1⟩⟩
  done := by
    intro X hP hw hK hc i pins s σ H E I hf st hg
    subst hP hw hK
    obtain ⟨xs, hq, hx⟩ := hg
    obtain ⟨its, rv, p, hz⟩ := I.list hq
    obtain ⟨f0, f1, f2, f3, f4, f5⟩ := hf it (by simp)
    have hl := rv.length
    exact wpAny_pyNext_list_end (I.ok.hd hc) st p.isList (by simp; omega) fun h' eb => ⟨rfl, I.turned (t' := s.toks) (fun b o hb e => eb b o hb e) f0 f1 f3 f4 f5⟩
  self := fun _ _ _ _ _ st h => wpAny_pyIter_listiter st h
theorem turn_tuple {P : Program} {w : World} {K : PySem.W.Frag} {tg : Expr} (a it : Addr) : Turn P w K tg (Itt K a) [it] it (fun i h => h.IsTupleIter it a i) where
  mem := by simp
  obj := fun i h st b hb => by
    have e : b = it := by simpa using hb
    subst e
    obtain ⟨o, e, c, d⟩ := st
    exact ⟨o, e, fun v z => by rw [d] at z; cases z⟩
  keep := fun i h h' st k => st.at fun o e => k it (by simp) o e
  item := by
    intro X hP hw hK hc i pins s σ H E I hf st hg
    subst hP hw hK
    obtain ⟨xs, x, hq, hx⟩ := hg
    obtain ⟨its, rv, p, hz⟩ := I.tuple hq
    obtain ⟨u, hu, ru⟩ := rv.get hx
    obtain ⟨f0, f1, f2, f3, f4, f5⟩ := hf it (by simp)
    refine wpAny_pyNext_tuple_item st (show s.heap.IsTuple a its.toArray from p) (x := u) (by simpa using hu) fun h' st' sb => ?_
    have I1 : Inv X pins σ H { s with heap := h' } := I.turned (t' := s.toks) (fun b o hb e => (sb.2 b hb).trans e) f0 f1 f3 f4 f5
    obtain ⟨o, e, c, d⟩ := id st'
    exact ⟨u, rfl, go_of (s := { s with heap := h' }) e c d (by decide) ⟨x, H, I1, ru, ⟨rfl, fun ys hy => by rw [I.tuple_inj hy hq]; exact hx⟩, st', fun b hb => (hf b hb).1⟩⟩
  done := by
    intro X hP hw hK hc i pins s σ H E I hf st hg
    subst hP hw hK
    obtain ⟨xs, hq, hx⟩ := hg
    obtain ⟨its, rv, p, hz⟩ := I.tuple hq
    obtain ⟨f0, f1, f2, f3, f4, f5⟩ := hf it (by simp)
    have hl := rv.length
    exact wpAny_pyNext_tuple_end (I.ok.hd hc) st (show s.heap.IsTuple a its.toArray from p) (by simp; omega) fun h' eb => ⟨rfl, I.turned (t' := s.toks) (fun b o hb e => eb b o hb e) f0 f1 f3 f4 f5⟩
  self := fun _ _ _ _ _ st h => wpAny_pyIter_tupleiter st h
theorem turn_range {P : Program} {w : World} {K : PySem.W.Frag} {tg : Expr} (it : Addr) (lo : Int) (n : Nat) : Turn P w K tg (Itr lo n) [it] it (fun i h => IsRangeIter h it (lo + (i : Nat) * 1) ((n : Int) - (i : Nat)) 1) where
  mem := by simp
  obj := fun i h st b hb => by
    have e : b = it := by simpa using hb
    subst e
    exact ⟨_, st, fun v z => by
      have z' : Data.fields _ = Data.cell v := z
      cases z'⟩
  keep := fun i h h' st k => k it (by simp) _ st
  item := by
    intro X hP hw hK hc i pins s σ H E I hf st hg
    subst hP hw hK
    obtain ⟨f0, f1, f2, f3, f4, f5⟩ := hf it (by simp)
    have W := Walks.range (prog := X.prog) (w := X.w) (I.ok.hd hc) it lo 1 n
    refine W.item i s _ _ hg st fun v h' tk hv st' kk => ?_
    obtain ⟨t, rfl⟩ := hv
    have I1 : Inv X pins σ H { s with heap := h', toks := tk } := I.turned (fun b o hb e => kk b o (by simpa using hb) e) f0 f1 f3 f4 f5
    refine ⟨_, rfl, go_of (s := { s with heap := h', toks := tk }) (n := "range_iterator") st' rfl rfl (by decide) ⟨.int (lo + i), H, I1, ⟨t, ?_⟩, ⟨rfl, rfl⟩, st', fun b hb => (hf b hb).1⟩⟩
    rw [Int.mul_one]
  done := by
    intro X hP hw hK hc i pins s σ H E I hf st hg
    subst hP hw hK
    obtain ⟨f0, f1, f2, f3, f4, f5⟩ := hf it (by simp)
    exact wpAny_pyNext_range_end (I.ok.hd hc) st (by have : n ≤ i := hg; omega) fun h' eb => ⟨rfl, I.turned (t' := s.toks) (fun b o hb e => eb b o hb e) f0 f1 f3 f4 f5⟩
  self := fun _ _ _ _ _ st h => wpAny_pyIter_rangeiter st h
end L2

namespace L2
open PySem PySem.Spec PyProof.Rows
section
variable {X : Cx} {tg : Expr}
def iList (K : PySem.W.Frag) (tl : TE) : TI := fun σ H R => tl σ H fun x H1 => ∃ a, x = .ref a ∧ (∃ xs, SqL K H1 a xs) ∧ R (Itl K a) H1
def iTup (K : PySem.W.Frag) (tl : TE) : TI := fun σ H R => tl σ H fun x H1 => ∃ a, x = .ref a ∧ (∃ xs, SqT K H1 a xs) ∧ R (Itt K a) H1
theorem pi_list {l : Expr} {tl : TE} (hl : PE X l tl) : PI X tg l (iList X.K tl) := by
  intro pins s σ H R I h
  refine thn (hl pins s σ H _ I h) fun v s1 ⟨x, H1, I1, r1, q1⟩ => ?_
  obtain ⟨a, e, ⟨xs, hq⟩, q⟩ := q1
  subst e
  cases r1
  obtain ⟨its, rv, p, hz⟩ := I1.list hq
  refine wpAny_pyIter_list p.isList ?_
  refine ⟨s1.heap.objs.size, [s1.heap.objs.size], _, _, H1, rfl, I1.kept (t' := s1.toks) fun b o e => Heap.get?_push_of_some _ e, turn_list a _, ⟨_, Heap.get?_push_size _ rfl, rfl, rfl⟩, fun b hb => ?_, q⟩
  have e : b = s1.heap.objs.size := by simpa using hb
  subst e
  exact I1.fpOk (Nat.le_refl _) (I1.hok.fresh (Nat.le_refl _))
theorem pi_tup {l : Expr} {tl : TE} (hl : PE X l tl) : PI X tg l (iTup X.K tl) := by
  intro pins s σ H R I h
  refine thn (hl pins s σ H _ I h) fun v s1 ⟨x, H1, I1, r1, q1⟩ => ?_
  obtain ⟨a, e, ⟨xs, hq⟩, q⟩ := q1
  subst e
  cases r1
  obtain ⟨its, rv, p, hz⟩ := I1.tuple hq
  refine wpAny_pyIter_tuple (show s1.heap.IsTuple a its.toArray from p) ?_
  refine ⟨s1.heap.objs.size, [s1.heap.objs.size], _, _, H1, rfl, I1.kept (t' := s1.toks) fun b o e => Heap.get?_push_of_some _ e, turn_tuple a _, ⟨_, Heap.get?_push_size _ rfl, rfl, rfl⟩, fun b hb => ?_, q⟩
  have e : b = s1.heap.objs.size := by simpa using hb
  subst e
  exact I1.fpOk (Nat.le_refl _) (I1.hok.fresh (Nat.le_refl _))
/-- a range object just made, walked -/
theorem range_it {pins : List (Addr × Obj)} {σ : St} {H : Hp} {s : Shared} {R : It → Hp → Prop} {E : Value → Shared → Prop} {lo hi : Int} {t u v : Tok} {tk : Nat} (I : Inv X pins σ H s) (h1 : -(2 ^ 62) ≤ lo) (h2 : lo < 2 ^ 62) (h3 : -(2 ^ 62) ≤ hi) (h4 : hi < 2 ^ 62)
    (q : R (Itr lo (hi - lo).toNat) H) : wpAny (model X.prog X.w) X.A (pyIter (.ref s.heap.objs.size)) (PIE X pins σ tg R) E { s with heap := s.heap.push { cls := .type "range", data := .fields #[.int lo t, .int hi u, .int 1 v] }, toks := tk } := by
  refine wpAny_pyIter_range (IsRange.new ..) (small_one h1 h2 h3 h4) ?_
  have I1 : Inv X pins σ H { s with heap := s.heap.push { cls := .type "range", data := .fields #[.int lo t, .int hi u, .int 1 v] }, toks := tk } := I.kept fun b o e => Heap.get?_push_of_some _ e
  refine ⟨(s.heap.push { cls := .type "range", data := .fields #[.int lo t, .int hi u, .int 1 v] }).objs.size, [(s.heap.push { cls := .type "range", data := .fields #[.int lo t, .int hi u, .int 1 v] }).objs.size], _, _, H, rfl,
    I1.kept (t' := tk) fun b o e => Heap.get?_push_of_some _ e, turn_range _ lo (hi - lo).toNat, ?_, fun b hb => ?_, q⟩
  · have e1 : lo + ((0 : Nat) : Int) * 1 = lo := by simp
    have e2 : (((hi - lo).toNat : Nat) : Int) - ((0 : Nat) : Int) = Builtin.Range.rangeSize lo hi 1 := by rw [rangeSize_one]; split <;> omega
    show IsRangeIter _ _ (lo + ((0 : Nat) : Int) * 1) ((((hi - lo).toNat : Nat) : Int) - ((0 : Nat) : Int)) 1
    rw [e1, e2]
    exact Heap.get?_push_size _ rfl
  · have e : b = (s.heap.push { cls := .type "range", data := .fields #[.int lo t, .int hi u, .int 1 v] }).objs.size := by simpa using hb
    subst e
    exact I1.fpOk (Nat.le_refl _) (I1.hok.fresh (Nat.le_refl _))
def iRng1 (ta : TA) : TI := fun σ H R => ta σ H fun vs H1 => ∃ j : Int, vs = [.int j] ∧ -(2 ^ 62) ≤ j ∧ j < 2 ^ 62 ∧ R (Itr 0 j.toNat) H1
def iRng2 (ta : TA) : TI := fun σ H R => ta σ H fun vs H1 => ∃ i j : Int, vs = [.int i, .int j] ∧ (-(2 ^ 62) ≤ i ∧ i < 2 ^ 62 ∧ -(2 ^ 62) ≤ j ∧ j < 2 ^ 62) ∧ R (Itr i (j - i).toNat) H1
theorem pi_range1 {a : Expr} {ta : TA} {p pos : Pos} (hg : Gl X "range") (hm : X.mg "range" = none) (ha : PA X [a] ta) (hs : starEach [a] X.env = [(false, eval a X.env)] := by rfl) : PI X tg (.Call (.Name "range" p) [a] [] pos) (iRng1 ta) := by
  intro pins s σ H R I h
  refine Call_ (ld_blt I hg hm boot_range (PyProof.Rows.callWith_type1 (thn (ha pos pins s σ H _ I h) fun us s1 ⟨vs, H1, I1, r1, q1⟩ => ?_) hs rfl))
  obtain ⟨j, e, q1, q2, q⟩ := q1
  subst e
  cases r1 with
  | cons r rr =>
    cases rr
    obtain ⟨t, rfl⟩ := r
    exact call_range_1 (range_it I1 (by omega) (by omega) q1 q2 (by simpa using q))
theorem pi_range2 {a b : Expr} {ta : TA} {p pos : Pos} (hg : Gl X "range") (hm : X.mg "range" = none) (ha : PA X [a, b] ta) (hs : starEach [a, b] X.env = [(false, eval a X.env), (false, eval b X.env)] := by rfl) (hs2 : starEach [b] X.env = [(false, eval b X.env)] := by rfl) :
    PI X tg (.Call (.Name "range" p) [a, b] [] pos) (iRng2 ta) := by
  intro pins s σ H R I h
  refine Call_ (ld_blt I hg hm boot_range (PyProof.Rows.callWith_type1 (thn (ha pos pins s σ H _ I h) fun us s1 ⟨vs, H1, I1, r1, q1⟩ => ?_) (by rw [hs, hs2]) (by rw [hs2]; rfl)))
  obtain ⟨i, j, e, ⟨q1, q2, q3, q4⟩, q⟩ := q1
  subst e
  cases r1 with
  | cons r rr =>
    cases rr with
    | cons r' rr =>
      cases rr
      obtain ⟨t, rfl⟩ := r
      obtain ⟨t', rfl⟩ := r'
      exact call_range_2 (range_it I1 q1 q2 q3 q4 q)

/-! ### for -/
/-- W: the invariant by the turn and a measure; N: what the body is to reach -/
def tFor (wi : TI) (g : TG) (tb : TS) : TS := fun D σ H => wi σ H fun J H1 => ∃ W : Nat → Nat → St → Hp → Prop, (∃ m, W 0 m σ H1) ∧ ∀ i m σ H, W i m σ H →
  (J.stop i H ∧ D.nx σ H) ∨ (J.go i H ∧ ∃ N : St → Hp → Prop, (∀ σ' H', N σ' H' → ∃ m', m' < m ∧ W (i + 1) m' σ' H') ∧ ∀ x H', J.yld i H x H' → g x σ H' fun σ2 H2 => tb { D with nx := N, ct := N, bk := D.nx } σ2 H2)
/-- the records at fp as they stand -/
def pinsAt (fp : List Addr) (h : Heap) : List (Addr × Obj) := fp.filterMap fun b => (h.get? b).map fun o => (b, o)
theorem mem_pinsAt {fp : List Addr} {h : Heap} {b : Addr} {o : Obj} (hb : b ∈ fp) (e : h.get? b = some o) : (b, o) ∈ pinsAt fp h := List.mem_filterMap.mpr ⟨b, hb, by rw [e]; rfl⟩
theorem of_pinsAt {fp : List Addr} {h : Heap} {p : Addr × Obj} (hp : p ∈ pinsAt fp h) : p.1 ∈ fp ∧ h.get? p.1 = some p.2 := by
  obtain ⟨b, hb, e⟩ := List.mem_filterMap.mp hp
  cases q : h.get? b with
  | none => rw [q] at e; cases e
  | some o =>
    rw [q] at e
    have e' : (b, o) = p := Option.some.inj e
    subst e'
    exact ⟨hb, q⟩
theorem Inv.pinned {pins : List (Addr × Obj)} {σ : St} {H : Hp} {s : Shared} {fp : List Addr} (I : Inv X pins σ H s) (hf : ∀ b ∈ fp, FpOk X pins H b) (ho : ∀ b ∈ fp, ∃ o, s.heap.get? b = some o ∧ ∀ v, o.data ≠ .cell v) : Inv X (pins ++ pinsAt fp s.heap) σ H s :=
  I.pins_of fun p hp => (List.mem_append.mp hp).elim (fun z => I.pin p (List.mem_append_right _ z)) fun z => by
    obtain ⟨hb, e⟩ := of_pinsAt z
    obtain ⟨f0, f1, f2, _⟩ := hf p.1 hb
    obtain ⟨o, e', d⟩ := ho p.1 hb
    rw [e] at e'; cases e'
    exact ⟨e, f0, f1, f2, d⟩
theorem Inv.unpinned {pins pl : List (Addr × Obj)} {σ : St} {H : Hp} {s : Shared} (I : Inv X (pins ++ pl) σ H s) : Inv X pins σ H s := I.pins_of fun p hp => I.pin p (List.mem_append_right _ (List.mem_append_left _ hp))
theorem ps_for {iter : Expr} {body : List Stmt} {wi : TI} {g : TG} {tb : TS} {pos : Pos} (hp : PassesOwn (model X.prog X.w) X.A X.env X.xe) (hc : X.calm = true) (hi : PI X tg iter wi) (hg : PG X tg g) (hb : PSs X body tb)
    (hs : ∀ x, foldedSetIterable iter X.env x = pure x := by intro _; rfl) : PS X (.For tg iter body [] pos) (tFor wi g tb) := by
  intro pins s σ H D I h
  refine wpAny_For (thn (hi pins s σ H _ I h) fun v s1 h1 => thn h1 fun itv s2 h2 => ?_) hs
  obtain ⟨it, fp, tn, J, H2, e, I2, T, st2, f2, W, ⟨m0, w0⟩, turn⟩ := h2
  subst e
  -- what stays true of the iterator's objects through the loop
  have stat : ∀ {H' : Hp}, (∀ b ∈ fp, H' b = none) → ∀ b ∈ fp, FpOk X pins H' b := fun hn b hb => ⟨hn b hb, (f2 b hb).2⟩
  refine codeAny_forLoop_any (fun n s' => ∃ i σ' H', Inv X pins σ' H' s' ∧ tn i s'.heap ∧ (∀ b ∈ fp, H' b = none) ∧ W i n σ' H') ?_ m0 ⟨0, σ, H2, I2, st2, fun b hb => (f2 b hb).1, w0⟩
  rintro n s3 ⟨i, σ3, H3, I3, st3, fr3, w3⟩
  rcases turn i n σ3 H3 w3 with ⟨stop, qn⟩ | ⟨go, N, hN, step⟩
  · refine wpAny_passesOwn hp (thn (T.done X rfl rfl rfl hc i pins s3 σ3 H3 X.xe I3 (stat fr3) st3 stop) fun r s4 ⟨hr, I4⟩ => ?_)
    subst hr
    exact wpAny_execs_nil ⟨σ3, H3, I4, qn⟩
  · refine wpAny_passesOwn hp (thn (T.item X rfl rfl rfl hc i pins s3 σ3 H3 X.xe I3 (stat fr3) st3 go) fun r s4 ⟨u, hr, h4⟩ => ?_)
    subst hr
    refine wpAny_passesOwn hp (thn h4 fun _ s5 ⟨x, H5, I5, r5, y5, st5, fr5⟩ => ?_)
    have I5' := I5.pinned (stat fr5) (T.obj _ _ st5)
    refine wpAny_passesOwn hp (thn (hg _ s5 σ3 H5 x u _ I5' r5 (step x H5 y5)) fun _ s6 ⟨σ6, H6, I6, q6⟩ => ?_)
    refine wpAny_passesOwn hp (thn (hb _ s6 σ6 H6 _ I6 q6) fun f s7 q7 => ?_)
    have again : ∀ {σ7 : St} {H7 : Hp}, Inv X (pins ++ pinsAt fp s5.heap) σ7 H7 s7 → N σ7 H7 → ∃ m, m < n ∧ ∃ i σ' H', Inv X pins σ' H' s7 ∧ tn i s7.heap ∧ (∀ b ∈ fp, H' b = none) ∧ W i m σ' H' := fun {σ7 H7} I7 n7 => by
      obtain ⟨m', hm, w7⟩ := hN σ7 H7 n7
      refine ⟨m', hm, i + 1, σ7, H7, I7.unpinned, T.keep _ _ _ st5 fun b hb o e => (I7.pin (b, o) (List.mem_append_right _ (List.mem_append_right _ (mem_pinsAt hb e)))).1, fun b hb => ?_, w7⟩
      obtain ⟨o, e, d⟩ := T.obj _ _ st5 b hb
      exact (I7.pin (b, o) (List.mem_append_right _ (List.mem_append_right _ (mem_pinsAt hb e)))).2.1
    cases f with
    | next => obtain ⟨σ7, H7, I7, n7⟩ := q7; exact again I7 n7
    | cont => obtain ⟨σ7, H7, I7, n7⟩ := q7; exact again I7 n7
    | brk => obtain ⟨σ7, H7, I7, q7⟩ := q7; exact ⟨σ7, H7, I7.unpinned, q7⟩
    | ret v => obtain ⟨x7, σ7, H7, I7, r7, q7⟩ := q7; exact ⟨x7, σ7, H7, I7.unpinned, r7, q7⟩
end

/-! ### the forms one uses -/
theorem for_range {lo : Int} {n : Nat} {g : TG} {tb : TS} {D : Ends} {σ : St} {H : Hp} (Pv : Nat → St → Hp → Prop) (h0 : Pv 0 σ H)
    (hs : ∀ i σ H, i < n → Pv i σ H → g (.int (lo + i)) σ H fun σ2 H2 => tb { D with nx := Pv (i + 1), ct := Pv (i + 1), bk := D.nx } σ2 H2) (hd : ∀ σ H, Pv n σ H → D.nx σ H) :
    ∃ W : Nat → Nat → St → Hp → Prop, (∃ m, W 0 m σ H) ∧ ∀ i m σ H, W i m σ H →
      ((Itr lo n).stop i H ∧ D.nx σ H) ∨ ((Itr lo n).go i H ∧ ∃ N : St → Hp → Prop, (∀ σ' H', N σ' H' → ∃ m', m' < m ∧ W (i + 1) m' σ' H') ∧ ∀ x H', (Itr lo n).yld i H x H' → g x σ H' fun σ2 H2 => tb { D with nx := N, ct := N, bk := D.nx } σ2 H2) := by
  refine ⟨fun i m σ H => m = n - i ∧ i ≤ n ∧ Pv i σ H, ⟨n, by simp, Nat.zero_le _, h0⟩, ?_⟩
  rintro i m σ H ⟨rfl, hi, p⟩
  by_cases hlt : i < n
  · refine .inr ⟨hlt, Pv (i + 1), fun σ' H' p' => ⟨n - (i + 1), by omega, rfl, hlt, p'⟩, fun x H' y => ?_⟩
    obtain ⟨e, y⟩ := y
    subst e y
    exact hs i σ _ hlt p
  · have e : i = n := by omega
    subst e
    exact .inl ⟨Nat.le_refl _, hd σ H p⟩
end L2

namespace L2
open PySem PySem.Spec PyProof.Rows

abbrev R2 := V → V → Hp → VK → Prop
/-- a two-place operation on values: f is binaryOp op, inplaceOp op or compareOp op -/
def OpR (X : Cx) (f : Value → Value → Sem Value) (r : R2) : Prop :=
  ∀ (pins : List (Addr × Obj)) (s : Shared) (σ : St) (H : Hp) (x y : V) (v u : Value) (Q : VK), Inv X pins σ H s → RelV x v → RelV y u → r x y H Q →
    wpAny (model X.prog X.w) X.A (f v u) (EP X pins σ Q) X.xe s
/-- a one-place operation -/
def UnR (X : Cx) (f : Value → Sem Value) (r : V → Hp → VK → Prop) : Prop :=
  ∀ (pins : List (Addr × Obj)) (s : Shared) (σ : St) (H : Hp) (x : V) (v : Value) (Q : VK), Inv X pins σ H s → RelV x v → r x H Q →
    wpAny (model X.prog X.w) X.A (f v) (EP X pins σ Q) X.xe s
/-- a call of a value that is known (a builtin, a type) with values -/
def CallR (X : Cx) (f : Value) (r : List V → Hp → VK → Prop) : Prop :=
  ∀ (pins : List (Addr × Obj)) (s : Shared) (σ : St) (H : Hp) (xs : List V) (us : List Value) (Q : VK), Inv X pins σ H s → Vals xs us → r xs H Q →
    wpAny (model X.prog X.w) X.A (call f us) (EP X pins σ Q) X.xe s
/-- a value's truth -/
def TruR (X : Cx) (r : V → Hp → (Bool → Hp → Prop) → Prop) : Prop :=
  ∀ (pins : List (Addr × Obj)) (s : Shared) (σ : St) (H : Hp) (x : V) (v : Value) (Q : Bool → Hp → Prop), Inv X pins σ H s → RelV x v → r x H Q →
    wpAny (model X.prog X.w) X.A (truthy v) (TP X pins σ Q) X.xe s

def tOp (r : R2) (ta tb : TE) : TE := fun σ H Q => ta σ H fun x H1 => tb σ H1 fun y H2 => r x y H2 Q
def tUn (r : V → Hp → VK → Prop) (ta : TE) : TE := fun σ H Q => ta σ H fun x H1 => r x H1 Q
/-- ints in, under C, and a value out -/
def rI (C : Int → Int → Prop) (g : Int → Int → V) : R2 := fun x y H Q => ∃ i j, x = .int i ∧ y = .int j ∧ C i j ∧ Q (g i j) H
def rI0 (g : Int → Int → V) : R2 := fun x y H Q => ∃ i j, x = .int i ∧ y = .int j ∧ Q (g i j) H
def rU (g : Int → V) : V → Hp → VK → Prop := fun x H Q => ∃ i, x = .int i ∧ Q (g i) H

section
variable {X : Cx} {a b c : Expr} {ta tb tc : TE} {pos : Pos}

theorem binT (ha : PE X a ta) (hb : PE X b tb) {pins : List (Addr × Obj)} {s : Shared} {σ : St} {H : Hp} {R : V → V → Hp → Prop} (I : Inv X pins σ H s)
    (h : ta σ H fun x H1 => tb σ H1 fun y H2 => R x y H2) {Q : Value → Shared → Prop} {f : Value → Value → Sem Value}
    (hf : ∀ v u s2 x y H2, Inv X pins σ H2 s2 → RelV x v → RelV y u → R x y H2 → wpAny (model X.prog X.w) X.A (f v u) Q X.xe s2) :
    wpAny (model X.prog X.w) X.A (eval a X.env) (fun v s₁ => wpAny (model X.prog X.w) X.A (eval b X.env) (fun u s₂ => wpAny (model X.prog X.w) X.A (f v u) Q X.xe s₂) X.xe s₁) X.xe s := by
  refine thn (ha pins s σ H _ I h) fun v s1 ⟨x, H1, I1, r1, q1⟩ => ?_
  refine thn (hb pins s1 σ H1 _ I1 q1) fun u s2 ⟨y, H2, I2, r2, q2⟩ => ?_
  exact hf v u s2 x y H2 I2 r1 r2 q2

theorem pe_op {op : Operator} {r : R2} (ho : OpR X (binaryOp op) r) (ha : PE X a ta) (hb : PE X b tb) : PE X (.BinOp a op b pos) (tOp r ta tb) := by
  intro pins s σ H Q I h
  exact wpAny_BinOp (binT ha hb I h fun v u s2 x y H2 I2 rx ry q => ho pins s2 σ H2 x y v u Q I2 rx ry q)
theorem pe_un {op : UnaryOp} {r : V → Hp → VK → Prop} (ho : UnR X (unaryOp op) r) (ha : PE X a ta) : PE X (.UnaryOp op a pos) (tUn r ta) := by
  intro pins s σ H Q I h
  exact UnaryOp_ (thn (ha pins s σ H _ I h) fun v s1 ⟨x, H1, I1, r1, q1⟩ => ho pins s1 σ H1 x v Q I1 r1 q1)
/-! ### ints -/
theorem opI {f : Value → Value → Sem Value} {C : Int → Int → Prop} {g : Int → Int → Int}
    (rule : ∀ (i j : Int) (t u : Tok) (s : Shared) (Q : Value → Shared → Prop) (E : Value → Shared → Prop), C i j → Q (.int (g i j) s.toks) { s with toks := s.toks + 1 } → wpAny (model X.prog X.w) X.A (f (.int i t) (.int j u)) Q E s) :
    OpR X f (rI C fun i j => .int (g i j)) := by
  intro pins s σ H x y v u Q I rx ry h
  obtain ⟨i, j, rfl, rfl, hc, q⟩ := h
  obtain ⟨t, rfl⟩ := rx
  obtain ⟨t', rfl⟩ := ry
  exact rule i j t t' s _ _ hc ⟨.int (g i j), H, I.tok _, ⟨_, rfl⟩, q⟩
theorem opI0 {f : Value → Value → Sem Value} {g : Int → Int → Int}
    (rule : ∀ (i j : Int) (t u : Tok) (s : Shared) (Q : Value → Shared → Prop) (E : Value → Shared → Prop), Q (.int (g i j) s.toks) { s with toks := s.toks + 1 } → wpAny (model X.prog X.w) X.A (f (.int i t) (.int j u)) Q E s) :
    OpR X f (rI0 fun i j => .int (g i j)) := by
  intro pins s σ H x y v u Q I rx ry h
  obtain ⟨i, j, rfl, rfl, q⟩ := h
  obtain ⟨t, rfl⟩ := rx
  obtain ⟨t', rfl⟩ := ry
  exact rule i j t t' s _ _ ⟨.int (g i j), H, I.tok _, ⟨_, rfl⟩, q⟩
theorem opB0 {f : Value → Value → Sem Value} {g : Int → Int → Bool}
    (rule : ∀ (i j : Int) (t u : Tok) (s : Shared) (Q : Value → Shared → Prop) (E : Value → Shared → Prop), Q (.bool (g i j)) s → wpAny (model X.prog X.w) X.A (f (.int i t) (.int j u)) Q E s) :
    OpR X f (rI0 fun i j => .bl (g i j)) := by
  intro pins s σ H x y v u Q I rx ry h
  obtain ⟨i, j, rfl, rfl, q⟩ := h
  obtain ⟨t, rfl⟩ := rx
  obtain ⟨t', rfl⟩ := ry
  exact rule i j t t' s _ _ ⟨.bl (g i j), H, I, rfl, q⟩

def CDiv (i j : Int) : Prop := 0 < j ∧ j < 1073741824
def CDivN (i j : Int) : Prop := j ≠ 0 ∧ j.natAbs < 1073741824
def CPow (i j : Int) : Prop := 0 ≤ j ∧ j ≤ 1000000 ∧ i.natAbs < 2 ^ 64
def CMul (i j : Int) : Prop := (-(2 ^ 64) < i ∧ i < 2 ^ 64) ∨ (-(2 ^ 64) < j ∧ j < 2 ^ 64)
theorem CMul.ok {i j : Int} (h : CMul i j) : IntMulOk i j := by
  rcases h with ⟨h1, h2⟩ | ⟨h1, h2⟩
  · exact .of_left (intBits_le_64 h1 h2)
  · exact .of_right (intBits_le_64 h1 h2)
theorem op_add : OpR X (binaryOp .Add) (rI0 fun i j => .int (i + j)) := opI0 fun _ _ _ _ _ _ _ q => add_int q
theorem op_sub : OpR X (binaryOp .Sub) (rI0 fun i j => .int (i - j)) := opI0 fun _ _ _ _ _ _ _ q => sub_int q
theorem op_mul : OpR X (binaryOp .Mult) (rI CMul fun i j => .int (i * j)) := opI fun _ _ _ _ _ _ _ hc q => mul_int q hc.ok
/-- // by a positive divisor -/
theorem op_fdiv : OpR X (binaryOp .FloorDiv) (rI CDiv fun i j => .int (i / j)) := opI fun i j _ _ _ _ _ hc q => by
  have h1 : (0 : Int) < j := hc.1
  have h2 : j < 1073741824 := hc.2
  exact floordiv_int (by omega) (by rw [Int.fdiv_eq_ediv_of_nonneg i (by omega)]; exact q) (.inl (PyProof.noPylong_small (by omega)))
/-- % by a positive divisor of any size -/
theorem op_mod : OpR X (binaryOp .Mod) (rI (fun _ j => 0 < j) fun i j => .int (i % j)) := opI fun i j _ _ _ _ _ hc q => by
  have h1 : (0 : Int) < j := hc
  exact mod_int' (by omega) (by rw [Int.fmod_eq_emod_of_nonneg i (by omega)]; exact q)
theorem op_pow : OpR X (binaryOp .Pow) (rI CPow fun i j => .int (i ^ j.toNat)) := opI fun _ _ _ _ _ _ _ hc q => pow_int_small hc.1 hc.2.1 hc.2.2 q
theorem unI {f : Value → Sem Value} {g : Int → Int}
    (rule : ∀ (i : Int) (t : Tok) (s : Shared) (Q : Value → Shared → Prop) (E : Value → Shared → Prop), Q (.int (g i) s.toks) { s with toks := s.toks + 1 } → wpAny (model X.prog X.w) X.A (f (.int i t)) Q E s) :
    UnR X f (rU fun i => .int (g i)) := by
  intro pins s σ H x v Q I rx h
  obtain ⟨i, rfl, q⟩ := h
  obtain ⟨t, rfl⟩ := rx
  exact rule i t s _ _ ⟨.int (g i), H, I.tok _, ⟨_, rfl⟩, q⟩
theorem un_neg : UnR X (unaryOp .USub) (rU fun i => .int (-i)) := unI fun _ _ _ _ _ q => neg_int q
/-! ### bools among ints: n += (a < b) -/
end

/-! ### comparisons -/
/-- the scalars that == tells apart as data does -/
def scal : V → V → Bool
  | .non, .non => true | .non, .int _ => true | .int _, .non => true | .non, .bl _ => true | .bl _, .non => true | .non, .str _ => true | .str _, .non => true
  | .int _, .int _ => true | .bl _, .bl _ => true | .str _, .str _ => true | .byt _, .byt _ => true
  | .int _, .str _ => true | .str _, .int _ => true | .bl _, .str _ => true | .str _, .bl _ => true
  | _, _ => false
def rEq : R2 := fun x y H Q => scal x y = true ∧ Q (.bl (decide (x = y))) H
def rNe : R2 := fun x y H Q => scal x y = true ∧ Q (.bl (!decide (x = y))) H

theorem dec_int {i j : Int} : decide (V.int i = V.int j) = (i == j) := by
  rw [Bool.eq_iff_iff]
  simp
theorem dec_bl {i j : Bool} : decide (V.bl i = V.bl j) = (i == j) := by
  rw [Bool.eq_iff_iff]
  simp
theorem dec_str {i j : Str} : decide (V.str i = V.str j) = (i == j) := by
  rw [Bool.eq_iff_iff]
  simp
theorem dec_byt {i j : Array UInt8} : decide (V.byt i = V.byt j) = (i.toList == j.toList) := by
  rw [Bool.eq_iff_iff]
  cases i
  cases j
  simp

section
variable {X : Cx} {a b c : Expr} {ta tb tc : TE} {pos : Pos}
theorem fin_bl {pins : List (Addr × Obj)} {σ : St} {H : Hp} {s : Shared} {Q : VK} {k k' : Bool} (I : Inv X pins σ H s) (q : Q (.bl k) H) (e : k = k') : EP X pins σ Q (.bool k') s := by
  subst e
  exact ⟨.bl k, H, I, rfl, q⟩
theorem op_eq : OpR X (compareOp .Eq) rEq := by
  intro pins s σ H x y v u Q I rx ry h
  obtain ⟨hs, q⟩ := h
  cases x with
  | non =>
    cases rx
    cases y with
    | non => cases ry; exact PySem.EqNone.eq_none_none (fin_bl I q (by simp))
    | bl j => cases ry; exact PySem.EqNone.eq_none_bool (fin_bl I q (by simp))
    | int j => obtain ⟨t', rfl⟩ := ry; exact PySem.EqNone.eq_none_int (fin_bl I q (by simp))
    | str j => obtain ⟨t', rfl⟩ := ry; exact PySem.EqNone.eq_none_str (fin_bl I q (by simp))
    | _ => exact absurd (show false = true from hs) Bool.false_ne_true
  | bl i =>
    cases rx
    cases y with
    | non => cases ry; exact PySem.EqNone.eq_bool_none (fin_bl I q (by simp))
    | bl j => cases ry; exact eq_bool (fin_bl I q dec_bl)
    | str j => obtain ⟨t', rfl⟩ := ry; exact PySem.EqMixed.eq_bool_str (fin_bl I q (by simp))
    | _ => exact absurd (show false = true from hs) Bool.false_ne_true
  | int i =>
    obtain ⟨t, rfl⟩ := rx
    cases y with
    | non => cases ry; exact PySem.EqNone.eq_int_none (fin_bl I q (by simp))
    | int j => obtain ⟨t', rfl⟩ := ry; exact eq_int (fin_bl I q dec_int)
    | str j => obtain ⟨t', rfl⟩ := ry; exact PySem.EqMixed.eq_int_str (fin_bl I q (by simp))
    | _ => exact absurd (show false = true from hs) Bool.false_ne_true
  | str i =>
    obtain ⟨t, rfl⟩ := rx
    cases y with
    | non => cases ry; exact PySem.EqNone.eq_str_none (fin_bl I q (by simp))
    | bl j => cases ry; exact PySem.EqMixed.eq_str_bool (fin_bl I q (by simp))
    | int j => obtain ⟨t', rfl⟩ := ry; exact PySem.EqMixed.eq_str_int (fin_bl I q (by simp))
    | str j => obtain ⟨t', rfl⟩ := ry; exact eq_str (fin_bl I q dec_str)
    | _ => exact absurd (show false = true from hs) Bool.false_ne_true
  | byt i =>
    obtain ⟨t, rfl⟩ := rx
    cases y with
    | byt j => obtain ⟨t', rfl⟩ := ry; exact PySem.W.eq_bytes (fin_bl I q dec_byt)
    | _ => exact absurd (show false = true from hs) Bool.false_ne_true
  | _ => cases y <;> exact absurd (show false = true from hs) Bool.false_ne_true
theorem op_ne : OpR X (compareOp .NotEq) rNe := by
  intro pins s σ H x y v u Q I rx ry h
  obtain ⟨hs, q⟩ := h
  cases x with
  | non =>
    cases rx
    cases y with
    | non => cases ry; exact PySem.EqNone.ne_none_none (fin_bl I q (by simp))
    | bl j => cases ry; exact PySem.EqNone.ne_none_bool (fin_bl I q (by simp))
    | int j => obtain ⟨t', rfl⟩ := ry; exact PySem.EqNone.ne_none_int (fin_bl I q (by simp))
    | str j => obtain ⟨t', rfl⟩ := ry; exact PySem.EqNone.ne_none_str (fin_bl I q (by simp))
    | _ => exact absurd (show false = true from hs) Bool.false_ne_true
  | bl i =>
    cases rx
    cases y with
    | non => cases ry; exact PySem.EqNone.ne_bool_none (fin_bl I q (by simp))
    | bl j => cases ry; exact ne_bool (fin_bl I q (congrArg not dec_bl))
    | str j => obtain ⟨t', rfl⟩ := ry; exact PySem.EqMixed.ne_bool_str (fin_bl I q (by simp))
    | _ => exact absurd (show false = true from hs) Bool.false_ne_true
  | int i =>
    obtain ⟨t, rfl⟩ := rx
    cases y with
    | non => cases ry; exact PySem.EqNone.ne_int_none (fin_bl I q (by simp))
    | int j => obtain ⟨t', rfl⟩ := ry; exact ne_int (fin_bl I q (congrArg not dec_int))
    | str j => obtain ⟨t', rfl⟩ := ry; exact PySem.EqMixed.ne_int_str (fin_bl I q (by simp))
    | _ => exact absurd (show false = true from hs) Bool.false_ne_true
  | str i =>
    obtain ⟨t, rfl⟩ := rx
    cases y with
    | non => cases ry; exact PySem.EqNone.ne_str_none (fin_bl I q (by simp))
    | bl j => cases ry; exact PySem.EqMixed.ne_str_bool (fin_bl I q (by simp))
    | int j => obtain ⟨t', rfl⟩ := ry; exact PySem.EqMixed.ne_str_int (fin_bl I q (by simp))
    | str j => obtain ⟨t', rfl⟩ := ry; exact ne_str (fin_bl I q (congrArg not dec_str))
    | _ => exact absurd (show false = true from hs) Bool.false_ne_true
  | byt i =>
    obtain ⟨t, rfl⟩ := rx
    cases y with
    | byt j => obtain ⟨t', rfl⟩ := ry; exact PySem.W.ne_bytes (fin_bl I q (congrArg not dec_byt))
    | _ => exact absurd (show false = true from hs) Bool.false_ne_true
  | _ => cases y <;> exact absurd (show false = true from hs) Bool.false_ne_true

theorem op_lt : OpR X (compareOp .Lt) (rI0 fun i j => .bl (decide (i < j))) := opB0 fun _ _ _ _ _ _ _ q => lt_int q
theorem op_le : OpR X (compareOp .LtE) (rI0 fun i j => .bl (decide (i ≤ j))) := opB0 fun _ _ _ _ _ _ _ q => le_int q
theorem op_gt : OpR X (compareOp .Gt) (rI0 fun i j => .bl (decide (j < i))) := opB0 fun _ _ _ _ _ _ _ q => gt_int q
theorem op_ge : OpR X (compareOp .GtE) (rI0 fun i j => .bl (decide (j ≤ i))) := opB0 fun _ _ _ _ _ _ _ q => ge_int q
/-- is, is not of two objects that are tracked lists or instances -/
def isObj : HO → Bool
  | .lst _ => true
  | .ins _ _ _ => true
  | _ => false
/-- two rules for one operation: by cases -/
theorem OpR.or {f : Value → Value → Sem Value} {r r' : R2} (h : OpR X f r) (h' : OpR X f r') : OpR X f (fun x y H Q => r x y H Q ∨ r' x y H Q) := by
  intro pins s σ H x y v u Q I rx ry q
  rcases q with q | q
  · exact h pins s σ H x y v u Q I rx ry q
  · exact h' pins s σ H x y v u Q I rx ry q

theorem nomark (b : Expr) {op : CmpOp} (h : op ≠ .In := by decide) (h2 : op ≠ .NotIn := by decide) : behindInMarks op b = false := by
  have e1 : (op == CmpOp.In) = false := by cases op <;> first | rfl | exact absurd rfl h
  have e2 : (op == CmpOp.NotIn) = false := by cases op <;> first | rfl | exact absurd rfl h2
  cases b <;> simp [behindInMarks, e1, e2]
/-- a comparison as a value; hm: nomark b, or (for in, not in) by with_unfolding_all rfl -/
theorem pe_cmpR {op : CmpOp} {r : R2} (ho : OpR X (compareOp op) r) (ha : PE X a ta) (hb : PE X b tb) (hm : behindInMarks op b = false) : PE X (.Compare a [op] [b] pos) (tOp r ta tb) := by
  intro pins s σ H Q I h
  exact wpAny_Compare1 (binT ha hb I h fun v u s2 x y H2 I2 rx ry q => ho pins s2 σ H2 x y v u Q I2 rx ry q) hm
/-- a reading of a value as a test -/
def tTest (t : TE) : TT := fun σ H Q => t σ H fun x H' => ∃ k, x = .bl k ∧ Q k H'
theorem pt_cmpR {op : CmpOp} {r : R2} (ho : OpR X (compareOp op) r) (ha : PE X a ta) (hb : PE X b tb) (hm : behindInMarks op b = false) : PT X (.Compare a [op] [b] pos) (tTest (tOp r ta tb)) := by
  intro pins s σ H Q I h
  refine wpAny_isTrue_Compare1 (thn (ha pins s σ H _ I h) fun v s1 ⟨x, H1, I1, r1, q1⟩ => thn (hb pins s1 σ H1 _ I1 q1) fun u s2 ⟨y, H2, I2, r2, q2⟩ =>
    thn (ho pins s2 σ H2 x y v u _ I2 r1 r2 q2) fun c s3 ⟨z, H3, I3, r3, k, e, q3⟩ => ?_) hm
  subst e
  cases r3
  exact wpAny_truthy_bool ⟨H3, I3, q3⟩
/-- a op1 b op2 c -/
def tChain (r r' : R2) (ta tb tc : TE) : TE := fun σ H Q => ta σ H fun x H1 => tb σ H1 fun y H2 => r x y H2 fun z H3 => ∃ k, z = .bl k ∧
  (if k = true then tc σ H3 fun w' H4 => r' y w' H4 Q else Q (.bl false) H3)
theorem pe_chain {op op' : CmpOp} {r r' : R2} (ho : OpR X (compareOp op) r) (ho' : OpR X (compareOp op') r') (ha : PE X a ta) (hb : PE X b tb) (hc : PE X c tc)
    (hm : lastMarks [op, op'] [b, c] = false := by with_unfolding_all rfl) : PE X (.Compare a [op, op'] [b, c] pos) (tChain r r' ta tb tc) := by
  intro pins s σ H Q I h
  refine Compare_chain (thn (ha pins s σ H _ I h) fun v s1 ⟨x, H1, I1, r1, q1⟩ => chain_link (thn (hb pins s1 σ H1 _ I1 q1) fun u s2 ⟨y, H2, I2, r2, q2⟩ =>
    thn (ho pins s2 σ H2 x y v u _ I2 r1 r2 q2) fun d s3 ⟨z, H3, I3, r3, k, e, q3⟩ => ?_)) hm
  subst e
  cases r3
  refine wpAny_truthy_bool ?_
  cases k with
  | false => exact ite_ff ⟨.bl false, H3, I3, rfl, q3⟩
  | true => exact ite_tt (chain_last (thn (hc pins s3 σ H3 _ I3 q3) fun w' s4 ⟨z', H4, I4, r4, q4⟩ => ho' pins s4 σ H4 y z' u w' Q I4 r2 r4 q4))
theorem pt_chain {op op' : CmpOp} {r r' : R2} (ho : OpR X (compareOp op) r) (ho' : OpR X (compareOp op') r') (ha : PE X a ta) (hb : PE X b tb) (hc : PE X c tc)
    (hm : lastMarks [op, op'] [b, c] = false := by with_unfolding_all rfl) : PT X (.Compare a [op, op'] [b, c] pos) (tTest (tChain r r' ta tb tc)) := by
  intro pins s σ H Q I h
  refine isTrue_chain (thn (ha pins s σ H _ I h) fun v s1 ⟨x, H1, I1, r1, q1⟩ => test_link (thn (hb pins s1 σ H1 _ I1 q1) fun u s2 ⟨y, H2, I2, r2, q2⟩ =>
    thn (ho pins s2 σ H2 x y v u _ I2 r1 r2 q2) fun d s3 ⟨z, H3, I3, r3, k, e, q3⟩ => ?_)) hm
  subst e
  cases r3
  refine wpAny_truthy_bool ?_
  cases k with
  | false =>
    obtain ⟨k', e', q'⟩ := q3
    cases e'
    exact ite_ff ⟨H3, I3, q'⟩
  | true =>
    refine ite_tt (test_last (thn (hc pins s3 σ H3 _ I3 q3) fun w' s4 ⟨z', H4, I4, r4, q4⟩ => thn (ho' pins s4 σ H4 y z' u w' _ I4 r2 r4 q4) fun d' s5 ⟨z2, H5, I5, r5, k2, e2, q5⟩ => ?_))
    subst e2
    cases r5
    exact wpAny_truthy_bool ⟨H5, I5, q5⟩

/-! ### truth -/
/-- a value's truth by the abstract heap -/
def TruV (K : PySem.W.Frag) (x : V) (H : Hp) (k : Bool) : Prop :=
  match x with
  | .non => k = false
  | .bl b => k = b
  | .int i => k = (i != 0)
  | .str y => y.length ≤ sizeLine ∧ k = ((y.length : Int) != 0)
  | .byt y => y.size ≤ sizeLine ∧ k = ((y.size : Int) != 0)
  | .ref p => (∃ xs, SqL K H p xs ∧ k = !xs.isEmpty) ∨ (∃ xs, SqT K H p xs ∧ k = !xs.isEmpty) ∨ ∃ kvs, H p = some (.dK kvs) ∧ k = !kvs.isEmpty
  | _ => False
theorem line63 : (sizeLine : Nat) < 2 ^ 63 := by rw [sizeLine_eq]; decide
/-! ### strs and bytes -/
def PlainIxT (b : Expr) : Prop := ∀ o i, subscripted b false o i = operate [o, i] (getItem o i)
/-! ### scalar builtins, by CallR -/
theorem vals1 {x : V} {us : List Value} (r : Vals [x] us) : ∃ u, us = [u] ∧ RelV x u := by
  cases r with
  | cons r1 r2 => cases r2; exact ⟨_, rfl, r1⟩
theorem vals2 {x y : V} {us : List Value} (r : Vals [x, y] us) : ∃ u w', us = [u, w'] ∧ RelV x u ∧ RelV y w' := by
  cases r with
  | cons r1 r2 =>
    cases r2 with
    | cons r3 r4 => cases r4; exact ⟨_, _, rfl, r1, r3⟩
theorem call_min2 (hc : X.calm = true) : CallR X (.builtin "min") (fun xs H Q => ∃ i j, xs = [.int i, .int j] ∧ Q (.int (if j < i then j else i)) H) := by
  intro pins s σ H xs us Q I r h
  obtain ⟨i, j, rfl, q⟩ := h
  obtain ⟨u, w', rfl, ⟨t, rfl⟩, ⟨t', rfl⟩⟩ := vals2 r
  refine min_two_ints (I.ok.hd hc) fun h' tk k => ⟨_, H, I.kept k, ?_, q⟩
  by_cases hj : j < i
  · rw [if_pos hj, if_pos hj]; exact ⟨_, rfl⟩
  · rw [if_neg hj, if_neg hj]; exact ⟨_, rfl⟩
/-- len of a str, a bytes, a list, a tuple -/
def LenV (K : PySem.W.Frag) (x : V) (H : Hp) (n : Nat) : Prop :=
  match x with
  | .str y => y.length ≤ sizeLine ∧ n = y.length
  | .byt y => y.size ≤ sizeLine ∧ n = y.size
  | .ref p => (∃ xs, SqL K H p xs ∧ n = xs.length) ∨ ∃ xs, SqT K H p xs ∧ n = xs.length
  | _ => False
end
end L2

namespace L2
open PySem PySem.Spec PyProof.Rows

/-! ### an instance, its attributes a map -/
structure ObjM (h : Heap) (x dx C : Addr) (mA : Str → Option Value) : Prop where
  obj : h.get? x = some (PySem.W.instObj C dx)
  ns : h.Ns1 dx mA
  ne : dx ≠ x

theorem lookIn_ns {h : Heap} {dx : Addr} {mA : Str → Option Value} (n : h.Ns1 dx mA) : ∃ od, h.get? dx = some od ∧ ∀ name, PySem.W.lookIn name od = some (mA name) := by
  obtain ⟨o, es, ep, ho, hd, hk, _, hm⟩ := n
  refine ⟨o, ho, fun name => ?_⟩
  have e := hm name
  unfold nsFind findBy at e
  rw [← Array.find?_toList] at e
  unfold PySem.W.lookIn
  rw [hd]
  dsimp only
  split
  · rename_i y q
    rw [q] at e
    exact congrArg some e
  · rename_i q
    rw [q] at e
    have a : es.toList.any (·.refKey) = false := by
      rw [List.any_eq_false]
      intro y hy
      obtain ⟨z, t, hkey⟩ := hk y (Array.mem_toList_iff.mp hy)
      simp [DictEntry.refKey, hkey]
    have a' : ¬ es.toList.any (·.refKey) = true := by rw [a]; exact Bool.false_ne_true
    rw [if_neg a']
    exact congrArg some e

theorem ObjM.look {h : Heap} {x dx C : Addr} {mA : Str → Option Value} (I : ObjM h x dx C mA) : ∃ od, PySem.W.InstAt h x (PySem.W.instObj C dx) C (some od) ∧ ∀ name, PySem.W.lookIn name od = some (mA name) :=
  let ⟨od, ho, hl⟩ := lookIn_ns I.ns
  ⟨od, ⟨I.obj, rfl, rfl, ho⟩, hl⟩

section
variable {prog : Program} {w : World} {A : Around} {E : Value → Shared → Prop} {s : Shared} {K : PySem.W.Frag} {x dx C f : Addr} {mA : Str → Option Value} {name : Str} {v : Value}

theorem get_map {expr : Bool} {Q : Value → Shared → Prop} (X : K.In s.heap) (I : ObjM s.heap x dx C mA) (hg : PySem.W.plainGet K C name = true) (hh : PySem.W.hasDictIn K C = true)
    (ha : PySem.W.findIn K (.ref C) name = some none) (hv : mA name = some v) (hv' : PySem.W.handedIn v = true) (h : Q v { s with toks := s.toks + 1 }) :
    wpAny (model prog w) A (getAttr (.ref x) name expr) Q E s := by
  obtain ⟨od, J, hl⟩ := I.look
  exact PySem.W.get_value X J (PySem.W.plainGet_of hg).1 (PySem.W.findObj_own hh ha rfl (by rw [hl, hv])) hv' h

theorem set_map {ns : List Str} {Q : Unit → Shared → Prop} (X : K.In s.heap) (I : ObjM s.heap x dx C mA)
    (hs : PySem.W.findIn K (.ref C) "__setattr__" = some (some (.builtin "object.__setattr__"))) (hp : PySem.W.plainOver K C = true) (ht : PySem.W.takerIn K C name = some none) (hh : PySem.W.hasDictIn K C = true)
    (hw : PySem.Within mA ns) (hsz : ns.length ≤ sizeLine)
    (h : ∀ h', ObjM h' x dx C (fun y => if y = name then some v else mA y) → Heap.SameBut dx s.heap h' → Q () { s with heap := h', toks := s.toks + 2 }) :
    wpAny (model prog w) A (setAttr (.ref x) name v) Q E s := by
  obtain ⟨od, J, hl⟩ := I.look
  refine PySem.W.set_plain X J hs (PySem.W.osa_open (s := { s with toks := s.toks + 1 }) (r := none) X J hp ht fun b => ?_)
  obtain ⟨cd, hc, hd'⟩ := PySem.W.any_some hh
  have hx : s.heap.get? x = some ⟨.ref C, some dx, .plain, #[]⟩ := I.obj
  refine wpAny_bind (wpAny_pure (wpAny_bind (wpAny_bind (wpAny_loadPart hx (wpAny_bind (PySem.W.Looks.here (s := { s with toks := s.toks + 1 }) (PySem.W.looks_clsIn X hc) ?_))))))
  rw [hd']
  refine wpAny_pure (a := some dx) (wpAny_bind (wpAny_pure (wpAny_bind ?_)))
  refine wpAny_nsSet1 (s := { s with toks := s.toks + 1 }) I.ns fun h' hn2 hs2 => ?_
  obtain ⟨oD, esD, epD, hoD, hdD, hcD⟩ := hn2.count (PySem.Within.cons name v hw)
  refine wpAny_bind (wpAny_lookBehind hoD (by rw [hdD]; exact pastItsLine_dict (Nat.le_trans hcD (by rw [List.length_cons]; omega))) ?_)
  exact wpAny_pure (h _ ⟨(hs2.2 _ (Ne.symm I.ne)).trans I.obj, hn2, I.ne⟩ hs2)

/-- C(..): the dict at the heap's end, the instance behind it; then its __init__ -/
theorem make_map {R : Result → Shared → Prop} {vs : List Value} {kw : List (Str × Value)} (X : K.In s.heap) (hm : PySem.W.makesIn K C = true)
    (hi : PySem.W.findIn K (.ref C) "__init__" = some (some (.ref f))) (hf : PySem.W.typeIn K (.ref f) = some (.type "function"))
    (h : codeAny (model prog w) (A.under (.builtin "type.__call__" ⟨.ref C :: vs, kw⟩)) (.call (.ref f) ⟨.ref (s.heap.objs.size + 1) :: vs, kw⟩) (PySem.W.InitBack (s.heap.objs.size + 1) R)
      { s with heap := (s.heap.push PySem.W.emptyDict).push (PySem.W.instObj C s.heap.objs.size) }) :
    codeAny (model prog w) A (.call (.ref C) ⟨vs, kw⟩) R s := by
  obtain ⟨hh, g, d, t, os⟩ := s
  exact PySem.W.make_core (PySem.W.makes_of X hm) (PySem.W.looks_findIn X hi) (fun self => PySem.W.bind_fn X self hf) (.inl rfl) h
end

/-! ### the attributes as a list of pairs -/
def putF (f : Str) (v : V) : List (Str × V) → List (Str × V)
  | [] => [(f, v)]
  | (g, x) :: r => if g = f then (g, v) :: r else (g, x) :: putF f v r
theorem lookup_putF (f g : Str) (v : V) : ∀ fs : List (Str × V), (putF f v fs).lookup g = if g = f then some v else fs.lookup g
  | [] => by
    show List.lookup g [(f, v)] = _
    by_cases h : g = f
    · have hb : (g == f) = true := beq_iff_eq.mpr h
      simp only [List.lookup, hb, if_pos h]
    · have hb : (g == f) = false := beq_eq_false_iff_ne.mpr h
      simp only [List.lookup, hb, if_neg h]
  | (k, x) :: r => by
    have ih := lookup_putF f g v r
    rw [show putF f v ((k, x) :: r) = (if k = f then (k, v) :: r else (k, x) :: putF f v r) from rfl]
    by_cases hk : k = f
    · rw [if_pos hk]
      by_cases h : g = k
      · have hb : (g == k) = true := beq_iff_eq.mpr h
        simp only [List.lookup, hb, if_pos (h.trans hk)]
      · have hb : (g == k) = false := beq_eq_false_iff_ne.mpr h
        simp only [List.lookup, hb, if_neg (fun e : g = f => h (e.trans hk.symm))]
    · rw [if_neg hk]
      by_cases h : g = k
      · have hb : (g == k) = true := beq_iff_eq.mpr h
        simp only [List.lookup, hb, if_neg (fun e : g = f => hk (h.symm.trans e))]
      · have hb : (g == k) = false := beq_eq_false_iff_ne.mpr h
        simp only [List.lookup, hb]
        exact ih
theorem keys_putF (f : Str) (v : V) : ∀ fs : List (Str × V), f ∈ (putF f v fs).map (·.1) ∧ ∀ g, g ∈ fs.map (·.1) → g ∈ (putF f v fs).map (·.1)
  | [] => ⟨by simp [putF], fun g h => by simp at h⟩
  | (k, x) :: r => by
    obtain ⟨i1, i2⟩ := keys_putF f v r
    rw [show putF f v ((k, x) :: r) = (if k = f then (k, v) :: r else (k, x) :: putF f v r) from rfl]
    by_cases hk : k = f
    · rw [if_pos hk]
      subst hk
      exact ⟨by simp, fun g h => by simpa using h⟩
    · rw [if_neg hk]
      refine ⟨?_, fun g h => ?_⟩
      · rw [List.map_cons]
        exact List.mem_cons_of_mem _ i1
      · rw [List.map_cons] at h ⊢
        rcases List.mem_cons.mp h with e | e
        · exact List.mem_cons.mpr (.inl e)
        · exact List.mem_cons_of_mem _ (i2 g e)
theorem length_putF (f : Str) (v : V) : ∀ fs : List (Str × V), (putF f v fs).length ≤ fs.length + 1
  | [] => by simp [putF]
  | (k, x) :: r => by
    have ih := length_putF f v r
    rw [show putF f v ((k, x) :: r) = (if k = f then (k, v) :: r else (k, x) :: putF f v r) from rfl]
    by_cases hk : k = f
    · rw [if_pos hk, List.length_cons, List.length_cons]; omega
    · rw [if_neg hk, List.length_cons, List.length_cons]; omega

theorem RelO.some_of {v : V} {o : Option Value} (r : RelO (some v) o) : ∃ u, o = some u ∧ RelV v u := by
  cases o with
  | none => exact (show False from r).elim
  | some u => exact ⟨u, rfl, r⟩
theorem handed_of {v : V} {u : Value} (r : RelV v u) : PySem.W.handedIn u = true := by
  cases v with
  | non => cases (show u = Value.none from r); rfl
  | bl b => cases (show u = Value.bool b from r); rfl
  | int i => obtain ⟨t, e⟩ := (show ∃ t, u = Value.int i t from r); cases e; rfl
  | str x => obtain ⟨t, e⟩ := (show ∃ t, u = Value.str x t from r); cases e; rfl
  | byt b => obtain ⟨t, e⟩ := (show ∃ t, u = Value.bytes b t from r); cases e; rfl
  | flt b => obtain ⟨t, e⟩ := (show ∃ t, u = Value.float b t from r); cases e; rfl
  | ref a => cases (show u = Value.ref a from r); rfl
  | ty n => cases (show u = Value.type n from r); rfl

section
variable {P : Program} {w : World} {H H' : Hp} {h h' : Heap} {a C dx : Addr} {fs fs' : List (Str × V)}
theorem ins_get (hok : HOk P w H h) (e : H a = some (.ins C dx fs)) : ∃ mA, ObjM h a dx C mA ∧ (∀ f, RelO (fs.lookup f) (mA f)) ∧ PySem.Within mA (fs.map (·.1)) ∧ fs.length ≤ 1000 ∧ H dx = some (.own a) := by
  obtain ⟨d, z, ne, ob, mA, n, r, q⟩ := (show ObjOk P w H h a (.ins C dx fs) from hok a _ e)
  exact ⟨mA, ⟨ob, n, ne⟩, r, q, z, d⟩
end

/-! ### what of the text a class must have -/
structure Cls (K : PySem.W.Frag) (C : Addr) : Prop where
  pg : PySem.W.plainGet K C Str.empty = true
  hd : PySem.W.hasDictIn K C = true
  po : PySem.W.plainOver K C = true
  sa : PySem.W.findIn K (.ref C) "__setattr__" = some (some (.builtin "object.__setattr__"))
theorem Cls.get {K : PySem.W.Frag} {C : Addr} (c : Cls K C) (f : Str) : PySem.W.plainGet K C f = true := c.pg
/-- no class of it has the name -/
def NoAttr (K : PySem.W.Frag) (C : Addr) (f : Str) : Prop := PySem.W.findIn K (.ref C) f = some none
theorem NoAttr.taker {K : PySem.W.Frag} {C : Addr} {f : Str} (n : NoAttr K C f) : PySem.W.takerIn K C f = some none := by
  unfold PySem.W.takerIn
  rw [show PySem.W.findIn K (.ref C) f = some none from n]
  rfl
/-- a constant of the class -/
structure Con (K : PySem.W.Frag) (C : Addr) (f : Str) (v : V) (u : Value) : Prop where
  at_ : PySem.W.findIn K (.ref C) f = some (some u)
  rel : RelV v u
  get : PySem.W.specialIn K u "__get__" = some none
  cp : PySem.W.copiedNames.contains f = false
/-- a method: a plain def of the class or of one above it -/
structure Meth (K : PySem.W.Frag) (C : Addr) (m : Str) (f : Addr) : Prop where
  at_ : PySem.W.findIn K (.ref C) m = some (some (.ref f))
  fn : PySem.W.isFn K (.ref f) = true
  kp : PySem.W.keepIn K (.ref f) = true

section
variable {X : Cx} {pins : List (Addr × Obj)} {σ : St} {H : Hp} {s : Shared} {a C dx : Addr} {fs : List (Str × V)} {f : Str} {v : V} {A : Around} {E : Value → Shared → Prop}

theorem getattr_ok {b : Bool} {Q : Value → Shared → Prop} (I : Inv X pins σ H s) (e : H a = some (.ins C dx fs)) (c : Cls X.K C) (n : NoAttr X.K C f) (l : fs.lookup f = some v)
    (h : ∀ u s', Inv X pins σ H s' → RelV v u → Q u s') : wpAny (model X.prog X.w) A (getAttr (.ref a) f b) Q E s := by
  obtain ⟨mA, O, r, _, _, _⟩ := ins_get I.hok e
  obtain ⟨u, hu, ru⟩ := RelO.some_of (v := v) (o := mA f) (by rw [← l]; exact r f)
  exact get_map I.kIn O (c.get f) c.hd n hu (handed_of ru) (h u _ (I.tok _) ru)

theorem setattr_ok {y : V} {u : Value} {Q : Unit → Shared → Prop} (I : Inv X pins σ H s) (e : H a = some (.ins C dx fs)) (c : Cls X.K C) (n : NoAttr X.K C f) (hl : fs.length < 1000) (ry : RelV y u)
    (h : ∀ s', Inv X pins σ (upd H a (.ins C dx (putF f y fs))) s' → Q () s') : wpAny (model X.prog X.w) A (setAttr (.ref a) f u) Q E s := by
  obtain ⟨mA, O, r, wi, _, ho⟩ := ins_get I.hok e
  have hz : (fs.map (·.1)).length ≤ sizeLine := by rw [List.length_map, sizeLine_eq]; omega
  refine set_map I.kIn O c.sa c.po n.taker c.hd wi hz fun h' O' sb => h _ ?_
  have hd : ∃ o, h'.get? dx = some o := let ⟨o, _, _, e', _⟩ := O'.ns; ⟨o, e'⟩
  refine I.write (x := a) (e := dx) (by rw [e]; exact True.intro) (.inr ho) (fun b q hb z => (sb.2 b hb).trans z) hd ?_
  refine ⟨by rw [upd_ne O.ne]; exact ho, ?_, O.ne, O'.obj, _, O'.ns, fun g => ?_, fun g hg => ?_⟩
  · have := length_putF f y fs; omega
  · show RelO ((putF f y fs).lookup g) (if g = f then some u else mA g)
    rw [lookup_putF]
    by_cases q : g = f
    · rw [if_pos q, if_pos q]; exact ry
    · rw [if_neg q, if_neg q]; exact r g
  · by_cases q : g = f
    · rw [q]; exact (keys_putF f y fs).1
    · refine (keys_putF f y fs).2 g (wi g fun z => hg ?_)
      show (if g = f then some u else mA g) = none
      rw [if_neg q]; exact z

/-- a new instance, tracked, without attributes -/
theorem Inv.made (I : Inv X pins σ H s) : Inv X pins σ (upd (upd H s.heap.objs.size (.own (s.heap.objs.size + 1))) (s.heap.objs.size + 1) (.ins C s.heap.objs.size []))
    { s with heap := (s.heap.push PySem.W.emptyDict).push (PySem.W.instObj C s.heap.objs.size) } := by
  have e1 : (s.heap.push PySem.W.emptyDict).get? s.heap.objs.size = some PySem.W.emptyDict := Heap.get?_push_size s.heap rfl
  have e2 : ((s.heap.push PySem.W.emptyDict).push (PySem.W.instObj C s.heap.objs.size)).get? (s.heap.objs.size + 1) = some (PySem.W.instObj C s.heap.objs.size) := by
    have := Heap.get?_push_size (s.heap.push PySem.W.emptyDict) (o := PySem.W.instObj C s.heap.objs.size) rfl
    rwa [Heap.size_push] at this
  have e3 : (s.heap.push PySem.W.emptyDict).Ns s.heap.objs.size (fun _ => none) := ⟨PySem.W.emptyDict, #[], _, e1, rfl, (fun e he => absurd he (by simp)), fun _ => rfl⟩
  have I1 := I.laid (a := s.heap.objs.size) (o := .own (s.heap.objs.size + 1)) (h' := s.heap.push PySem.W.emptyDict) (t' := s.toks) (fun b u q => Heap.get?_push_of_some _ q) (Nat.le_refl _) ⟨_, e1⟩
  refine I1.laid (a := s.heap.objs.size + 1) (o := .ins C s.heap.objs.size []) (t' := s.toks) (fun b u q => Heap.get?_push_of_some _ q) (Nat.le_of_eq (Heap.size_push _ _)) ?_
  have ne : s.heap.objs.size ≠ s.heap.objs.size + 1 := Nat.ne_of_lt (Nat.lt_succ_self _)
  refine ⟨by rw [upd_ne ne, upd_same], Nat.zero_le _, ne, e2, fun _ => none, (Heap.Ns1.of_empty e3).at fun o q => Heap.get?_push_of_some _ q, fun _ => True.intro, fun y hy => absurd rfl hy⟩

/-- e.f where nothing but the object is asked: through attributeBase (super) and the last hold -/
theorem attr_of {prog : Program} {w : World} {env : Env} {e : Expr} {f : Str} {pos : Pos} {s : Shared} {Q : Value → Shared → Prop} (hb : attributeBase e f env (eval e env) = eval e env)
    (h : wpAny (model prog w) A (eval e env) (fun o s₁ => wpAny (model prog w) A (getAttr o f true) Q E s₁) E s) : wpAny (model prog w) A (eval (.Attribute e f pos) env) Q E s :=
  Attribute_any_ h (by rw [arm_eval_Attribute, hb])
end

/-! ### readings and rules -/
/-- e.f, an attribute of the instance -/
def tFld (K : PySem.W.Frag) (ta : TE) (f : Str) : TE := fun σ H Q => ta σ H fun x H1 => ∃ a C dx fs v, x = .ref a ∧ H1 a = some (.ins C dx fs) ∧ Cls K C ∧ NoAttr K C f ∧ fs.lookup f = some v ∧ Q v H1
/-- e.f, a constant of the class -/
def tCon (K : PySem.W.Frag) (ta : TE) (f : Str) : TE := fun σ H Q => ta σ H fun x H1 => ∃ a C dx fs v u, x = .ref a ∧ H1 a = some (.ins C dx fs) ∧ Cls K C ∧ Con K C f v u ∧ fs.lookup f = none ∧ Q v H1
/-- e.f = value -/
def sFld (K : PySem.W.Frag) (ta tv : TE) (f : Str) : TS := fun D σ H => tv σ H fun y H1 => ta σ H1 fun x H2 => ∃ a C dx fs, x = .ref a ∧ H2 a = some (.ins C dx fs) ∧ Cls K C ∧ NoAttr K C f ∧ fs.length < 1000 ∧
  D.nx σ (upd H2 a (.ins C dx (putF f y fs)))
/-- an augmented operator on two values -/
def InOp (X : Cx) (op : Operator) (rd : V → V → Hp → VK → Prop) : Prop :=
  ∀ (pins : List (Addr × Obj)) (s : Shared) (σ : St) (H : Hp) (x y : V) (u v : Value) (Q : VK), Inv X pins σ H s → RelV x u → RelV y v → rd x y H Q → wpAny (model X.prog X.w) X.A (inplaceOp op u v) (EP X pins σ Q) X.xe s
/-- e.f op= value -/
def sFldAug (K : PySem.W.Frag) (ta tv : TE) (rd : V → V → Hp → VK → Prop) (f : Str) : TS := fun D σ H => ta σ H fun x H1 => ∃ a C dx fs v, x = .ref a ∧ H1 a = some (.ins C dx fs) ∧ Cls K C ∧ NoAttr K C f ∧ fs.lookup f = some v ∧
  tv σ H1 fun y H2 => rd v y H2 fun z H3 => ∃ dx' fs', H3 a = some (.ins C dx' fs') ∧ fs'.length < 1000 ∧ D.nx σ (upd H3 a (.ins C dx' (putF f z fs')))

section
variable {X : Cx} {o e value : Expr} {f : Str} {pos pos' tpos : Pos} {ta tv : TE}
theorem pe_fld (he : PE X e ta) (hb : attributeBase e f X.env (eval e X.env) = eval e X.env) : PE X (.Attribute e f pos) (tFld X.K ta f) := by
  intro pins s σ H Q I h
  refine attr_of hb (thn (he pins s σ H _ I h) fun u s1 ⟨x, H1, I1, rx, a, C, dx, fs, v, ex, ea, c, n, l, q⟩ => ?_)
  subst ex
  obtain rfl : u = Value.ref a := rx
  exact getattr_ok I1 ea c n l fun u' s2 I2 ru => ⟨v, H1, I2, ru, q⟩
theorem ps_fld (ha : PE X o ta) (hv : PE X value tv) (hs : swapsWith value (some (.Attribute o f pos')) pos.line X.env = pure false) : PS X (.Assign [.Attribute o f pos'] value pos) (sFld X.K ta tv f) := by
  intro pins s σ H D I h
  refine plainObj_wpAny_Assign_Attribute (thn (hv pins s σ H _ I h) fun u s1 ⟨y, H1, I1, ry, q⟩ => thn (ha pins s1 σ H1 _ I1 q) fun ov s2 ⟨x, H2, I2, rx, a, C, dx, fs, ex, ea, c, n, l, q2⟩ => ?_) hs
  subst ex
  obtain rfl : ov = Value.ref a := rx
  exact setattr_ok I2 ea c n l ry fun s3 I3 => ⟨σ, _, I3, q2⟩
def rAdd : V → V → Hp → VK → Prop := fun x y H Q => ∃ i j, x = .int i ∧ y = .int j ∧ Q (.int (i + j)) H
def rSub : V → V → Hp → VK → Prop := fun x y H Q => ∃ i j, x = .int i ∧ y = .int j ∧ Q (.int (i - j)) H
end

/-! ### isinstance -/
section
variable {X : Cx} {pins : List (Addr × Obj)} {σ : St} {H : Hp} {s : Shared} {A : Around} {E : Value → Shared → Prop} {Q : Value → Shared → Prop} {c : Value} {b : Bool}
/-- the type of a value, as the fragment's deciders take it; for an instance its class -/
inductive TyOf (K : PySem.W.Frag) (H : Hp) : V → Value → Prop where
  | non : TyOf K H .non (.type "NoneType")
  | bl (x : Bool) : TyOf K H (.bl x) (.type "bool")
  | int (i : Int) : TyOf K H (.int i) (.type "int")
  | str (x : Str) : TyOf K H (.str x) (.type "str")
  | flt (x : UInt64) : TyOf K H (.flt x) (.type "float")
  | lst {a : Addr} {xs : List V} (e : H a = some (.lst xs)) : TyOf K H (.ref a) (.type "list")
  | frz {a : Addr} {o : Obj} {xs : List V} (e : H a = some (.frz o (.lst xs))) : TyOf K H (.ref a) (.type "list")
  | tup {a : Addr} {xs : List V} (e : H a = some (.tup xs)) : TyOf K H (.ref a) (.type "tuple")
  | dK {a : Addr} {kvs : List (Key × V)} (e : H a = some (.dK kvs)) : TyOf K H (.ref a) (.type "dict")
  | dT {a : Addr} {kvs : List (List Key × V)} (e : H a = some (.dT kvs)) : TyOf K H (.ref a) (.type "dict")
  | ins {a C dx : Addr} {fs : List (Str × V)} (e : H a = some (.ins C dx fs)) (cl : Cls K C) (ha : PySem.W.findIn K (.ref C) "__class__" = some (some (.builtin "object.__class__")))
      (hn : PySem.W.specialIn K (.builtin "object.__class__") "__get__" = some (some (.builtin "getset_descriptor.__get__"))) (htk : PySem.W.takesIn K (.builtin "object.__class__") = some true)
      (hm : PySem.W.mroIn K C (.type "object") = some true) : TyOf K H (.ref a) (.ref C)
/-- isinstance(x, c) for one class c, a built-in or an own one: kitOne's answer -/
theorem isinst_ok {x : V} {u t : Value} (I : Inv X pins σ H s) (rx : RelV x u) (ty : TyOf X.K H x t) (e : PySem.W.kitOne X.K t c = some b) (h : ∀ tk, Q (.bool b) { s with toks := tk }) :
    wpAny (model X.prog X.w) A (call (.builtin "isinstance") [u, c]) Q E s := by
  cases ty with
  | non => cases (show u = Value.none from rx); exact PySem.W.kia_one PySem.W.kitx_none I.kIn True.intro e (fun z => nomatch z) h
  | bl y => cases (show u = Value.bool y from rx); exact PySem.W.kia_one PySem.W.kitx_bool I.kIn True.intro e (fun z => nomatch z) h
  | int i => obtain ⟨t, q⟩ := (show ∃ t, u = Value.int i t from rx); cases q; exact PySem.W.kia_one PySem.W.kitx_int I.kIn True.intro e (fun z => nomatch z) h
  | str y => obtain ⟨t, q⟩ := (show ∃ t, u = Value.str y t from rx); cases q; exact PySem.W.kia_one PySem.W.kitx_str I.kIn True.intro e (fun z => nomatch z) h
  | flt y => obtain ⟨t, q⟩ := (show ∃ t, u = Value.float y t from rx); cases q; exact PySem.W.kia_one PySem.W.kitx_float I.kIn True.intro e (fun z => nomatch z) h
  | @lst a xs ea =>
    cases (show u = Value.ref a from rx)
    obtain ⟨_, _, n, _, h1⟩ := (show ObjOk X.prog X.w H s.heap a (.lst xs) from I.hok a _ ea)
    exact PySem.W.kia_one PySem.W.kitx_list I.kIn ⟨_, h1, rfl⟩ e (fun z => nomatch z) h
  | @frz a ob xs ea =>
    cases (show u = Value.ref a from rx)
    obtain ⟨_, _, _, n, _, h1⟩ := (show ObjOk X.prog X.w H s.heap a (.frz ob (.lst xs)) from I.hok a _ ea)
    exact PySem.W.kia_one PySem.W.kitx_list I.kIn ⟨_, h1, rfl⟩ e (fun z => nomatch z) h
  | @tup a xs ea =>
    cases (show u = Value.ref a from rx)
    obtain ⟨_, _, _, p⟩ := (show ObjOk X.prog X.w H s.heap a (.tup xs) from I.hok a _ ea)
    obtain ⟨o, h1, h2, _⟩ := p
    exact PySem.W.kia_one PySem.W.kitx_tuple I.kIn ⟨o, h1, h2⟩ e (fun z => nomatch z) h
  | @dK a kvs ea =>
    cases (show u = Value.ref a from rx)
    obtain ⟨_, _, vs, _, p⟩ := (show ObjOk X.prog X.w H s.heap a (.dK kvs) from I.hok a _ ea)
    obtain ⟨o, es, ep, h1, h2, _⟩ := p
    exact PySem.W.kia_one PySem.W.kitx_dict I.kIn ⟨o, h1, h2.1⟩ e (fun z => nomatch z) h
  | @dT a kvs ea =>
    cases (show u = Value.ref a from rx)
    obtain ⟨_, _, xs, _, o, es, ep, h1, h2, _⟩ := (show ObjOk X.prog X.w H s.heap a (.dT kvs) from I.hok a _ ea)
    exact PySem.W.kia_one PySem.W.kitx_dict I.kIn ⟨o, h1, h2.1⟩ e (fun z => nomatch z) h
  | @ins a C dx fs ea cl ha hn htk hm =>
    cases (show u = Value.ref a from rx)
    obtain ⟨mA, O, _⟩ := ins_get I.hok ea
    obtain ⟨od, J, _⟩ := O.look
    exact PySem.W.kia_one (PySem.W.kitx_own (cl.get _) cl.hd ha hn htk hm) I.kIn J e (fun z => nomatch z) h
end
end L2

namespace L2
open PySem PySem.Spec PyProof.Rows

/-! ### room -/
structure Room (k : Nat) (A : Around) : Prop where
  hd : A.handled = none
  dp : A.depth + 3 * k + 5 < recursionLimit
  un : A.units + 16 * k + 200 < cLine
theorem Room.mono {j k : Nat} {A : Around} (r : Room k A) (h : j ≤ k) : Room j A := ⟨r.hd, by have := r.dp; omega, by have := r.un; omega⟩
theorem Room.deeper {k : Nat} {A : Around} (r : Room (k + 1) A) (env : Env) : Room k (A.deeper env) :=
  ⟨r.hd, by have := r.dp; show A.depth + 1 + 3 * k + 5 < _; omega, by have := r.un; show A.units + 3 + 16 * k + 200 < _; omega⟩
theorem Room.in1 {k : Nat} {A : Around} (r : Room (k + 1) A) : Room k A.in1 :=
  ⟨r.hd, by have := r.dp; show A.depth + 3 * k + 5 < _; omega, by have := r.un; show A.units + 1 + 16 * k + 200 < _; omega⟩
theorem make_depth {A : Around} {C : Addr} {us : List Value} {kw : List (Str × Value)} : (A.under (.builtin "type.__call__" ⟨.ref C :: us, kw⟩)).depth = A.depth + 1 := by
  first | rfl | simp [Around.under, Code.weight, Code.isCreation, Code.isGuard, Code.isCaller, Code.frames, Code.isFrame, guardIds]
theorem make_units {A : Around} {C : Addr} {us : List Value} {kw : List (Str × Value)} : (A.under (.builtin "type.__call__" ⟨.ref C :: us, kw⟩)).units = A.units + 1 := by
  first | rfl | simp [Around.under, Code.cUnits, Code.frames, Code.isFrame]
theorem Room.make {k : Nat} {A : Around} (r : Room (k + 1) A) (C : Addr) (us : List Value) (kw : List (Str × Value)) : Room k (A.under (.builtin "type.__call__" ⟨.ref C :: us, kw⟩)) :=
  ⟨r.hd, by have := r.dp; rw [make_depth]; omega, by have := r.un; rw [make_units]; omega⟩
theorem Room.depth {k : Nat} {A : Around} (r : Room k A) : A.depth < recursionLimit := by have := r.dp; omega
theorem Room.units {k : Nat} {A : Around} (r : Room k A) : A.units + 64 < cLine := by have := r.un; omega
/-! ### argument lists and displays -/
def tNil : TA := fun _ H Q => Q [] H
def tCons (ta : TE) (tr : TA) : TA := fun σ H Q => ta σ H fun x H1 => tr σ H1 fun xs H2 => Q (x :: xs) H2
section
variable {X : Cx} {e : Expr} {es : List Expr} {te : TE} {t : TA} {pos : Pos}
theorem pa_nil : PA X [] tNil := fun _ _ _ _ H Q I h => Calls.spliced_nil ⟨[], H, I, .nil, h⟩
theorem pa_cons (ha : PE X e te) (hr : PA X es t) (hs : starEach (e :: es) X.env = (false, eval e X.env) :: starEach es X.env := by rfl) : PA X (e :: es) (tCons te t) := by
  intro pos pins s σ H Q I h
  rw [hs]
  show wpAny _ _ (spliced ((false, eval e X.env) :: backTo pos (starEach es X.env))) _ _ s
  refine Calls.spliced_cons (thn (ha pins s σ H _ I h) fun u s1 ⟨x, H1, I1, r1, q1⟩ => ?_)
  exact thn (hr pos pins s1 σ H1 _ I1 q1) fun us s2 ⟨xs, H2, I2, r2, q2⟩ => ⟨x :: xs, H2, I2, .cons r1 r2, q2⟩

/-- a tuple, a list of written items -/
def tTup (t : TA) : TE := fun σ H Q => t σ H fun xs H1 => xs.length ≤ sizeLine ∧ ∀ p, H1 p = none → Q (.ref p) (upd H1 p (.tup xs))
def tLst (t : TA) : TE := fun σ H Q => t σ H fun xs H1 => xs.length ≤ sizeLine ∧ ∀ p, H1 p = none → Q (.ref p) (upd H1 p (.lst xs))
theorem pe_tup {x1} (h : PA X es t) : PE X (.Tuple es x1 pos) (tTup t) := by
  intro pins s σ H Q I hq
  refine wpAny_Tuple_spliced (thn (h pos pins s σ H _ I hq) fun us s1 ⟨xs, H1, I1, r, z, q⟩ => ⟨by rw [← r.length]; exact z, ?_⟩)
  have hf : H1 s1.heap.objs.size = none := I1.hok.fresh (Nat.le_refl _)
  refine ⟨.ref s1.heap.objs.size, upd H1 s1.heap.objs.size (.tup xs), I1.laid (t' := s1.toks) (fun b u e => Heap.get?_push_of_some _ e) (Nat.le_refl _) ?_, rfl, q _ hf⟩
  exact ⟨z, us, r, ⟨_, Heap.get?_push_size _ rfl, rfl, _, rfl⟩⟩
theorem pe_lst (h : PA X es t) : PE X (.List es pos) (tLst t) := by
  intro pins s σ H Q I hq
  refine wpAny_List_spliced (thn (h pos pins s σ H _ I hq) fun us s1 ⟨xs, H1, I1, r, z, q⟩ => ⟨by rw [← r.length]; exact z, ?_⟩)
  have hf : H1 s1.heap.objs.size = none := I1.hok.fresh (Nat.le_refl _)
  refine ⟨.ref s1.heap.objs.size, upd H1 s1.heap.objs.size (.lst xs), I1.laid (t' := s1.toks) (fun b u e => Heap.get?_push_of_some _ e) (Nat.le_refl _) ?_, rfl, q _ hf⟩
  exact ⟨z, us, 0, r, Heap.get?_push_size _ rfl⟩
end

/-! ### what a def promises -/
/-- a def's promise: the bound arguments in the parameters' order, the heap, the wanted end, the wanted exception -/
abbrev Sp := List V → Hp → VK → XK → Prop
/-- how an exception lies behind a call (file 08 gives it): the callers' frames, abstract heap and state ahead of the call, the wish, the exception, the state -/
abbrev CXT := List Env → Hp → Shared → XK → Value → Shared → Prop

/-- the state at a call -/
structure Env0 (P : Program) (w : World) (K : PySem.W.Frag) (mg : Str → Option Value) (base : Heap) (A : Around) (outer : List Env) (s : Shared) (H : Hp) : Prop where
  frames : A.frames = some outer
  mod : Mod K mg base
  bs : ∀ b o, base.get? b = some o → s.heap.get? b = some o ∧ H b = none
  bsz : base.objs.size ≤ s.heap.objs.size
  funs : s.heap.FunFrames base outer
  frf : ∀ b ∈ frs outer, H b = none
  hok : HOk P w H s.heap
  bare : AllBare s.gens
/-- a call's end -/
def CE (outer : List Env) (P : Program) (w : World) (H : Hp) (s : Shared) (Q : VK) (u : Value) (s' : Shared) : Prop :=
  ∃ v H', s'.os = s.os ∧ AllBare s'.gens ∧ Un (frs outer) [] H H' s.heap s'.heap ∧ HOk P w H' s'.heap ∧ RelV v u ∧ Q v H'
def CR (CX : CXT) (outer : List Env) (P : Program) (w : World) (H : Hp) (s : Shared) (Q : VK) (E : XK) (r : Result) (s' : Shared) : Prop :=
  match r with
  | .ok (.ret u) => CE outer P w H s Q u s'
  | .ok _ => False
  | .error e => CX outer H s E e s'
structure FnOk (P : Program) (w : World) (K : PySem.W.Frag) (mg : Str → Option Value) (base : Heap) (CX : CXT) (k : Nat) (f : Addr) (fd : FuncData) (ps : List Str) (sp : Sp) : Prop where
  len : ∀ vs H Q E, sp vs H Q E → vs.length = ps.length
  run : ∀ (A : Around) (outer : List Env) (s : Shared) (H : Hp) (args : Args) (us : List Value) (vs : List V) (Q : VK) (E : XK), Room k A → Env0 P w K mg base A outer s H → BindsTo s fd args (ps.zip us) → Vals vs us → sp vs H Q E →
    codeAny (model P w) A (.call (.ref f) args) (CR CX outer P w H s Q E) s
theorem FnOk.mono {P : Program} {w : World} {K : PySem.W.Frag} {mg : Str → Option Value} {base : Heap} {CX : CXT} {j k : Nat} {f : Addr} {fd : FuncData} {ps : List Str} {sp : Sp} (F : FnOk P w K mg base CX j f fd ps sp) (h : j ≤ k) :
    FnOk P w K mg base CX k f fd ps sp := ⟨F.len, fun A outer s H args us vs Q E hr => F.run A outer s H args us vs Q E (hr.mono h)⟩
theorem Env0.make {P : Program} {w : World} {K : PySem.W.Frag} {mg : Str → Option Value} {base : Heap} {A : Around} {outer : List Env} {s : Shared} {H : Hp} (e : Env0 P w K mg base A outer s H) (C : Addr) (us : List Value) (kw : List (Str × Value)) :
    Env0 P w K mg base (A.under (.builtin "type.__call__" ⟨.ref C :: us, kw⟩)) outer s H := ⟨by first | exact e.frames | (simpa [Around.under, Code.envs, Code.isFrame, pushEnvs] using e.frames), e.mod, e.bs, e.bsz, e.funs, e.frf, e.hok, e.bare⟩
theorem Env0.in1 {P : Program} {w : World} {K : PySem.W.Frag} {mg : Str → Option Value} {base : Heap} {A : Around} {outer : List Env} {s : Shared} {H : Hp} (e : Env0 P w K mg base A outer s H) :
    Env0 P w K mg base A.in1 outer s H := ⟨e.frames, e.mod, e.bs, e.bsz, e.funs, e.frf, e.hok, e.bare⟩

section
variable {X : Cx} {pins : List (Addr × Obj)} {σ : St} {H : Hp} {s s' : Shared}
/-- from a body: what a callee wants -/
theorem Inv.env0 (I : Inv X pins σ H s) : Env0 X.prog X.w X.K X.mg X.base X.A X.stack s H :=
  ⟨I.ok.frames, I.ok.mod, I.bs, Nat.le_trans I.ok.bsz I.sz, I.stack, I.stkFree, I.hok, I.bare⟩
/-- behind a call -/
theorem Inv.after {Q : VK} {u : Value} (I : Inv X pins σ H s) (h : CE X.stack X.prog X.w H s Q u s') : EP X pins σ Q u s' := by
  obtain ⟨v, H', os, bare, un, hok, r, q⟩ := h
  obtain ⟨hh, g, d, t, os'⟩ := s'
  obtain rfl : os' = s.os := os
  exact ⟨v, H', I.call (h' := hh) (g' := g) (d' := d) (t' := t) (ch := []) un hok bare (fun b z => absurd z (by simp)), r, q⟩
end

/-! ### calls -/
/-- f(..): the written arguments, then the defaults dvs; E: what is wanted of an exception -/
def tCall (sp : Sp) (dvs : List V) (E : XK) (t : TA) : TE := fun σ H Q => t σ H fun vs H1 => sp (vs ++ dvs) H1 Q E
/-- o.m(..) of an instance of the class at C -/
def tMeth (C : Addr) (m : Str) (sp : Sp) (dvs : List V) (E : XK) (ta : TE) (t : TA) : TE := fun σ H Q => ta σ H fun x H1 => ∃ a dx fs, x = .ref a ∧ H1 a = some (.ins C dx fs) ∧ fs.lookup m = none ∧
  t σ H1 fun vs H2 => sp (x :: (vs ++ dvs)) H2 Q E
/-- C(..): a new instance and its dict, then __init__ -/
def tMake (C : Addr) (sp : Sp) (dvs : List V) (E : XK) (t : TA) : TE := fun σ H Q => t σ H fun vs H1 => ∀ x dx, H1 x = none → H1 dx = none → dx ≠ x →
  sp (.ref x :: (vs ++ dvs)) (upd (upd H1 dx (.own x)) x (.ins C dx [])) (fun v H2 => v = .non ∧ Q (.ref x) H2) E

/-- how the parameters are bound: us the positional arguments, kw the keywords' values by name, ds the defaults that fill up -/
def Binds (K : PySem.W.Frag) (fd : FuncData) (ps : List Str) (ds : List Value) : Prop :=
  ∀ (s : Shared) (us : List Value), K.In s.heap → (us ++ ds).length = ps.length → BindsTo s fd ⟨us, []⟩ (ps.zip (us ++ ds))
/-- every parameter is given -/
theorem Binds.all {K : PySem.W.Frag} {fd : FuncData} {ps : List Str} (h : ∀ us : List Value, us.length = ps.length → bindArgs fd ⟨us, []⟩ = pure (ps.zip us)) : Binds K fd ps [] := fun s us _ hl => by
  rw [List.append_nil] at hl ⊢
  exact .of_eq (h us hl)

/-- an exception of a callee reaches what this body wants of exceptions -/
def Passes (CX : CXT) (X : Cx) (E : XK) : Prop := ∀ (pins : List (Addr × Obj)) (σ : St) (H : Hp) (s : Shared) (e : Value) (s' : Shared), Inv X pins σ H s → CX X.stack H s E e s' → X.xe e s'

section
variable {X : Cx} {CX : CXT} {k : Nat} {f C : Addr} {fd : FuncData} {ps : List Str} {sp : Sp} {dvs : List V} {ds : List Value} {E : XK} {x m : Str} {p pos apos : Pos} {e o : Expr} {es : List Expr} {ta : TE} {t : TA}

/-- the callee runs -/
theorem run_fn {pins : List (Addr × Obj)} {σ : St} {H : Hp} {s : Shared} {Q : VK} {us : List Value} {vs : List V} (F : FnOk X.prog X.w X.K X.mg X.base CX k f fd ps sp) (hr : Room k X.A) (hb : Binds X.K fd ps ds) (hd : Vals dvs ds) (hx : Passes CX X E)
    (I : Inv X pins σ H s) (r : Vals vs us) (h : sp (vs ++ dvs) H Q E) : wpAny (model X.prog X.w) X.A (call (.ref f) us) (EP X pins σ Q) X.xe s := by
  have r2 : Vals (vs ++ dvs) (us ++ ds) := r.append hd
  have hl : (us ++ ds).length = ps.length := by rw [← r2.length]; exact F.len _ _ _ _ h
  refine wpAny_call (codeAny_mono (F.run X.A X.stack s H ⟨us, []⟩ (us ++ ds) (vs ++ dvs) Q E hr I.env0 (hb s us I.kIn hl) r2 h) fun r s' hq => ?_)
  cases r with
  | error e => exact hx pins σ H s e s' I hq
  | ok fl =>
    cases fl with
    | ret u => exact I.after hq
    | next => exact False.elim hq
    | brk => exact False.elim hq
    | cont => exact False.elim hq

theorem pe_call (F : FnOk X.prog X.w X.K X.mg X.base CX k f fd ps sp) (hr : Room k X.A) (hg : Gl X x) (hm : X.mg x = some (.ref f)) (hk : PySem.W.keepIn X.K (.ref f) = true) (hb : Binds X.K fd ps ds) (hd : Vals dvs ds) (hx : Passes CX X E)
    (ha : PA X (e :: es) t) (hdb : (x == ("__debug__" : Str)) = false := by decide) (he : starEach (e :: es) X.env = (false, eval e X.env) :: starEach es X.env := by rfl) (hpl : (backTo pos (starEach es X.env)).any (·.1) = false := by rfl) :
    PE X (.Call (.Name x p) (e :: es) [] pos) (tCall sp dvs E t) := by
  intro pins s σ H Q I h
  refine wpAny_Call_Name_kw (ld_glob I hg hm ?_ hdb)
  refine PySem.W.callWith_K (h₀ := X.base) I.ok.mod.kin hk (thn (ha pos pins s σ H _ I h) fun us s1 ⟨vs, H1, I1, r, q⟩ => ⟨I1.kIn, ?_⟩) he hpl
  exact run_fn F hr hb hd hx I1 r q
/-- what a class must have to be made -/
structure Mk (K : PySem.W.Frag) (C f : Addr) : Prop where
  makes : PySem.W.makesIn K C = true
  init : PySem.W.findIn K (.ref C) "__init__" = some (some (.ref f))
  fn : PySem.W.isFn K (.ref f) = true
  kp : PySem.W.keepIn K (.ref C) = true

theorem run_make {pins : List (Addr × Obj)} {σ : St} {H : Hp} {s : Shared} {Q : VK} {us : List Value} {vs : List V} (M : Mk X.K C f) (F : FnOk X.prog X.w X.K X.mg X.base CX k f fd ps sp) (hr : Room (k + 1) X.A) (hb : Binds X.K fd ps ds) (hd : Vals dvs ds)
    (hx : Passes CX X E) (I : Inv X pins σ H s) (r : Vals vs us)
    (h : ∀ x dx, H x = none → H dx = none → dx ≠ x → sp (.ref x :: (vs ++ dvs)) (upd (upd H dx (.own x)) x (.ins C dx [])) (fun v H2 => v = .non ∧ Q (.ref x) H2) E) :
    wpAny (model X.prog X.w) X.A (call (.ref C) us) (EP X pins σ Q) X.xe s := by
  have hq := h (s.heap.objs.size + 1) s.heap.objs.size (I.hok.fresh (Nat.le_succ _)) (I.hok.fresh (Nat.le_refl _)) (Nat.ne_of_lt (Nat.lt_succ_self _))
  have I2 := Inv.made (C := C) I
  have r2 : Vals (V.ref (s.heap.objs.size + 1) :: (vs ++ dvs)) (Value.ref (s.heap.objs.size + 1) :: (us ++ ds)) := .cons rfl (r.append hd)
  have hl : (Value.ref (s.heap.objs.size + 1) :: us ++ ds).length = ps.length := by
    have e := r2.length
    rw [F.len _ _ _ _ hq] at e
    exact e.symm
  refine wpAny_call (make_map (f := f) I.kIn M.makes M.init (beq_iff_eq.mp M.fn) (codeAny_mono (F.run _ X.stack _ _ ⟨Value.ref (s.heap.objs.size + 1) :: us, []⟩ (Value.ref (s.heap.objs.size + 1) :: (us ++ ds)) _ _ E (hr.make C us [])
    (I2.env0.make C us []) (hb _ (Value.ref (s.heap.objs.size + 1) :: us) I2.kIn hl) r2 hq) fun r s' hq' => ?_))
  cases r with
  | error e => exact hx pins σ _ _ e s' I2 hq'
  | ok fl =>
    cases fl with
    | ret u =>
      obtain ⟨v, H', I3, rv, ev, q3⟩ := I2.after hq'
      subst ev
      exact ⟨rv, ⟨V.ref (s.heap.objs.size + 1), H', I3, rfl, q3⟩⟩
    | next => exact False.elim hq'
    | brk => exact False.elim hq'
    | cont => exact False.elim hq'
theorem pe_make (M : Mk X.K C f) (F : FnOk X.prog X.w X.K X.mg X.base CX k f fd ps sp) (hr : Room (k + 1) X.A) (hg : Gl X x) (hm : X.mg x = some (.ref C)) (hb : Binds X.K fd ps ds) (hd : Vals dvs ds) (hx : Passes CX X E)
    (ha : PA X (e :: es) t) (hdb : (x == ("__debug__" : Str)) = false := by decide) (he : starEach (e :: es) X.env = (false, eval e X.env) :: starEach es X.env := by rfl) (hpl : (backTo pos (starEach es X.env)).any (·.1) = false := by rfl) :
    PE X (.Call (.Name x p) (e :: es) [] pos) (tMake C sp dvs E t) := by
  intro pins s σ H Q I h
  refine wpAny_Call_Name_kw (ld_glob I hg hm ?_ hdb)
  refine PySem.W.callWith_K (h₀ := X.base) I.ok.mod.kin M.kp (thn (ha pos pins s σ H _ I h) fun us s1 ⟨vs, H1, I1, r, q⟩ => ⟨I1.kIn, ?_⟩) he hpl
  exact run_make M F hr hb hd hx I1 r q
end

/-! ### keywords -/
/-- the values of the keywords, from the left -/
def PK (X : Cx) (kws : List Keyword) (t : TA) : Prop :=
  ∀ (pos : Pos) (pins : List (Addr × Obj)) (s : Shared) (σ : St) (H : Hp) (Q : List V → Hp → Prop), Inv X pins σ H s → t σ H Q → wpAny (model X.prog X.w) X.A (evalAll ((backToKw pos (keywordEach kws X.env)).map (·.2))) (AP X pins σ Q) X.xe s
section
variable {X : Cx} {CX : CXT} {k : Nat} {f C : Addr} {fd : FuncData} {ps ks : List Str} {sp : Sp} {E : XK} {x m : Str} {p pos apos kpos : Pos} {e o : Expr} {es : List Expr} {kws : List Keyword} {te ta : TE} {t tk : TA} {nm : Option Str}
/-- how a call with keywords binds: g puts the positional values us and the keywords' values ws (names ks) in the parameters' order, defaults among them -/
structure KBinds (K : PySem.W.Frag) (fd : FuncData) (ps ks : List Str) (g : List Value → List Value → List Value) (gV : List V → List V → List V) : Prop where
  to : ∀ (s : Shared) (us ws : List Value), K.In s.heap → (g us ws).length = ps.length → BindsTo s fd ⟨us, ks.zip ws⟩ (ps.zip (g us ws))
  rel : ∀ {vs : List V} {us : List Value} {zs : List V} {ws : List Value}, Vals vs us → Vals zs ws → Vals (gV vs zs) (g us ws)
def tCallK (sp : Sp) (gV : List V → List V → List V) (E : XK) (t tk : TA) : TE := fun σ H Q => t σ H fun vs H1 => tk σ H1 fun zs H2 => sp (gV vs zs) H2 Q E
variable {g : List Value → List Value → List Value} {gV : List V → List V → List V}
end

/-! ### a def's body keeps its promise -/
/-- names: the parameters first -/
structure FnScope (N P : List Str) (sc : Scope) : Prop where
  kind : sc.kind = .function
  co : sc.isCoroutine = false
  gen : sc.isGenerator = false
  nd : N.Nodup
  pre : N.take P.length = P
  par : ∀ x ∈ P, sc.names.lookup x = some .local ∨ sc.names.lookup x = some .cell
  nofree : ∀ y ∈ sc.names, y.2 ≠ .free

theorem bindL_out {kindOf : Str → Option NameKind} {x : Str} : ∀ {binds : List (Str × Value)} {m : Str → Option Value}, (∀ v, (x, v) ∉ binds) → bindL kindOf binds m x = m x
  | [], _, _ => rfl
  | (n, v) :: r, m, h => by
    unfold bindL
    rw [bindL_out fun w hw => h w (List.mem_cons_of_mem _ hw)]
    split
    · have : x ≠ n := by rintro rfl; exact h v List.mem_cons_self
      simp [this]
    · rfl
theorem bindC_out {kindOf : Str → Option NameKind} {x : Str} : ∀ {binds : List (Str × Value)} {m : Str → Option Value}, (∀ v, (x, v) ∉ binds) → bindC kindOf binds m x = m x
  | [], _, _ => rfl
  | (n, v) :: r, m, h => by
    unfold bindC
    rw [bindC_out fun w hw => h w (List.mem_cons_of_mem _ hw)]
    split
    · rfl
    · have : x ≠ n := by rintro rfl; exact h v List.mem_cons_self
      simp [this]
theorem bindL_get {kindOf : Str → Option NameKind} {x : Str} {v : Value} : ∀ {P : List Str} {vs : List Value} {i : Nat} {m : Str → Option Value}, P.Nodup → P[i]? = some x → vs[i]? = some v → kindOf x = some .local →
    bindL kindOf (P.zip vs) m x = some v
  | [], _, _, _, _, h, _, _ => by simp at h
  | _ :: _, [], _, _, _, _, h, _ => by simp at h
  | p :: P, w :: vs, 0, m, nd, h1, h2, hk => by
    simp at h1 h2; subst h1; subst h2
    show bindL kindOf ((p, w) :: P.zip vs) m p = _
    unfold bindL
    rw [bindL_out fun v hv => (List.nodup_cons.mp nd).1 (List.of_mem_zip hv).1, if_pos hk]
    simp
  | p :: P, w :: vs, i + 1, m, nd, h1, h2, hk => by
    show bindL kindOf ((p, w) :: P.zip vs) m x = _
    unfold bindL
    exact bindL_get (i := i) (List.nodup_cons.mp nd).2 (by simpa using h1) (by simpa using h2) hk
theorem bindC_get {kindOf : Str → Option NameKind} {x : Str} {v : Value} : ∀ {P : List Str} {vs : List Value} {i : Nat} {m : Str → Option Value}, P.Nodup → P[i]? = some x → vs[i]? = some v → kindOf x ≠ some .local →
    bindC kindOf (P.zip vs) m x = some v
  | [], _, _, _, _, h, _, _ => by simp at h
  | _ :: _, [], _, _, _, _, h, _ => by simp at h
  | p :: P, w :: vs, 0, m, nd, h1, h2, hk => by
    simp at h1 h2; subst h1; subst h2
    show bindC kindOf ((p, w) :: P.zip vs) m p = _
    unfold bindC
    rw [bindC_out fun v hv => (List.nodup_cons.mp nd).1 (List.of_mem_zip hv).1, if_neg hk]
    simp
  | p :: P, w :: vs, i + 1, m, nd, h1, h2, hk => by
    show bindC kindOf ((p, w) :: P.zip vs) m x = _
    unfold bindC
    exact bindC_get (i := i) (List.nodup_cons.mp nd).2 (by simpa using h1) (by simpa using h2) hk

/-- the names' values at the entry -/
def start (N : List Str) (vs : List V) : St := vs.map some ++ List.replicate (N.length - vs.length) none

/-- the context of a def's body, at its entry; an exception leaves the frame, then lies as CX says -/
def cxOf (CX : CXT) (P : Program) (w : World) (K : PySem.W.Frag) (mg : Str → Option Value) (base : Heap) (N : List Str) (qual : Str) (scope : Scope) (f : Addr) (cd : Value) (A : Around) (outer : List Env) (s : Shared) (H : Hp) (E : XK) : Cx where
  prog := P
  w := w
  K := K
  mg := mg
  base := base
  A := A.deeper (envOfC qual scope s.heap.objs.size f cd)
  N := N
  s₀ := s
  H₀ := H
  env := envOfC qual scope s.heap.objs.size f cd
  outer := outer
  stack := envOfC qual scope s.heap.objs.size f cd :: outer
  ex := []
  calm := true
  fn := fun _ => true
  pn := []
  xe := fun e s' => wpAny (model P w) (A.deeper (envOfC qual scope s.heap.objs.size f cd)) (leaving (envOfC qual scope s.heap.objs.size f cd) e) (fun _ s'' => CX outer H s E e s'') (fun e' s'' => CX outer H s E e' s'') s'

theorem cell_has {sc : Scope} {n : Nat} {x : Str} (h : sc.names.lookup x = some .cell) : ∃ c, (cellsFrom n sc.names []).lookup x = some c := by
  have q := PySem.W.cellsFrom_some sc.names n [] (.inl h)
  exact Option.isSome_iff_exists.mp q

theorem inv_start {CX : CXT} {P : Program} {w : World} {K : PySem.W.Frag} {mg : Str → Option Value} {base : Heap} {N ps : List Str} {qual : Str} {scope : Scope} {f : Addr} {cd : Value} {A : Around} {outer : List Env} {s s1 : Shared} {H : Hp} {E : XK} {us : List Value} {vs : List V}
    (S : FnScope N ps scope) (hd : A.handled = none) (e0 : Env0 P w K mg base A outer s H) (hl : vs.length = ps.length) (r : Vals vs us)
    (x : InCallC s s.heap.objs.size (bindL (envOfC qual scope s.heap.objs.size f cd).kindOf (ps.zip us) fun _ => none) (cellsFrom (s.heap.objs.size + 1) scope.names []) (bindC (envOfC qual scope s.heap.objs.size f cd).kindOf (ps.zip us) fun _ => none) s1) :
    Inv (cxOf CX P w K mg base N qual scope f cd A outer s H E) [] (start N vs) H s1 := by
  have hpl : ps.length ≤ N.length := by have := congrArg List.length S.pre; rw [List.length_take] at this; omega
  obtain ⟨h1, tk, rfl, hk⟩ := x.done
  have noA : ∀ b : Addr, b ∉ (cxOf CX P w K mg base N qual scope f cd A outer s H E).ex := fun b z => absurd (show b ∈ ([] : List Addr) from z) (by simp)
  refine ⟨⟨e0.mod, S.kind, rfl, rfl, Nat.le_refl _, fun y z c h1 h2 => ?_, fun y hy => ?_, fun y c _ h => ?_, fun _ => hd, Around.frames_deeper e0.frames, .inr ⟨rfl, rfl⟩, fun b z => absurd z (noA b), e0.bs, e0.bsz, fun b _ _ => noA b, fun b z => absurd z (noA b), e0.funs, e0.frf⟩,
    rfl, e0.bare, Un.kept hk, ⟨_, x.toInCall.ns, fun i y v h1 h2 h3 => ?_⟩, fun y c h => ⟨_, x.cell y c h⟩, e0.hok.fresh (Nat.le_refl _), fun y c h => ?_, fun p hp => absurd (show p ∈ ([] : List (Addr × Obj)) from hp) (by simp), e0.hok.kept hk, ?_⟩
  · exact name_of_addr x.apart (PySem.mem_of_lookup h1) (PySem.mem_of_lookup h2)
  · have hy : scope.names.lookup y = some .cell ∨ scope.names.lookup y = some .free := hy
    rcases hy with hy | hy
    · exact cell_has hy
    · exact absurd rfl (S.nofree _ (PySem.mem_of_lookup hy))
  · exact Nat.le_of_lt (x.above y c (PySem.mem_of_lookup h))
  · have hi : i < vs.length := by
      unfold start at h2
      by_cases hi : i < vs.length
      · exact hi
      · rw [List.getElem?_append_right (by simpa using hi)] at h2
        rw [List.getElem?_replicate] at h2
        split at h2 <;> cases h2
    have ha : vs[i]? = some v := by
      unfold start at h2
      rw [List.getElem?_append_left (by simpa using hi), List.getElem?_map] at h2
      cases e : vs[i]? with
      | none => rw [e] at h2; cases h2
      | some a => rw [e] at h2; cases h2; rfl
    obtain ⟨u, hu, rv⟩ := r.get ha
    have hp : ps[i]? = some y := by
      rw [← S.pre, List.getElem?_take_of_lt (by omega)]; exact h1
    have ndP : ps.Nodup := by rw [← S.pre]; exact S.nd.sublist (List.take_sublist _ _)
    refine ⟨u, rv, ?_⟩
    rcases S.par y (List.mem_of_getElem? hp) with k | k
    · exact .inl ⟨k, bindL_get ndP hp hu k⟩
    · obtain ⟨c, e⟩ := cell_has (n := s.heap.objs.size + 1) k
      refine .inr ⟨.inl k, c, e, ?_⟩
      have q := x.cell y c e
      rw [bindC_get ndP hp hu (by show scope.names.lookup y ≠ _; rw [k]; decide)] at q
      exact q
  · exact e0.hok.fresh (Nat.le_of_lt (x.above y c (PySem.mem_of_lookup h)))
  · unfold start
    show _ = N.length
    rw [List.length_append, List.length_map, List.length_replicate]
    omega

/-- THE RULE: a def (or a method) of the text, by its body. The body's reading t is chosen for each entry; it is run at the parameters' values -/
theorem fn_of {CX : CXT} {P : Program} {w : World} {K : PySem.W.Frag} {mg : Str → Option Value} {base : Heap} {k : Nat} {f : Addr} {name qual : Str} {params : Arguments} {body : List Stmt} {scope : Scope} {dV kV doc pm cdv ct oc : Value} {an od : Option Addr}
    {osl : Array (Option Value)} {N ps : List Str} {sp : Sp} (lk : K.lookup f = some ⟨oc, od, .func (PySem.W.fnOf name qual params body scope dV kV doc pm an cdv ct), osl⟩) (hcd : PySem.W.codeIn K cdv qual = true) (S : FnScope N ps scope)
    (len : ∀ vs H Q E, sp vs H Q E → vs.length = ps.length)
    (hbody : ∀ (A : Around) (outer : List Env) (s : Shared) (H : Hp) (vs : List V) (Q : VK) (E : XK), Room k (A.deeper (envOfC qual scope s.heap.objs.size f cdv)) → sp vs H Q E →
      ∃ t, PSs (cxOf CX P w K mg base N qual scope f cdv A outer s H E) body t ∧ t { nx := fun _ H' => Q .non H', rt := Q } (start N vs) H) :
    FnOk P w K mg base CX (k + 1) f (PySem.W.fnOf name qual params body scope dV kV doc pm an cdv ct) ps sp := by
  refine ⟨len, fun A outer s H args us vs Q E hr e0 hb r hsp => ?_⟩
  have hl := len _ _ _ _ hsp
  have KX : K.In s.heap := e0.mod.kin.keeps fun b o e => (e0.bs b o e).1
  have lim : s.heap.NoLimit := e0.mod.nolimit.keeps fun b o e => (e0.bs b o e).1
  have hkind : ∀ y ∈ ps.zip us, scope.names.lookup y.1 = some .local ∨ (scope.names.lookup y.1 = some .cell ∧ ((cellsFrom (s.heap.objs.size + 1) scope.names []).lookup y.1).isSome = true) := fun ⟨n, v⟩ hy => by
    rcases S.par n (List.of_mem_zip hy).1 with q | q
    · exact .inl q
    · exact .inr ⟨q, PySem.W.cellsFrom_some _ _ _ (.inl q)⟩
  refine codeAny_call_function hr.depth (KX _ _ lk) rfl S.co S.gen rfl (PySem.W.codeRec_of KX hcd) (hb _ _ _ _ ?_)
  refine wpAny_newFunctionEnv_cells S.kind hkind fun env he s1 x => ?_
  subst he
  refine ⟨lim.keeps x.toInCall.keep, codeAny_func ?_⟩
  obtain ⟨t, ht, hq⟩ := hbody A outer s H vs Q E (hr.deeper _) hsp
  have I : Inv (cxOf CX P w K mg base N qual scope f cdv A outer s H E) [] (start N vs) H s1 := inv_start S hr.hd e0 hl r x
  refine wpAny_mono (ht [] s1 (start N vs) H _ I hq) (fun fl s' hs => ?_) fun e s' hs => hs
  have fin : ∀ {σ' : St} {H' : Hp} {v : V} {u : Value}, Inv (cxOf CX P w K mg base N qual scope f cdv A outer s H E) [] σ' H' s' → RelV v u → Q v H' → CE outer P w H s Q u s' :=
    fun {σ' H' v u} J rv q => ⟨v, H', J.os, J.bare, J.base, J.hok, rv, q⟩
  cases fl with
  | ret u =>
    obtain ⟨v, σ', H', J, rv, q⟩ := hs
    exact fin J rv q
  | next =>
    obtain ⟨σ', H', J, q⟩ := hs
    exact fin (v := V.non) (u := Value.none) J rfl q
  | brk =>
    obtain ⟨_, _, _, q⟩ := hs
    exact False.elim q
  | cont =>
    obtain ⟨_, _, _, q⟩ := hs
    exact False.elim q
end L2

namespace L2
open PySem PySem.Spec PyProof.Rows
section
variable {X : Cx} {x : Str} {p pos : Pos} {e : Expr} {es : List Expr} {t : TA} {id T : String} {r : List V → Hp → VK → Prop}

def tCB (r : List V → Hp → VK → Prop) (t : TA) : TE := fun σ H Q => t σ H fun vs H1 => r vs H1 Q
/-- f(e, ..), f a built-in function -/
theorem pe_callB (hc : CallR X (.builtin id) r) (hg : Gl X x) (hm : X.mg x = none) (hv : bootBuiltins x = some (.builtin id)) (ha : PA X (e :: es) t) (hn : x ≠ "__name__" := by decide) (hdb : (x == ("__debug__" : Str)) = false := by decide)
    (he : starEach (e :: es) X.env = (false, eval e X.env) :: starEach es X.env := by rfl) (hpl : (backTo pos (starEach es X.env)).any (·.1) = false := by rfl) : PE X (.Call (.Name x p) (e :: es) [] pos) (tCB r t) := by
  intro pins s σ H Q I h
  refine wpAny_Call_Name_kw (ld_blt I hg hm hv ?_ hn hdb)
  exact PyProof.Rows.callWith_builtin1 (thn (ha pos pins s σ H _ I h) fun us s1 ⟨vs, H1, I1, r1, q1⟩ => hc pins s1 σ H1 vs us Q I1 r1 q1) he hpl
/-- T(e, ..), T a built-in type -/
theorem pe_callTy (hc : CallR X (.type T) r) (hg : Gl X x) (hm : X.mg x = none) (hv : bootBuiltins x = some (.type T)) (ha : PA X (e :: es) t) (hn : x ≠ "__name__" := by decide) (hdb : (x == ("__debug__" : Str)) = false := by decide)
    (he : starEach (e :: es) X.env = (false, eval e X.env) :: starEach es X.env := by rfl) (hpl : (backTo pos (starEach es X.env)).any (·.1) = false := by rfl) : PE X (.Call (.Name x p) (e :: es) [] pos) (tCB r t) := by
  intro pins s σ H Q I h
  refine wpAny_Call_Name_kw (ld_blt I hg hm hv ?_ hn hdb)
  exact PyProof.Rows.callWith_type1 (thn (ha pos pins s σ H _ I h) fun us s1 ⟨vs, H1, I1, r1, q1⟩ => hc pins s1 σ H1 vs us Q I1 r1 q1) he hpl
end
end L2

namespace HT
open PySem PyProof.Rows

/-- t < u of tuples of ints -/
def lexLt : List Int → List Int → Bool
  | [], [] => false
  | [], _ :: _ => true
  | _ :: _, [] => false
  | x :: xs, y :: ys => if x = y then lexLt xs ys else decide (x < y)
section
open PySem.SeqAt
open PySem.AutoSeq1 (wpAny_loadPart')
open PySem.MeetsSeq PySem.MeetsSeq2 PySem.MeetsSeq3

end

section
variable {prog : Program} {w : World} {A : Around} {E : Value → Shared → Prop} {s : Shared}

/-! ### t[a:b], not the whole -/
/-- a slice's bound as a place among n (d where it is left out) -/
def sIx (n d : Nat) : Option Int → Nat
  | none => d
  | some v => if v < 0 then (v + (n : Int)).toNat else min v.toNat n
end
end HT

namespace L2
open PySem PySem.Spec PyProof.Rows

/-! ### the parts of a slice -/
abbrev TO := St → Hp → (Option Int → Hp → Prop) → Prop
/-- a slice's part (left out, or an int) -/
def PO (X : Cx) (e : Option Expr) (t : TO) : Prop :=
  ∀ (pins : List (Addr × Obj)) (s : Shared) (σ : St) (H : Hp) (Q : Option Int → Hp → Prop), Inv X pins σ H s → t σ H Q →
    wpAny (model X.prog X.w) X.A (evalPart e X.env) (fun u s' => ∃ o H', Inv X pins σ H' s' ∧ IsPart u o ∧ Q o H') X.xe s
def tNoPart : TO := fun _ H Q => Q none H
def tPart (t : TE) : TO := fun σ H Q => t σ H fun x H1 => ∃ i, x = .int i ∧ Q (some i) H1

section
variable {X : Cx} {e : Expr} {te : TE} {lo hi : Option Expr} {tl th : TO} {pos p2 : Pos}

theorem po_none : PO X none tNoPart := by
  intro pins s σ H Q I h
  rw [evalPart_none]
  exact wpAny_pure ⟨none, H, I, .none, h⟩
theorem po_some (h : PE X e te) : PO X (some e) (tPart te) := by
  intro pins s σ H Q I hw
  rw [evalPart_some]
  refine thn (h pins s σ H _ I hw) fun u s1 ⟨x, H1, I1, r1, q1⟩ => ?_
  obtain ⟨i, rfl, q⟩ := q1
  obtain ⟨t, rfl⟩ := r1
  exact ⟨some i, H1, I1, .int i t, q⟩

/-- what a slice of a value is, by values: the slice object stands at sl -/
def SlR (X : Cx) (r : V → Option Int → Option Int → Hp → VK → Prop) : Prop :=
  ∀ (pins : List (Addr × Obj)) (s : Shared) (σ : St) (H : Hp) (x : V) (v vl vu : Value) (lo hi : Option Int) (sl : Addr) (Q : VK), Inv X pins σ H s → RelV x v → s.heap.IsSliceOf sl vl vu .none → IsPart vl lo → IsPart vu hi → r x lo hi H Q →
    ∃ T id, typeLookup (.type T) "__getitem__" = pure (some (.builtin id)) ∧ s.TypeIs v T ∧ wpAny (model X.prog X.w) X.A (getItem v (.ref sl)) (EP X pins σ Q) X.xe s
theorem SlR.or {r r' : V → Option Int → Option Int → Hp → VK → Prop} (h : SlR X r) (h' : SlR X r') : SlR X (fun x lo hi H Q => r x lo hi H Q ∨ r' x lo hi H Q) := by
  intro pins s σ H x v vl vu lo hi sl Q I rx hs pl pu q
  rcases q with q | q
  · exact h pins s σ H x v vl vu lo hi sl Q I rx hs pl pu q
  · exact h' pins s σ H x v vl vu lo hi sl Q I rx hs pl pu q
def tSl (r : V → Option Int → Option Int → Hp → VK → Prop) (te : TE) (tl th : TO) : TE := fun σ H Q => te σ H fun x H1 => tl σ H1 fun l H2 => th σ H2 fun u H3 => r x l u H3 Q
/-- a[lo:hi], any a -/
theorem pe_slice {r : V → Option Int → Option Int → Hp → VK → Prop} (hr : SlR X r) (he : PE X e te) (hl : PO X lo tl) (hu : PO X hi th) : PE X (.Subscript e (.Slice lo hi none p2) pos) (tSl r te tl th) := by
  intro pins s σ H Q I h
  refine Subscript_ (thn (he pins s σ H _ I h) fun v s1 ⟨x, H1, I1, r1, q1⟩ => ?_)
  refine wpAny_Slice (thn (hl pins s1 σ H1 _ I1 q1) fun vl s2 ⟨l, H2, I2, pl, q2⟩ => thn (hu pins s2 σ H2 _ I2 q2) fun vu s3 ⟨u, H3, I3, pu, q3⟩ => ?_)
  rw [evalPart_none]
  refine wpAny_pure ?_
  have I4 : Inv X pins σ H3 { s3 with heap := s3.heap.push { cls := .type "slice", data := .fields #[vl, vu, .none] } } := I3.kept (t' := s3.toks) fun b ob q => Heap.get?_push_of_some _ q
  obtain ⟨T, id, hT, ht, hg⟩ := hr pins { s3 with heap := s3.heap.push { cls := .type "slice", data := .fields #[vl, vu, .none] } } σ H3 x v vl vu l u s3.heap.objs.size Q I4 r1 (Heap.IsSliceOf.new ..) pl pu q3
  show wpAny (model X.prog X.w) X.A (subscriptTail e (.Slice lo hi none p2) v (.ref s3.heap.objs.size)) (EP X pins σ Q) X.xe { s3 with heap := s3.heap.push { cls := .type "slice", data := .fields #[vl, vu, .none] } }
  exact tail_any (ops := [.ref s3.heap.objs.size, v]) ht hT hg (by with_unfolding_all rfl)

/-- the items of xs[lo:hi] -/
def cutV (xs : List V) (lo hi : Option Int) : List V := (xs.drop (HT.sIx xs.length 0 lo)).take (HT.sIx xs.length xs.length hi - HT.sIx xs.length 0 lo)
theorem cutV_length (xs : List V) (lo hi : Option Int) : (cutV xs lo hi).length ≤ xs.length := by
  unfold cutV
  rw [List.length_take, List.length_drop]
  omega
/-- t[lo:hi], not the whole of it (the whole would be t itself) -/
def rSlT (K : PySem.W.Frag) : V → Option Int → Option Int → Hp → VK → Prop := fun x lo hi H Q => ∃ a xs, x = .ref a ∧ SqT K H a xs ∧
  ¬ (HT.sIx xs.length 0 lo = 0 ∧ HT.sIx xs.length xs.length hi = xs.length) ∧ ∀ p, H p = none → Q (.ref p) (upd H p (.tup (cutV xs lo hi)))
/-! ### t < u, t + u -/
def rLtT (K : PySem.W.Frag) : R2 := fun x y H Q => ∃ a b ns ms, x = .ref a ∧ y = .ref b ∧ SqT K H a (ns.map V.int) ∧ SqT K H b (ms.map V.int) ∧ Q (.bl (HT.lexLt ns ms)) H
/-- t + u, t not empty: u empty gives t itself -/
def rCatT (K : PySem.W.Frag) : R2 := fun x y H Q => ∃ a b xs ys, x = .ref a ∧ y = .ref b ∧ SqT K H a xs ∧ SqT K H b ys ∧ xs ≠ [] ∧ xs.length + ys.length ≤ sizeLine ∧
  (ys = [] → Q (.ref a) H) ∧ (ys ≠ [] → ∀ p, H p = none → Q (.ref p) (upd H p (.tup (xs ++ ys))))
end
end L2

namespace L2
open PySem PySem.Spec PyProof.Rows

/-! ### places -/
/-- the place that an index of any sign means -/
def ixN (n : Nat) (i : Int) : Option Nat := if 0 ≤ i then (if i < n then some i.toNat else none) else if -(n : Int) ≤ i then some (i + n).toNat else none
def atI {α : Type} (xs : List α) (i : Int) : Option α := (ixN xs.length i).bind fun j => xs[j]?
theorem ixN_seq {n : Nat} {i : Int} {j : Nat} (h : ixN n i = some j) : seqIndex? i n = some j ∧ j < n ∧ -(n : Int) ≤ i ∧ i < n := by
  unfold ixN at h
  by_cases h0 : 0 ≤ i
  · rw [if_pos h0] at h
    by_cases h1 : i < n
    · rw [if_pos h1] at h
      have e : i.toNat = j := Option.some.inj h
      exact ⟨by rw [seqIndex_of h0 h1, e], by omega, by omega, h1⟩
    · rw [if_neg h1] at h; cases h
  · rw [if_neg h0] at h
    by_cases h1 : -(n : Int) ≤ i
    · rw [if_pos h1] at h
      have e : (i + n).toNat = j := Option.some.inj h
      exact ⟨by rw [seqIndex_neg (by omega) h1, e], by omega, h1, by omega⟩
    · rw [if_neg h1] at h; cases h
theorem atI_get {α : Type} {xs : List α} {i : Int} {v : α} (h : atI xs i = some v) : ∃ j, seqIndex? i xs.length = some j ∧ xs[j]? = some v ∧ j < xs.length ∧ -(xs.length : Int) ≤ i ∧ i < xs.length := by
  unfold atI at h
  cases e : ixN xs.length i with
  | none => rw [e] at h; cases h
  | some j =>
    rw [e] at h
    obtain ⟨h1, h2, h3, h4⟩ := ixN_seq e
    exact ⟨j, h1, h, h2, h3, h4⟩
theorem atI_nat {α : Type} {xs : List α} {j : Nat} {v : α} (h : xs[j]? = some v) : atI xs (j : Int) = some v := by
  have hj : j < xs.length := (List.getElem?_eq_some_iff.mp h).1
  have e : ixN xs.length (j : Int) = some j := by
    unfold ixN
    rw [if_pos (by omega), if_pos (by omega)]; simp
  unfold atI; rw [e]; exact h
/-! ### what may be subscripted -/
/-- what stands as an index of a plain subscript -/
def PlainIx (b : Expr) : Prop := ∀ o i, subscripted b false o i = operate [o, i] (getItem o i)
/-- a subscript by values -/
def IxR (X : Cx) (r : R2) : Prop :=
  ∀ (value slice : Expr) (pins : List (Addr × Obj)) (s : Shared) (σ : St) (H : Hp) (x y : V) (v u : Value) (Q : VK), Inv X pins σ H s → RelV x v → RelV y u → r x y H Q →
    subscripted slice false v u = operate [v, u] (getItem v u) → wpAny (model X.prog X.w) X.A (subscriptTail value slice v u) (EP X pins σ Q) X.xe s
/-- a call of a builtin's method by values: the receiver, the arguments -/
def MtR (X : Cx) (id : String) (r : V → List V → Hp → VK → Prop) : Prop :=
  ∀ (pins : List (Addr × Obj)) (s : Shared) (σ : St) (H : Hp) (x : V) (xs : List V) (v : Value) (us : List Value) (Q : VK), Inv X pins σ H s → RelV x v → Vals xs us → r x xs H Q →
    wpAny (model X.prog X.w) X.A (call (.builtin id) (v :: us)) (EP X pins σ Q) X.xe s
section
variable {X : Cx} {a b : Expr} {ta tb : TE} {pos : Pos}
theorem IxR.or {r r' : R2} (h : IxR X r) (h' : IxR X r') : IxR X (fun x y H Q => r x y H Q ∨ r' x y H Q) := by
  intro value slice pins s σ H x y v u Q I rx ry q hs
  rcases q with q | q
  · exact h value slice pins s σ H x y v u Q I rx ry q hs
  · exact h' value slice pins s σ H x y v u Q I rx ry q hs
theorem MtR.or {id : String} {r r' : V → List V → Hp → VK → Prop} (h : MtR X id r) (h' : MtR X id r') : MtR X id (fun x xs H Q => r x xs H Q ∨ r' x xs H Q) := by
  intro pins s σ H x xs v us Q I rx rs q
  rcases q with q | q
  · exact h pins s σ H x xs v us Q I rx rs q
  · exact h' pins s σ H x xs v us Q I rx rs q
/-- a[b] -/
theorem pe_ix {r : R2} (hr : IxR X r) (ha : PE X a ta) (hb : PE X b tb) (hs : PlainIx b) : PE X (.Subscript a b pos) (tOp r ta tb) := by
  intro pins s σ H Q I h
  exact Subscript_ (binT ha hb I h fun v u s2 x y H2 I2 rx ry q => hr a b pins s2 σ H2 x y v u Q I2 rx ry q (hs _ _))

def rIxL (K : PySem.W.Frag) : R2 := fun x y H Q => ∃ p xs i v, x = .ref p ∧ y = .int i ∧ SqL K H p xs ∧ atI xs i = some v ∧ Q v H
def rIxT (K : PySem.W.Frag) : R2 := fun x y H Q => ∃ p xs i v, x = .ref p ∧ y = .int i ∧ SqT K H p xs ∧ atI xs i = some v ∧ Q v H
def rIxS : R2 := fun x y H Q => ∃ z i c, x = .str z ∧ y = .int i ∧ z.length ≤ sizeLine ∧ atI z.cps.toList i = some c ∧ Q (.str ⟨#[c]⟩) H
theorem ix_list : IxR X (rIxL X.K) := by
  intro value slice pins s σ H x y v u Q I rx ry h hs
  obtain ⟨p, xs, i, z, rfl, rfl, hq, he, q⟩ := h
  cases rx
  obtain ⟨t, rfl⟩ := ry
  obtain ⟨its, r, pl, hz⟩ := I.list hq
  obtain ⟨j, h1, h2, h3, h4, h5⟩ := atI_get he
  obtain ⟨w, ew, rw'⟩ := r.get h2
  have hl := r.length
  have hn := line63
  have fin : EP X pins σ Q w s := ⟨z, H, I, rw', q⟩
  by_cases h0 : 0 ≤ i
  · have hj : i.toNat = j := by
      rw [seqIndex_of h0 h5] at h1
      exact Option.some.inj h1
    exact item_listR pl.isList h0 (by omega) (by rw [hj]; simpa using ew) fin hs
  · have hj : (i + (its.toArray.size : Int)).toNat = j := by
      rw [seqIndex_neg (by omega) h4] at h1
      rw [List.size_toArray, ← hl]
      exact Option.some.inj h1
    exact subscriptTail_builtinR (x := w) pl.isList.typeIs slot_list_getitem.lookup
      (wpAny_getItem_list_neg (Q := fun r s' => r = w ∧ EP X pins σ Q r s') pl.isList (by omega) (by rw [List.size_toArray] <;> omega) (by omega) (by rw [hj]; simpa using ew) ⟨rfl, fin⟩) hs
/-- list, tuple or str -/
def rIx (K : PySem.W.Frag) : R2 := fun x y H Q => rIxL K x y H Q ∨ rIxT K x y H Q ∨ rIxS x y H Q
/-! ### xs[i] = v, any sign -/
/-- the list's object behind a store -/
theorem mapSeq_set (its : List Value) (n j : Nat) (u : Value) : Obj.mapSeq (·.setIfInBounds j u) { cls := .type "list", data := .seq its.toArray n } = { cls := .type "list", data := .seq (its.set j u).toArray n } := by
  simp [Obj.mapSeq]
theorem Inv.lst {pins : List (Addr × Obj)} {σ : St} {H : Hp} {s : Shared} {p : Addr} {xs : List V} (I : Inv X pins σ H s) (h : H p = some (.lst xs)) :
    ∃ (its : List Value) (n : Nat), Vals xs its ∧ s.heap.get? p = some { cls := .type "list", data := .seq its.toArray n } ∧ xs.length ≤ sizeLine := by
  obtain ⟨z, its, n, r, e⟩ := I.hok p _ h
  exact ⟨its, n, r, e, z⟩
/-- the list at p is written by an update of its object -/
theorem Inv.lstUpd {pins : List (Addr × Obj)} {σ : St} {H : Hp} {s : Shared} {p : Addr} {xs ys : List V} {its its' : List Value} {n n' : Nat} {f : Obj → Obj} (I : Inv X pins σ H s) (h : H p = some (.lst xs))
    (ho : s.heap.get? p = some { cls := .type "list", data := .seq its.toArray n }) (hf : f { cls := .type "list", data := .seq its.toArray n } = { cls := .type "list", data := .seq its'.toArray n' }) (r : Vals ys its') (hz : ys.length ≤ sizeLine) (t : Nat) :
    Inv X pins σ (upd H p (.lst ys)) { s with heap := s.heap.update p f, toks := t } := by
  have e : (s.heap.update p f).get? p = some { cls := .type "list", data := .seq its'.toArray n' } := by
    rw [Heap.get?_update_self f ho (by rw [hf] <;> rfl), hf]
  refine I.write (x := p) (e := p) (by rw [h]; trivial) (.inl rfl) (fun b u hb q => (Heap.get?_update_other _ _ (Ne.symm hb)).trans q) ⟨_, e⟩ ?_
  exact ⟨hz, its', n', r, e⟩
def rSetL : V → V → V → Hp → (Hp → Prop) → Prop := fun o i v H Q => ∃ p xs k j, o = .ref p ∧ i = .int k ∧ H p = some (.lst xs) ∧ ixN xs.length k = some j ∧ Q (upd H p (.lst (xs.set j v)))
theorem set_list : PSet X rSetL := by
  intro pins s σ H o i v ov iv u Q I ro ri rv h
  obtain ⟨p, xs, k, j, rfl, rfl, hp, hj, q⟩ := h
  cases ro
  obtain ⟨t, rfl⟩ := ri
  obtain ⟨its, n, r, ho, hz⟩ := I.lst hp
  obtain ⟨h1, h2, h3, h4⟩ := ixN_seq hj
  have hl := r.length
  have hn := line63
  have I' : Inv X pins σ (upd H p (.lst (xs.set j v))) { s with heap := s.heap.update p (Obj.mapSeq (·.setIfInBounds j u)) } :=
    I.lstUpd hp ho (mapSeq_set its n j u) (r.set rv j) (by rw [List.length_set]; exact hz) s.toks
  by_cases h0 : 0 ≤ k
  · have hk : k.toNat = j := by
      rw [seqIndex_of h0 h4] at h1
      exact Option.some.inj h1
    exact PySem.W.ki_setAt ho h0 (by omega) (by rw [List.size_toArray, ← hl]; exact h4) (by rw [hk]; exact ⟨_, I', q⟩)
  · have hk : (k + (its.toArray.size : Int)).toNat = j := by
      rw [seqIndex_neg (by omega) h3] at h1
      rw [List.size_toArray, ← hl]
      exact Option.some.inj h1
    exact PySem.W.ki_setBack ho (by omega) (by rw [List.size_toArray, ← hl]; exact h3) (by omega) (by rw [hk]; exact ⟨_, I', q⟩)

/-! ### slices -/
theorem slice_bounds (lo hi : Option Int) (n : Nat) : (sliceBounds lo hi none n).1 = ((HT.sIx n 0 lo : Nat) : Int) ∧ (sliceBounds lo hi none n).2.1 = ((HT.sIx n n hi : Nat) : Int) ∧ (sliceBounds lo hi none n).2.2 = 1 := by
  refine ⟨?_, ?_, rfl⟩
  · cases lo with
    | none => simp [sliceBounds, HT.sIx]
    | some i =>
      simp only [sliceBounds, HT.sIx, Option.getD_none, show (1 : Int) > 0 by decide, if_true]
      by_cases h : i < 0
      · simp only [h, if_true] <;> omega
      · simp only [h, if_false] <;> omega
  · cases hi with
    | none => simp [sliceBounds, HT.sIx]
    | some i =>
      simp only [sliceBounds, HT.sIx, Option.getD_none, show (1 : Int) > 0 by decide, if_true]
      by_cases h : i < 0
      · simp only [h, if_true] <;> omega
      · simp only [h, if_false] <;> omega
theorem slicePick_cut (its : List Value) (lo hi : Option Int) : slicePick its.toArray lo hi none = ((its.drop (HT.sIx its.length 0 lo)).take (HT.sIx its.length its.length hi - HT.sIx its.length 0 lo)).toArray := by
  obtain ⟨h1, h2, h3⟩ := slice_bounds lo hi its.toArray.size
  unfold slicePick
  rw [h1, h2, h3]
  simp only [sliceRange_one, pick_run, List.size_toArray] <;> rfl
/-- xs[lo:hi] of a list: a new list -/
def rSlL (K : PySem.W.Frag) : V → Option Int → Option Int → Hp → VK → Prop := fun x lo hi H Q => ∃ a xs, x = .ref a ∧ SqL K H a xs ∧ ∀ p, H p = none → Q (.ref p) (upd H p (.lst (cutV xs lo hi)))
theorem sl_list : SlR X (rSlL X.K) := by
  intro pins s σ H x v vl vu lo hi sl Q I rx hs pl pu h
  obtain ⟨a, xs, rfl, hx, q⟩ := h
  cases rx
  obtain ⟨its, r, ht, hz⟩ := I.list hx
  have hlen := r.length
  refine ⟨"list", _, slot_list_getitem.lookup, ht.isList.typeIs, ?_⟩
  refine wpAny_getItem_list_slice ht.isList hs pl pu .none (by simp) ?_ (by rw [List.size_toArray] <;> omega)
  rw [slicePick_cut, ← hlen]
  refine ⟨.ref s.heap.objs.size, _, I.laid (t' := s.toks) (o := .lst (cutV xs lo hi)) (fun b ob q => Heap.get?_push_of_some _ q) (Nat.le_refl _) ?_, rfl, q _ (I.hok.fresh (Nat.le_refl _))⟩
  exact ⟨Nat.le_trans (cutV_length xs lo hi) hz, _, 0, (r.drop (HT.sIx xs.length 0 lo)).take (HT.sIx xs.length xs.length hi - HT.sIx xs.length 0 lo), Heap.get?_push_size _ rfl⟩

/-! ### in, not in: flat items -/
def flatV : V → Bool
  | .non => true
  | .bl _ => true
  | .int _ => true
  | .str _ => true
  | _ => false
/-- == of flat values -/
def eqV : V → V → Bool
  | .non, .non => true
  | .bl a, .bl b => a == b
  | .bl a, .int b => (if a then 1 else 0) == b
  | .int a, .bl b => a == (if b then 1 else 0)
  | .int a, .int b => a == b
  | .str a, .str b => a == b
  | _, _ => false
theorem eqAt_V {A : Around} {s : Shared} {y x : V} {u v : Value} (ry : RelV y u) (rx : RelV x v) (fy : flatV y = true) (fx : flatV x = true) : SeqAt.EqAt A s u v (eqV y x) := by
  cases y with
  | non =>
    cases ry
    cases x with
    | non => cases rx; exact SeqAt.EqAt.same _
    | bl b => cases rx; exact SeqAt.EqAt.none_bool b
    | int b => obtain ⟨t, rfl⟩ := rx; exact SeqAt.EqAt.none_int b t
    | str b => obtain ⟨t, rfl⟩ := rx; exact SeqAt.EqAt.none_str b t
    | _ => exact absurd (show false = true from fx) Bool.false_ne_true
  | bl a =>
    cases ry
    cases x with
    | non => cases rx; exact SeqAt.EqAt.bool_none a
    | bl b => cases rx; exact SeqAt.EqAt.bool_bool a b
    | int b => obtain ⟨t, rfl⟩ := rx; exact SeqAt.EqAt.bool_int a b t
    | str b => obtain ⟨t, rfl⟩ := rx; exact SeqAt.EqAt.bool_str a b t
    | _ => exact absurd (show false = true from fx) Bool.false_ne_true
  | int a =>
    obtain ⟨t', rfl⟩ := ry
    cases x with
    | non => cases rx; exact SeqAt.EqAt.int_none a t'
    | bl b => cases rx; exact SeqAt.EqAt.int_bool a t' b
    | int b => obtain ⟨t, rfl⟩ := rx; exact SeqAt.EqAt.int_int a t' b t
    | str b => obtain ⟨t, rfl⟩ := rx; exact SeqAt.EqAt.int_str a t' b t
    | _ => exact absurd (show false = true from fx) Bool.false_ne_true
  | str a =>
    obtain ⟨t', rfl⟩ := ry
    cases x with
    | non => cases rx; exact SeqAt.EqAt.str_none a t'
    | bl b => cases rx; exact SeqAt.EqAt.str_bool a t' b
    | int b => obtain ⟨t, rfl⟩ := rx; exact SeqAt.EqAt.str_int a t' b t
    | str b => obtain ⟨t, rfl⟩ := rx; exact SeqAt.EqAt.str_str a t' b t
    | _ => exact absurd (show false = true from fx) Bool.false_ne_true
  | _ => exact absurd (show false = true from fy) Bool.false_ne_true
/-- the items' answers, read off the values (a value's own answer does not lean on its token) -/
def eqU (x : V) (u : Value) : Bool := match u with
  | .none => eqV .non x
  | .bool b => eqV (.bl b) x
  | .int i _ => eqV (.int i) x
  | .str z _ => eqV (.str z) x
  | _ => false
def inV (x : V) (xs : List V) : Bool := xs.any fun y => eqV y x
/-- x in a list or tuple of flat items -/
def rIn (K : PySem.W.Frag) (neg : Bool) : R2 := fun x y H Q => ∃ p xs, y = .ref p ∧ (SqL K H p xs ∨ SqT K H p xs) ∧ flatV x = true ∧ xs.all flatV = true ∧ Q (.bl (if neg then !inV x xs else inV x xs)) H
/-! ### len, list(x), tuple(x) of any list or tuple that is read -/
theorem call_len_seq : CallR X (.builtin "len") (fun xs H Q => ∃ p ys, xs = [.ref p] ∧ (SqL X.K H p ys ∨ SqT X.K H p ys) ∧ Q (.int ys.length) H) := by
  intro pins s σ H xs us Q I r h
  obtain ⟨p, ys, rfl, hq, q⟩ := h
  obtain ⟨u, rfl, rx⟩ := vals1 r
  cases rx
  have hn := line63
  rcases hq with hq | hq
  · obtain ⟨its, r', pl, hz⟩ := I.list hq
    have hlen := r'.length
    exact Calls.call_len_list pl.isList (by simp only [List.size_toArray] <;> omega) ⟨.int ys.length, H, I.tok _, ⟨s.toks + 1, by rw [List.size_toArray, hlen]⟩, q⟩
  · obtain ⟨its, r', pl, hz⟩ := I.tuple hq
    have hlen := r'.length
    exact len_tuple pl (by simp only [List.size_toArray] <;> omega) ⟨.int ys.length, H, I.tok _, ⟨s.toks + 1, by rw [List.size_toArray, hlen]⟩, q⟩
theorem CallR.or {f : Value} {r r' : List V → Hp → VK → Prop} (h : CallR X f r) (h' : CallR X f r') : CallR X f (fun xs H Q => r xs H Q ∨ r' xs H Q) := by
  intro pins s σ H xs us Q I rs q
  rcases q with q | q
  · exact h pins s σ H xs us Q I rs q
  · exact h' pins s σ H xs us Q I rs q
theorem call_list_of : CallR X (.type "list") (fun xs H Q => ∃ p ys, xs = [.ref p] ∧ (SqL X.K H p ys ∨ SqT X.K H p ys) ∧ ∀ l, H l = none → Q (.ref l) (upd H l (.lst ys))) := by
  intro pins s σ H xs us Q I r h
  obtain ⟨p, ys, rfl, hq, q⟩ := h
  obtain ⟨u, rfl, rx⟩ := vals1 r
  cases rx
  have fin : ∀ (its : List Value), Vals ys its → ys.length ≤ sizeLine → ∀ (h' : Heap) (c' : Nat), (∀ b o', s.heap.get? b = some o' → h'.get? b = some o') →
      h'.get? s.heap.objs.size = some { cls := .type "list", dict := none, data := .seq its.toArray c', slots := #[] } → EP X pins σ Q (.ref s.heap.objs.size) { s with heap := h' } := fun its r' hz h' c' kp e =>
    ⟨.ref s.heap.objs.size, _, I.laid (t' := s.toks) kp (Nat.le_refl _) (show ObjOk X.prog X.w _ h' _ (.lst ys) from ⟨hz, its, c', r', e⟩), rfl, q _ (I.hok.fresh (Nat.le_refl _))⟩
  rcases hq with hq | hq
  · obtain ⟨its, r', pl, hz⟩ := I.list hq
    have hlen := r'.length
    obtain ⟨o, ho, hc, n, hd⟩ := pl.isList
    exact call_list_seq p (.inl rfl) ho hc hd (fun h' c' kp e => fin its r' hz h' c' kp e) (by simp only [List.size_toArray] <;> omega)
  · obtain ⟨its, r', pl, hz⟩ := I.tuple hq
    have hlen := r'.length
    obtain ⟨o, ho, hc, n, hd⟩ := pl
    exact call_list_seq p (.inr rfl) ho hc hd (fun h' c' kp e => fin its r' hz h' c' kp e) (by simp only [List.size_toArray] <;> omega)
theorem call_tuple_of : CallR X (.type "tuple") (fun xs H Q => ∃ p ys, xs = [.ref p] ∧ ((SqL X.K H p ys ∧ ∀ l, H l = none → Q (.ref l) (upd H l (.tup ys))) ∨ (SqT X.K H p ys ∧ Q (.ref p) H))) := by
  intro pins s σ H xs us Q I r h
  obtain ⟨p, ys, rfl, h⟩ := h
  obtain ⟨u, rfl, rx⟩ := vals1 r
  cases rx
  rcases h with ⟨hq, q⟩ | ⟨hq, q⟩
  · obtain ⟨its, r', pl, hz⟩ := I.list hq
    have hlen := r'.length
    refine call_tuple_list pl.isList (fun h' kp => ?_) (by simp only [List.size_toArray] <;> omega)
    have I1 : Inv X pins σ H { s with heap := h' } := I.kept (t' := s.toks) kp
    have I2 : Inv X pins σ (upd H h'.objs.size (.tup ys)) { s with heap := h'.push { cls := .type "tuple", data := .seq its.toArray } } :=
      I1.laid (t' := s.toks) (fun b o e => Heap.get?_push_of_some _ e) (Nat.le_refl _) (show ObjOk X.prog X.w _ _ _ (.tup ys) from ⟨hz, its, r', IsTup.new _ _⟩)
    exact ⟨.ref h'.objs.size, _, I2, rfl, q _ (I1.hok.fresh (Nat.le_refl _))⟩
  · obtain ⟨its, r', pl, hz⟩ := I.tuple hq
    exact call_tuple_same pl ⟨.ref p, H, I, rfl, q⟩

/-! ### the call of a builtin's method: o.m(..) -/
/-- the value is of that builtin type -/
def tyV (K : PySem.W.Frag) (T : String) (x : V) (H : Hp) : Prop := match x with
  | .str _ => T = "str"
  | .int _ => T = "int"
  | .ref p => (T = "list" ∧ ∃ xs, SqL K H p xs) ∨ (T = "tuple" ∧ ∃ o, K.lookup p = some o ∧ o.cls = .type "tuple" ∧ o.dict = none) ∨
      (T = "dict" ∧ ((∃ kvs, H p = some (.dK kvs)) ∨ ∃ kvs, H p = some (.dT kvs))) ∨ (T = "set" ∧ ∃ S n, H p = some (.set S n))
  | _ => False
theorem tyV_is {pins : List (Addr × Obj)} {σ : St} {H : Hp} {s : Shared} {T : String} {x : V} {v : Value} (I : Inv X pins σ H s) (r : RelV x v) (ty : tyV X.K T x H) :
    s.TypeIs v T ∧ ∀ a, v = .ref a → ∃ ob, s.heap.get? a = some ob ∧ ob.dict = none := by
  cases x with
  | str z =>
    obtain ⟨t, rfl⟩ := r
    cases (show T = "str" from ty)
    exact ⟨typeIs_str s z t, fun _ e => nomatch e⟩
  | int i =>
    obtain ⟨t, rfl⟩ := r
    cases (show T = "int" from ty)
    exact ⟨typeIs_int s i t, fun _ e => nomatch e⟩
  | ref p =>
    cases r
    rcases ty with ⟨rfl, xs, hq⟩ | ⟨rfl, o, hk, hc, hd⟩ | ⟨rfl, hk⟩ | ⟨rfl, S, n, hk⟩
    · obtain ⟨its, _, pl, _⟩ := I.list hq
      refine ⟨pl.isList.typeIs, fun a e => ?_⟩
      cases e
      obtain ⟨o, n, e, c, hd, _⟩ := pl
      exact ⟨o, e, hd⟩
    · refine ⟨⟨o, I.kIn p o hk, hc⟩, fun a e => ?_⟩
      cases e
      exact ⟨o, I.kIn _ o hk, hd⟩
    · have z : ∃ o, s.heap.get? p = some o ∧ o.ExactDict := by
        rcases hk with ⟨kvs, hk⟩ | ⟨kvs, hk⟩
        · obtain ⟨_, _, _, _, o, _, _, e, ex, _⟩ := I.hok p _ hk
          exact ⟨o, e, ex⟩
        · obtain ⟨_, _, _, _, o, _, _, e, ex, _⟩ := I.hok p _ hk
          exact ⟨o, e, ex⟩
      obtain ⟨o, e, ex⟩ := z
      refine ⟨⟨o, e, ex.1⟩, fun a e2 => ?_⟩
      cases e2
      exact ⟨o, e, ex.2.1⟩
    · obtain ⟨o, _, _, _, e, ex, _⟩ := I.hok p _ hk
      refine ⟨⟨o, e, ex.1⟩, fun a e2 => ?_⟩
      cases e2
      exact ⟨o, e, ex.2.1⟩
  | _ => exact False.elim ty
def tBM0 (K : PySem.W.Frag) (T : String) (r : V → List V → Hp → VK → Prop) (to : TE) : TE := fun σ H Q => to σ H fun x H1 => tyV K T x H1 ∧ r x [] H1 Q
def tBM (K : PySem.W.Frag) (T : String) (r : V → List V → Hp → VK → Prop) (to : TE) (t : TA) : TE := fun σ H Q => to σ H fun x H1 => tyV K T x H1 ∧ t σ H1 fun xs H2 => r x xs H2 Q
variable {o e : Expr} {es : List Expr} {to : TE} {t : TA} {name : Str} {apos cpos : Pos} {T id : String} {r : V → List V → Hp → VK → Prop}
theorem pe_bm (pa : PlainAttrs T) (slot : Slot T name id) (hty : typeOf (.builtin id) = pure (.type "method_descriptor")) (hm : MtR X id r) (ho : PE X o to) (ha : PA X (e :: es) t)
    (hbase : attributeBase o name X.env (eval o X.env) = eval o X.env := by rfl)
    (hfew : ((backTo cpos (starEach (e :: es) X.env)).all (fun x => !x.1) && (backToKw cpos (keywordEach [] X.env)).all (fun x => x.1.isSome)
      && decide ((e :: es).length + ([] : List Keyword).length + (if ([] : List Keyword).isEmpty then 0 else 1) < 30)) = true := by rfl)
    (hline : (apos.endLine == cpos.line) = true := by rfl) (hs : starEach (e :: es) X.env = (false, eval e X.env) :: starEach es X.env := by rfl) (hplain : (backTo cpos (starEach es X.env)).any (·.1) = false := by rfl) :
    PE X (.Call (.Attribute o name apos) (e :: es) [] cpos) (tBM X.K T r to t) := by
  intro pins s σ H Q I h
  refine wpAny_Call_method_late hbase hfew hline rfl (thn (ho pins s σ H _ I h) fun v s1 ⟨x, H1, I1, r1, ty, q1⟩ => ?_)
  obtain ⟨h1, h2⟩ := tyV_is I1 r1 ty
  refine ⟨T, id, pa, slot, hty, h1, h2, ?_⟩
  have hA := ha cpos pins s1 σ H1 _ I1 q1
  rw [hs] at hA ⊢
  refine Calls.callWith_builtin (by show (false || (backTo cpos (starEach es X.env)).any (·.1)) = false; rw [hplain] <;> rfl) (Calls.evalArgs_plain ?_)
  exact thn hA fun us s2 ⟨vs, H2, I2, r2, q2⟩ => hm pins s2 σ H2 x vs v us Q I2 r1 r2 q2
/- xs.append(e), list.index on a module's tuple .. are MtR facts of 06m -/
end
end L2

namespace L2
open PySem PySem.Spec PyProof.Rows

def MtM (X : Cx) (id : String) (r : V → List V → Hp → VK → Prop) : Prop :=
  ∀ (pins : List (Addr × Obj)) (s : Shared) (σ : St) (H : Hp) (x : V) (xs : List V) (v : Value) (us : List Value) (Q : VK), Inv X pins σ H s → RelV x v → Vals xs us → r x xs H Q →
    wpAny (model X.prog X.w) X.A (call (.builtin id) (v :: us)) (EP X pins σ Q) X.xe s

/-! ### lists of values -/
theorem Vals.one : ∀ {x : V} {us : List Value}, Vals [x] us → ∃ u, us = [u] ∧ RelV x u
  | _, _, .cons r .nil => ⟨_, rfl, r⟩
theorem Vals.two : ∀ {x y : V} {us : List Value}, Vals [x, y] us → ∃ u v, us = [u, v] ∧ RelV x u ∧ RelV y v
  | _, _, _, .cons r (.cons q .nil) => ⟨_, _, rfl, r, q⟩
theorem Vals.zero : ∀ {us : List Value}, Vals [] us → us = []
  | _, .nil => rfl
theorem Vals.dropLast {xs : List V} {us : List Value} (h : Vals xs us) : Vals xs.dropLast us.dropLast := by
  induction h with
  | nil => exact .nil
  | cons r t ih =>
    cases t with
    | nil => exact .nil
    | cons q t' => exact .cons r ih
theorem Vals.eraseIdx : ∀ {xs : List V} {us : List Value} (i : Nat), Vals xs us → Vals (xs.eraseIdx i) (us.eraseIdx i)
  | _, _, _, .nil => .nil
  | _, _, 0, .cons _ t => t
  | _, _, i + 1, .cons r t => .cons r (Vals.eraseIdx i t)
theorem Vals.reverse {xs : List V} {us : List Value} (h : Vals xs us) : Vals xs.reverse us.reverse := by
  induction h with
  | nil => exact .nil
  | cons r t ih => rw [List.reverse_cons, List.reverse_cons]; exact Vals.append ih (.cons r .nil)
section
variable {X : Cx} {pins : List (Addr × Obj)} {σ : St} {H : Hp} {s : Shared} {l b : Addr} {xs ys zs : List V}

/-! ### the two steps: a tracked list is rewritten, a new list is laid -/
theorem Inv.lset {its its' : List Value} {n : Nat} {f : Array Value → Array Value} {t' : Nat} (I : Inv X pins σ H s) (hH : H l = some (.lst xs))
    (e : s.heap.get? l = some { cls := .type "list", data := .seq its.toArray n }) (hf : f its.toArray = its'.toArray) (hv : Vals ys its') (hz : ys.length ≤ sizeLine) :
    Inv X pins σ (upd H l (.lst ys)) { s with heap := s.heap.update l (Obj.mapSeq f), toks := t' } := by
  have q := PySem.IsL.update e f
  rw [hf] at q
  refine I.write (x := l) (e := l) (by rw [hH]; exact trivial) (.inl rfl) (fun b' u hb hu => (Heap.get?_update_other s.heap (Obj.mapSeq f) (Ne.symm hb)).trans hu) ⟨_, q⟩ ?_
  exact ⟨hz, its', _, hv, q⟩
theorem Inv.lnew {its : List Value} {t' : Nat} (I : Inv X pins σ H s) (hv : Vals ys its) (hz : ys.length ≤ sizeLine) :
    Inv X pins σ (upd H s.heap.objs.size (.lst ys)) { s with heap := s.heap.push { cls := .type "list", data := .seq its.toArray }, toks := t' } :=
  I.laid (fun _ _ q => Heap.get?_push_of_some _ q) (Nat.le_refl _) ⟨hz, its, 0, hv, Heap.get?_push_size _ rfl⟩
theorem Inv.fresh (I : Inv X pins σ H s) : H s.heap.objs.size = none := I.hok.fresh (Nat.le_refl _)
theorem Inv.lstM (I : Inv X pins σ H s) (hH : H l = some (.lst xs)) : xs.length ≤ sizeLine ∧ ∃ (its : List Value) (n : Nat), Vals xs its ∧ xs.length = its.length ∧ s.heap.get? l = some { cls := .type "list", data := .seq its.toArray n } := by
  obtain ⟨z, its, n, r, e⟩ := I.hok l _ hH
  exact ⟨z, its, n, r, r.length, e⟩

theorem notLongL {n : Nat} (h : n ≤ sizeLine) : Builtin.List.listTooLong n = false := by
  unfold Builtin.List.listTooLong
  exact decide_eq_false (by omega)
end

section
variable {X : Cx}

/-! ### methods -/
def rAppend : V → List V → Hp → VK → Prop := fun x vs H Q => ∃ l xs y, x = .ref l ∧ vs = [y] ∧ H l = some (.lst xs) ∧ xs.length < sizeLine ∧ Q .non (upd H l (.lst (xs ++ [y])))
theorem mt_append : MtM X "list.append" rAppend := by
  intro pins s σ H x vs v us Q I rx rv h
  obtain ⟨l, xs, y, rfl, rfl, hH, hz, q⟩ := h
  cases rx
  obtain ⟨u, rfl, ru⟩ := rv.one
  obtain ⟨z, its, n, r, hl, e⟩ := I.lstM hH
  refine call_meets F.slot_list_append ⟨_, e, rfl⟩ F.entry_list_append (F.args_list_append_2 _ _) (PySem.list_append l its.toArray n u (by rw [List.size_toArray]; omega)) ⟨e, ?_⟩
  refine ⟨.non, _, I.lset (its' := its ++ [u]) hH e (by simp) (r.append (.cons ru .nil)) ?_, rfl, q⟩
  rw [List.length_append, List.length_singleton]
  omega

def rExtend : V → List V → Hp → VK → Prop := fun x vs H Q => ∃ l b xs zs, x = .ref l ∧ vs = [.ref b] ∧ H l = some (.lst xs) ∧ H b = some (.lst zs) ∧ xs.length + zs.length ≤ sizeLine ∧ Q .non (upd H l (.lst (xs ++ zs)))
theorem mt_extend : MtM X "list.extend" rExtend := by
  intro pins s σ H x vs v us Q I rx rv h
  obtain ⟨l, b, xs, zs, rfl, rfl, hH, hB, hz, q⟩ := h
  cases rx
  obtain ⟨u, rfl, ru⟩ := rv.one
  cases ru
  obtain ⟨z, its, n, r, hl, e⟩ := I.lstM hH
  obtain ⟨z2, its2, n2, r2, hl2, e2⟩ := I.lstM hB
  have hsz : its.toArray.size + its2.toArray.size ≤ sizeLine := by rw [List.size_toArray, List.size_toArray]; omega
  have hlong : ¬ (!its.toArray.isEmpty && Builtin.List.listTooLong (its.toArray.size + its2.toArray.size)) = true := by
    rw [notLongL hsz, Bool.and_false]
    exact Bool.false_ne_true
  refine call_meets F.slot_list_extend ⟨_, e, rfl⟩ F.entry_list_extend (F.args_list_extend_2 _ _)
    (AutoSeq1.list_extend_list_list_0 l its.toArray n b its2.toArray n2 hlong (by rw [List.size_toArray]; omega) (by omega)) ⟨e, e2, ?_⟩
  refine ⟨.non, _, I.lset (its' := its ++ its2) hH e (by simp) (r.append r2) ?_, rfl, q⟩
  rw [List.length_append]
  omega

def rPop : V → List V → Hp → VK → Prop := fun x vs H Q => ∃ l xs y, x = .ref l ∧ vs = [] ∧ H l = some (.lst xs) ∧ xs[xs.length - 1]? = some y ∧ Q y (upd H l (.lst xs.dropLast))
def rPopAt : V → List V → Hp → VK → Prop := fun x vs H Q => ∃ l xs i k y, x = .ref l ∧ vs = [.int i] ∧ H l = some (.lst xs) ∧ -(2 ^ 63) ≤ i ∧ i < 2 ^ 63 ∧ seqIndex? i xs.length = some k ∧ xs[k]? = some y ∧ Q y (upd H l (.lst (xs.eraseIdx k)))
def rReverse : V → List V → Hp → VK → Prop := fun x vs H Q => ∃ l xs, x = .ref l ∧ vs = [] ∧ H l = some (.lst xs) ∧ Q .non (upd H l (.lst xs.reverse))
def rClear : V → List V → Hp → VK → Prop := fun x vs H Q => ∃ l xs, x = .ref l ∧ vs = [] ∧ H l = some (.lst xs) ∧ Q .non (upd H l (.lst []))
/-! ### list + list, list += list, list * int -/
def rCat : R2 := fun x y H Q => ∃ l b xs zs, x = .ref l ∧ y = .ref b ∧ H l = some (.lst xs) ∧ H b = some (.lst zs) ∧ xs.length + zs.length ≤ sizeLine ∧ ∀ p, H p = none → Q (.ref p) (upd H p (.lst (xs ++ zs)))
theorem op_cat : OpR X (binaryOp .Add) rCat := by
  intro pins s σ H x y v u Q I rx ry h
  obtain ⟨l, b, xs, zs, rfl, rfl, hH, hB, hz, q⟩ := h
  cases rx
  cases ry
  obtain ⟨z, its, n, r, hl, e⟩ := I.lstM hH
  obtain ⟨z2, its2, n2, r2, hl2, e2⟩ := I.lstM hB
  refine PySem.P.add_list e e2 ?_ (by rw [List.size_toArray, List.size_toArray]; omega)
  have ea : its.toArray ++ its2.toArray = (its ++ its2).toArray := by simp
  rw [ea]
  exact ⟨.ref _, _, I.lnew (t' := s.toks) (r.append r2) (by rw [List.length_append]; omega), rfl, q _ I.fresh⟩
/-- a list times an int (a negative one is nothing) -/
def rRep : R2 := fun x y H Q => ∃ l k xs, x = .ref l ∧ y = .int k ∧ H l = some (.lst xs) ∧ -(2 ^ 63) ≤ k ∧ k < 2 ^ 63 ∧ xs.length * k.toNat ≤ sizeLine ∧
  ∀ p, H p = none → Q (.ref p) (upd H p (.lst (List.replicate k.toNat xs).flatten))
/-! ### del xs[i] -/
end

/-! ### xs[a:b] = ys -/
section
variable {prog : Program} {w : World} {A : Around} {E : Value → Shared → Prop} {s : Shared}
end

section
variable {X : Cx}
end
end L2

namespace Att
open PySem PySem.W PySem.Calls PyProof.Rows

/-! ### the script -/
theorem ints_of_wellAll {P : Params} {h : Heap} : ∀ (ns : List Int) (vs : List Value), WellAll P h vs (ns.map WData.int) → IntsAre vs ns := by
  intro ns
  induction ns with
  | nil =>
    intro vs w
    rw [List.map_nil] at w
    cases w
    exact .nil
  | cons n ns ih =>
    intro vs w
    rw [List.map_cons] at w
    cases w with
    | cons a b =>
      cases a
      exact .cons _ _ (ih _ b)

theorem script_of {l : OpenLaw} {n : Nat} (hn : l.most = some n) {P : Params} {h : Heap} {args : List WData} {vals : List Value}
    (hpre : l.row.toRowW.claim.pre args = true) (hwl : WellAll P h vals args) :
    ∃ a vs ns, vals = [Value.ref a] ∧ args = [WData.list (ns.map WData.int)] ∧ h.get? a = some { cls := .type "list", data := .seq vs.toArray } ∧ IntsAre vs ns ∧ ns.length ≤ n := by
  have hsh : WShape.hasAll [] args [.list .int] = true := (pre_splitW hpre).1
  have hc : l.pre.holds [] { args := args } = true := (pre_splitW hpre).2
  obtain ⟨d, r, rfl, h1, h2⟩ := hasAllW_cons hsh
  obtain rfl := hasAllW_nil h2
  obtain ⟨xs, rfl, h3⟩ := hasW_list h1
  obtain ⟨ns, rfl⟩ := items_int h3
  have hlen : ns.length ≤ n := by
    unfold OpenLaw.pre at hc
    have h4 : (WTm.not (.lt (.lit (.int (n : Int))) (.len (.arg 0)))).holds [] { args := [.list (ns.map .int)] } = true := by
      have h4 := (holds_andW hc).1
      rw [hn] at h4
      exact h4
    have h5 := condW_of h4 (w_not (w_lt w_lit (w_len_list (w_arg rfl))))
    rw [List.length_map] at h5
    refine Nat.le_of_not_lt fun q => ?_
    have q' : (n : Int) < ((ns.length : Nat) : Int) := by omega
    first
      | (rw [decide_eq_true q'] at h5; exact absurd h5 (by decide))
      | (simp at h5; omega)
  cases hwl with
  | cons w1 w2 =>
    cases w2
    cases w1 with
    | list ho hall => exact ⟨_, _, ns, rfl, rfl, ho, ints_of_wellAll ns _ hall, hlen⟩

theorem post_true (l : OpenLaw) (args : List WData) : l.row.toRowW.claim.post args (.bool true) args = true :=
  postW_of (r := l.row.toRowW) (X := (true == true))
    (show WShape.has [] (.bool true) .bool = true by first | rfl | decide | simp [WShape.has, WShape.arms, WShape.armsAll])
    (show (WTm.eq .res (.lit (.bool true))).value [] { args := args, res := some (.bool true), after := args } = some (.bool (true == true)) from w_eq_bool (w_res rfl) w_lit) rfl

/-! ### the attachment: holds_open's last premise (the goal 'hc' behind k_head) from a wpAny of the law's body -/
/-- the same from a codeAny of the CALL (for a layer whose function contracts speak of calls) -/
theorem attach_call {l : OpenLaw} {n : Nat} {q : Program} {loose : List Str} {XP : (Str → Option Value) → Heap → Prop} {YP : World → Heap → Prop} {d : DefRec}
    (hn : l.most = some n) (hdf : d.params.defaults = [])
    (call : ∀ (w : World) (s₀ s₁ : Shared) (mg mb : Str → Option Value) (fa : Addr) (o : Obj) (pm cd doc : Value) (a : Addr) (vs : List Value) (ns : List Int),
      Ground q loose [] XP w s₀ mg mb s₁.heap → YP w s₁.heap →
      s₁.heap.get? fa = some o → o.data = .func (docDef d.name d.params d.body d.scope pm cd doc) → s₁.heap.CodeRec cd d.name → mg d.name = some (.ref fa) →
      s₁.heap.get? a = some { cls := .type "list", data := .seq vs.toArray } → IntsAre vs ns → ns.length ≤ n → s₁.gens = #[] →
      codeAny (model l.prog w) callerA (.call (.ref fa) ⟨[.ref a], []⟩) (fun r s' => r = .ok (.ret (.bool true)) ∧ OldK s₁.heap s'.heap ∧ s'.os = s₁.os ∧ AllBare s'.gens) s₁) :
    WalkO q loose XP YP l.row.toRowW d [] (fun f vs => PySem.call f vs) := by
  intro w s₀ s₁ mg mb G Y fa o pm cd doc dV kV ho hd hcd hD hmg hg args vals as hpre hlay hrd hwl hlo
  obtain rfl : dV = .none := Dflts.none hD hdf
  obtain rfl : kV = .none := Dflts.noKw hD
  obtain ⟨a, vs, ns, rfl, rfl, hobj, hints, hlen⟩ := script_of hn hpre hwl
  refine enter_call (codeAny_mono (call w s₀ s₁ mg mb fa o pm cd doc a vs ns G Y ho (fd_plain hd) hcd hmg hobj hints hlen hg) fun r s' hq => ?_)
  obtain ⟨rfl, h2, h3, h4⟩ := hq
  exact ⟨.inl ⟨.bool true, .bool true, [], rfl, fun _ => rfl, .bool true, post_true l _, fun _ => ⟨List.Pairwise.nil, fun _ hm => (nomatch hm)⟩⟩, h2, h3, h4⟩

/-! ### rules over ANY heap (no ledger) from facts about the written part K: the library's own take a ledger (News) for what they write -/
section
variable {prog : Program} {w : World} {A : Around} {E : Value → Shared → Prop} {s : Shared} {K : Frag}

/-! the whole heap as the ledger: makes every rule that writes through a ledger a rule over any heap -/
def noObjs (h : Heap) : Heap := { h with objs := #[] }
def ledger (h : Heap) (L d : Addr) : List (Addr × Obj) := (List.range h.objs.size).filterMap fun a => if a = L ∨ a = d then none else (h.get? a).map fun o => (a, o)
end
end Att

namespace L2
open PySem PySem.Spec PyProof.Rows

theorem vals_ints : ∀ {vs : List Value} {ns : List Int}, IntsAre vs ns → Vals (ns.map V.int) vs
  | _, _, .nil => .nil
  | _, _, .cons n t h => .cons ⟨t, rfl⟩ (vals_ints h)

/-- nothing is tracked but the script, known to the object (or it is an object of the module) -/
def Only (H : Hp) : Prop := ∀ b, H b = none ∨ ∃ o xs, H b = some (.frz o (.lst xs))

/-- THE HEAD: the law's promise, at the heap behind the top. F, the promise of the law's def, may use that base is part of the heap (so K.In base, base.Ns mainGlobals mg stand in Mod) -/
theorem law_call {P : Program} {w : World} {K : PySem.W.Frag} {mg mb : Str → Option Value} {CX : CXT} {k : Nat} {fa a : Addr} {fd : FuncData} {x : Str} {sp : Sp} {s₁ : Shared} {vs : List Value} {ns : List Int}
    (KX : K.In s₁.heap) (hns : s₁.heap.Ns mainGlobals mg) (hb : s₁.heap.Ns builtinsNs mb) (hbb : ∀ x : Str, x ≠ "__name__" → mb x = bootBuiltins x) (hlim : s₁.heap.NoLimit) (hg : s₁.gens = #[])
    (ha : s₁.heap.get? a = some { cls := .type "list", data := .seq vs.toArray }) (hi : IntsAre vs ns) (hl : ns.length ≤ sizeLine) (hr : Room k callerA)
    (F : ∀ base : Heap, K.In base → base.Ns mainGlobals mg → FnOk P w K mg base CX k fa fd [x] sp) (hbind : ∀ (s : Shared) (u : Value), BindsTo s fd ⟨[u], []⟩ [(x, u)])
    (hsp : ∀ H : Hp, Only H → SqL K H a (ns.map V.int) → sp [.ref a] H (fun v _ => v = .bl true) fun _ _ _ => False)
    (hCX : ∀ H e s', CX [] H s₁ (fun _ _ _ => False) e s' → False) :
    codeAny (model P w) callerA (.call (.ref fa) ⟨[.ref a], []⟩) (fun r s' => r = .ok (.ret (.bool true)) ∧ OldK s₁.heap s'.heap ∧ s'.os = s₁.os ∧ AllBare s'.gens) s₁ := by
  have rv := vals_ints hi
  have lenV := hi.length
  -- from an abstract heap in which nothing but the script may be tracked
  have core : ∀ H : Hp, Only H → SqL K H a (ns.map V.int) → HOk P w H s₁.heap → (∀ b, H b ≠ none → b = a) → (H a ≠ none → K.lookup a = none) →
      codeAny (model P w) callerA (.call (.ref fa) ⟨[.ref a], []⟩) (fun r s' => r = .ok (.ret (.bool true)) ∧ OldK s₁.heap s'.heap ∧ s'.os = s₁.os ∧ AllBare s'.gens) s₁ := by
    intro H hO hS hok hA hK
    have base_of : ∀ {b : Addr} {o : Obj}, s₁.heap.get? b = some o → H b = none → (hidT s₁.heap H).get? b = some o := fun e n => hidT_get e n
    have noA : ∀ {b : Addr} {o : Obj} {es : Array DictEntry} {ep : Nat}, s₁.heap.get? b = some o → o.data = .dict es ep → H b = none := fun {b o es ep} e d => by
      cases q : H b with
      | none => rfl
      | some u =>
        have e' : b = a := hA b (by rw [q]; simp)
        subst e'
        rw [ha] at e; cases e
        have d' : Data.seq vs.toArray _ = Data.dict es ep := d
        cases d'
    have nsK : ∀ {b : Addr} {m : Str → Option Value}, s₁.heap.Ns b m → (hidT s₁.heap H).Ns b m := fun {b m} ⟨o, es, ep, e, d, r⟩ => ⟨o, es, ep, base_of e (noA e d), d, r⟩
    have hKb : K.In (hidT s₁.heap H) := fun b o e => base_of (KX b o e) (by
      cases q : H b with
      | none => rfl
      | some u =>
        have e' : b = a := hA b (by rw [q]; simp)
        subst e'
        rw [hK (by rw [q]; simp)] at e; cases e)
    have hM : Mod K mg (hidT s₁.heap H) := ⟨hKb, nsK hns, ⟨mb, nsK hb, hbb⟩, let ⟨mc, h1, h2⟩ := hlim; ⟨mc, nsK h1, h2⟩⟩
    have e0 : Env0 P w K mg (hidT s₁.heap H) callerA [] s₁ H := ⟨rfl, hM, fun b o e => of_hidT e, Nat.le_of_eq (hidT_size _ _), trivial, fun b hb => absurd (show b ∈ ([] : List Addr) from hb) (by simp), hok, .of_eq hg⟩
    refine codeAny_mono ((F _ hKb (nsK hns)).run callerA [] s₁ H ⟨[.ref a], []⟩ [.ref a] [.ref a] _ _ hr e0 (hbind s₁ (.ref a)) (.cons rfl .nil) (hsp H hO hS)) fun r s' h => ?_
    cases r with
    | error e => exact (hCX H e s' h).elim
    | ok fl =>
      cases fl with
      | next => exact False.elim h
      | brk => exact False.elim h
      | cont => exact False.elim h
      | ret u =>
        obtain ⟨v, H', os, bare, un, hok', r', q⟩ := h
        have q' : v = .bl true := q
        subst q'
        obtain rfl : u = Value.bool true := r'
        refine ⟨rfl, OldK.of_keep fun b o e => ?_, os, bare⟩
        cases q : H b with
        | none => exact un.keep b o e q (by intro z; exact absurd (show b ∈ ([] : List Addr) from z) (by simp)) (by simp)
        | some u =>
          rcases hO b with z | ⟨ob, xs, z⟩
          · rw [q] at z; cases z
          · have z2 := un.frzs b ob _ z
            obtain ⟨e1, _⟩ := hok b _ z
            obtain ⟨e2, _⟩ := hok' b _ z2
            rw [e] at e1; cases e1
            exact e2
  cases hk : K.lookup a with
  | some o =>
    -- the script is one of the module's own objects
    have e := KX a o hk
    rw [ha] at e
    cases e
    refine core (fun _ => none) (fun _ => .inl rfl) (.inr ⟨_, vs.toArray, _, hk, rfl, rfl, rfl, by rw [List.size_toArray, lenV]; exact hl, by simpa using rv⟩) (fun b u z => by have z' : (none : Option HO) = some u := z; cases z') (fun b z => absurd rfl z) fun z => absurd rfl z
  | none =>
    refine core (fun b => if b = a then some (.frz { cls := .type "list", data := .seq vs.toArray } (.lst (ns.map V.int))) else none) (fun b => ?_) (.inl (.inr ⟨{ cls := .type "list", data := .seq vs.toArray }, if_pos rfl⟩)) (fun b u z => ?_) (fun b z => ?_) fun _ => hk
    · by_cases hb : b = a
      · exact .inr ⟨_, _, if_pos hb⟩
      · exact .inl (if_neg hb)
    · by_cases hb : b = a
      · have z' := (if_pos hb).symm.trans z
        cases z'
        subst hb
        exact ⟨ha, by rw [List.length_map]; exact hl, vs, _, rv, ha⟩
      · have z' := (if_neg hb).symm.trans z
        cases z'
    · by_cases hb : b = a
      · exact hb
      · exact absurd (if_neg hb) z
end L2

namespace L2
open PySem PySem.Spec PyProof.Rows

abbrev KOf {K : PySem.W.Frag} {h : Heap} (_ : K.In h) : PySem.W.Frag := K

/-- the goal that k_head leaves (case hc), from the law's promise. F gives the function object fd (K's own) once, then the promise over every base -/
theorem walk_of {l : PySem.W.OpenLaw} {n k : Nat} {q : Program} {loose : List Str} {XP : (Str → Option Value) → Heap → Prop} {YP : World → Heap → Prop} {d : DefRec} {K : Params → PySem.W.Frag} {CX : World → CXT} {sp : World → Sp} {x : Str}
    (hn : l.most = some n) (hn2 : n ≤ sizeLine) (hdf : d.params.defaults = []) (hr : Room k callerA)
    (hY : ∀ (w : World) (h : Heap), YP w h → (K w.params).In h)
    (F : ∀ (w : World) (mg : Str → Option Value) (fa : Addr) (h : Heap), (K w.params).In h → h.Ns mainGlobals mg → mg d.name = some (.ref fa) →
      ∃ fd : FuncData, (∀ (s : Shared) (u : Value), BindsTo s fd ⟨[u], []⟩ [(x, u)]) ∧
        ∀ base : Heap, (K w.params).In base → base.Ns mainGlobals mg → FnOk l.prog w (K w.params) mg base (CX w) k fa fd [x] (sp w))
    (hsp : ∀ (w : World) (H : Hp) (a : Addr) (ns : List Int), ns.length ≤ n → Only H → SqL (K w.params) H a (ns.map V.int) → sp w [.ref a] H (fun v _ => v = .bl true) fun _ _ _ => False)
    (hCX : ∀ (w : World) (H : Hp) (s : Shared) (e : Value) (s' : Shared), CX w [] H s (fun _ _ _ => False) e s' → False) :
    PySem.W.WalkO q loose XP YP l.row.toRowW d [] (fun f vs => PySem.call f vs) := by
  refine Att.attach_call hn hdf fun w s₀ s₁ mg mb fa o pm cd doc a vs ns G Y ho hd hcd hmg hobj hints hlen hg => ?_
  have KX := hY w _ Y
  obtain ⟨fd, hb, hF⟩ := F w mg fa _ KX G.T.g hmg
  exact law_call KX G.T.g G.T.b G.T.builtins G.T.nolimit hg hobj hints (Nat.le_trans hlen hn2) hr hF hb (fun H hO hS => hsp w H a ns hlen hO hS) fun H e s' => hCX w H s₁ e s'
end L2

/- THE LAST THEOREM (shape; LID, My.* are yours):
   My.Adr: a structure of the addresses that your layer names (classes, functions); My.Txt K t: a structure (Prop) of the equations over K;
   My.txt_mk : {K} {implicit addresses ..} (e1 : nsIn K mainGlobals "law" = some (some (.ref f))) (e2 : K.lookup f = some ⟨oc, od, .func (fnOf "law" "law" params body scope dV kV doc pm an cdv ct), sl⟩) (e3 : codeIn K cdv "law" = true) .. : ∃ t, My.Txt K t

set_option maxRecDepth 100000 in
set_option maxHeartbeats 0 in
theorem PySem.Challenge.cw_LID_holds : PySem.Challenge.rw_LID.Holds := by
  w_on; o_law; k_head; (case hw => w_witness2)
  k_fill
  refine L2.walk_of (l := PySem.Challenge.rw_LID) (n := 63) (k := 40) (x := "script") (CX := fun w => ..) (sp := fun _ => My.sp_law) rfl (by decide) rfl ⟨rfl, by decide, by decide⟩ (fun w h Y => PySem.W.kIn_of Y) ?F ?S ?C
  case F =>
    intro w mg fa h KX G hmg
    have T : ∃ t, My.Txt (L2.KOf KX) t := by
      dsimp only [L2.KOf]                          -- K must stand as «<heap const> w.params» for k_is
      refine' My.txt_mk ?e1 ?e2 ?e3 ..
      (case e1 => PySem.W.k_is)                    -- in the order: a name -> its address -> its object -> its parts
      (case e2 => PySem.W.k_is)
      ..
    obtain ⟨t, T⟩ := T
    have e0 := hmg.symm.trans (PySem.W.mg_of KX G T.law)
    cases e0                                       -- fa is the law's own address
    exact ⟨_, fun s u => .of_eq rfl, fun base kb nb => My.law_fn T kb nb⟩     -- if «.of_eq rfl» comes too early: refine' ⟨_, ?b, fun base kb nb => My.law_fn T kb nb⟩; exact fun s u => .of_eq rfl
  case S => exact fun w H a ns hl hO hS => ..
  case C => exact ..
(the tactic k_is has no namespace: write k_is) -/

/-! SHORT WORDS over the layer: a def of the text, its body, what a loop and a test want. -/
namespace L2
open PySem PySem.Spec PyProof.Rows

/-! ### the text by places -/
/-- the j-th statement of a class's body -/
def inClass (s : Stmt) (j : Nat) : Stmt := match s with
  | .ClassDef _ _ _ body _ _ _ _ _ _ _ => body.getD j (.Pass ⟨0, 0, 0, 0⟩)
  | _ => .Pass ⟨0, 0, 0, 0⟩
def defArgs (s : Stmt) : Arguments := match s with
  | .FunctionDef _ a _ _ _ _ _ _ _ _ => a
  | _ => { posonlyargs := [], args := [], vararg := none, kwonlyargs := [], kw_defaults := [], kwarg := none, defaults := [] }
def defBody (s : Stmt) : List Stmt := match s with
  | .FunctionDef _ _ b _ _ _ _ _ _ _ => b
  | _ => []
def defScope (s : Stmt) : Scope := match s with
  | .FunctionDef _ _ _ _ _ _ sc _ _ _ => sc
  | _ => { kind := .function, names := [], isGenerator := false, isCoroutine := false }

/-! ### no exception leaves a def -/
abbrev CX0 : CXT := fun _ _ _ _ _ _ => False
abbrev E0 : XK := fun _ _ _ => False
theorem pass0 {X : Cx} : Passes CX0 X E0 := fun _ _ _ _ _ _ _ h => h.elim

/-! ### a def (or method) of the text as it stands behind the top -/
structure Fun (K : PySem.W.Frag) (x qual : Str) (st : Stmt) (f : Addr) (fd : FuncData) : Prop where
  ex : ∃ (oc : Value) (od : Option Addr) (kV doc pm : Value) (an : Option Addr) (cdv ct : Value) (osl : Array (Option Value)),
    fd = PySem.W.fnOf x qual (defArgs st) (defBody st) (defScope st) .none kV doc pm an cdv ct ∧ K.lookup f = some ⟨oc, od, .func fd, osl⟩ ∧ PySem.W.codeIn K cdv qual = true
  kp : PySem.W.keepIn K (.ref f) = true
section
variable {P : Program} {w : World} {K : PySem.W.Frag} {mg : Str → Option Value} {base : Heap}
/-- THE RULE for a def: its body as a term of rules, and the reading of that term -/
theorem Fun.ok {x qual : Str} {st : Stmt} {f : Addr} {fd : FuncData} {N ps : List Str} {k : Nat} {sp : Sp} (F : Fun K x qual st f fd) (S : FnScope N ps (defScope st)) (len : ∀ vs H Q E, sp vs H Q E → vs.length = ps.length)
    (hbody : ∀ (cdv : Value) (A : Around) (outer : List Env) (s : Shared) (H : Hp) (vs : List V) (Q : VK) (E : XK), Room k (A.deeper (envOfC qual (defScope st) s.heap.objs.size f cdv)) → sp vs H Q E →
      ∃ t, PSs (cxOf CX0 P w K mg base N qual (defScope st) f cdv A outer s H E).nox (defBody st) t ∧ t { nx := fun _ H' => Q .non H', rt := Q } (start N vs) H) : FnOk P w K mg base CX0 (k + 1) f fd ps sp := by
  obtain ⟨oc, od, kV, doc, pm, an, cdv, ct, osl, rfl, lk, hcd⟩ := F.ex
  refine fn_of lk hcd S len fun A outer s H vs Q E hr hsp => ?_
  obtain ⟨t, h, q⟩ := hbody cdv A outer s H vs Q E hr hsp
  exact ⟨t, h.nox, q⟩
/-- how its arguments bind (no defaults): h is «fun _ _ _ _ _ _ us hl => match us, hl with | [_, _], _ => rfl», one _ a parameter -/
theorem Fun.binds {x qual : Str} {st : Stmt} {f : Addr} {fd : FuncData} {ps : List Str} (F : Fun K x qual st f fd)
    (h : ∀ (kV doc pm : Value) (an : Option Addr) (cdv ct : Value) (us : List Value), us.length = ps.length → bindArgs (PySem.W.fnOf x qual (defArgs st) (defBody st) (defScope st) .none kV doc pm an cdv ct) ⟨us, []⟩ = pure (ps.zip us)) : Binds K fd ps [] := by
  obtain ⟨oc, od, kV, doc, pm, an, cdv, ct, osl, rfl, lk, hcd⟩ := F.ex
  exact .all (h kV doc pm an cdv ct)
theorem fun_mk {x qual : Str} {st : Stmt} {f : Addr} {oc : Value} {od an : Option Addr} {osl : Array (Option Value)} {kV doc pm cdv ct : Value} (l : K.lookup f = some ⟨oc, od, .func (PySem.W.fnOf x qual (defArgs st) (defBody st) (defScope st) .none kV doc pm an cdv ct), osl⟩)
    (c : PySem.W.codeIn K cdv qual = true) (k : PySem.W.keepIn K (.ref f) = true) : Fun K x qual st f (PySem.W.fnOf x qual (defArgs st) (defBody st) (defScope st) .none kV doc pm an cdv ct) := ⟨⟨oc, od, kV, doc, pm, an, cdv, ct, osl, rfl, l, c⟩, k⟩
end
theorem small1000 {n : Nat} (h : n ≤ 1000) : n < sizeLine := Nat.lt_of_le_of_lt h (by decide)

/-! ### expressions in short: the name that stands in the i-th slot -/
section
variable {X : Cx}
theorem pv (i : Nat) {x : Str} {pos : Pos} (hN : X.N[i]? = some x := by rfl) (hv : Vis X.env.scope x := by first | exact Or.inl rfl | exact Or.inr (Or.inl rfl) | exact Or.inr (Or.inr rfl)) (hd : (x == ("__debug__" : Str)) = false := by decide)
    (hcd : (x == ("__classdict__" : Str)) = false := by decide) : PE X (.Name x pos) (tVar i) := pe_var hN hv hd hcd
end

/-! ### tests -/
theorem iteF {A B : Prop} (h : B) : if false = true then A else B := by
  rw [if_neg Bool.false_ne_true]
  exact h
theorem iteT {A B : Prop} (h : A) : if true = true then A else B := by
  rw [if_pos rfl]
  exact h
theorem ite2 {c A B : Prop} [Decidable c] (h1 : c → A) (h2 : ¬ c → B) : if c then A else B := by
  by_cases h : c
  · rw [if_pos h]
    exact h1 h
  · rw [if_neg h]
    exact h2 h
/-! ### heaps -/
/-- all that was tracked is as it was -/
def Same (H H' : Hp) : Prop := ∀ b o, H b = some o → H' b = some o
theorem Same.refl (H : Hp) : Same H H := fun _ _ h => h
theorem Same.trans {H H1 H2 : Hp} (a : Same H H1) (b : Same H1 H2) : Same H H2 := fun c o h => b c o (a c o h)
theorem Same.free {H H' : Hp} (e : Same H H') {l : Addr} (h : H' l = Option.none) : H l = Option.none := by
  cases q : H l with
  | none => rfl
  | some o =>
    rw [e l o q] at h
    cases h
theorem Same.seq {K : PySem.W.Frag} {H H' : Hp} {a : Addr} {xs : List V} (e : Same H H') (h : SqL K H a xs) : SqL K H' a xs := by
  rcases h with (h | ⟨o, h⟩) | h
  · exact .inl (.inl (e _ _ h))
  · exact .inl (.inr ⟨o, e _ _ h⟩)
  · exact .inr h

end L2

namespace L2
open PySem PySem.Spec PyProof.Rows

/-! ### cells of a block: own ones behind the closure -/
theorem cf_or {x : Str} {c : Addr} : ∀ (names : List (Str × NameKind)) (n : Nat) (acc : List (Str × Addr)), (cellsFrom n names acc).lookup x = some c → n ≤ c ∨ acc.lookup x = some c
  | [], _, _, h => .inr h
  | (y, k) :: r, n, acc, h => by
    unfold cellsFrom at h
    split at h
    · rcases cf_or r (n + 1) _ h with z | z
      · exact .inl (Nat.le_of_succ_le z)
      · rw [List.lookup_cons] at z
        cases e : x == y with
        | true => rw [e] at z; cases z; exact .inl (Nat.le_refl _)
        | false => rw [e] at z; exact .inr z
    · exact cf_or r n acc h
theorem cf_own {x : Str} {c : Addr} : ∀ (names : List (Str × NameKind)) (n : Nat) (acc : List (Str × Addr)), (x, NameKind.cell) ∈ names → (cellsFrom n names acc).lookup x = some c → n ≤ c
  | [], _, _, m, _ => nomatch m
  | (y, k) :: r, n, acc, m, h => by
    unfold cellsFrom at h
    split at h
    · by_cases m' : (x, NameKind.cell) ∈ r
      · exact Nat.le_of_succ_le (cf_own r (n + 1) _ m' h)
      · have e : (x, NameKind.cell) = (y, k) := (List.mem_cons.mp m).resolve_right m'
        cases e
        rcases cf_or r (n + 1) _ h with z | z
        · exact Nat.le_of_succ_le z
        · rw [List.lookup_cons, beq_self_eq_true] at z
          cases z
          exact Nat.le_refl _
    · rename_i hk
      have m' : (x, NameKind.cell) ∈ r := by
        rcases List.mem_cons.mp m with e | m'
        · cases e; exact absurd rfl hk
        · exact m'
      exact cf_own r n acc m' h
theorem cf_out {x : Str} : ∀ {names : List (Str × NameKind)} {n : Nat} {acc : List (Str × Addr)}, (x, NameKind.cell) ∉ names → (cellsFrom n names acc).lookup x = acc.lookup x
  | [], _, _, _ => rfl
  | (y, k) :: r, n, acc, h => by
    unfold cellsFrom
    have hr : (x, NameKind.cell) ∉ r := fun m => h (List.mem_cons_of_mem _ m)
    split
    · rename_i hk
      have hy : (x == y) = false := by
        cases e : x == y with
        | false => rfl
        | true =>
          exfalso
          refine h ?_
          rw [beq_iff_eq.mp e, beq_iff_eq.mp hk]
          exact List.mem_cons_self
      rw [cf_out hr, List.lookup_cons, hy]
    · exact cf_out hr
theorem cf_inj : ∀ (names : List (Str × NameKind)) (n : Nat) (acc : List (Str × Addr)), (∀ x c, acc.lookup x = some c → c < n) → (∀ x y c, acc.lookup x = some c → acc.lookup y = some c → x = y) →
    ∀ x y c, (cellsFrom n names acc).lookup x = some c → (cellsFrom n names acc).lookup y = some c → x = y
  | [], _, _, _, hi => hi
  | (z, k) :: r, n, acc, hl, hi => by
    unfold cellsFrom
    split
    · refine cf_inj r (n + 1) _ (fun x c h => ?_) (fun x y c h1 h2 => ?_)
      · rw [List.lookup_cons] at h
        cases e : x == z with
        | true => rw [e] at h; cases h; exact Nat.lt_succ_self _
        | false => rw [e] at h; exact Nat.lt_succ_of_lt (hl x c h)
      · rw [List.lookup_cons] at h1 h2
        cases e1 : x == z with
        | true =>
          rw [e1] at h1
          cases h1
          cases e2 : y == z with
          | true => rw [beq_iff_eq.mp e1, beq_iff_eq.mp e2]
          | false => rw [e2] at h2; exact absurd (hl y _ h2) (Nat.lt_irrefl _)
        | false =>
          rw [e1] at h1
          cases e2 : y == z with
          | true => rw [e2] at h2; cases h2; exact absurd (hl x _ h1) (Nat.lt_irrefl _)
          | false => rw [e2] at h2; exact hi x y c h1 h2
    · exact cf_inj r n acc hl hi
theorem cf_cell {x : Str} {c : Addr} : ∀ (names : List (Str × NameKind)) (h : Heap) (acc : List (Str × Addr)), (cellsFrom h.objs.size names acc).lookup x = some c → (pushCells h names).IsCell c none ∨ acc.lookup x = some c
  | [], _, _, z => .inr z
  | (y, k) :: r, h, acc, z => by
    unfold cellsFrom at z
    unfold pushCells
    split at z
    · rename_i hk
      rw [if_pos hk]
      have z' : (cellsFrom (h.push { cls := .type "cell", data := .cell none }).objs.size r ((y, h.objs.size) :: acc)).lookup x = some c := by rw [Heap.size_push]; exact z
      rcases cf_cell r _ _ z' with q | q
      · exact .inl q
      · rw [List.lookup_cons] at q
        cases e : x == y with
        | true =>
          rw [e] at q
          cases q
          exact .inl ⟨_, pushCells_keeps _ _ _ _ (Heap.get?_push_size _ rfl), rfl⟩
        | false => rw [e] at q; exact .inr q
    · rename_i hk
      rw [if_neg hk]
      exact cf_cell r h acc z

/-! ### the closure of a block -/
theorem clos_go {env : Env} (f : Str × NameKind → List (Str × Addr) → Sem (ForInStep (List (Str × Addr))))
    (hf : ∀ name kind cs, f (name, kind) cs = if kind == .free then (do let a ← cellOf env name; pure (.yield ((name, a) :: cs))) else pure (.yield cs)) :
    ∀ (names : List (Str × NameKind)) (acc : List (Str × Addr)), (∀ y ∈ names, y.2 = .free → ∃ c, env.cells.lookup y.1 = some c) → (∀ x c, acc.lookup x = some c → env.cells.lookup x = some c) →
    ∃ cl, forIn names acc f = pure cl ∧ (∀ x c, cl.lookup x = some c → env.cells.lookup x = some c) ∧ (∀ y ∈ names, y.2 = .free → ∃ c, cl.lookup y.1 = some c) ∧ ∀ x c, acc.lookup x = some c → ∃ c', cl.lookup x = some c'
  | [], acc, _, ha => ⟨acc, rfl, ha, (fun _ m => nomatch m), fun x c e => ⟨c, e⟩⟩
  | (y, k) :: r, acc, h, ha => by
    rw [List.forIn_cons, hf]
    have hr : ∀ y ∈ r, y.2 = NameKind.free → ∃ c, env.cells.lookup y.1 = some c := fun z m => h z (List.mem_cons_of_mem _ m)
    by_cases hk : (k == NameKind.free) = true
    · obtain ⟨c, hc⟩ := h (y, k) List.mem_cons_self (beq_iff_eq.mp hk)
      have e : cellOf env y = pure c := by unfold cellOf; rw [hc]
      rw [if_pos hk, e, pure_bind, pure_bind]
      have ha' : ∀ x d, ((y, c) :: acc).lookup x = some d → env.cells.lookup x = some d := fun x d e => by
        rw [List.lookup_cons] at e
        cases e1 : x == y with
        | true => rw [e1] at e; cases e; rw [beq_iff_eq.mp e1]; exact hc
        | false => rw [e1] at e; exact ha x d e
      obtain ⟨cl, q1, q2, q3, q4⟩ := clos_go f hf r ((y, c) :: acc) hr ha'
      refine ⟨cl, q1, q2, fun z m hz => ?_, fun x d e => ?_⟩
      · rcases List.mem_cons.mp m with e | m
        · subst e
          exact q4 y c (by rw [List.lookup_cons, beq_self_eq_true])
        · exact q3 z m hz
      · by_cases e1 : (x == y) = true
        · exact q4 x c (by rw [List.lookup_cons, e1])
        · exact q4 x d (by rw [List.lookup_cons]; simp only [e1]; exact e)
    · rw [if_neg hk, pure_bind]
      obtain ⟨cl, q1, q2, q3, q4⟩ := clos_go f hf r acc hr ha
      refine ⟨cl, q1, q2, fun z m hz => ?_, q4⟩
      rcases List.mem_cons.mp m with e | m
      · subst e; exact absurd (beq_iff_eq.mpr hz) hk
      · exact q3 z m hz
theorem clos_ok {scope : Scope} {env : Env} (h : ∀ y ∈ scope.names, y.2 = .free → ∃ c, env.cells.lookup y.1 = some c) :
    ∃ cl, closureFor scope env = pure cl ∧ (∀ x c, cl.lookup x = some c → env.cells.lookup x = some c) ∧ ∀ y ∈ scope.names, y.2 = .free → ∃ c, cl.lookup y.1 = some c := by
  obtain ⟨cl, q1, q2, q3, _⟩ := clos_go (env := env) (fun x cs => if x.2 == .free then (do let a ← cellOf env x.1; pure (.yield ((x.1, a) :: cs))) else pure (.yield cs)) (fun _ _ _ => rfl) scope.names [] h (fun _ _ e => nomatch e)
  refine ⟨cl, ?_, q2, q3⟩
  unfold closureFor
  have e : (fun (x : Str × NameKind) (r : List (Str × Addr)) => (match x with
      | (name, kind) => if (kind == NameKind.free) = true then (do let __do_lift ← cellOf env name; pure (ForInStep.yield ((name, __do_lift) :: r))) else pure (ForInStep.yield r) : Sem (ForInStep (List (Str × Addr))))) =
      fun x cs => if x.2 == .free then (do let a ← cellOf env x.1; pure (.yield ((x.1, a) :: cs))) else pure (.yield cs) := by
    funext x cs
    rfl
  have q : (forIn scope.names ([] : List (Str × Addr)) fun (x : Str × NameKind) (r : List (Str × Addr)) => (match x with
      | (name, kind) => if (kind == NameKind.free) = true then (do let __do_lift ← cellOf env name; pure (ForInStep.yield ((name, __do_lift) :: r))) else pure (ForInStep.yield r) : Sem (ForInStep (List (Str × Addr))))) = pure cl := by
    rw [e]; exact q1
  simpa using q

/-! ### the block's env -/
theorem newEnv_block {M : Model} {A : Around} {E : Value → Shared → Prop} {s : Shared} {scope : Scope} {globals : Addr} {cl : List (Str × Addr)} {qual : Str} {env : Env} {Q : Env → Shared → Prop}
    (hQ : ∀ h', h'.Ns s.heap.objs.size (fun _ => none) → (∀ b o, s.heap.get? b = some o → h'.get? b = some o) →
      (∀ x c, (cellsFrom (s.heap.objs.size + 1) scope.names cl).lookup x = some c → h'.IsCell c none ∨ cl.lookup x = some c) →
      Q { scope, locals := s.heap.objs.size, globals, cells := cellsFrom (s.heap.objs.size + 1) scope.names cl, qual, func := none, code := env.code, frame := env.frame, builtins := env.builtins } { s with heap := h' }) :
    wpAny M A (newFunctionEnv scope globals cl [] qual none .none (some env)) Q E s := by
  simp only [newFunctionEnv, Option.isSome_some, if_true]
  refine wpAny_bind (wpAny_alloc ?_)
  refine wpAny_bind (wpAny_layCells _ (fun name kind cells => by cases hkc : kind == NameKind.cell <;> simp [hkc]) _ _ _ _ ?_)
  have hsz : (s.heap.push { cls := .type "dict", data := .dict #[] }).objs.size = s.heap.objs.size + 1 := Heap.size_push ..
  have q := hQ (pushCells (s.heap.push { cls := .type "dict", data := .dict #[] }) scope.names) ((Heap.Ns.new s.heap (.type "dict")).keeps (pushCells_keeps _ _)) (fun b o e => pushCells_keeps _ _ b o (Heap.get?_push_of_some _ e))
    (fun x c e => cf_cell scope.names (s.heap.push { cls := .type "dict", data := .dict #[] }) cl (by rw [hsz]; exact e))
  show wpAny _ _ _ _ _ _
  rw [show ({ s with heap := s.heap.push { cls := .type "dict", data := .dict #[] } } : Shared).heap.objs.size = s.heap.objs.size + 1 from hsz]
  exact wpAny_bind (wpAny_pure (wpAny_pure q))
theorem relabel_free {env : Env} {x : Str} : ∀ {names : List (Str × NameKind)}, names.lookup x = some .free →
    (names.map fun (n, k) => if (k == NameKind.free && env.scope.kind == .function && env.kindOf n == some .cell) then (n, NameKind.cell) else (n, k)).lookup x = some .cell ∨
    (names.map fun (n, k) => if (k == NameKind.free && env.scope.kind == .function && env.kindOf n == some .cell) then (n, NameKind.cell) else (n, k)).lookup x = some .free
  | [], h => by simp at h
  | (n, k) :: r, h => by
    have ih := @relabel_free env x r
    show List.lookup x ((if (k == NameKind.free && env.scope.kind == .function && env.kindOf n == some .cell) = true then (n, NameKind.cell) else (n, k)) :: _) = _ ∨ List.lookup x ((if (k == NameKind.free && env.scope.kind == .function && env.kindOf n == some .cell) = true then (n, NameKind.cell) else (n, k)) :: _) = _
    cases hx : x == n with
    | true =>
      simp only [List.lookup_cons, hx] at h
      cases h
      split <;> simp [List.lookup_cons, hx]
    | false =>
      simp only [List.lookup_cons, hx] at h
      split <;> (simp only [List.lookup_cons, hx]; exact ih h)
theorem relabel_back {env : Env} {x : Str} {kd : NameKind} : ∀ {names : List (Str × NameKind)},
    (names.map fun (n, k) => if (k == NameKind.free && env.scope.kind == .function && env.kindOf n == some .cell) then (n, NameKind.cell) else (n, k)).lookup x = some kd →
    names.lookup x = some kd ∨ names.lookup x = some .free
  | [], h => by simp at h
  | (n, k) :: r, h => by
    have ih := @relabel_back env x kd r
    have h' : List.lookup x ((if (k == NameKind.free && env.scope.kind == .function && env.kindOf n == some .cell) = true then (n, NameKind.cell) else (n, k)) :: (r.map fun (n, k) => if (k == NameKind.free && env.scope.kind == .function && env.kindOf n == some .cell) then (n, NameKind.cell) else (n, k))) = some kd := h
    cases hx : x == n with
    | true =>
      by_cases hc : (k == NameKind.free && env.scope.kind == .function && env.kindOf n == some .cell) = true
      · have hk : k = .free := by
          have := (Bool.and_eq_true _ _ ▸ (Bool.and_eq_true _ _ ▸ hc).1).1
          exact beq_iff_eq.mp this
        subst hk
        exact .inr (by simp [List.lookup_cons, hx])
      · rw [if_neg hc] at h'
        simp only [List.lookup_cons, hx] at h'
        cases h'
        exact .inl (by simp [List.lookup_cons, hx])
    | false =>
      have h2 : List.lookup x (r.map fun (n, k) => if (k == NameKind.free && env.scope.kind == .function && env.kindOf n == some .cell) then (n, NameKind.cell) else (n, k)) = some kd := by
        split at h' <;> simpa only [List.lookup_cons, hx] using h'
      rcases ih h2 with z | z
      · exact .inl (by simp only [List.lookup_cons, hx]; exact z)
      · exact .inr (by simp only [List.lookup_cons, hx]; exact z)

/-- the context of a comprehension's block -/
def cxIn (X : Cx) (N : List Str) (scope : Scope) (cl : List (Str × Addr)) (s : Shared) (H : Hp) (fp : List Addr) : Cx where
  prog := X.prog
  w := X.w
  K := X.K
  mg := X.mg
  base := X.base
  A := X.A
  N := N
  s₀ := s
  H₀ := H
  env := { scope := relabel scope X.env, locals := s.heap.objs.size, globals := X.env.globals, cells := cellsFrom (s.heap.objs.size + 1) scope.names cl, qual := X.env.qual, func := none, code := X.env.code, frame := X.env.frame, builtins := X.env.builtins }
  outer := X.stack
  stack := X.stack
  ex := fp
  fn := fun x => scope.names.lookup x == some .cell
  calm := X.calm
  pn := []
  xe := fun _ _ => False

/-- what a block's scope must be: static -/
structure BlScope (X : Cx) (scope : Scope) (own : List Str) (fr : List (Str × Nat)) : Prop where
  kind : scope.kind = .function
  free : ∀ y ∈ scope.names, y.2 = .free → X.env.scope.names.lookup y.1 = some .cell ∨ X.env.scope.names.lookup y.1 = some .free
  loc : ∀ y ∈ scope.names, y.2 = .local → scope.names.lookup y.1 = some .local
  look : ∀ y ∈ scope.names, scope.names.lookup y.1 = some y.2
  cap : ∀ y ∈ fr, scope.names.lookup y.1 = some .free ∧ X.N[y.2]? = some y.1
/-- the block's names at its start -/
def capS (k : Nat) (fr : List (Str × Nat)) (σ : St) : St := List.replicate k none ++ fr.map fun y => (σ[y.2]?).getD none
def capN (own : List Str) (fr : List (Str × Nat)) : List Str := own ++ fr.map (·.1)

section
variable {X : Cx} {pins : List (Addr × Obj)} {σ : St} {H : Hp} {s : Shared}

/-- the block begins -/
theorem inv_block {scope : Scope} {own : List Str} {fr : List (Str × Nat)} {cl : List (Str × Addr)} {fp : List Addr} {h' : Heap} (I : Inv X pins σ H s) (B : BlScope X scope own fr)
    (hcl : ∀ x c, cl.lookup x = some c → X.env.cells.lookup x = some c) (hcl2 : ∀ y ∈ scope.names, y.2 = .free → ∃ c, cl.lookup y.1 = some c)
    (hfp : ∀ b ∈ fp, FpOk X pins H b) (hfo : ∀ b ∈ fp, ∃ o, s.heap.get? b = some o)
    (hn : h'.Ns s.heap.objs.size (fun _ => none)) (hk : ∀ b o, s.heap.get? b = some o → h'.get? b = some o)
    (hc : ∀ x c, (cellsFrom (s.heap.objs.size + 1) scope.names cl).lookup x = some c → h'.IsCell c none ∨ cl.lookup x = some c) :
    Inv (cxIn X (capN own fr) scope cl s H fp) [] (capS own.length fr σ) H { s with heap := h' } := by
  have clt : ∀ x c, cl.lookup x = some c → c < s.heap.objs.size := fun x c e => by
    obtain ⟨v, z⟩ := I.cell x c (hcl x c e)
    exact z.lt
  have ownC : ∀ x c, (cellsFrom (s.heap.objs.size + 1) scope.names cl).lookup x = some c → s.heap.objs.size + 1 ≤ c ∨ cl.lookup x = some c := fun x c e => cf_or _ _ _ e
  have bsz : X.base.objs.size ≤ s.heap.objs.size := Nat.le_trans I.ok.bsz I.sz
  refine ⟨⟨I.ok.mod, B.kind, I.ok.glob, I.ok.blt, Nat.le_refl _, ?_, ?_, ?_, I.ok.hd, I.ok.frames, .inl rfl, ?_, I.bs, bsz, ?_, ?_, I.stack, I.stkFree⟩, rfl, I.bare, Un.kept hk, ⟨_, hn, ?_⟩, ?_, I.hok.fresh (Nat.le_refl _), ?_, ?_, I.hok.kept hk, ?_⟩
  · exact cf_inj _ _ _ (fun x c e => Nat.lt_succ_of_lt (clt x c e)) fun x y c e1 e2 => I.ok.inj x y c (hcl x c e1) (hcl y c e2)
  · intro x hx
    have hx : (relabel scope X.env).names.lookup x = some .cell ∨ (relabel scope X.env).names.lookup x = some .free := hx
    have q : scope.names.lookup x = some .cell ∨ scope.names.lookup x = some .free := by
      rcases hx with z | z
      · exact relabel_back z
      · exact (relabel_back z).elim .inr .inr
    refine Option.isSome_iff_exists.mp (PySem.W.cellsFrom_some scope.names _ _ ?_)
    rcases q with z | z
    · exact .inl z
    · obtain ⟨c, e⟩ := hcl2 _ (PySem.mem_of_lookup z) rfl
      exact .inr (by rw [e]; rfl)
  · intro x c hf e
    have hf : (scope.names.lookup x == some .cell) = true := hf
    exact Nat.le_of_succ_le (cf_own _ _ _ (PySem.mem_of_lookup (beq_iff_eq.mp hf)) e)
  · intro b hb
    obtain ⟨o, ho⟩ := hfo b hb
    refine ⟨Nat.ne_of_lt (Heap.lt_size ho), fun x c e => ?_⟩
    rcases ownC x c e with z | z
    · intro q
      subst q
      exact absurd (Nat.lt_of_lt_of_le (Heap.lt_size ho) (Nat.le_of_succ_le z)) (Nat.lt_irrefl _)
    · exact (hfp b hb).2.2.2.2.1 x c (hcl x c z)
  · intro b o e hb
    rcases (hfp b hb).2.2.2.1 with z | z
    · exact I.ok.noex b o e z
    · exact absurd (Nat.lt_of_lt_of_le (Heap.lt_size e) (Nat.le_trans I.ok.bsz z)) (Nat.lt_irrefl _)
  · intro b hb z
    rcases List.mem_cons.mp (I.stkSub b z) with q | q
    · exact (hfp b hb).2.1 q
    · exact (hfp b hb).2.2.1 q
  · intro i x v h1 h2 h3
    have h1 : (capN own fr)[i]? = some x := h1
    unfold capN at h1
    unfold capS at h2
    by_cases hi : i < own.length
    · rw [List.getElem?_append_left (by rw [List.length_replicate]; exact hi), List.getElem?_replicate, if_pos hi] at h2
      cases h2
    · have hi' : own.length ≤ i := Nat.le_of_not_lt hi
      rw [List.getElem?_append_right hi', List.getElem?_map] at h1
      rw [List.getElem?_append_right (by rw [List.length_replicate]; exact hi'), List.length_replicate, List.getElem?_map] at h2
      cases e : fr[i - own.length]? with
      | none => rw [e] at h1; cases h1
      | some y =>
        rw [e] at h1 h2
        have hy1 : y.1 = x := Option.some.inj h1
        have hy2 : (σ[y.2]?).getD none = some v := Option.some.inj h2
        obtain ⟨c1, c2⟩ := B.cap y (List.mem_of_getElem? e)
        rw [hy1] at c1 c2
        have hs : σ[y.2]? = some (some v) := by
          cases e2 : σ[y.2]? with
          | none => rw [e2] at hy2; cases hy2
          | some o => rw [e2] at hy2; cases o with
            | none => cases hy2
            | some w => cases hy2; rfl
        obtain ⟨m, hm, hl⟩ := I.loc
        have hfree := B.free _ (PySem.mem_of_lookup c1) rfl
        obtain ⟨u, r, l⟩ := hl y.2 x v c2 hs (hfree.elim (fun z => .inr (.inl z)) fun z => .inr (.inr z))
        refine ⟨u, r, ?_⟩
        obtain ⟨k, c, e3, z⟩ : (X.env.kindOf x = some .cell ∨ X.env.kindOf x = some .free) ∧ ∃ c, X.env.cells.lookup x = some c ∧ s.heap.IsCell c (some u) := by
          rcases l with ⟨k, _⟩ | q
          · have k : X.env.scope.names.lookup x = some .local := k
            rcases hfree with z | z <;> (rw [z] at k; cases k)
          · exact q
        obtain ⟨d, hd⟩ := hcl2 _ (PySem.mem_of_lookup c1) rfl
        have hd' := hcl x d hd
        rw [e3] at hd'
        cases hd'
        obtain ⟨c', hc'⟩ : ∃ c', (cellsFrom (s.heap.objs.size + 1) scope.names cl).lookup x = some c' := Option.isSome_iff_exists.mp (PySem.W.cellsFrom_some scope.names _ _ (.inr (by rw [hd]; rfl)))
        have hcc : c' = c := by
          rcases ownC x c' hc' with q | q
          · -- an own cell of that name: it is free, so no
            exfalso
            have : (x, NameKind.cell) ∉ scope.names := fun m => by
              have := B.look _ m
              rw [c1] at this
              cases this
            exact absurd hc' (by
              rw [cf_out this]
              intro z
              rw [hd] at z
              cases z
              exact absurd (clt x _ hd) (Nat.not_lt.mpr (Nat.le_of_succ_le q)))
          · rw [hd] at q; cases q; rfl
        subst hcc
        refine .inr ⟨?_, c', hc', z.keeps hk⟩
        exact relabel_free c1
  · intro x c e
    rcases hc x c e with z | z
    · exact ⟨_, z⟩
    · obtain ⟨v, q⟩ := I.cell x c (hcl x c z)
      exact ⟨v, q.keeps hk⟩
  · intro x c e
    rcases ownC x c e with z | z
    · exact I.hok.fresh (Nat.le_of_succ_le z)
    · exact I.freeC x c (hcl x c z)
  · intro p hp
    exact absurd (show p ∈ ([] : List (Addr × Obj)) from hp) (by simp)
  · show (capS _ _ _).length = (capN _ _).length
    unfold capS capN
    simp
end

/-! ### the block's loop -/
/-- the tests of a clause -/
def PTs (X : Cx) (ifs : List Expr) (t : TT) : Prop :=
  ∀ (pins : List (Addr × Obj)) (s : Shared) (σ : St) (H : Hp) (Q : Bool → Hp → Prop), Inv X pins σ H s → t σ H Q →
    wpAny (model X.prog X.w) X.A (forIn ifs true fun c r => if r = true then do let ok ← isTrue c X.env (eval c X.env); pure (ForInStep.yield ok) else pure (ForInStep.yield r)) (TP X pins σ Q) X.xe s
def tYes : TT := fun _ H Q => Q true H
theorem pts_nil {X : Cx} : PTs X [] tYes := fun pins s σ H Q I h => wpAny_tests_nil ⟨H, I, h⟩
section
variable {prog : Program} {w : World} {A : Around} {R : Result → Shared → Prop} {s : Shared}
theorem compLoop_any {elt target iter : Expr} {ifs : List Expr} {scope : Scope} {pos : Pos} {it acc : Value} {env : Env} (I : Nat → Shared → Prop)
    (turn : ∀ n s, I n s → wpAny (model prog w) A (pyNext it) (fun r s₁ => match r with
      | none => R (.ok .next) s₁
      | some v => wpAny (model prog w) A (letOwnedTupleGo target it v) (fun _ s₁ => wpAny (model prog w) A (assign target env v) (fun _ s₂ =>
          wpAny (model prog w) A (forIn ifs true fun c r => if r = true then do let ok ← isTrue c env (eval c env); pure (ForInStep.yield ok) else pure (ForInStep.yield r)) (fun ok s₃ =>
            if ok = true then wpAny (model prog w) A (eval elt env) (fun x s₄ =>
              wpAny (model prog w) A (call (.builtin "list.append") [acc, x]) (fun _ s₅ => ∃ m, m < n ∧ I m s₅) (fun _ _ => False) s₄) (fun _ _ => False) s₃
            else ∃ m, m < n ∧ I m s₃) (fun _ _ => False) s₂) (fun _ _ => False) s₁) (fun _ _ => False) s₁) (fun _ _ => False) s)
    (n : Nat) (h : I n s) :
    codeAny (model prog w) A (.compLoop (.ListComp elt [⟨target, iter, ifs, 0⟩] scope pos) 0 it acc env) R s := by
  refine codeAny_loop rfl I (fun n s hI => ?_) n h
  show wpAny _ A ((compTurn (.ListComp elt [⟨target, iter, ifs, 0⟩] scope pos) 0 it acc env).onRaise (fun x => do noteFrame x env; theTreesLotGoes x)) _ _ s
  refine wpAny_noted ?_
  rw [compTurn_list]
  refine wpAny_bind (wpAny_standAt (wpAny_bind (wpAny_mono (turn n s hI) (fun r s₁ h₁ => ?_) fun _ _ h' => h'.elim)))
  cases r with
  | none => exact wpAny_pure h₁
  | some v =>
    refine wpAny_bind (wpAny_mono h₁ (fun _ s₁' h₁' => ?_) fun _ _ h' => h'.elim)
    refine wpAny_bind (wpAny_mono h₁' (fun _ s₂ h₂ => wpAny_bind (wpAny_mono h₂ (fun ok s₃ h₃ => ?_) fun _ _ h' => h'.elim)) fun _ _ h' => h'.elim)
    cases ok with
    | false => exact wpAny_pure ⟨rfl, h₃⟩
    | true =>
      exact wpAny_bind (wpAny_bind (wpAny_mono h₃ (fun x s₄ h₄ => wpAny_bind (wpAny_mono h₄ (fun _ s₅ h₅ => wpAny_pure (wpAny_pure ⟨rfl, h₅⟩)) fun _ _ h' => h'.elim)) fun _ _ h' => h'.elim))
end

/-- what a comprehension reads: D is the list that is filled -/
def tBlock (g : TG) (tt : TT) (te : TE) (J : It) (D : Addr) (σ0 : St) (H1 : Hp) (Q : VK) : Prop :=
  ∃ W : Nat → Nat → St → Hp → Prop, (∃ m, W 0 m σ0 (upd H1 D (.lst []))) ∧ ∀ i m σ' H2, W i m σ' H2 →
    (J.stop i H2 ∧ Q (.ref D) H2) ∨ (J.go i H2 ∧ ∀ x H3, J.yld i H2 x H3 → g x σ' H3 fun σ4 H4 => tt σ4 H4 fun b H5 =>
      if b = true then te σ4 H5 fun y H6 => ∃ vs, H6 D = some (.lst vs) ∧ vs.length < sizeLine ∧ ∃ m', m' < m ∧ W (i + 1) m' σ4 (upd H6 D (.lst (vs ++ [y])))
      else ∃ m', m' < m ∧ W (i + 1) m' σ4 H5)
def tComp (k : Nat) (fr : List (Str × Nat)) (wi : TI) (g : TG) (tt : TT) (te : TE) : TE := fun σ H Q => wi σ H fun J H1 => ∀ D, H1 D = none → tBlock g tt te J D (capS k fr σ) H1 Q

section
variable {X : Cx} {tg iter elt : Expr} {ifs : List Expr} {scope : Scope} {pos : Pos} {own : List Str} {fr : List (Str × Nat)} {wi : TI} {g : TG} {tt : TT} {te : TE}

/-- the comprehension's walk, whatever is done with the list behind it -/
theorem comp_run {pins : List (Addr × Obj)} {s2 : Shared} {σ : St} {H2 : Hp} {it : Addr} {fp : List Addr} {tn : Nat → Heap → Prop} {J : It} {Q : VK} {cl : List (Str × Addr)} {RR : Value → Addr → Result → Shared → Prop} {E : Value → Shared → Prop}
    (hc : X.calm = true) (B : BlScope X scope own fr)
    (hb : ∀ cl s H fp, PG (cxIn X (capN own fr) scope cl s H fp) tg g ∧ PTs (cxIn X (capN own fr) scope cl s H fp) ifs tt ∧ PE (cxIn X (capN own fr) scope cl s H fp) elt te)
    (hcl : ∀ x c, cl.lookup x = some c → X.env.cells.lookup x = some c) (hcl2 : ∀ y ∈ scope.names, y.2 = .free → ∃ c, cl.lookup y.1 = some c)
    (I2 : Inv X pins σ H2 s2) (T : Turn X.prog X.w X.K tg J fp it tn) (st2 : tn 0 s2.heap) (f2 : ∀ b ∈ fp, FpOk X pins H2 b) (q : ∀ D, H2 D = none → tBlock g tt te J D (capS own.length fr σ) H2 Q)
    (hRR : ∀ D C s' H', Inv X pins σ H' s' → Q (.ref D) H' → (∃ m, s'.heap.Ns C m) → C ≠ X.env.locals → (∀ x c, X.env.cells.lookup x = some c → c ≠ C) → (∀ p ∈ X.pn ++ pins, p.1 ≠ C) → X.s₀.heap.objs.size ≤ C → H' C = none → RR (.ref D) C (.ok .next) s') :
    wpAny (model X.prog X.w) X.A (newList []) (fun acc s₃ => wpAny (model X.prog X.w) X.A (newFunctionEnv scope X.env.globals cl [] X.env.qual none .none (some X.env)) (fun cenv s₄ =>
      codeAny (model X.prog X.w) X.A (.compStart (.ListComp elt [⟨tg, iter, ifs, 0⟩] scope pos) 0 (.ref it) acc { cenv with scope := relabel scope X.env }) (RR acc cenv.locals) s₄) E s₃) E s2 := by
  refine wpAny_newObj_type ?_
  have fr0 : H2 s2.heap.objs.size = none := I2.hok.fresh (Nat.le_refl _)
  have I3 := I2.lnew (its := []) (ys := []) (t' := s2.toks) .nil (Nat.zero_le _)
  generalize hs3 : ({ s2 with heap := s2.heap.push { cls := .type "list", data := .seq ([] : List Value).toArray } } : Shared) = s3 at *
  have k23 : ∀ b o, s2.heap.get? b = some o → s3.heap.get? b = some o := fun b o e => by rw [← hs3]; exact Heap.get?_push_of_some _ e
  have sz3 : s3.heap.objs.size = s2.heap.objs.size + 1 := by rw [← hs3]; exact Heap.size_push ..
  have I3' : Inv X pins σ (upd H2 s2.heap.objs.size (.lst [])) s3 := I3
  have fne : ∀ b ∈ fp, b ≠ s2.heap.objs.size := fun b hb z => by
    obtain ⟨o, ho, _⟩ := T.obj 0 _ st2 b hb
    exact absurd (Heap.lt_size ho) (by rw [z]; exact Nat.lt_irrefl _)
  have f3 : ∀ b ∈ fp, FpOk X pins (upd H2 s2.heap.objs.size (.lst [])) b := fun b hb => ⟨by rw [upd_ne (fne b hb)]; exact (f2 b hb).1, (f2 b hb).2⟩
  have st3 : tn 0 s3.heap := T.keep 0 _ _ st2 fun b _ o e => k23 b o e
  have hfo : ∀ b ∈ fp, ∃ o, s3.heap.get? b = some o := fun b hb => let ⟨o, ho, _⟩ := T.obj 0 _ st3 b hb; ⟨o, ho⟩
  refine newEnv_block fun h' hn hk hce => ?_
  have I4 := inv_block (own := own) I3' B hcl hcl2 f3 hfo hn hk hce
  obtain ⟨hg, ht, he⟩ := hb cl s3 (upd H2 s2.heap.objs.size (.lst [])) fp
  have st4 : tn 0 h' := T.keep 0 _ _ st3 fun b _ o e => hk b o e
  have stat : ∀ {H' : Hp}, (∀ b ∈ fp, H' b = none) → ∀ b ∈ fp, FpOk (cxIn X (capN own fr) scope cl s3 (upd H2 s2.heap.objs.size (.lst [])) fp) [] H' b := fun {H'} hnn b hb =>
    ⟨hnn b hb, (I4.ok.exf b hb).1, I4.ok.exfs b hb, .inl hb, (I4.ok.exf b hb).2, fun p hp => absurd (show p ∈ ([] : List (Addr × Obj)) from hp) (by simp)⟩
  obtain ⟨W, ⟨m0, w0⟩, turn⟩ := q s2.heap.objs.size fr0
  have loop : codeAny (model X.prog X.w) X.A (.compLoop (.ListComp elt [⟨tg, iter, ifs, 0⟩] scope pos) 0 (.ref it) (.ref s2.heap.objs.size) (cxIn X (capN own fr) scope cl s3 (upd H2 s2.heap.objs.size (.lst [])) fp).env)
      (RR (.ref s2.heap.objs.size) s3.heap.objs.size) { s3 with heap := h' } := by
    refine compLoop_any (fun n s' => ∃ i σ' H', Inv (cxIn X (capN own fr) scope cl s3 (upd H2 s2.heap.objs.size (.lst [])) fp) [] σ' H' s' ∧ tn i s'.heap ∧ (∀ b ∈ fp, H' b = none) ∧ W i n σ' H') ?_ m0
      ⟨0, _, _, I4, st4, fun b hb => (f3 b hb).1, w0⟩
    rintro n s5 ⟨i, σ5, H5, I5, st5, fr5, w5⟩
    rcases turn i n σ5 H5 w5 with ⟨stop, qn⟩ | ⟨go, step⟩
    · refine thn (T.done (cxIn X (capN own fr) scope cl s3 (upd H2 s2.heap.objs.size (.lst [])) fp) rfl rfl rfl hc i [] s5 σ5 H5 _ I5 (stat fr5) st5 stop) fun r s6 ⟨hr, I6⟩ => ?_
      subst hr
      have I7 : Inv X pins σ H5 s6 := I3'.call' (ch := fp) I6.os I6.base I6.hok I6.bare fun b hb => ⟨(f3 b hb).2.2.2.1, (f3 b hb).2.1, (f3 b hb).2.2.2.2.1, (f3 b hb).2.2.2.2.2⟩
      obtain ⟨m6, hn6, _⟩ := I6.loc
      refine hRR _ _ s6 H5 I7 qn ⟨m6, hn6⟩ (Nat.ne_of_gt I3'.lt) (fun x c e => ?_) (fun p hp => ?_) I3'.sz I6.free
      · obtain ⟨v, z⟩ := I3'.cell x c e
        exact Nat.ne_of_lt z.lt
      · exact Nat.ne_of_lt (Heap.lt_size (I3'.pin p hp).1)
    · refine thn (T.item (cxIn X (capN own fr) scope cl s3 (upd H2 s2.heap.objs.size (.lst [])) fp) rfl rfl rfl hc i [] s5 σ5 H5 _ I5 (stat fr5) st5 go) fun r s6 ⟨u, hr, h6⟩ => ?_
      subst hr
      refine thn h6 fun _ s7 ⟨x, H7, I7, r7, y7, st7, fr7⟩ => ?_
      have I7' := I7.pinned (stat fr7) (T.obj _ _ st7)
      refine thn (hg _ s7 σ5 H7 x u _ I7' r7 (step x H7 y7)) fun _ s8 ⟨σ8, H8, I8, q8⟩ => ?_
      refine thn (ht _ s8 σ8 H8 _ I8 q8) fun b s9 ⟨H9, I9, q9⟩ => ?_
      have again : ∀ {sA : Shared} {σA : St} {HA : Hp} {m' : Nat}, Inv (cxIn X (capN own fr) scope cl s3 (upd H2 s2.heap.objs.size (.lst [])) fp) ([] ++ pinsAt fp s7.heap) σA HA sA → m' < n → W (i + 1) m' σA HA →
          ∃ m, m < n ∧ ∃ i σ' H', Inv (cxIn X (capN own fr) scope cl s3 (upd H2 s2.heap.objs.size (.lst [])) fp) [] σ' H' sA ∧ tn i sA.heap ∧ (∀ b ∈ fp, H' b = none) ∧ W i m σ' H' := fun {sA σA HA m'} IA hm wA => by
        refine ⟨m', hm, i + 1, σA, HA, IA.unpinned, T.keep _ _ _ st7 fun b hb o e => (IA.pin (b, o) (List.mem_append_right _ (List.mem_append_right _ (mem_pinsAt hb e)))).1, fun b hb => ?_, wA⟩
        obtain ⟨o, e, d⟩ := T.obj _ _ st7 b hb
        exact (IA.pin (b, o) (List.mem_append_right _ (List.mem_append_right _ (mem_pinsAt hb e)))).2.1
      cases b with
      | false =>
        obtain ⟨m', hm, w9⟩ := q9
        exact again I9 hm w9
      | true =>
        have q9 : te σ8 H9 _ := q9
        show wpAny _ _ _ _ _ _
        refine thn (he _ s9 σ8 H9 _ I9 q9) fun y sA ⟨vy, HA, IA, rA, vs, hvs, hlen, m', hm, wA⟩ => ?_
        refine thn (mt_append (X := cxIn X (capN own fr) scope cl s3 (upd H2 s2.heap.objs.size (.lst [])) fp) _ sA σ8 HA (.ref s2.heap.objs.size) [vy] (.ref s2.heap.objs.size) [y] (fun _ HB => W (i + 1) m' σ8 HB) IA rfl (.cons rA .nil) ⟨_, vs, vy, rfl, rfl, hvs, hlen, wA⟩) fun _ sB ⟨_, HB, IB, _, wB⟩ => ?_
        exact again IB hm wB
  exact codeAny_compStart_list loop (T.self _ 0 _ _ _ st4 loop)

theorem SameBut.get {a : Addr} {h h' : Heap} (x : Heap.SameBut a h h') : ∀ b o, b ≠ a → h.get? b = some o → h'.get? b = some o := fun b o n e => (x.2 b n).trans e
/-- [elt for tg in iter if ..] -/
theorem pe_comp (hc : X.calm = true) (B : BlScope X scope own fr) (hi : PI X tg iter wi)
    (hb : ∀ cl s H fp, PG (cxIn X (capN own fr) scope cl s H fp) tg g ∧ PTs (cxIn X (capN own fr) scope cl s H fp) ifs tt ∧ PE (cxIn X (capN own fr) scope cl s H fp) elt te)
    (hs : ∀ x, foldedSetIterable iter X.env x = pure x := by intro _; rfl) :
    PE X (.ListComp elt [⟨tg, iter, ifs, 0⟩] scope pos) (tComp own.length fr wi g tt te) := by
  intro pins s σ H Q I h
  obtain ⟨cl, hclos, hcl, hcl2⟩ := clos_ok (scope := scope) (env := X.env) fun y hy hf => I.ok.has y.1 (B.free y hy hf)
  rw [eval_ListComp]
  refine wpAny_comprehension_free (use := none) rfl hs hclos B.kind B.loc (thn (hi pins s σ H _ I h) fun v s1 h1 => thn h1 fun itv s2 h2 => ?_)
  obtain ⟨it, fp, tn, J, H2, e, I2, T, st2, f2, q⟩ := h2
  subst e
  refine comp_run (RR := fun acc C => compPost (model X.prog X.w) X.A X.xe none (EP X pins σ Q) acc C) (Q := Q) hc B hb hcl hcl2 I2 T st2 f2 q ?_
  intro D C s' H' I' hq hn n1 n2 n3 n4 n5
  obtain ⟨m, hn⟩ := hn
  refine ⟨m, hn, fun h' hs' => ⟨.ref D, H', I'.turned (it := C) (t' := s'.toks) (fun b o hb e => SameBut.get hs' b o hb e) n5 (Ne.symm (Ne.symm n1)) (.inr n4) n2 n3, rfl, hq⟩⟩
/-- name = [elt for tg in iter if ..], stored ahead of the block's names' end -/
theorem ps_comp {i : Nat} {x : Str} {pos' spos : Pos} (hc : X.calm = true) (B : BlScope X scope own fr) (hi : PI X tg iter wi)
    (hb : ∀ cl s H fp, PG (cxIn X (capN own fr) scope cl s H fp) tg g ∧ PTs (cxIn X (capN own fr) scope cl s H fp) ifs tt ∧ PE (cxIn X (capN own fr) scope cl s H fp) elt te)
    (hN : X.N.Nodup) (hix : X.N[i]? = some x) (hx : X.env.scope.names.lookup x = some .local)
    (hsw : swapsWith (.ListComp elt [⟨tg, iter, ifs, 0⟩] scope pos) (some (.Name x pos')) spos.line X.env = pure true)
    (hs : ∀ x, foldedSetIterable iter X.env x = pure x := by intro _; rfl) :
    PS X (.Assign [.Name x pos'] (.ListComp elt [⟨tg, iter, ifs, 0⟩] scope pos) spos) (tAsg (tComp own.length fr wi g tt te) (gName i)) := by
  intro pins s σ H D I h
  obtain ⟨cl, hclos, hcl, hcl2⟩ := clos_ok (scope := scope) (env := X.env) fun y hy hf => I.ok.has y.1 (B.free y hy hf)
  rw [exec_Assign_Name_used _ _ _ _ hsw]
  refine wpAny_bind (wpAny_standAt (wpAny_bind ?_))
  show wpAny _ _ (do let _ ← comprehension (.ListComp elt [⟨tg, iter, ifs, 0⟩] scope pos) scope X.env _ (newList []) false (eval iter X.env) (some (assign (.Name x pos') X.env))) _ _ s
  refine wpAny_bind (wpAny_mono (wpAny_comprehension_free (use := some (assign (.Name x pos') X.env)) (Q := fun _ s' => SP X pins D .next s') rfl hs hclos B.kind B.loc (thn (hi pins s σ H _ I h) fun v s1 h1 => thn h1 fun itv s2 h2 => ?_))
    (fun _ s' hq => wpAny_pure (wpAny_pure hq)) fun _ _ e => e)
  obtain ⟨it, fp, tn, J, H2, e, I2, T, st2, f2, q⟩ := h2
  subst e
  refine comp_run (RR := fun acc C => compPost (model X.prog X.w) X.A X.xe (some (assign (.Name x pos') X.env)) (fun _ s' => SP X pins D .next s') acc C) (Q := fun v H' => gName i v σ H' D.nx) hc B hb hcl hcl2 I2 T st2 f2 q ?_
  intro DD C s' H' I' hq hn n1 n2 n3 n4 n5
  obtain ⟨m, hn⟩ := hn
  show wpAny _ _ (assign (.Name x pos') X.env (.ref DD)) _ _ s'
  refine wpAny_assign_Name (store_ok2 I' hN hix (.inl hx) (v := .ref DD) rfl (fun s3 I3 ⟨a, hsa, ha⟩ => ?_) (.inr hx))
  have hCa : C ≠ a := by
    rcases ha with z | z
    · rw [z]; exact n1
    · exact (n2 x a z).symm
  refine ⟨m, hn.sameBut hsa hCa, fun h' hs' => ⟨σ.set i (some (.ref DD)), H', I3.turned (it := C) (t' := s3.toks) (fun b o hb e => SameBut.get hs' b o hb e) n5 n1 (.inr n4) n2 n3, hq⟩⟩
end
end L2

namespace L2
open PySem PySem.Spec PyProof.Rows
section
variable {X : Cx}
theorem op_mulG : OpR X (binaryOp .Mult) (rI IntMulOk fun i j => .int (i * j)) :=
  opI fun i j t u s Q E c h => PyProof.Rows.mul_int h c

/-! ### isinstance -/
def cV : V → Option Value
  | .ty n => some (.type n)
  | .ref a => some (.ref a)
  | _ => none
theorem call_isinst : CallR X (.builtin "isinstance") (fun xs H Q => ∃ x y c t b, xs = [x, y] ∧ cV y = some c ∧ TyOf X.K H x t ∧ PySem.W.kitOne X.K t c = some b ∧ Q (.bl b) H) := by
  intro pins s σ H xs us Q I r h
  obtain ⟨x, y, c, t, b, rfl, hc, ty, e, q⟩ := h
  obtain ⟨u, v, rfl, rx, ry⟩ := vals2 r
  have hv : v = c := by
    cases y <;> first | (cases hc; done) | (cases hc; cases ry; rfl)
  subst hv
  exact isinst_ok I rx ty e fun tk => ⟨.bl b, H, I.tok _, rfl, q⟩

/-! ### all, any of a list of bools -/
theorem all_range (bs : List Bool) : (List.range bs.length).all (fun i => (bs[i]?).getD true) = bs.all id := by
  rw [Bool.eq_iff_iff, List.all_eq_true, List.all_eq_true]
  constructor
  · intro h b hb
    obtain ⟨i, hi, rfl⟩ := List.mem_iff_getElem.mp hb
    have := h i (List.mem_range.mpr hi)
    rw [List.getElem?_eq_getElem hi] at this
    exact this
  · intro h i hi
    have hi := List.mem_range.mp hi
    rw [List.getElem?_eq_getElem hi]
    exact h _ (List.getElem_mem hi)
theorem bools_truth {A : Around} {prog : Program} {w : World} {bs : List Bool} {its : List Value} (r : Vals (bs.map V.bl) its) : TruthOf prog w A (fun i v => its.toArray[i]? = some v) (fun i => (bs[i]?).getD true) := by
  intro i v s Q E hP hQ
  have hP : its[i]? = some v := by simpa using hP
  have hl := r.length
  rw [List.length_map] at hl
  have hi : i < bs.length := by rw [hl]; exact (List.getElem?_eq_some_iff.mp hP).1
  obtain ⟨u, hu, rv⟩ := r.get (i := i) (x := .bl bs[i]) (by rw [List.getElem?_map, List.getElem?_eq_getElem hi]; rfl)
  rw [hP] at hu
  cases hu
  cases rv
  have hQ : Q ((bs[i]?).getD true) s := hQ
  rw [List.getElem?_eq_getElem hi] at hQ
  exact wpAny_truthy_bool hQ
theorem call_all (hc : X.calm = true) : CallR X (.builtin "all") (fun xs H Q => ∃ (p : Addr) (bs : List Bool), xs = [.ref p] ∧ SqL X.K H p (bs.map V.bl) ∧ Q (.bl (bs.all id)) H) := by
  intro pins s σ H xs us Q I r h
  obtain ⟨p, bs, rfl, hq, q⟩ := h
  obtain ⟨u, rfl, rx⟩ := vals1 r
  cases rx
  obtain ⟨its, rv, pl, hz⟩ := I.list hq
  have hl := rv.length
  rw [List.length_map] at hl
  refine call_all_walk (wpAny_pyIter_list pl.isList ?_)
  have hne : p ≠ s.heap.objs.size := fun e => by
    obtain ⟨o, n, ho, _⟩ := pl
    exact absurd (Heap.lt_size ho) (by rw [e]; exact Nat.lt_irrefl _)
  refine ⟨s.heap.objs.size, _, _, _, _, _, fun i => (bs[i]?).getD true, rfl, Walks.list (A := X.A.in1) (I.ok.hd hc) _ p hne its.toArray, ⟨⟨_, Heap.get?_push_size _ rfl, rfl, rfl⟩, pl.isList.at fun o e => Heap.get?_push_of_some _ e⟩, bools_truth rv, fun h' tk kp => ?_⟩
  have e : (List.range its.toArray.size).all (fun i => (bs[i]?).getD true) = bs.all id := by
    rw [List.size_toArray, ← hl]; exact all_range bs
  rw [e]
  have f := I.fpOk (H' := H) (Nat.le_refl s.heap.objs.size) (I.hok.fresh (Nat.le_refl _))
  exact ⟨.bl _, H, (I.kept (h' := s.heap.push { cls := .type "list_iterator", data := .fields #[.ref p, .int 0 0] }) (t' := s.toks) fun b o e => Heap.get?_push_of_some _ e).turned (it := s.heap.objs.size) (t' := tk) (fun b o hb e => kp b o (by simpa using hb) e) f.1 f.2.1 f.2.2.2.1 f.2.2.2.2.1 f.2.2.2.2.2, rfl, q⟩
/-! ### range objects, list(range(..)) -/
theorem call_rng1 : CallR X (.type "range") (fun xs H Q => ∃ j, xs = [.int j] ∧ ∀ p, H p = none → Q (.ref p) (upd H p (.rng 0 j))) := by
  intro pins s σ H xs us Q I r h
  obtain ⟨j, rfl, q⟩ := h
  obtain ⟨u, rfl, t, rfl⟩ := vals1 r
  refine call_range_1 ⟨.ref s.heap.objs.size, _, I.laid (a := s.heap.objs.size) (o := .rng 0 j) (fun b o e => Heap.get?_push_of_some _ e) (Nat.le_refl _) ?_, rfl, q _ (I.hok.fresh (Nat.le_refl _))⟩
  exact ⟨_, _, _, Heap.get?_push_size _ rfl⟩
def rngV (lo hi : Int) : List V := (List.range (hi - lo).toNat).map fun i => V.int (lo + (i : Nat))
theorem call_list_rng (hc : X.calm = true) : CallR X (.type "list") (fun xs H Q => ∃ p lo hi, xs = [.ref p] ∧ H p = some (.rng lo hi) ∧ (-(2 ^ 62) ≤ lo ∧ lo < 2 ^ 62 ∧ -(2 ^ 62) ≤ hi ∧ hi < 2 ^ 62) ∧ (hi - lo).toNat ≤ 2 ^ 24 ∧
    ∀ l, H l = none → Q (.ref l) (upd H l (.lst (rngV lo hi)))) := by
  intro pins s σ H xs us Q I r h
  obtain ⟨p, lo, hi, rfl, hp, ⟨h1, h2, h3, h4⟩, hz, q⟩ := h
  obtain ⟨u, rfl, rx⟩ := vals1 r
  cases rx
  obtain ⟨t, u, v, ho⟩ := (show ObjOk X.prog X.w H s.heap p (.rng lo hi) from I.hok p _ hp)
  have hn : Builtin.Range.rangeSize lo hi 1 = (((hi - lo).toNat : Nat) : Int) := by rw [rangeSize_one]; split <;> omega
  refine call_list_range (I.ok.hd hc) (show IsRange s.heap p lo hi 1 t u v from ho) (small_one h1 h2 h3 h4) hn hz fun h' tk acc' c' kp e it => ?_
  refine ⟨.ref s.heap.objs.size, _, I.laid (a := s.heap.objs.size) (o := .lst (rngV lo hi)) (t' := tk) kp (Nat.le_refl _) ?_, rfl, q _ (I.hok.fresh (Nat.le_refl _))⟩
  refine ⟨by unfold rngV; rw [List.length_map, List.length_range]; exact hz, acc'.toList, c', ?_, by simpa using e⟩
  have hlen : acc'.toList.length = (hi - lo).toNat := by rw [Array.length_toList]; exact it.1
  have gen : ∀ (n : Nat) (k : Nat) (us : List Value), us.length = n → (∀ (i : Nat) w', us[i]? = some w' → ∃ t, w' = Value.int (lo + ((k + i : Nat) : Int)) t) → Vals ((List.range' k n).map fun (i : Nat) => V.int (lo + (i : Nat))) us := by
    intro n
    induction n with
    | zero => intro k us hl _; cases us with | nil => exact .nil | cons _ _ => cases hl
    | succ n ih =>
      intro k us hl hv
      cases us with
      | nil => cases hl
      | cons x us =>
        refine .cons ?_ (ih (k + 1) us (by simpa using hl) fun i w' e => ?_)
        · obtain ⟨t, e⟩ := hv 0 x rfl
          exact ⟨t, by simpa using e⟩
        · obtain ⟨t, e'⟩ := hv (i + 1) w' (by simpa using e)
          exact ⟨t, by rw [e', show ((k + (i + 1) : Nat) : Int) = ((k + 1 + i : Nat) : Int) by omega]⟩
  unfold rngV
  rw [List.range_eq_range']
  refine gen _ 0 _ hlen fun i w' e' => ?_
  obtain ⟨t, e2⟩ := it.2 i w' (by simpa using e')
  exact ⟨t, by rw [e2]; congr 1 <;> simp⟩
end

/-! ### == at any depth -/
inductive EqD (K : PySem.W.Frag) (H : Hp) : Nat → V → V → Bool → Prop where
  | flat {n : Nat} {x y : V} (hx : flatV x = true) (hy : flatV y = true) : EqD K H n x y (eqV x y)
  | same {n : Nat} {a : Addr} : EqD K H n (.ref a) (.ref a) true
  | list {n : Nat} {a c : Addr} {xs ys : List V} {bs : List Bool} (ne : a ≠ c) (ha : SqL K H a xs) (hc : SqL K H c ys) (hl : xs.length = ys.length) (hb : bs.length = xs.length)
      (he : ∀ (j : Nat) x y b, xs[j]? = some x → ys[j]? = some y → bs[j]? = some b → EqD K H n x y b) : EqD K H (n + 1) (.ref a) (.ref c) (bs.all id)
  | listL {n : Nat} {a c : Addr} {xs ys : List V} (ne : a ≠ c) (ha : SqL K H a xs) (hc : SqL K H c ys) (hl : xs.length ≠ ys.length) : EqD K H (n + 1) (.ref a) (.ref c) false
  | tuple {n : Nat} {a c : Addr} {xs ys : List V} {bs : List Bool} (ne : a ≠ c) (ha : SqT K H a xs) (hc : SqT K H c ys) (hl : xs.length = ys.length) (hb : bs.length = xs.length)
      (he : ∀ (j : Nat) x y b, xs[j]? = some x → ys[j]? = some y → bs[j]? = some b → EqD K H n x y b) : EqD K H (n + 1) (.ref a) (.ref c) (bs.all id)
/-- item by item -/
def ItemsEq (K : PySem.W.Frag) (H : Hp) (n : Nat) (xs ys : List V) (bs : List Bool) : Prop :=
  xs.length = ys.length ∧ bs.length = xs.length ∧ ∀ (j : Nat) x y b, xs[j]? = some x → ys[j]? = some y → bs[j]? = some b → EqD K H n x y b
section
variable {X : Cx} {pins : List (Addr × Obj)} {σ : St} {H : Hp} {s : Shared}
theorem items_at {A : Around} {xs ys : List V} {us vs : List Value} {bs : List Bool} (rx : Vals xs us) (ry : Vals ys vs) (hl : xs.length = ys.length) (hb : bs.length = xs.length)
    (ih : ∀ (j : Nat) x y b, xs[j]? = some x → ys[j]? = some y → bs[j]? = some b → ∀ u v, RelV x u → RelV y v → SeqAt.EqAt A s u v b) :
    ∀ j (h1 : j < us.toArray.size) (h2 : j < vs.toArray.size), SeqAt.EqAt A s us.toArray[j] vs.toArray[j] ((bs[j]?).getD true) := by
  intro j h1 h2
  have e1 := rx.length
  have e2 := ry.length
  have h1' : j < us.length := by simpa using h1
  have h2' : j < vs.length := by simpa using h2
  have g1 : xs[j]? = some (xs[j]'(by omega)) := List.getElem?_eq_getElem _
  have g2 : ys[j]? = some (ys[j]'(by omega)) := List.getElem?_eq_getElem _
  have g3 : bs[j]? = some (bs[j]'(by omega)) := List.getElem?_eq_getElem _
  obtain ⟨u, hu, ru⟩ := rx.get g1
  obtain ⟨v, hv, rv⟩ := ry.get g2
  have eu : us.toArray[j] = u := by
    rw [List.getElem?_eq_getElem h1'] at hu; simpa using hu
  have ev : vs.toArray[j] = v := by
    rw [List.getElem?_eq_getElem h2'] at hv; simpa using hv
  rw [eu, ev, g3]
  exact ih j _ _ _ g1 g2 g3 u v ru rv
theorem EqD.at {n : Nat} {x y : V} {b : Bool} (I : Inv X pins σ H s) (e : EqD X.K H n x y b) : ∀ {A : Around} {u v : Value}, A.units + n < cLine → RelV x u → RelV y v → SeqAt.EqAt A s u v b := by
  induction e with
  | flat hx hy => intro A u v _ ru rv; exact eqAt_V ru rv hx hy
  | same => intro A u v _ ru rv; cases ru; cases rv; exact SeqAt.EqAt.same _
  | @list n a c xs ys bs ne ha hc hl hb he ih =>
    intro A u v hA ru rv
    cases ru
    cases rv
    obtain ⟨its, r1, p1, _⟩ := I.list ha
    obtain ⟨its', r2, p2, _⟩ := I.list hc
    have e1 := r1.length
    have e2 := r2.length
    have q := SeqAt.RcAt.lists (e := fun j => (bs[j]?).getD true) p1.isList p2.isList (by simp; omega) (by omega) (items_at (A := A.in1) r1 r2 hl hb fun j x y b h1 h2 h3 u v ru rv => ih j x y b h1 h2 h3 (show A.units + 1 + n < cLine by omega) ru rv)
    rw [show its.toArray.size = bs.length by simp; omega, all_range] at q
    exact SeqAt.EqAt.of_refs ne q
  | @listL n a c xs ys ne ha hc hl =>
    intro A u v hA ru rv
    cases ru
    cases rv
    obtain ⟨its, r1, p1, _⟩ := I.list ha
    obtain ⟨its', r2, p2, _⟩ := I.list hc
    have e1 := r1.length
    have e2 := r2.length
    exact SeqAt.EqAt.of_refs ne (SeqAt.RcAt.lists_lengths p1.isList p2.isList (by simp; omega) (by omega))
  | @tuple n a c xs ys bs ne ha hc hl hb he ih =>
    intro A u v hA ru rv
    cases ru
    cases rv
    obtain ⟨its, r1, p1, _⟩ := I.tuple ha
    obtain ⟨its', r2, p2, _⟩ := I.tuple hc
    have e1 := r1.length
    have e2 := r2.length
    have q := SeqAt.RcAt.tuples (e := fun j => (bs[j]?).getD true) p1 p2 (by omega) (items_at (A := A.in1) r1 r2 hl hb fun j x y b h1 h2 h3 u v ru rv => ih j x y b h1 h2 h3 (show A.units + 1 + n < cLine by omega) ru rv)
    rw [show min its.toArray.size its'.toArray.size = bs.length by simp; omega, all_range, show (its.toArray.size == its'.toArray.size) = true by simp; omega, Bool.and_true] at q
    exact SeqAt.EqAt.of_refs ne q
def rEqL (K : PySem.W.Frag) (neg : Bool) : R2 := fun x y H Q => ∃ a c xs ys, x = .ref a ∧ y = .ref c ∧ SqL K H a xs ∧ SqL K H c ys ∧
  ((xs.length ≠ ys.length ∧ Q (.bl neg) H) ∨ ∃ bs, ItemsEq K H 6 xs ys bs ∧ Q (.bl (if neg then !bs.all id else bs.all id)) H)
def rEqT (K : PySem.W.Frag) (neg : Bool) : R2 := fun x y H Q => ∃ a c xs ys bs, x = .ref a ∧ y = .ref c ∧ SqT K H a xs ∧ SqT K H c ys ∧ ItemsEq K H 6 xs ys bs ∧ Q (.bl (if neg then !bs.all id else bs.all id)) H
theorem op_eqL (hu : X.A.units + 8 < cLine) : OpR X (compareOp .Eq) (rEqL X.K false) := by
  intro pins s σ H x y v u Q I rx ry h
  obtain ⟨a, c, xs, ys, rfl, rfl, ha, hc, h⟩ := h
  cases rx
  cases ry
  obtain ⟨its, r1, p1, _⟩ := I.list ha
  obtain ⟨its', r2, p2, _⟩ := I.list hc
  have e1 := r1.length
  have e2 := r2.length
  rcases h with ⟨hne, q⟩ | ⟨bs, ⟨hl, hb, he⟩, q⟩
  · exact SeqAt.eq_list_lengthsAt p1.isList p2.isList (by simp; omega) (by omega) ⟨.bl false, H, I, rfl, q⟩
  · refine SeqAt.eq_listAt (e := fun j => (bs[j]?).getD true) p1.isList p2.isList (by simp; omega) (by omega) (items_at (A := X.A.in1) r1 r2 hl hb fun j x y b h1 h2 h3 u v ru rv => (he j x y b h1 h2 h3).at I (show X.A.units + 1 + 6 < cLine by omega) ru rv) ?_
    rw [show its.toArray.size = bs.length by simp; omega, all_range]
    exact ⟨.bl (bs.all id), H, I, rfl, q⟩
theorem op_neL (hu : X.A.units + 8 < cLine) : OpR X (compareOp .NotEq) (rEqL X.K true) := by
  intro pins s σ H x y v u Q I rx ry h
  obtain ⟨a, c, xs, ys, rfl, rfl, ha, hc, h⟩ := h
  cases rx
  cases ry
  obtain ⟨its, r1, p1, _⟩ := I.list ha
  obtain ⟨its', r2, p2, _⟩ := I.list hc
  have e1 := r1.length
  have e2 := r2.length
  rcases h with ⟨hne, q⟩ | ⟨bs, ⟨hl, hb, he⟩, q⟩
  · exact SeqAt.RcNeAt.lists_lengths p1.isList p2.isList (by simp; omega) (by omega) _ _ _ _ ⟨.bl true, H, I, rfl, q⟩
  · refine SeqAt.RcNeAt.lists (e := fun j => (bs[j]?).getD true) p1.isList p2.isList (by simp; omega) (by omega) (items_at (A := X.A.in1) r1 r2 hl hb fun j x y b h1 h2 h3 u v ru rv => (he j x y b h1 h2 h3).at I (show X.A.units + 1 + 6 < cLine by omega) ru rv) _ _ _ _ ?_
    rw [show its.toArray.size = bs.length by simp; omega, all_range]
    exact ⟨.bl (!bs.all id), H, I, rfl, q⟩
end
theorem k_int_int (K : PySem.W.Frag) : PySem.W.kitOne K (.type "int") (.type "int") = some true := by rfl
theorem k_int_bool (K : PySem.W.Frag) : PySem.W.kitOne K (.type "int") (.type "bool") = some false := by kernel_rfl
theorem k_bool_bool (K : PySem.W.Frag) : PySem.W.kitOne K (.type "bool") (.type "bool") = some true := by rfl
theorem k_bool_int (K : PySem.W.Frag) : PySem.W.kitOne K (.type "bool") (.type "int") = some true := by kernel_rfl
theorem k_tup_tup (K : PySem.W.Frag) : PySem.W.kitOne K (.type "tuple") (.type "tuple") = some true := by rfl
theorem k_list_list (K : PySem.W.Frag) : PySem.W.kitOne K (.type "list") (.type "list") = some true := by rfl
end L2

namespace L2
open PySem PySem.Spec PyProof.Rows

/-! ### a def of the module as its callers see it -/
structure Cal (P : Program) (w : World) (K : PySem.W.Frag) (mg : Str → Option Value) (base : Heap) (x : Str) (k : Nat) (sp : Sp) : Prop where
  ex : ∃ (f : Addr) (fd : FuncData) (ps : List Str), FnOk P w K mg base CX0 k f fd ps sp ∧ mg x = some (.ref f) ∧ PySem.W.keepIn K (.ref f) = true ∧ Binds K fd ps []
theorem pe_cal {X : Cx} {x : Str} {k : Nat} {sp : Sp} {e : Expr} {es : List Expr} {t : TA} {p pos : Pos} (C : Cal X.prog X.w X.K X.mg X.base x k sp) (hr : Room k X.A) (hg : Gl X x) (ha : PA X (e :: es) t)
    (hdb : (x == ("__debug__" : Str)) = false := by decide) (he : starEach (e :: es) X.env = (false, eval e X.env) :: starEach es X.env := by rfl) (hpl : (backTo pos (starEach es X.env)).any (·.1) = false := by rfl) :
    PE X (.Call (.Name x p) (e :: es) [] pos) (tCall sp [] E0 t) := by
  obtain ⟨f, fd, ps, F, hm, hk, hb⟩ := C.ex
  exact pe_call F hr hg hm hk hb .nil pass0 ha hdb he hpl
/-- a method -/
structure CalM (P : Program) (w : World) (K : PySem.W.Frag) (mg : Str → Option Value) (base : Heap) (C : Addr) (m : Str) (k : Nat) (sp : Sp) : Prop where
  ex : ∃ (f : Addr) (fd : FuncData) (ps : List Str), FnOk P w K mg base CX0 k f fd ps sp ∧ Meth K C m f ∧ Binds K fd ps []
/-- a class and its __init__ -/
structure CalI (P : Program) (w : World) (K : PySem.W.Frag) (mg : Str → Option Value) (base : Heap) (x : Str) (C : Addr) (k : Nat) (sp : Sp) : Prop where
  ex : ∃ (f : Addr) (fd : FuncData) (ps : List Str), FnOk P w K mg base CX0 k f fd ps sp ∧ Mk K C f ∧ mg x = some (.ref C) ∧ Binds K fd ps []
/-! ### a block's scope, by reckoning -/
def blOk (outer : List (Str × NameKind)) (N : List Str) (scope : Scope) (fr : List (Str × Nat)) : Bool :=
  scope.kind == .function && scope.names.all (fun y => y.2 != .free || outer.lookup y.1 == some .cell || outer.lookup y.1 == some .free) && scope.names.all (fun y => scope.names.lookup y.1 == some y.2) &&
  fr.all fun y => scope.names.lookup y.1 == some .free && N[y.2]? == some y.1
theorem bl_of {X : Cx} {scope : Scope} {own : List Str} {fr : List (Str × Nat)} (h : blOk X.env.scope.names X.N scope fr = true) : BlScope X scope own fr := by
  unfold blOk at h
  simp only [Bool.and_eq_true, List.all_eq_true] at h
  obtain ⟨⟨⟨h1, h2⟩, h3⟩, h4⟩ := h
  refine ⟨?_, fun y hy hf => ?_, fun y hy hl => ?_, fun y hy => ?_, fun y hy => ?_⟩
  · cases e : scope.kind <;> rw [e] at h1 <;> first | rfl | (exact absurd h1 (by decide))
  · have := h2 y hy
    rw [hf] at this
    simp only [Bool.or_eq_true, beq_iff_eq] at this
    rcases this with (q | q) | q
    · exact absurd q (by decide)
    · exact .inl q
    · exact .inr q
  · have := h3 y hy
    rw [hl] at this
    exact beq_iff_eq.mp this
  · exact beq_iff_eq.mp (h3 y hy)
  · have := h4 y hy
    exact ⟨beq_iff_eq.mp this.1, beq_iff_eq.mp this.2⟩

/-! ### comprehensions by an invariant -/
def Sh (k : Nat) (cap σ : St) : Prop := ∃ o, o.length = k ∧ σ = o ++ cap
theorem Sh.mk1 {cap : St} {a : Option V} : Sh 1 cap (a :: cap) := ⟨[a], rfl, rfl⟩
theorem Sh.one {cap σ : St} (h : Sh 1 cap σ) : ∃ a, σ = a :: cap := by
  obtain ⟨o, h1, rfl⟩ := h
  match o, h1 with
  | [a], _ => exact ⟨a, rfl⟩
theorem Sh.two {cap σ : St} (h : Sh 2 cap σ) : ∃ a b, σ = a :: b :: cap := by
  obtain ⟨o, h1, rfl⟩ := h
  match o, h1 with
  | [a, b], _ => exact ⟨a, b, rfl⟩
def capOf (fr : List (Str × Nat)) (σ : St) : St := fr.map fun y => (σ[y.2]?).getD none
/-- the invariant of a comprehension -/
def Wv (n k : Nat) (cap : St) (Pv : Nat → List V → Hp → Prop) : Nat → Nat → St → Hp → Prop := fun i m σ H => m = n - i ∧ i ≤ n ∧ Sh k cap σ ∧ ∃ vs, Pv i vs H
/-- what a turn's end wants: an item laid on; nothing laid on -/
def Lf (D : Addr) (n k : Nat) (cap : St) (Pv : Nat → List V → Hp → Prop) (i : Nat) (σ4 : St) (y : V) (H6 : Hp) : Prop :=
  ∃ vs, H6 D = some (.lst vs) ∧ vs.length < sizeLine ∧ ∃ m', m' < n - i ∧ Wv n k cap Pv (i + 1) m' σ4 (upd H6 D (.lst (vs ++ [y])))
def Lf0 (n k : Nat) (cap : St) (Pv : Nat → List V → Hp → Prop) (i : Nat) (σ4 : St) (H5 : Hp) : Prop := ∃ m', m' < n - i ∧ Wv n k cap Pv (i + 1) m' σ4 H5
theorem leaf {D : Addr} {n k : Nat} {cap : St} {Pv : Nat → List V → Hp → Prop} {i : Nat} {σ4 : St} {y : V} {H6 : Hp} {vs ws : List V} (hi : i < n) (sh : Sh k cap σ4) (hD : H6 D = some (.lst vs)) (hl : vs.length < sizeLine)
    (p : Pv (i + 1) ws (upd H6 D (.lst (vs ++ [y])))) : Lf D n k cap Pv i σ4 y H6 := ⟨vs, hD, hl, n - (i + 1), by omega, rfl, hi, sh, ws, p⟩
/-- one turn -/
def tTurn (g : TG) (tt : TT) (te : TE) (D : Addr) (n k : Nat) (cap : St) (Pv : Nat → List V → Hp → Prop) (i : Nat) (x : V) (σ' : St) (H : Hp) : Prop :=
  g x σ' H fun σ4 H4 => tt σ4 H4 fun b H5 => if b = true then te σ4 H5 fun y H6 => Lf D n k cap Pv i σ4 y H6 else Lf0 n k cap Pv i σ4 H5
section
variable {K : PySem.W.Frag} {a D : Addr} {xs : List V} {g : TG} {tt : TT} {te : TE} {k : Nat} {fr : List (Str × Nat)} {σ : St} {H1 : Hp} {Q : VK}
theorem sh0 : Sh k (capOf fr σ) (capS k fr σ) := ⟨List.replicate k none, List.length_replicate, rfl⟩
theorem comp_any {J : It} {n : Nat} (it : Nat → V → Prop) (Pv : Nat → List V → Hp → Prop) (h0 : Pv 0 [] (upd H1 D (.lst [])))
    (go : ∀ i vs H, i < n → Pv i vs H → J.go i H ∧ ∀ x H', J.yld i H x H' → H' = H ∧ it i x) (stop : ∀ vs H, Pv n vs H → J.stop n H)
    (hs : ∀ i x vs σ' H, i < n → it i x → Sh k (capOf fr σ) σ' → Pv i vs H → tTurn g tt te D n k (capOf fr σ) Pv i x σ' H) (hd : ∀ vs H, Pv n vs H → Q (.ref D) H) : tBlock g tt te J D (capS k fr σ) H1 Q := by
  refine ⟨Wv n k (capOf fr σ) Pv, ⟨n, by simp, Nat.zero_le _, sh0, [], h0⟩, ?_⟩
  rintro i m σ' H2 ⟨rfl, hi, sh, vs, p⟩
  by_cases hlt : i < n
  · obtain ⟨g1, g2⟩ := go i vs H2 hlt p
    refine .inr ⟨g1, fun x H3 y => ?_⟩
    obtain ⟨rfl, hx⟩ := g2 x H3 y
    exact hs i x vs σ' _ hlt hx sh p
  · have e : i = n := by omega
    subst e
    exact .inl ⟨stop vs H2 p, hd vs H2 p⟩
theorem comp_itl (Pv : Nat → List V → Hp → Prop) (h0 : Pv 0 [] (upd H1 D (.lst []))) (hl : ∀ i vs H, i ≤ xs.length → Pv i vs H → SqL K H a xs)
    (hs : ∀ i x vs σ' H, i < xs.length → xs[i]? = some x → Sh k (capOf fr σ) σ' → Pv i vs H → tTurn g tt te D xs.length k (capOf fr σ) Pv i x σ' H) (hd : ∀ vs H, Pv xs.length vs H → Q (.ref D) H) : tBlock g tt te (Itl K a) D (capS k fr σ) H1 Q :=
  comp_any (fun i x => xs[i]? = some x) Pv h0 (fun i vs H hi p => ⟨⟨xs, xs[i], hl i vs H (Nat.le_of_lt hi) p, by simp [hi]⟩, fun x H' y => ⟨y.1, y.2 xs (hl i vs H (Nat.le_of_lt hi) p)⟩⟩)
    (fun vs H p => ⟨xs, hl _ vs H (Nat.le_refl _) p, Nat.le_refl _⟩) hs hd
theorem comp_itt (Pv : Nat → List V → Hp → Prop) (h0 : Pv 0 [] (upd H1 D (.lst []))) (hl : ∀ i vs H, i ≤ xs.length → Pv i vs H → SqT K H a xs)
    (hs : ∀ i x vs σ' H, i < xs.length → xs[i]? = some x → Sh k (capOf fr σ) σ' → Pv i vs H → tTurn g tt te D xs.length k (capOf fr σ) Pv i x σ' H) (hd : ∀ vs H, Pv xs.length vs H → Q (.ref D) H) : tBlock g tt te (Itt K a) D (capS k fr σ) H1 Q :=
  comp_any (fun i x => xs[i]? = some x) Pv h0 (fun i vs H hi p => ⟨⟨xs, xs[i], hl i vs H (Nat.le_of_lt hi) p, by simp [hi]⟩, fun x H' y => ⟨y.1, y.2 xs (hl i vs H (Nat.le_of_lt hi) p)⟩⟩)
    (fun vs H p => ⟨xs, hl _ vs H (Nat.le_refl _) p, Nat.le_refl _⟩) hs hd
theorem comp_itr {lo : Int} {n : Nat} (Pv : Nat → List V → Hp → Prop) (h0 : Pv 0 [] (upd H1 D (.lst [])))
    (hs : ∀ i x vs σ' H, i < n → x = .int (lo + i) → Sh k (capOf fr σ) σ' → Pv i vs H → tTurn g tt te D n k (capOf fr σ) Pv i x σ' H) (hd : ∀ vs H, Pv n vs H → Q (.ref D) H) : tBlock g tt te (Itr lo n) D (capS k fr σ) H1 Q :=
  comp_any (fun i x => x = .int (lo + i)) Pv h0 (fun i vs H hi p => ⟨hi, fun x H' y => y⟩) (fun vs H p => Nat.le_refl _) hs hd
end

/-! ### heaps: all but one object stay -/
def Ext (l : Addr) (H H' : Hp) : Prop := ∀ b o, b ≠ l → H b = some o → H' b = some o
theorem Ext.refl (l : Addr) (H : Hp) : Ext l H H := fun _ _ _ e => e
theorem Ext.trans {l : Addr} {H H1 H2 : Hp} (a : Ext l H H1) (b : Ext l H1 H2) : Ext l H H2 := fun c o n e => b c o n (a c o n e)
theorem Ext.new {l p : Addr} {H : Hp} {o : HO} (h : H p = none) : Ext l H (upd H p o) := fun c u _ e => by rw [upd_ne (ne_of_none e h)]; exact e
theorem Ext.set {l : Addr} {H : Hp} {o : HO} : Ext l H (upd H l o) := fun c u n e => by rw [upd_ne n]; exact e
theorem Same.ext {l : Addr} {H H' : Hp} (s : Same H H') : Ext l H H' := fun c o _ e => s c o e
theorem Same.new {p : Addr} {H : Hp} {o : HO} (h : H p = none) : Same H (upd H p o) := fun c u e => by rw [upd_ne (ne_of_none e h)]; exact e
/-- a new object that is changed later -/
theorem Same.upd {p : Addr} {H H' : Hp} {o : HO} (s : Same H H') (h : H p = none) : Same H (upd H' p o) := fun c u e => by rw [upd_ne (ne_of_none e h)]; exact s c u e
theorem Ext.upd {l p : Addr} {H H' : Hp} {o : HO} (s : Ext l H H') (h : H p = none) : Ext l H (upd H' p o) := fun c u n e => by rw [upd_ne (ne_of_none e h)]; exact s c u n e
theorem Ext.free {l p : Addr} {H H' : Hp} (s : Ext l H H') (n : p ≠ l) (h : H' p = none) : H p = none := by
  cases e : H p with
  | none => rfl
  | some o => rw [s p o n e] at h; cases h

theorem cx_K {CX : CXT} {P : Program} {w : World} {K : PySem.W.Frag} {mg : Str → Option Value} {base : Heap} {N : List Str} {qual : Str} {scope : Scope} {f : Addr} {cd : Value} {A : Around} {outer : List Env} {s : Shared} {H : Hp} {E : XK} : (cxOf CX P w K mg base N qual scope f cd A outer s H E).K = K := rfl
theorem in_K {X : Cx} {N : List Str} {scope : Scope} {cl : List (Str × Addr)} {s : Shared} {H : Hp} {fp : List Addr} : (cxIn X N scope cl s H fp).K = X.K := rfl
theorem wish_K {X : Cx} {E : Value → Shared → Prop} : (X.wish E).K = X.K := rfl
/-- a whole number of the module -/
theorem pe_globI {X : Cx} {x : Str} {i : Int} {pos : Pos} (hg : Gl X x) (hm : ∃ t, X.mg x = some (.int i t)) (hd : (x == ("__debug__" : Str)) = false := by decide) : PE X (.Name x pos) (tC (.int i)) := by
  obtain ⟨t, e⟩ := hm
  exact pe_glob hg e ⟨t, rfl⟩ hd
theorem atI_at {α : Type} {xs : List α} {i : Int} {v : α} (h0 : 0 ≤ i) (h : xs[i.toNat]? = some v) : atI xs i = some v := by
  have e : ((i.toNat : Nat) : Int) = i := Int.toNat_of_nonneg h0
  rw [← e]
  exact atI_nat h

/-! ### argument lists without a star, by a look at each item's head alone -/
def isStar : Expr → Bool
  | .Starred _ _ => true
  | _ => false
theorem star_cons {e : Expr} {es : List Expr} {env : Env} (h : isStar e = false) : starEach (e :: es) env = (false, eval e env) :: starEach es env := by
  cases e <;> first | rfl | cases h
theorem star_any {pos : Pos} {env : Env} : ∀ {es : List Expr}, es.all (fun x => !isStar x) = true → (backTo pos (starEach es env)).any (·.1) = false
  | [], _ => rfl
  | e :: es, h => by
    rw [List.all_cons, Bool.and_eq_true] at h
    have h1 : isStar e = false := by simpa using h.1
    rw [star_cons h1]
    show ((false, _).1 || (backTo pos (starEach es env)).any (·.1)) = false
    rw [star_any h.2]
    rfl
section
variable {X : Cx} {x : Str} {p pos : Pos} {e : Expr} {es : List Expr} {te : TE} {t : TA} {id T : String} {r : List V → Hp → VK → Prop}
theorem pa_c (ha : PE X e te) (hr : PA X es t) (h : isStar e = false := by rfl) : PA X (e :: es) (tCons te t) := pa_cons ha hr (star_cons h)
theorem pe_cB (hc : CallR X (.builtin id) r) (hg : Gl X x) (hm : X.mg x = none) (hv : bootBuiltins x = some (.builtin id)) (ha : PA X (e :: es) t) (h : isStar e = false := by rfl) (h2 : es.all (fun x => !isStar x) = true := by rfl)
    (hn : x ≠ "__name__" := by decide) (hdb : (x == ("__debug__" : Str)) = false := by decide) : PE X (.Call (.Name x p) (e :: es) [] pos) (tCB r t) := pe_callB hc hg hm hv ha hn hdb (star_cons h) (star_any h2)
theorem pe_cT (hc : CallR X (.type T) r) (hg : Gl X x) (hm : X.mg x = none) (hv : bootBuiltins x = some (.type T)) (ha : PA X (e :: es) t) (h : isStar e = false := by rfl) (h2 : es.all (fun x => !isStar x) = true := by rfl)
    (hn : x ≠ "__name__" := by decide) (hdb : (x == ("__debug__" : Str)) = false := by decide) : PE X (.Call (.Name x p) (e :: es) [] pos) (tCB r t) := pe_callTy hc hg hm hv ha hn hdb (star_cons h) (star_any h2)
theorem pe_c {k : Nat} {sp : Sp} (C : Cal X.prog X.w X.K X.mg X.base x k sp) (hr : Room k X.A) (hg : Gl X x) (ha : PA X (e :: es) t) (h : isStar e = false := by rfl) (h2 : es.all (fun x => !isStar x) = true := by rfl)
    (hdb : (x == ("__debug__" : Str)) = false := by decide) : PE X (.Call (.Name x p) (e :: es) [] pos) (tCall sp [] E0 t) := pe_cal C hr hg ha hdb (star_cons h) (star_any h2)
theorem pi_r1 {tg a : Expr} {ta : TA} (hg : Gl X "range") (hm : X.mg "range" = none) (ha : PA X [a] ta) (h : isStar a = false := by rfl) : PI X tg (.Call (.Name "range" p) [a] [] pos) (iRng1 ta) := pi_range1 hg hm ha (star_cons h)
theorem pi_r2 {tg a b : Expr} {ta : TA} (hg : Gl X "range") (hm : X.mg "range" = none) (ha : PA X [a, b] ta) (h : isStar a = false := by rfl) (h2 : isStar b = false := by rfl) : PI X tg (.Call (.Name "range" p) [a, b] [] pos) (iRng2 ta) :=
  pi_range2 hg hm ha (by rw [star_cons h, star_cons h2]; rfl) (star_cons h2)
end

theorem scal_ii {i j : Int} : scal (.int i) (.int j) = true := rfl
theorem scal_bb {i j : Bool} : scal (.bl i) (.bl j) = true := rfl
theorem scal_ss {i j : Str} : scal (.str i) (.str j) = true := rfl

theorem pe_ty {X : Cx} {x : Str} {n : String} {pos : Pos} (hg : Gl X x) (hm : X.mg x = none) (hv : bootBuiltins x = some (.type n)) (hn : x ≠ "__name__" := by decide) (hd : (x == ("__debug__" : Str)) = false := by decide) : PE X (.Name x pos) (tC (.ty n)) := pe_bltn (v := .ty n) hg hm hv rfl hn hd

/-! ### within a block: the module's part by its own name -/
section
variable {X : Cx} (K : PySem.W.Frag) (hK : X.K = K)
include hK
end
end L2

set_option maxHeartbeats 1000000
namespace HT
open PySem PySem.Spec PyProof.Rows
section
variable {prog : Program} {w : World} {A : Around} {E : Value → Shared → Prop} {s : Shared}
end
end HT
namespace L2
open PySem PySem.Spec PyProof.Rows
/-- t[::-1] of a tuple of two -/
def tRev (K : PySem.W.Frag) (te : TE) : TE := fun σ H Q => te σ H fun x H1 => ∃ a u v, x = .ref a ∧ SqT K H1 a [u, v] ∧ ∀ p, H1 p = none → Q (.ref p) (upd H1 p (.tup [v, u]))
section
variable {X : Cx} {e es : Expr} {te ts : TE} {pos p2 : Pos}
end
end L2

set_option maxHeartbeats 1000000
namespace L2
open PySem PySem.Spec PyProof.Rows
section
variable {X : Cx}
/-- xs[i] of a list, i from 0 on -/
def rGetL (K : PySem.W.Frag) : V → V → Hp → VK → Prop := fun x y H Q => ∃ p xs i v, x = .ref p ∧ y = .int i ∧ 0 ≤ i ∧ SqL K H p xs ∧ xs[i.toNat]? = some v ∧ Q v H
end
/-- numbers that may be taken times one another -/
def Big (x : Int) : Prop := -(100000000000000000000000000000000) < x ∧ x < 100000000000000000000000000000000
/-- the number at a place -/
def atZ (ns : List Int) (i : Int) : Int := ns.getD i.toNat 0
/-- the products along the arrows -/
def arrZ (a b : List Int) : List (Int × Int) → Int
  | [] => 0
  | q :: ps => arrZ a b ps + atZ a q.1 * atZ b q.2
def arrZ' (a b : List Int) (ps : List (Int × Int)) : Int := arrZ a b ps.reverse
/-- the products at the first n points -/
def dotZ (a b : List Int) : Nat → Int
  | 0 => 0
  | n + 1 => dotZ a b n + atZ a n * atZ b n
def formZ (ps : List (Int × Int)) (a b : List Int) : Int := dotZ a b a.length - arrZ' a b ps
/-- the numbers at the other ends of the arrows of k -/
def mirS (ns : List Int) (k : Int) : List (Int × Int) → Int
  | [] => 0
  | q :: ps => mirS ns k ps + (if q.1 = k then atZ ns q.2 else if q.2 = k then atZ ns q.1 else 0)
def mirT (ns : List Int) (k : Int) (ps : List (Int × Int)) : Int := mirS ns k ps.reverse
def mirZ (k : Int) (ns : List Int) (ps : List (Int × Int)) : List Int := ns.set k.toNat (mirT ns k ps - atZ ns k)
def NoLoop (ps : List (Int × Int)) : Prop := ∀ q ∈ ps, q.1 ≠ q.2
def NonNeg (ps : List (Int × Int)) : Prop := ∀ q ∈ ps, 0 ≤ q.1 ∧ 0 ≤ q.2
def Med (x : Int) : Prop := -(1000000000000000000000000000000) ≤ x ∧ x ≤ 1000000000000000000000000000000
end L2

set_option maxHeartbeats 1000000
namespace L2
open PySem PySem.Spec PyProof.Rows
section
variable {X : Cx} {pins : List (Addr × Obj)} {σ : St} {H : Hp} {s : Shared} {h' : Heap}
end
/-- zip(a, b) of two lists: new pairs -/
def Itz (K : PySem.W.Frag) (a b : Addr) : It :=
  ⟨fun i H => ∃ xs ys x y, SqL K H a xs ∧ SqL K H b ys ∧ xs[i]? = some x ∧ ys[i]? = some y,
   fun i H v H' => ∃ x y p, v = .ref p ∧ H p = none ∧ H' = upd H p (.tup [x, y]) ∧ (∀ xs, SqL K H a xs → xs[i]? = some x) ∧ ∀ ys, SqL K H b ys → ys[i]? = some y,
   fun i H => ∃ xs ys, SqL K H a xs ∧ SqL K H b ys ∧ (xs.length ≤ i ∨ ys.length ≤ i)⟩
section
variable {X : Cx}
def iZip (K : PySem.W.Frag) (ta : TA) : TI := fun σ H R => ta σ H fun vs H1 => ∃ a b, vs = [.ref a, .ref b] ∧ (∃ xs, SqL K H1 a xs) ∧ (∃ ys, SqL K H1 b ys) ∧ R (Itz K a b) H1
end
section
variable {K : PySem.W.Frag} {a b D : Addr} {xs ys : List V} {g : TG} {tt : TT} {te : TE} {k : Nat} {fr : List (Str × Nat)} {σ : St} {H1 : Hp} {Q : VK}
end
end L2

set_option maxHeartbeats 1000000
namespace L2
open PySem PySem.Spec PyProof.Rows
/-! ### fractions in lowest terms -/
def nrm (a b : Int) : Int × Int := (a / (Int.gcd a b : Int), b / (Int.gcd a b : Int))
def Low (x : Int × Int) : Prop := 0 < x.2 ∧ Int.gcd x.1 x.2 = 1
theorem gcd_pos' {a b : Int} (hb : 0 < b) : 0 < (Int.gcd a b : Int) := by
  have : 0 < Int.gcd a b := Int.gcd_pos_of_ne_zero_right a (by omega)
  omega
def Bd (B : Nat) (x : Int × Int) : Prop := x.1.natAbs ≤ B ∧ x.2.natAbs ≤ B
/-! ### the numbers of a ground, as pairs: by a prime the rest and 1 -/
def Isn (p : Int) (x : Int × Int) : Prop := (p = 0 ∧ Low x) ∨ (0 < p ∧ 0 ≤ x.1 ∧ x.1 < p ∧ x.2 = 1)
def plusN (p : Int) (x y : Int × Int) : Int × Int := if p = 0 then nrm (x.1 * y.2 + y.1 * x.2) (x.2 * y.2) else ((x.1 + y.1) % p, 1)
def minusN (p : Int) (x y : Int × Int) : Int × Int := if p = 0 then nrm (x.1 * y.2 - y.1 * x.2) (x.2 * y.2) else ((x.1 - y.1) % p, 1)
def timesN (p : Int) (x y : Int × Int) : Int × Int := if p = 0 then nrm (x.1 * y.1) (x.2 * y.2) else (x.1 * y.1 % p, 1)
def intN (p k : Int) : Int × Int := if p = 0 then (k, 1) else (k % p, 1)
theorem Isn.pos {p : Int} {x : Int × Int} (h : Isn p x) : 0 < x.2 := by
  rcases h with ⟨_, h⟩ | ⟨_, _, _, h⟩
  · exact h.1
  · omega
/-! ### // by a positive divisor of any size below the line -/
def CDivG (i j : Int) : Prop := 0 < j ∧ j.natAbs ≤ 100000000000000000000000000000000
theorem op_fdivG {X : Cx} : OpR X (binaryOp .FloorDiv) (rI CDivG fun i j => .int (i / j)) := opI fun i j _ _ _ _ _ hc q => by
  have h1 : (0 : Int) < j := hc.1
  have h2 := hc.2
  refine floordiv_int (by omega) (by rw [Int.fdiv_eq_ediv_of_nonneg i (by omega)]; exact q) (.inl (PyProof.noPylong_of_log2 ?_))
  have : j.natAbs.log2 < 200 := (Nat.log2_lt (by omega)).mpr (Nat.lt_of_le_of_lt h2 (by decide +kernel))
  omega
/-! ### a def with defaults -/
structure FunD (K : PySem.W.Frag) (x qual : Str) (st : Stmt) (f : Addr) (fd : FuncData) (T : Addr) : Prop where
  ex : ∃ (oc : Value) (od : Option Addr) (kV doc pm : Value) (an : Option Addr) (cdv ct : Value) (osl : Array (Option Value)),
    fd = PySem.W.fnOf x qual (defArgs st) (defBody st) (defScope st) (.ref T) kV doc pm an cdv ct ∧ K.lookup f = some ⟨oc, od, .func fd, osl⟩ ∧ PySem.W.codeIn K cdv qual = true
section
variable {P : Program} {w : World} {K : PySem.W.Frag} {mg : Str → Option Value} {base : Heap}
theorem FunD.ok {x qual : Str} {st : Stmt} {f T : Addr} {fd : FuncData} {N ps : List Str} {k : Nat} {sp : Sp} (F : FunD K x qual st f fd T) (S : FnScope N ps (defScope st)) (len : ∀ vs H Q E, sp vs H Q E → vs.length = ps.length)
    (hbody : ∀ (cdv : Value) (A : Around) (outer : List Env) (s : Shared) (H : Hp) (vs : List V) (Q : VK) (E : XK), Room k (A.deeper (envOfC qual (defScope st) s.heap.objs.size f cdv)) → sp vs H Q E →
      ∃ t, PSs (cxOf CX0 P w K mg base N qual (defScope st) f cdv A outer s H E).nox (defBody st) t ∧ t { nx := fun _ H' => Q .non H', rt := Q } (start N vs) H) : FnOk P w K mg base CX0 (k + 1) f fd ps sp := by
  obtain ⟨oc, od, kV, doc, pm, an, cdv, ct, osl, rfl, lk, hcd⟩ := F.ex
  refine fn_of lk hcd S len fun A outer s H vs Q E hr hsp => ?_
  obtain ⟨t, h, q⟩ := hbody cdv A outer s H vs Q E hr hsp
  exact ⟨t, h.nox, q⟩
end
/-- a method called with its defaults dvs left out -/
structure CalD (P : Program) (w : World) (K : PySem.W.Frag) (mg : Str → Option Value) (base : Heap) (C : Addr) (m : Str) (k : Nat) (sp : Sp) (dvs : List V) : Prop where
  ex : ∃ (f : Addr) (fd : FuncData) (ps : List Str) (ds : List Value), FnOk P w K mg base CX0 k f fd ps sp ∧ Meth K C m f ∧ Binds K fd ps ds ∧ Vals dvs ds
/-! ### == and != of ints or of tuples -/
def rEqN (K : PySem.W.Frag) : R2 := fun x y H Q => rEq x y H Q ∨ rEqT K false x y H Q
def rNeN (K : PySem.W.Frag) : R2 := fun x y H Q => rNe x y H Q ∨ rEqT K true x y H Q
/-! ### is True, is not True -/
end L2

namespace L2
open PySem PySem.Spec PyProof.Rows
/-- i.bit_length() -/
def rBits : V → List V → Hp → VK → Prop := fun x vs H Q => ∃ i : Int, x = .int i ∧ vs = [] ∧ Q (.int ((Builtin.Int.intBits i : Nat) : Int)) H
end L2

namespace L2
open PySem PySem.Spec PyProof.Rows PySem.W

/-! ### exceptions that fly -/
theorem HOk.track {P : Program} {w : World} {H : Hp} {h h' : Heap} (x : HOk P w H h) (k : ∀ b u o, H b = some u → h.get? b = some o → h'.get? b = some o) : HOk P w H h' := fun a o e =>
  (x a o e).stay (fun b u hb q => by
    rcases hb with rfl | hb
    · exact k b o u e q
    · exact k b _ u hb q) (fun _ z => z) fun _ _ z => z
theorem ObjOk.there {P : Program} {w : World} {H : Hp} {h : Heap} {a : Addr} {o : HO} (x : ObjOk P w H h a o) : ∃ u, h.get? a = some u := by
  cases o with
  | lst xs => obtain ⟨_, _, _, _, e⟩ := x; exact ⟨_, e⟩
  | tup xs => obtain ⟨_, _, _, p⟩ := x; obtain ⟨o, e, _⟩ := p; exact ⟨_, e⟩
  | dK kvs => obtain ⟨_, _, _, _, o, _, _, e, _⟩ := x; exact ⟨_, e⟩
  | dT kvs => obtain ⟨_, _, _, _, o, _, _, e, _⟩ := x; exact ⟨_, e⟩
  | set S n => obtain ⟨o, _, _, _, e, _⟩ := x; exact ⟨_, e⟩
  | ins C dx fs => obtain ⟨_, _, _, e, _⟩ := x; exact ⟨_, e⟩
  | own y => obtain ⟨_, e⟩ := x; exact ⟨_, e⟩
  | xd fs => obtain ⟨_, ⟨_, _, _, e, _⟩, _⟩ := x; exact ⟨_, e⟩
  | rng lo hi => obtain ⟨_, _, _, e⟩ := x; exact ⟨_, e⟩
  | frz ob u => obtain ⟨e, _⟩ := x; exact ⟨_, e⟩
  | tbl ps => exact ⟨_, (show h.get? a = some _ from x)⟩
  | met f y => exact ⟨_, (show h.get? a = some _ from x)⟩
  | ext φ => obtain ⟨_, ⟨_, e⟩, _⟩ := x; exact ⟨_, e⟩
/-- an exception on its way: all but the frames stays -/
structure Fly (P : Program) (w : World) (outer : List Env) (H : Hp) (s : Shared) (a : Addr) (cls : Value) (H' : Hp) (s' : Shared) : Prop where
  os : s'.os = s.os
  bare : AllBare s'.gens
  hok : HOk P w H' s'.heap
  un : Un (frs outer) [] H H' s.heap s'.heap
  fly : ∃ B a0, Heap.FlyingW B outer a cls a0 s'.heap ∧ (∀ b o, s.heap.get? b = some o → b ∉ frs outer → ∃ o', B.get? b = some o') ∧ ∀ b u, H' b = some u → ∃ o', B.get? b = some o'
  new : ∀ o, s.heap.get? a ≠ some o
  free : H' a = none
def CXe (P : Program) (w : World) : CXT := fun outer H s E e s' => ∃ (a : Addr) (cls : Value) (H' : Hp), e = .ref a ∧ Fly P w outer H s a cls H' s' ∧ E cls none H'
section
variable {P : Program} {w : World} {K : PySem.W.Frag} {mg : Str → Option Value} {base : Heap} {N : List Str} {qual : Str} {scope : Scope} {f : Addr} {cd : Value} {A : Around} {outer : List Env} {s : Shared} {H : Hp} {E : XK} {pins : List (Addr × Obj)} {σ : St} {H1 : Hp} {s1 s2 : Shared} {e : Addr} {cls : Value}
/-- raised here -/
theorem xe_made {vs : List Value} (I : Inv (cxOf (CXe P w) P w K mg base N qual scope f cd A outer s H E) pins σ H1 s1) (hx : Heap.MadeExcOf s1.heap s2.heap e cls vs) (ho : s2.os = s1.os) (hg : AllBare s2.gens) (hE : E cls none H1) :
    (cxOf (CXe P w) P w K mg base N qual scope f cd A outer s H E).xe (.ref e) s2 := by
  show wpAny (model P w) (A.deeper (envOfC qual scope s.heap.objs.size f cd)) (leaving (envOfC qual scope s.heap.objs.size f cd) (.ref e)) (fun _ s'' => CXe P w outer H s E (.ref e) s'') (fun e' s'' => CXe P w outer H s E e' s'') s2
  have hin : ∀ env ∈ (envOfC qual scope s.heap.objs.size f cd :: outer), ∀ b, env.frame = some b → b ∈ frs (envOfC qual scope s.heap.objs.size f cd :: outer) := fun env he b hb => List.mem_filterMap.mpr ⟨env, he, hb⟩
  have hstk : s1.heap.FunFrames base (envOfC qual scope s.heap.objs.size f cd :: outer) := I.stack
  have hfree : ∀ b ∈ frs (envOfC qual scope s.heap.objs.size f cd :: outer), H1 b = none := I.stkFree
  have hsub : ∀ b ∈ frs (envOfC qual scope s.heap.objs.size f cd :: outer), b ∈ s.heap.objs.size :: frs outer := I.stkSub
  refine wpAny_leaves_madeW (base := hideAll s1.heap (frs (envOfC qual scope s.heap.objs.size f cd :: outer))) (h := s1.heap) I.ok.frames rfl (fun b o q => of_hideAll _ q) (funFrames_hide hstk hin) hx fun h' t x1 x2 x3 x4 => ?_
  have keepB : ∀ b o, s1.heap.get? b = some o → b ∉ frs (envOfC qual scope s.heap.objs.size f cd :: outer) → h'.get? b = some o := fun b o q nb => x1.1 b o (hideAll_get _ q nb)
  have hne : s1.heap.get? e = none := hx.new
  have ub : Un (frs outer) [] H H1 s.heap s1.heap := I.base
  have nst : ∀ b o, s.heap.get? b = some o → b ∉ frs outer → b ∉ frs (envOfC qual scope s.heap.objs.size f cd :: outer) := fun b o q nb z => by
    rcases List.mem_cons.mp (hsub b z) with e1 | z
    · exact absurd (Heap.lt_size q) (by rw [e1]; exact Nat.lt_irrefl _)
    · exact nb z
  have slotS : ∀ b o, s1.heap.get? b = some o → b ∈ frs (envOfC qual scope s.heap.objs.size f cd :: outer) → ∃ sl, h'.get? b = some { o with slots := sl } := fun b o q hb => by
    obtain ⟨_, o', ho', hd⟩ := hstk.mem hb
    rw [q] at ho'
    cases ho'
    exact x4 b o (hx.keeps b o q) hd
  refine ⟨e, cls, H1, rfl, ⟨ho.trans I.os, hg, HOk.track I.hok (fun b u o hb q => keepB b o q (fun z => by rw [hfree b z] at hb; cases hb)), ⟨fun b o q n hb hx => ?_, fun b o q n hb hx => ?_, fun b o q n hx => ub.free b o q n hx, fun b o q hx => ?_, ub.tups, ub.frzs, ub.tbls⟩, ⟨_, _, x1, fun b o q nb => ?_, fun b u hb => ?_⟩, fun o q => ?_, ?_⟩, hE⟩
  · exact keepB b o (ub.keep b o q n hb hx) (nst b o q hb)
  · obtain ⟨sl, e1⟩ := ub.slot b o q n hb hx
    obtain ⟨sl', e2⟩ := slotS b _ e1 (by unfold frs at hb ⊢; rw [List.filterMap_cons]; split <;> first | exact hb | exact List.mem_cons_of_mem _ hb)
    exact ⟨sl', e2⟩
  · obtain ⟨o', e1⟩ := ub.there b o q hx
    by_cases z : b ∈ frs (envOfC qual scope s.heap.objs.size f cd :: outer)
    · obtain ⟨sl, e2⟩ := slotS b o' e1 z
      exact ⟨_, e2⟩
    · exact ⟨o', keepB b o' e1 z⟩
  · obtain ⟨o', e1⟩ := ub.there b o q (by simp)
    exact ⟨o', hideAll_get _ e1 (nst b o q nb)⟩
  · obtain ⟨o', e1⟩ := ObjOk.there (I.hok b u hb)
    exact ⟨o', hideAll_get _ e1 fun z => by rw [hfree b z] at hb; cases hb⟩
  · obtain ⟨o', e1⟩ := ub.there e o q (by simp)
    rw [hne] at e1
    cases e1
  · cases z : H1 e with
    | none => rfl
    | some u =>
      obtain ⟨o', e1⟩ := ObjOk.there (I.hok e u z)
      rw [hne] at e1
      cases e1
end
end L2

namespace L2
open PySem PySem.Spec PyProof.Rows PySem.W
/-- raise C(..): the arguments, then what is wanted of the abstract heap -/
def tRaise (t : TA) (R : Hp → Prop) : TS := fun _ σ H => t σ H fun vs H1 => vs.length ≤ 1000 ∧ R H1
section
variable {X : Cx} {x : Str} {C : Addr} {bm bmN : List Value} {B Bn newId nid initId inN : String} {np cpos pos : Pos} {e₀ : Expr} {rest : List Expr} {t : TA} {R : Hp → Prop}
theorem ps_raise (hc : X.calm = true) (O : OwnCls x C bm newId X.mg X.base) (Fn : ExcBaseFacts Bn newId inN bmN) (hBn : bm.contains (.type Bn) = true) (FB : ExcBaseFacts B nid initId bm) (hg : Gl X x) (ha : PA X (e₀ :: rest) t)
    (hxe : ∀ pins σ H1 s1 s2 e vs, Inv X pins σ H1 s1 → Heap.MadeExcOf s1.heap s2.heap e (.ref C) vs → s2.os = s1.os → AllBare s2.gens → R H1 → X.xe (.ref e) s2)
    (h1 : isStar e₀ = false := by rfl) (h2 : rest.all (fun x => !isStar x) = true := by rfl) (hd : (x == ("__debug__" : Str)) = false := by decide) :
    PS X (.Raise (some (.Call (.Name x np) (e₀ :: rest) [] cpos)) none pos) (tRaise t R) := by
  intro pins s σ H D I h
  have he := star_cons (e := e₀) (es := rest) (env := X.env) h1
  have hpl := star_any (pos := cpos) (env := X.env) h2
  obtain ⟨tl, N, nm, q, bs, hdct, sn, sub, ab, col, dd, k0, k1, k2, k3, k5, mN, hC, hN, hni, T⟩ := O.obj
  refine wpAny_Raise_call_subU (C := C) (nm := nm) (q := q) (N := N) (bs := bs) (bm := tl) (hdct := hdct) (sn := sn) (sub := sub) (ab := ab) (col := col) (dd := dd) (k0 := k0) (k1 := k1) (k2 := k2) (k3 := k3) (k5 := k5)
    Fn hBn FB (mN := mN) (T.hasType FB.hasBase) (I.ok.hd hc) (by rw [he]; show (false || (backTo cpos (starEach rest X.env)).any (·.1)) = false; rw [hpl]; rfl) hni (ld_glob I hg O.bound ⟨rfl, ?_⟩ hd)
  have hA := ha cpos pins s σ H _ I h
  rw [he] at hA ⊢
  refine Calls.evalArgs_plain (wpAny_mono hA (fun us s2 ⟨vs, H2, I2, rv, hl, r2⟩ => ⟨rfl, ?_, I2.bk _ _ hC, hN.keeps I2.bk, T.keeps I2.bk, fun h' e hm => ?_⟩) fun _ _ y => y)
  · rw [← rv.length]
    exact Nat.le_of_lt (small1000 hl)
  · exact hxe pins σ H2 s2 _ e us I2 hm rfl I2.bare r2
end
end L2

namespace L2
open PySem PySem.Spec PyProof.Rows PySem.W
section
variable {P : Program} {w : World} {K : PySem.W.Frag} {mg : Str → Option Value} {base : Heap}
/-- a def that may raise -/
theorem Fun.okE {x qual : Str} {st : Stmt} {f : Addr} {fd : FuncData} {N ps : List Str} {k : Nat} {sp : Sp} (F : Fun K x qual st f fd) (S : FnScope N ps (defScope st)) (len : ∀ vs H Q E, sp vs H Q E → vs.length = ps.length)
    (hbody : ∀ (cdv : Value) (A : Around) (outer : List Env) (s : Shared) (H : Hp) (vs : List V) (Q : VK) (E : XK), Room k (A.deeper (envOfC qual (defScope st) s.heap.objs.size f cdv)) → sp vs H Q E →
      ∃ t, PSs (cxOf (CXe P w) P w K mg base N qual (defScope st) f cdv A outer s H E) (defBody st) t ∧ t { nx := fun _ H' => Q .non H', rt := Q } (start N vs) H) : FnOk P w K mg base (CXe P w) (k + 1) f fd ps sp := by
  obtain ⟨oc, od, kV, doc, pm, an, cdv, ct, osl, rfl, lk, hcd⟩ := F.ex
  exact fn_of lk hcd S len fun A outer s H vs Q E hr hsp => hbody cdv A outer s H vs Q E hr hsp
/-- an own class of exceptions, out of the part of the module -/
theorem own_cls {x : Str} {C : Addr} {bmB : List Value} {newId : String} {h : Heap} (X : K.In h) (b : mg x = some (.ref C)) (q : excIn K C bmB newId = true) : OwnCls x C bmB newId mg h := by
  refine ⟨b, ?_⟩
  unfold excIn at q
  split at q
  · rename_i dd cd sl ho
    split at q
    · rename_i C' bm k0 k1 k2 k3 n k5 hm hs
      simp only [Bool.and_eq_true, beq_iff_eq, Bool.not_eq_true'] at q
      obtain ⟨⟨⟨⟨⟨rfl, rfl⟩, hdel⟩, ht⟩, hok⟩, hni⟩ := q
      obtain ⟨nm, bs, mro, ns, qn, hd, sn, sub, ab, col, del⟩ := cd
      dsimp only at hm hdel hok hni
      subst hm hdel
      have hsl : sl = #[k0, k1, k2, k3, some (.builtin n), k5] := by
        obtain ⟨l⟩ := sl
        simp only at hs
        rw [hs]
      subst hsl
      exact ⟨bm, ns, nm, qn, bs, hd, sn, sub, ab, col, dd, k0, k1, k2, k3, k5, _, X _ _ ho, .of_isNs (isNs_of_in X hok), nsMap_none_of_in X hok hni, tail_of_in X ht⟩
    · cases q
  · cases q
end
section
variable {X : Cx} {pins : List (Addr × Obj)} {σ : St} {H H' : Hp} {s s' : Shared} {a : Addr} {cls : Value}
/-- landed: the catching def goes on, its names as they were at the call -/
theorem Fly.land {B : Heap} {a0 : Value} (I : Inv X pins σ H s) (hl : X.env.locals ∈ frs X.stack) (F : Fly X.prog X.w X.stack H s a cls H' s') (fl : Heap.FlyingW B X.stack a cls a0 s'.heap)
    (inB : ∀ b o, s.heap.get? b = some o → b ∉ frs X.stack → ∃ o', B.get? b = some o') (trB : ∀ b u, H' b = some u → ∃ o', B.get? b = some o') {h' : Heap} (st : B.StaysIn h') (x4 : s'.heap.UpToSlots h') : Inv X pins σ H' { s' with heap := h' } := by
  have keepB : ∀ b o, (∃ o', B.get? b = some o') → s'.heap.get? b = some o → h'.get? b = some o := fun b o ⟨o', hb⟩ q => by
    have := fl.1 b o' hb
    rw [q] at this
    cases this
    exact st b _ hb
  have slotS : ∀ b o, s'.heap.get? b = some o → b ∈ frs X.stack → ∃ sl, h'.get? b = some { o with slots := sl } := fun b o q hb => by
    obtain ⟨_, o', ho', hd⟩ := fl.2.2.1.mem hb
    rw [q] at ho'
    cases ho'
    exact x4 b o q hd
  have sup : ∀ b, b ∈ X.fs → b ∈ frs X.stack := fun b hb => by
    rcases I.ok.stk with e | ⟨e, hf⟩
    · rw [e]; exact hb
    · rw [e]
      unfold Cx.fs frs at *
      rw [List.filterMap_cons, hf]
      exact List.mem_cons_of_mem _ hb
  have nst : ∀ b, b ≠ X.env.locals → b ∉ X.fs → b ∉ frs X.stack := fun b h1 h2 z => by
    rcases List.mem_cons.mp (I.stkSub b z) with e | z
    · exact h1 e
    · exact h2 z
  obtain ⟨hh, g, d, t, os'⟩ := s'
  obtain rfl : os' = s.os := F.os
  show Inv X pins σ H' { s with heap := h', gens := g, drawn := d, toks := t }
  refine I.step (ch := []) (fun b z => absurd z (by simp)) (fun b o n1 n2 _ q n => ?_) (fun b o n1 n2 _ q n => ?_) (fun b o _ q n => F.un.free b o q n (by simp)) (fun b o _ q => ?_) F.un.tups F.un.frzs F.un.tbls (fun m hn => ?_) (HOk.track F.hok fun b u o hb q => keepB b o (trB b u hb) q) F.bare
  · exact keepB b o (inB b o q (nst b n1 n2)) (F.un.keep b o q n (nst b n1 n2) (by simp))
  · obtain ⟨sl, e1⟩ := F.un.slot b o q n (sup b n2) (by simp)
    obtain ⟨sl', e2⟩ := slotS b _ e1 (sup b n2)
    exact ⟨sl', e2⟩
  · obtain ⟨o', e1⟩ := F.un.there b o q (by simp)
    by_cases z : b ∈ frs X.stack
    · obtain ⟨sl, e2⟩ := slotS b o' e1 z
      exact ⟨_, e2⟩
    · exact ⟨o', keepB b o' (inB b o q z) e1⟩
  · obtain ⟨o, es, ep, ho, hd, r⟩ := hn
    obtain ⟨sl, e1⟩ := F.un.slot _ o ho I.free hl (by simp)
    obtain ⟨sl', e2⟩ := slotS _ _ e1 hl
    exact ⟨_, es, ep, e2, hd, r⟩
end
end L2

namespace L2
open PySem PySem.Spec PyProof.Rows PySem.W
section
variable {M : Model} {A : Around} {E : Value → Shared → Prop}
variable {nm q : Str} {C N : Addr} {bs bm : List Value} {hdct : Bool} {sn : List Str} {sub : List Value} {ab : Bool} {col : Option Bool} {dd : Option Addr} {k0 k1 k2 k3 k5 : Option Value} {newId : String}
variable {nm' q' : Str} {C' N' : Addr} {bs' bm' : List Value} {hdct' : Bool} {sn' : List Str} {sub' : List Value} {ab' : Bool} {col' : Option Bool} {dd' : Option Addr} {j0 j1 j2 j3 j5 : Option Value} {newId' : String}
/-- except D, of an exception of a class C under D, both of the module -/
theorem matches_own {h : Heap} {g : Array GenState} {d : Drawn} {t : Nat} {os : OsState} {e : Addr} {oe : Obj} {Q : Bool → Shared → Prop}
    (hC : h.get? C = some (excClassObj nm q C N bs bm hdct sn sub ab col dd k0 k1 k2 k3 k5 newId)) (hD : h.get? C' = some (excClassObj nm' q' C' N' bs' bm' hdct' sn' sub' ab' col' dd' j0 j1 j2 j3 j5 newId'))
    (he : h.get? e = some oe) (hcls : oe.cls = .ref C) (hbase : bm'.contains (.type "BaseException") = true) (hsub : bm.contains (.ref C') = true)
    (hq : Q true ⟨h, g, d, t, os⟩) : wpAny M A (excMatches (.ref e) (.ref C')) Q E ⟨h, g, d, t, os⟩ := by
  have hcB : (Value.ref C' :: bm').contains (.type "BaseException") = true := by rw [List.contains_cons, hbase, Bool.or_true]
  have hcC : (Value.ref C :: bm).contains (.ref C') = true := by rw [List.contains_cons, hsub, Bool.or_true]
  have f := tc_notTuple
  unfold excMatches
  repeat (first | (with_reducible refine wpAny_loadPart_at he ?_; rw [hcls]) | with_reducible refine wpAny_loadPart_at hD ?_ | (with_reducible refine wpAny_isSubtype_exc hD ?_; rw [hcB]) | (with_reducible refine wpAny_isSubtype_exc hC ?_; rw [hcC]) | wp_step)
  exact hq
end
end L2

namespace L2
open PySem PySem.Spec PyProof.Rows PySem.W
/-- more pins that every state bears -/
abbrev Cx.pnx (X : Cx) (pins : List (Addr × Obj)) : Cx := { X with pn := X.pn ++ pins }
/-- within an except suite that raises nothing -/
abbrev Cx.hnd (X : Cx) (pins : List (Addr × Obj)) (a : Addr) : Cx := { X with pn := X.pn ++ pins, A := X.A.mark (some (.ref a)), calm := false, xe := fun _ _ => False }
section
variable {X : Cx} {pins pins' : List (Addr × Obj)} {σ : St} {H : Hp} {s : Shared} {a : Addr}
theorem Inv.pnx (I : Inv X pins σ H s) : Inv (X.pnx pins) [] σ H s :=
  ⟨⟨I.ok.mod, I.ok.kind, I.ok.glob, I.ok.blt, I.ok.above, I.ok.inj, I.ok.has, I.ok.cab, I.ok.hd, I.ok.frames, I.ok.stk, I.ok.exf, I.ok.bs, I.ok.bsz, I.ok.noex, I.ok.exfs, I.ok.funs, I.ok.frf⟩, I.os, I.bare, I.base, I.loc, I.cell, I.free, I.freeC, fun p hp => I.pin p (by simpa using hp), I.hok, I.len⟩
theorem Inv.unpnx (I : Inv (X.pnx pins) pins' σ H s) : Inv X pins σ H s :=
  ⟨⟨I.ok.mod, I.ok.kind, I.ok.glob, I.ok.blt, I.ok.above, I.ok.inj, I.ok.has, I.ok.cab, I.ok.hd, I.ok.frames, I.ok.stk, I.ok.exf, I.ok.bs, I.ok.bsz, I.ok.noex, I.ok.exfs, I.ok.funs, I.ok.frf⟩, I.os, I.bare, I.base, I.loc, I.cell, I.free, I.freeC, fun p hp => I.pin p (List.mem_append_left _ hp), I.hok, I.len⟩
theorem Inv.hnd (I : Inv X pins σ H s) (a : Addr) : Inv (X.hnd pins a) [] σ H s :=
  ⟨⟨I.ok.mod, I.ok.kind, I.ok.glob, I.ok.blt, I.ok.above, I.ok.inj, I.ok.has, I.ok.cab, (fun z => nomatch z), I.ok.frames, I.ok.stk, I.ok.exf, I.ok.bs, I.ok.bsz, I.ok.noex, I.ok.exfs, I.ok.funs, I.ok.frf⟩, I.os, I.bare, I.base, I.loc, I.cell, I.free, I.freeC, fun p hp => I.pin p (by simpa using hp), I.hok, I.len⟩
theorem Inv.unhnd (ok : X.Ok) (I : Inv (X.hnd pins a) pins' σ H s) : Inv X pins σ H s :=
  ⟨ok, I.os, I.bare, I.base, I.loc, I.cell, I.free, I.freeC, fun p hp => I.pin p (List.mem_append_left _ hp), I.hok, I.len⟩
/-- an object that no one tracked is tracked -/
theorem Inv.track {o : HO} (I : Inv X pins σ H s) (hn : H a = none) (h0 : ∀ u, X.s₀.heap.get? a ≠ some u) (hL : a ≠ X.env.locals) (hc : ∀ x c, X.env.cells.lookup x = some c → c ≠ a) (hp : ∀ p ∈ X.pn ++ pins, p.1 ≠ a)
    (new : ObjOk X.prog X.w (upd H a o) s.heap a o) : Inv X pins σ (upd H a o) s := by
  have ne : ∀ {b : Addr} {u : HO}, H b = some u → b ≠ a := fun {b u} hb z => by rw [z, hn] at hb; cases hb
  refine ⟨I.ok, I.os, I.bare, ⟨I.base.keep, I.base.slot, fun b u q n hx => ?_, I.base.there, fun b xs z => ?_, fun b u v z => ?_, fun b ps z => ?_⟩, I.loc, I.cell, ?_, fun x c e => ?_, fun p hp' => ?_, fun b u hb => ?_, I.len⟩
  · rw [upd_ne (fun z => h0 u (by rw [← z]; exact q))]
    exact I.base.free b u q n hx
  · have := I.base.tups b xs z
    rw [upd_ne (ne this)]
    exact this
  · have := I.base.frzs b u v z
    rw [upd_ne (ne this)]
    exact this
  · obtain ⟨m, e⟩ := I.base.tbls b ps z
    exact ⟨m, by rw [upd_ne (ne e)]; exact e⟩
  · rw [upd_ne hL.symm]; exact I.free
  · rw [upd_ne (hc x c e)]; exact I.freeC x c e
  · obtain ⟨p1, p2, p3, p4, p5⟩ := I.pin p hp'
    exact ⟨p1, by rw [upd_ne (hp p hp')]; exact p2, p3, p4, p5⟩
  · by_cases hb' : b = a
    · subst hb'
      rw [upd_same] at hb
      cases hb
      exact new
    · rw [upd_ne hb'] at hb
      exact (I.hok b u hb).stay (fun _ _ _ q => q) (fun c z => by rw [upd_ne (ne z)]; exact z) fun c xs z => by rw [upd_ne (ne z)]; exact z
/-- a name goes: of the names nothing is known -/
theorem Inv.goes {h' : Heap} {m' : Str → Option Value} {t' : Nat} (I : Inv X pins σ H s) (hn : h'.Ns X.env.locals m') (sb : Heap.SameBut X.env.locals s.heap h') : Inv X pins (List.replicate X.N.length none) H { s with heap := h', toks := t' } := by
  have neL : ∀ b o, X.s₀.heap.get? b = some o → b ≠ X.env.locals := fun b o e => Nat.ne_of_lt (Nat.lt_of_lt_of_le (Heap.lt_size e) I.ok.above)
  have k : ∀ b o, b ≠ X.env.locals → s.heap.get? b = some o → h'.get? b = some o := fun b o n e => (sb.2 b n).trans e
  refine ⟨I.ok, I.os, I.bare, ⟨fun b o q n hb hx => k b o (neL b o q) (I.base.keep b o q n hb hx), fun b o q n hb hx => ?_, I.base.free, fun b o q hx => ?_, I.base.tups, I.base.frzs, I.base.tbls⟩, ⟨m', hn, fun i x v e1 e2 => ?_⟩, fun x c e => ?_, I.free, I.freeC, fun p hp => ?_, HOk.track I.hok fun b u o hb q => k b o (fun z => by rw [z, I.free] at hb; cases hb) q, by simp⟩
  · obtain ⟨sl, e1⟩ := I.base.slot b o q n hb hx
    exact ⟨sl, k b _ (neL b o q) e1⟩
  · obtain ⟨o', e1⟩ := I.base.there b o q hx
    exact ⟨o', k b o' (neL b o q) e1⟩
  · rw [List.getElem?_replicate] at e2
    split at e2
    · cases e2
    · cases e2
  · obtain ⟨v, o, ho, hd⟩ := I.cell x c e
    exact ⟨v, o, k c o (I.cne x c e) ho, hd⟩
  · obtain ⟨p1, p2, p3, p4, p5⟩ := I.pin p hp
    exact ⟨k _ _ p3 p1, p2, p3, p4, p5⟩
end
/-- an exception's object, as it is known in a suite -/
def isExc (a : Addr) (cls : Value) : HO := .ext fun h => ∃ ob, h.get? a = some ob ∧ ob.cls = cls
theorem isExc_ok {P : Program} {w : World} {H : Hp} {h : Heap} {a : Addr} {cls : Value} {ob : Obj} (e : h.get? a = some ob) (c : ob.cls = cls) : ObjOk P w H h a (isExc a cls) :=
  ⟨⟨ob, e, c⟩, ⟨ob, e⟩, fun h1 h2 ⟨o, e1, c1⟩ k => ⟨o, k o e1, c1⟩⟩
/-- the suite's ends: behind it the name is gone -/
def hEnds (X : Cx) (D : Ends) : Ends := { nx := fun _ H => D.nx (List.replicate X.N.length none) H, rt := D.rt, bk := fun _ H => D.bk (List.replicate X.N.length none) H, ct := fun _ H => D.ct (List.replicate X.N.length none) H }
def tTry (X : Cx) (E' : XK) (tb : TS) (i : Nat) (th : TS) : TS := fun D σ H => tb D σ H ∧ ∀ (cls : Value) (H' : Hp) (a : Addr) (σ' : St), E' cls none H' → H' a = none → σ'.length = X.N.length → th (hEnds X D) (σ'.set i (some (.ref a))) (upd H' a (isExc a cls))
section
variable {X : Cx} {x n : Str} {np hpos pos : Pos} {body suite : List Stmt} {b₀ : Stmt} {E' : XK} {tb th : TS} {i : Nat} {D : Addr} {bmD : List Value} {newD : String}
theorem ps_try (hstk : X.stack = X.env :: X.outer) (hfr : X.env.frame = some X.env.locals) (hex : X.ex = [])
    (hb : ∀ pins xt, Passes (CXe X.prog X.w) ((X.pnx pins).wish xt) E' → PSs ((X.pnx pins).wish xt) body tb) (hs : ∀ pins a, PSs (X.hnd pins a) (b₀ :: suite) th)
    (hg : Gl X x) (OD : OwnCls x D bmD newD X.mg X.base) (hDB : bmD.contains (.type "BaseException") = true)
    (hC : ∀ cls H', E' cls none H' → ∃ C nm q N bs bm hdct sn sub ab col dd k0 k1 k2 k3 k5 new, cls = .ref C ∧ X.base.get? C = some (excClassObj nm q C N bs bm hdct sn sub ab col dd k0 k1 k2 k3 k5 new) ∧ bm.contains (.ref D) = true)
    (hN : X.N.Nodup) (hi : X.N[i]? = some n) (hn : X.env.scope.names.lookup n = some .local) (hd : (x == ("__debug__" : Str)) = false := by decide) :
    PS X (.Try body [.ExceptHandler (some (.Name x np)) (some n) (b₀ :: suite) hpos] [] [] pos) (tTry X E' tb i th) := by
  intro pins s σ H Dn I h
  obtain ⟨hbody, hhand⟩ := h
  rw [arm_exec_Try]
  refine wpAny_bind (wpAny_standAt (wpAny_tryStmt_except ?_))
  have hp : Passes (CXe X.prog X.w) ((X.pnx pins).wish fun e s' => ∃ pins' σ' H1 s1, Inv (X.pnx pins) pins' σ' H1 s1 ∧ CXe X.prog X.w X.stack H1 s1 E' e s') E' := fun pins' σ' H1 s1 e s' I1 h => ⟨pins', σ', H1, s1, I1.unwish, h⟩
  have hl : X.env.locals ∈ frs X.stack := by rw [hstk]; unfold frs; rw [List.filterMap_cons, hfr]; exact List.mem_cons_self
  refine wpAny_mono (hb pins _ hp [] s σ H Dn (I.pnx.wish _) hbody) (fun f s₁ h₁ => ?_) (fun e s₁ h₁ => ?_)
  · cases f with
    | next => obtain ⟨σ', H', J, q⟩ := h₁; exact wpAny_execs_nil ⟨σ', H', J.unwish.unpnx, q⟩
    | brk => obtain ⟨σ', H', J, q⟩ := h₁; exact ⟨σ', H', J.unwish.unpnx, q⟩
    | cont => obtain ⟨σ', H', J, q⟩ := h₁; exact ⟨σ', H', J.unwish.unpnx, q⟩
    | ret u => obtain ⟨v, σ', H', J, r, q⟩ := h₁; exact ⟨v, σ', H', J.unwish.unpnx, r, q⟩
  · obtain ⟨pins', σ', H1, s1, I1, a, cls, H', rfl, F, hE⟩ := h₁
    obtain ⟨B, a0, fl, inB, trB⟩ := F.fly
    have J1 : Inv X pins σ' H1 s1 := I1.unpnx
    refine wpAny_looks_onW (base := B) (env := X.env) (outer := X.outer) (by rw [I.ok.frames, hstk]) hfr (hstk ▸ fl) fun h₄ held₄ sm₄ => ?_
    refine wpAny_landsW held₄ fun h₅ fl₅ sm₅ => ?_
    have J5 : Inv X pins σ' H' { s₁ with heap := h₅ } := F.land J1 hl fl inB trB fl₅.1 (sm₄.trans sm₅)
    obtain ⟨C, nm, q, N, bs, bm, hdct, sn, sub, ab, col, dd, k0, k1, k2, k3, k5, new, rfl, hCb, hsub⟩ := hC cls H' hE
    obtain ⟨tl, N', nm', q', bs', hdct', sn', sub', ab', col', dd', j0, j1, j2, j3, j5, mN, hDb, _, _, T⟩ := OD.obj
    obtain ⟨ob, hob, hobc⟩ := fl₅.there
    refine wpAny_handleBy_cons (codeAny_handlers_test (ld_glob (X := X.hnd pins a) (J5.hnd a) hg OD.bound ?_ hd)) (by intro q; cases q)
    refine matches_own (J5.bk _ _ hCb) (J5.bk _ _ hDb) hob hobc (T.hasType hDB) hsub ?_
    refine codeAny_handlers_suite_as (lands_againW fl₅ fun h₆ fl₆ sm₆ => ?_)
    have J6 : Inv X pins σ' H' { s₁ with heap := h₆ } := F.land J1 hl fl inB trB fl₆.1 ((sm₄.trans sm₅).trans sm₆)
    obtain ⟨ob6, hob6, hobc6⟩ := fl₆.there
    have new1 : ∀ b o, s1.heap.get? b = some o → b ≠ a := fun b o e z => F.new o (by rw [← z]; exact e)
    have J7 := J6.track (a := a) (o := isExc a (.ref C)) F.free (fun u z => by
        obtain ⟨o', e1⟩ := J1.base.there a u z (by rw [hex]; simp)
        exact F.new o' e1) (by
        obtain ⟨m, ⟨o, _, _, ho, _⟩, _⟩ := J1.loc
        exact (new1 _ o ho).symm) (fun y c e => by
        obtain ⟨v, o, ho, _⟩ := J1.cell y c e
        exact new1 _ o ho) (fun p hp => new1 _ _ (J1.pin p hp).1) (isExc_ok hob6 hobc6)
    refine store_ok J7 hN hi (.inl hn) (v := .ref a) rfl (fun s7 J8 => ?_) (.inr hn)
    have hk : X.env.kindOf n = some .local := hn
    have hcls : (X.env.scope.kind == .class || (X.env.scope.kind == .module && X.env.locals != X.env.globals)) = false := by rw [I.ok.kind]; rfl
    refine wpAny_mono (hs pins a [] s7 _ _ (hEnds X Dn) (J8.hnd a) (hhand _ _ _ _ hE F.free J1.len)) (fun f s8 h8 => ?_) fun _ _ z => z.elim
    cases f with
    | next =>
      obtain ⟨σ8, H8, J, q⟩ := h8
      have J9 := Inv.unhnd I.ok J
      obtain ⟨m, hn8, _⟩ := J9.loc
      exact wpAny_nameGoes hk hn8 hcls fun h' m' hn' sb => ⟨_, _, J9.goes hn' sb, q⟩
    | brk =>
      obtain ⟨σ8, H8, J, q⟩ := h8
      have J9 := Inv.unhnd I.ok J
      obtain ⟨m, hn8, _⟩ := J9.loc
      exact wpAny_nameGoes hk hn8 hcls fun h' m' hn' sb => ⟨_, _, J9.goes hn' sb, q⟩
    | cont =>
      obtain ⟨σ8, H8, J, q⟩ := h8
      have J9 := Inv.unhnd I.ok J
      obtain ⟨m, hn8, _⟩ := J9.loc
      exact wpAny_nameGoes hk hn8 hcls fun h' m' hn' sb => ⟨_, _, J9.goes hn' sb, q⟩
    | ret u =>
      obtain ⟨v, σ8, H8, J, r, q⟩ := h8
      have J9 := Inv.unhnd I.ok J
      obtain ⟨m, hn8, _⟩ := J9.loc
      exact wpAny_nameGoes hk hn8 hcls fun h' m' hn' sb => ⟨v, _, _, J9.goes hn' sb, r, q⟩
end
end L2

namespace L2
open PySem PySem.Spec PySem.Calls PyProof.Rows PySem.W Builtin Builtin.ObjectAttr Builtin.Getset_descriptor
/-- what is asked of an own class of exceptions -/
structure ExcCls (K : PySem.W.Frag) (C : Addr) : Prop where
  ga : findIn K (.ref C) "__getattribute__" = some (some (.builtin "BaseException.__getattribute__"))
  gt : findIn K (.ref C) "__getattr__" = some none
  cl : findIn K (.ref C) "__class__" = some (some (.builtin "object.__class__"))
  so : mroIn K C (.type "object") = some true
  sb : mroIn K C (.type "BaseException") = some true
section
variable {prog : Program} {w : World} {A : Around} {E : Value → Shared → Prop} {h : Heap} {g : Array GenState} {d : Drawn} {t : Nat} {os : OsState} {a C : Addr} {ox : Obj} {K : PySem.W.Frag}
theorem xcls_get {tp : Value} {R : Result → Shared → Prop} (Z : ExcCls K C) (X : K.In h) (hx : h.get? a = some ox) (hc : ox.cls = .ref C) (hq : R (.ok (.ret (.ref C))) ⟨h, g, d, t, os⟩) :
    codeAny (model prog w) A (.call (.builtin "getset_descriptor.__get__") ⟨[.builtin "object.__class__", .ref a, tp], []⟩) R ⟨h, g, d, t, os⟩ := by
  have L0 : Looks (model prog w) h (typeOf (.ref a)) (.ref C) := hc ▸ (Looks.ld hx).andThen .now
  have L1 := looks_mroIn (M := model prog w) X Z.so
  refine codeAny_call_builtin KF.slot_gs.plain KF.entry_gs (KF.slot_gs.check _ _ _ _ _ _ _ _ KF.type_class (KF.args_gs _ _ _) ?_)
  unfold Builtin.«getset_descriptor.__get__» descrGet
  rw [dga_obj]
  refine wpAny_bind (wpAny_pure ?_)
  unfold descrGetter descrCheckInstance descrNameAndClass isInstance
  simp only [KF.owner_class]
  repeat lk
  refine ⟨Code.quiet_builtin _ (by decide +kernel), codeAny_builtin KF.entry_class ?_⟩
  unfold Builtin.«object.__class__» shownTypeOf
  repeat lk
  exact hq
theorem xcls_entry {tk : Tok} {Q : Fin → Shared → Prop} (Z : ExcCls K C) (X : K.In h) (hx : h.get? a = some ox) (hc : ox.cls = .ref C) (hq : Q (.done (.ret (.ref C))) ⟨h, g, d, t, os⟩) :
    wpAny (model prog w) A (Builtin.«object.__getattribute__» ⟨[.ref a, .str "__class__" tk], []⟩) Q E ⟨h, g, d, t, os⟩ := by
  have hT5 : (⟨h, g, d, t, os⟩ : Shared).TypeIs (.builtin "object.__class__") "getset_descriptor" := F.typeOf_object_class
  have f5 := F.typeOf_object_class
  have f6 := F.slot_gs_get.lookup
  have f7 := F.slot_gs_set.lookup
  have L4 := looks_findIn (M := model prog w) X Z.cl
  repeat (any_goals (first | assumption | (with_reducible refine wpAny_loadPart_at hx ?_; rw [hc]) | with_reducible refine L4.at ?_ | wp_step))
  refine xcls_get Z X hx hc ?_
  repeat (any_goals (first | assumption | wp_step))
theorem xcls_check {M : Model} {nameV : Value} {Q : Unit → Shared → Prop} (Z : ExcCls K C) (X : K.In h) (hx : h.get? a = some ox) (hc : ox.cls = .ref C) (hq : Q () ⟨h, g, d, t, os⟩) :
    wpAny M A (checkBuiltinCall "BaseException.__getattribute__" ⟨[.ref a, nameV], []⟩) Q E ⟨h, g, d, t, os⟩ := by
  have hk : builtinKind "BaseException.__getattribute__" = some .slot := by decide +kernel
  have hsplit : splitId "BaseException.__getattribute__" = some ("BaseException", "__getattribute__") := by decide +kernel
  have L1 := looks_mroIn (M := M) X Z.sb
  have ha := F.args_bexc_ga (.ref a) nameV
  simp only [checkBuiltinCall, hk, hsplit]
  refine wpAny_bind ?_
  unfold isInstance
  repeat (first | (with_reducible refine wpAny_loadPart_at hx ?_; rw [hc]) | with_reducible refine L1.at ?_ | wp_step)
  exact hq
theorem xcls_call {tk : Tok} {R : Result → Shared → Prop} (Z : ExcCls K C) (X : K.In h) (hx : h.get? a = some ox) (hc : ox.cls = .ref C) (hq : R (.ok (.ret (.ref C))) ⟨h, g, d, t, os⟩) :
    codeAny (model prog w) A (.call (.builtin "BaseException.__getattribute__") ⟨[.ref a, .str "__class__" tk], []⟩) R ⟨h, g, d, t, os⟩ :=
  codeAny_call_builtin F.excAttr_ValueError.ga.plain F.entry_bexc_ga (xcls_check Z X hx hc (xcls_entry Z X hx hc hq))
theorem xcls_by {tk : Tok} {fill expr : Bool} {Q : Value → Shared → Prop} (Z : ExcCls K C) (X : K.In h) (hx : h.get? a = some ox) (hc : ox.cls = .ref C) (hq : Q (.ref C) ⟨h, g, d, t, os⟩) :
    wpAny (model prog w) A (getAttrBy (.ref a) (.str "__class__" tk) fill expr) Q E ⟨h, g, d, t, os⟩ := by
  have f3 := F.excAttr_ValueError.ga.bind (.ref a)
  have hx0 : (expr && onTheHeap (Value.builtin "BaseException.__getattribute__")) = false := by cases expr <;> rfl
  have hx2 : (Value.builtin "BaseException.__getattribute__" == Value.builtin "object.__getattribute__") = false := by decide +kernel
  have hx1 : (onTheHeap (Value.ref C) && Value.builtin "BaseException.__getattribute__" == Value.builtin "object.__getattribute__") = false := by rw [hx2]; rfl
  have L1 := looks_findIn (M := model prog w) X Z.ga
  have L2 := looks_findIn (M := model prog w) X Z.gt
  repeat (any_goals (first | assumption | (with_reducible refine wpAny_loadPart_at hx ?_; rw [hc]) | with_reducible refine L1.at ?_ | with_reducible refine L2.at ?_ | wp_step))
  refine xcls_call Z X hx hc ?_
  repeat (any_goals (first | assumption | wp_step))
theorem xcls_attr {Q : Option Value → Shared → Prop} (Z : ExcCls K C) (X : K.In h) (hx : h.get? a = some ox) (hc : ox.cls = .ref C) (hq : Q (some (.ref C)) ⟨h, g, d, t + 1, os⟩) :
    wpAny (model prog w) A (getAttr? (.ref a) "__class__") Q E ⟨h, g, d, t, os⟩ := by
  unfold getAttr? getAttrBy?
  refine wpAny_bind (wpAny_mkText (wpAny_bind (wpAny_attempt (xcls_by Z X hx hc ?_))))
  exact wpAny_pure hq
def ExcAt (a C : Addr) (h : Heap) : Prop := ∃ ob, h.get? a = some ob ∧ ob.cls = .ref C
theorem kitx_exc (Z : ExcCls K C) (hC : (clsIn K C).isSome = true) : KitX K (.ref a) (.ref C) (ExcAt a C) where
  ty := fun _ _ _ ⟨ob, hx, hc⟩ => hc ▸ (Looks.ld hx).andThen .now
  it := fun _ _ X _ => by
    obtain ⟨cdD, hcD⟩ := Option.isSome_iff_exists.mp hC
    unfold clsIn at hcD
    split at hcD
    · rename_i c' d' cd' sl' ho
      intro A' Q' E' s' k q
      unfold isType loadHead
      exact wpAny_bind (wpAny_loadPart (k _ _ (X _ _ ho)) (wpAny_pure q))
    · cases hcD
  ne := fun h tp dd its n sl X htp => by
    obtain ⟨cdD, hcD⟩ := Option.isSome_iff_exists.mp hC
    refine Bool.eq_false_iff.mpr fun q => ?_
    have e : C = tp := Value.ref.inj (beq_iff_eq.mp q)
    subst e
    unfold clsIn at hcD
    split at hcD
    · rename_i c' d' cd' sl' ho
      have z := (X _ _ ho).symm.trans htp
      cases z
    · cases hcD
  ca := fun {_ _ _ _ _ s} X ⟨ob, hx, hc⟩ k => by
    obtain ⟨hh, g, d, t, os⟩ := s
    exact xcls_attr Z X hx hc k
end
end L2

namespace L2
open PySem PySem.Spec PyProof.Rows PySem.W
section
variable {X : Cx}
theorem exc_at {pins : List (Addr × Obj)} {σ : St} {H : Hp} {s : Shared} {a C : Addr} (I : Inv X pins σ H s) (ha : H a = some (isExc a (.ref C))) : ExcAt a C s.heap := (I.hok a _ ha).1
/-- isinstance(e, D), e a caught exception -/
theorem call_isx : CallR X (.builtin "isinstance") (fun xs H Q => ∃ (a C : Addr) (y : V) (c : Value) (b : Bool), xs = [.ref a, y] ∧ cV y = some c ∧ H a = some (isExc a (.ref C)) ∧ ExcCls X.K C ∧ (clsIn X.K C).isSome = true ∧ PySem.W.kitOne X.K (.ref C) c = some b ∧ Q (.bl b) H) := by
  intro pins s σ H xs us Q I r h
  obtain ⟨a, C, y, c, b, rfl, hc, ha, Z, hC, e, q⟩ := h
  obtain ⟨u, v, rfl, rx, ry⟩ := vals2 r
  have hv : v = c := by
    cases y <;> first | (cases hc; done) | (cases hc; cases ry; rfl)
  subst hv
  cases rx
  exact PySem.W.kia_one (kitx_exc Z hC) I.kIn (exc_at I ha) e (fun z => nomatch z) fun tk => ⟨.bl b, H, I.tok _, rfl, q⟩
theorem vals_cV : ∀ {ys : List V} {cs us : List Value}, Vals ys us → ys.map cV = cs.map some → us = cs
  | [], [], _, .nil, _ => rfl
  | y :: ys, c :: cs, _, .cons r rs, h => by
    simp only [List.map_cons, List.cons.injEq] at h
    rw [vals_cV rs h.2]
    congr 1
    obtain ⟨hc, _⟩ := h
    cases y <;> first | (cases hc; done) | (cases hc; cases r; rfl)
/-- isinstance(e, (D, ..)) -/
theorem call_isxT : CallR X (.builtin "isinstance") (fun xs H Q => ∃ (a C t : Addr) (ys : List V) (cs : List Value) (b : Bool), xs = [.ref a, .ref t] ∧ H t = some (.tup ys) ∧ ys.map cV = cs.map some ∧ H a = some (isExc a (.ref C)) ∧ ExcCls X.K C ∧ (clsIn X.K C).isSome = true ∧ PySem.W.kitAny X.K (.ref C) cs = some b ∧ Q (.bl b) H) := by
  intro pins s σ H xs us Q I r h
  obtain ⟨a, C, t, ys, cs, b, rfl, ht, hc, ha, Z, hC, e, q⟩ := h
  obtain ⟨u, v, rfl, rx, ry⟩ := vals2 r
  cases rx
  cases ry
  obtain ⟨_, its, rv, p⟩ := (show ObjOk X.prog X.w H s.heap t (.tup ys) from I.hok t _ ht)
  obtain rfl := vals_cV rv hc
  obtain ⟨⟨oc, odd, oda, osl⟩, h1, h2, n, h3⟩ := p
  dsimp only at h2 h3
  subst h2 h3
  exact PySem.W.kia_tup (kitx_exc Z hC) I.kIn (exc_at I ha) h1 e (fun z => nomatch z) fun tk => ⟨.bl b, H, I.tok _, rfl, q⟩
theorem call_isxK (K : PySem.W.Frag) (hK : X.K = K) : CallR X (.builtin "isinstance") (fun xs H Q => ∃ (a C : Addr) (y : V) (c : Value) (b : Bool), xs = [.ref a, y] ∧ cV y = some c ∧ H a = some (isExc a (.ref C)) ∧ ExcCls K C ∧ (clsIn K C).isSome = true ∧ PySem.W.kitOne K (.ref C) c = some b ∧ Q (.bl b) H) := by subst hK; exact call_isx
theorem call_isxTK (K : PySem.W.Frag) (hK : X.K = K) : CallR X (.builtin "isinstance") (fun xs H Q => ∃ (a C t : Addr) (ys : List V) (cs : List Value) (b : Bool), xs = [.ref a, .ref t] ∧ H t = some (.tup ys) ∧ ys.map cV = cs.map some ∧ H a = some (isExc a (.ref C)) ∧ ExcCls K C ∧ (clsIn K C).isSome = true ∧ PySem.W.kitAny K (.ref C) cs = some b ∧ Q (.bl b) H) := by subst hK; exact call_isxT
end
end L2

namespace L2
open PySem PySem.Spec PyProof.Rows PySem.W
/-! ### defs that may raise, as their callers see them -/
structure CalE (P : Program) (w : World) (K : PySem.W.Frag) (mg : Str → Option Value) (base : Heap) (x : Str) (k : Nat) (sp : Sp) : Prop where
  ex : ∃ (f : Addr) (fd : FuncData) (ps : List Str), FnOk P w K mg base (CXe P w) k f fd ps sp ∧ mg x = some (.ref f) ∧ PySem.W.keepIn K (.ref f) = true ∧ Binds K fd ps []
structure CalME (P : Program) (w : World) (K : PySem.W.Frag) (mg : Str → Option Value) (base : Heap) (C : Addr) (m : Str) (k : Nat) (sp : Sp) : Prop where
  ex : ∃ (f : Addr) (fd : FuncData) (ps : List Str), FnOk P w K mg base (CXe P w) k f fd ps sp ∧ Meth K C m f ∧ Binds K fd ps []
structure CalIE (P : Program) (w : World) (K : PySem.W.Frag) (mg : Str → Option Value) (base : Heap) (x : Str) (C : Addr) (k : Nat) (sp : Sp) : Prop where
  ex : ∃ (f : Addr) (fd : FuncData) (ps : List Str), FnOk P w K mg base (CXe P w) k f fd ps sp ∧ Mk K C f ∧ mg x = some (.ref C) ∧ Binds K fd ps []
section
variable {X : Cx} {x m : Str} {k : Nat} {sp : Sp} {e o : Expr} {es : List Expr} {ta : TE} {t : TA} {p pos apos : Pos} {E : XK} {C : Addr}
theorem pe_nE (M : CalIE X.prog X.w X.K X.mg X.base x C k sp) (hx : Passes (CXe X.prog X.w) X E) (hr : Room (k + 1) X.A) (hg : Gl X x) (ha : PA X (e :: es) t) (h : isStar e = false := by rfl) (h2 : es.all (fun x => !isStar x) = true := by rfl)
    (hdb : (x == ("__debug__" : Str)) = false := by decide) : PE X (.Call (.Name x p) (e :: es) [] pos) (tMake C sp [] E t) := by
  obtain ⟨f, fd, ps, F, hm, hk, hb⟩ := M.ex
  exact pe_make hm F hr hg hk hb .nil hx ha hdb (star_cons h) (star_any h2)
end
theorem hnd_K {X : Cx} {pins : List (Addr × Obj)} {a : Addr} : (X.hnd pins a).K = X.K := rfl
theorem pnx_K {X : Cx} {pins : List (Addr × Obj)} : (X.pnx pins).K = X.K := rfl
/-! ### // by any divisor but nought -/
def CDivZ (i j : Int) : Prop := j ≠ 0 ∧ j.natAbs ≤ 100000000000000000000000000000000
theorem pass_no {X : Cx} : Passes (CXe X.prog X.w) X (fun _ _ _ => False) := fun _ _ _ _ _ _ _ ⟨_, _, _, _, _, h⟩ => h.elim
theorem FunD.okE {P : Program} {w : World} {K : PySem.W.Frag} {mg : Str → Option Value} {base : Heap} {x qual : Str} {st : Stmt} {f T : Addr} {fd : FuncData} {N ps : List Str} {k : Nat} {sp : Sp} (F : FunD K x qual st f fd T) (S : FnScope N ps (defScope st)) (len : ∀ vs H Q E, sp vs H Q E → vs.length = ps.length)
    (hbody : ∀ (cdv : Value) (A : Around) (outer : List Env) (s : Shared) (H : Hp) (vs : List V) (Q : VK) (E : XK), Room k (A.deeper (envOfC qual (defScope st) s.heap.objs.size f cdv)) → sp vs H Q E →
      ∃ t, PSs (cxOf (CXe P w) P w K mg base N qual (defScope st) f cdv A outer s H E) (defBody st) t ∧ t { nx := fun _ H' => Q .non H', rt := Q } (start N vs) H) : FnOk P w K mg base (CXe P w) (k + 1) f fd ps sp := by
  obtain ⟨oc, od, kV, doc, pm, an, cdv, ct, osl, rfl, lk, hcd⟩ := F.ex
  exact fn_of lk hcd S len fun A outer s H vs Q E hr hsp => hbody cdv A outer s H vs Q E hr hsp
/-- a method that may raise, called with its defaults dvs left out -/
structure CalDE (P : Program) (w : World) (K : PySem.W.Frag) (mg : Str → Option Value) (base : Heap) (C : Addr) (m : Str) (k : Nat) (sp : Sp) (dvs : List V) : Prop where
  ex : ∃ (f : Addr) (fd : FuncData) (ps : List Str) (ds : List Value), FnOk P w K mg base (CXe P w) k f fd ps sp ∧ Meth K C m f ∧ Binds K fd ps ds ∧ Vals dvs ds
/-- the classes that a ValueError stands under -/
abbrev bmV : List Value := [.type "ValueError", .type "Exception", .type "BaseException", .type "object"]
abbrev newV : String := "ValueError.__new__"
theorem boot_ValueError : bootBuiltins "ValueError" = some (.type "ValueError") := by decide +kernel
section
variable {P : Program} {w : World} {K : PySem.W.Frag} {mg : Str → Option Value} {base : Heap} {N : List Str} {qual : Str} {scope : Scope} {f : Addr} {cd : Value} {A : Around} {outer : List Env} {s : Shared} {H : Hp} {E : XK}
/-- raise x(..) in a def that may raise, x an own class under ValueError -/
theorem ps_rse {x : Str} {C : Addr} {np cpos pos : Pos} {e₀ : Expr} {rest : List Expr} {t : TA} (O : OwnCls x C bmV newV mg base) (hg : Gl (cxOf (CXe P w) P w K mg base N qual scope f cd A outer s H E) x)
    (ha : PA (cxOf (CXe P w) P w K mg base N qual scope f cd A outer s H E) (e₀ :: rest) t) (h1 : isStar e₀ = false := by rfl) (h2 : rest.all (fun x => !isStar x) = true := by rfl) (hd : (x == ("__debug__" : Str)) = false := by decide) :
    PS (cxOf (CXe P w) P w K mg base N qual scope f cd A outer s H E) (.Raise (some (.Call (.Name x np) (e₀ :: rest) [] cpos)) none pos) (tRaise t (E (.ref C) none)) :=
  ps_raise rfl O PySem.F.excBase_ValueError rfl PySem.F.excBase_ValueError hg ha (fun pins σ H1 s1 s2 e vs I hm ho hg hE => xe_made I hm ho hg hE) h1 h2 hd
theorem cls_of_mro {C : Addr} {b : Value} {r : Bool} (m : mroIn K C b = some r) : (clsIn K C).isSome = true := by
  unfold mroIn at m
  cases h : clsIn K C with
  | none => rw [h] at m; cases m
  | some cd => rfl
/-- an own class of exceptions under another one -/
theorem own_under {C D : Addr} {bmB : List Value} {newId : String} {h : Heap} (X : K.In h) (q : excIn K C bmB newId = true) (m : mroIn K C (.ref D) = some true) (ne : C ≠ D) :
    ∃ C' nm q N bs bm hdct sn sub ab col dd k0 k1 k2 k3 k5 new, Value.ref C = .ref C' ∧ h.get? C' = some (excClassObj nm q C' N bs bm hdct sn sub ab col dd k0 k1 k2 k3 k5 new) ∧ bm.contains (.ref D) = true := by
  unfold excIn at q
  split at q
  · rename_i dd cd sl ho
    split at q
    · rename_i C' bm k0 k1 k2 k3 n k5 hm hs
      simp only [Bool.and_eq_true, beq_iff_eq, Bool.not_eq_true'] at q
      obtain ⟨⟨⟨⟨⟨rfl, rfl⟩, hdel⟩, ht⟩, hok⟩, hni⟩ := q
      have hcl : clsIn K C' = some cd := by unfold clsIn; rw [ho]
      obtain ⟨nm, bs, mro, ns, qn, hd, sn, sub, ab, col, del⟩ := cd
      dsimp only at hm hdel hok hni
      subst hm hdel
      have hsl : sl = #[k0, k1, k2, k3, some (.builtin n), k5] := by
        obtain ⟨l⟩ := sl
        simp only at hs
        rw [hs]
      subst hsl
      refine ⟨C', nm, qn, ns, bs, bm, hd, sn, sub, ab, col, dd, k0, k1, k2, k3, k5, _, rfl, X _ _ ho, ?_⟩
      unfold mroIn at m
      rw [hcl] at m
      have m : (Value.ref C' :: bm).contains (.ref D) = true := Option.some.inj m
      rw [List.contains_cons, Bool.or_eq_true] at m
      rcases m with m | m
      · exact absurd (Value.ref.inj (beq_iff_eq.mp m)).symm ne
      · exact m
    · cases q
  · cases q
end
end L2

set_option maxHeartbeats 4000000
namespace Pf
open PySem L2 PyProof.Rows
def top (i : Nat) : Stmt := PySem.Challenge.pw_limbtables_k13_drawings_refused.main.body.getD i (.Pass ⟨0, 0, 0, 0⟩)
abbrev s_is_whole : Stmt := top 16
abbrev s_makes_drawing : Stmt := top 20
abbrev s_is_arrow : Stmt := top 21
abbrev s_Drawing_init : Stmt := inClass (top 22) 0
abbrev s_law_cell : Stmt := top 24
abbrev s_law_bag : Stmt := top 25
abbrev s_law_draw : Stmt := top 26
abbrev s_law_order : Stmt := top 27
abbrev s_law_rest_edges : Stmt := top 28
abbrev s_law_bad_edges : Stmt := top 29
abbrev s_law_edges : Stmt := top 30
abbrev s_law_drawn : Stmt := top 31
abbrev s_law_spoiled : Stmt := top 32
abbrev s_law_strange : Stmt := top 33
abbrev s_law_refused : Stmt := top 34
abbrev s_law_made : Stmt := top 35
abbrev s_law : Stmt := top 36
theorem sc_is_whole : FnScope ["thing"] ["thing"] (defScope s_is_whole) := ⟨rfl, rfl, rfl, by decide +kernel, rfl, by decide +kernel, by decide +kernel⟩
theorem sc_makes_drawing : FnScope ["many", "arrows"] ["many", "arrows"] (defScope s_makes_drawing) := ⟨rfl, rfl, rfl, by decide +kernel, rfl, by decide +kernel, by decide +kernel⟩
theorem sc_is_arrow : FnScope ["many", "thing"] ["many", "thing"] (defScope s_is_arrow) := ⟨rfl, rfl, rfl, by decide +kernel, rfl, by decide +kernel, by decide +kernel⟩
theorem sc_Drawing_init : FnScope ["self", "many", "arrows"] ["self", "many", "arrows"] (defScope s_Drawing_init) := ⟨rfl, rfl, rfl, by decide +kernel, rfl, by decide +kernel, by decide +kernel⟩
theorem sc_law_cell : FnScope ["_law_script", "_law_k"] ["_law_script", "_law_k"] (defScope s_law_cell) := ⟨rfl, rfl, rfl, by decide +kernel, rfl, by decide +kernel, by decide +kernel⟩
theorem sc_law_bag : FnScope ["_law_cell_here"] ["_law_cell_here"] (defScope s_law_bag) := ⟨rfl, rfl, rfl, by decide +kernel, rfl, by decide +kernel, by decide +kernel⟩
theorem sc_law_draw : FnScope ["_law_bag_here", "_law_many", "_law_found"] ["_law_bag_here", "_law_many"] (defScope s_law_draw) := ⟨rfl, rfl, rfl, by decide +kernel, rfl, by decide +kernel, by decide +kernel⟩
theorem sc_law_order : FnScope ["_law_bag_here", "_law_many", "_law_left", "_law_row", "_law_at"] ["_law_bag_here", "_law_many"] (defScope s_law_order) := ⟨rfl, rfl, rfl, by decide +kernel, rfl, by decide +kernel, by decide +kernel⟩
theorem sc_law_rest_edges : FnScope ["_law_bag_here", "_law_way", "_law_edges_here", "_law_many", "_law_k", "_law_one"] ["_law_bag_here", "_law_way"] (defScope s_law_rest_edges) := ⟨rfl, rfl, rfl, by decide +kernel, rfl, by decide +kernel, by decide +kernel⟩
theorem sc_law_bad_edges : FnScope ["_law_bag_here", "_law_sort", "_law_many", "_law_long", "_law_edges_here"] ["_law_bag_here"] (defScope s_law_bad_edges) := ⟨rfl, rfl, rfl, by decide +kernel, rfl, by decide +kernel, by decide +kernel⟩
theorem sc_law_edges : FnScope ["_law_bag_here", "_law_way", "_law_many"] ["_law_bag_here", "_law_way"] (defScope s_law_edges) := ⟨rfl, rfl, rfl, by decide +kernel, rfl, by decide +kernel, by decide +kernel⟩
theorem sc_law_drawn : FnScope ["_law_bag_here", "_law_way", "_law_many", "_law_left", "_law_order_here", "_law_arrows", "_law_at", "_law_one", "_law_other"] ["_law_bag_here", "_law_way"] (defScope s_law_drawn) := ⟨rfl, rfl, rfl, by decide +kernel, rfl, by decide +kernel, by decide +kernel⟩
theorem sc_law_spoiled : FnScope ["_law_bag_here", "_law_many", "_law_arrows", "_law_way", "_law_far", "_law_at", "_law_bad"] ["_law_bag_here", "_law_many", "_law_arrows"] (defScope s_law_spoiled) := ⟨rfl, rfl, rfl, by decide +kernel, rfl, by decide +kernel, by decide +kernel⟩
theorem sc_law_strange : FnScope ["_law_bag_here", "_law_many", "_law_arrows", "_law_way", "_law_things", "_law_thing", "_law_at", "_law_bad"] ["_law_bag_here", "_law_many", "_law_arrows"] (defScope s_law_strange) := ⟨rfl, rfl, rfl, by decide +kernel, rfl, by decide +kernel, by decide +kernel⟩
theorem sc_law_refused : FnScope ["_law_many", "_law_arrows", "e"] ["_law_many", "_law_arrows"] (defScope s_law_refused) := ⟨rfl, rfl, rfl, by decide +kernel, rfl, by decide +kernel, by decide +kernel⟩
theorem sc_law_made : FnScope ["_law_many", "_law_arrows", "_law_lent", "_law_drawing"] ["_law_many", "_law_arrows"] (defScope s_law_made) := ⟨rfl, rfl, rfl, by decide +kernel, rfl, by decide +kernel, by decide +kernel⟩
theorem sc_law : FnScope ["_law_script", "_law_k", "_law_bag_here", "_law_many", "_law_arrows", "_law_wrong", "_law_spoiled_here", "_law_lent"] ["_law_script"] (defScope s_law) := ⟨rfl, rfl, rfl, by decide +kernel, rfl, by decide +kernel, by decide +kernel⟩
structure Txt (K : PySem.W.Frag) (mg : Str → Option Value) (C : Addr) : Prop where
  cl_Drawing : Cls K C
  nM : NoAttr K C "many"
  nA : NoAttr K C "arrows"
  n_len : mg "len" = none
  n_range : mg "range" = none
  n_list : mg "list" = none
  n_min : mg "min" = none
  n_int : mg "int" = none
  n_bool : mg "bool" = none
  n_tuple : mg "tuple" = none
  n_all : mg "all" = none
  n_isinstance : mg "isinstance" = none
  n_ValueError : mg "ValueError" = none
  g_MOST_POINTS : ∃ t, mg "MOST_POINTS" = some (.int 8 t)
  g_MOST_ARROWS : ∃ t, mg "MOST_ARROWS" = some (.int 9 t)
def BagV (a b : Int) : HO := .lst [.int a, .int b]
def Bag (H : Hp) (l : Addr) : Prop := ∃ a b : Int, H l = some (BagV a b) ∧ 0 ≤ b ∧ b < 2147483647
def spCell (K : PySem.W.Frag) : Sp := fun vs H Q _ => ∃ (a : Addr) (ns : List Int) (k : Int), vs = [.ref a, .int k] ∧ SqL K H a (ns.map V.int) ∧ ns.length ≤ 63 ∧ 0 ≤ k ∧ ∀ c, Q (.int c) H
def spBag : Sp := fun vs H Q _ => ∃ c : Int, vs = [.int c] ∧ ∀ (l : Addr) (a b : Int), H l = none → 0 ≤ b → b < 2147483647 → Q (.ref l) (upd H l (BagV a b))
def spDraw : Sp := fun vs H Q _ => ∃ (l : Addr) (a b n : Int), vs = [.ref l, .int n] ∧ H l = some (BagV a b) ∧ 0 ≤ b ∧ b < 2147483647 ∧ 0 < n ∧ n ≤ 100000000000000000000000000000000 ∧
  ∀ (r a' b' : Int), 0 ≤ r → r < n → 0 ≤ b' → b' < 2147483647 → Q (.int r) (upd H l (BagV a' b'))
section
variable {P : Program} {w : World} {K : PySem.W.Frag} {mg : Str → Option Value} {base : Heap} {C : Addr}
theorem ok_cell {f : Addr} {fd : FuncData} (F : Fun K "_law_cell" "_law_cell" s_law_cell f fd) (T : Txt K mg C) : FnOk P w K mg base CX0 1 f fd ["_law_script", "_law_k"] (spCell K) := by
  have nd := sc_law_cell.nd
  refine F.ok sc_law_cell (fun vs H Q E h => ?_) (fun cdv A outer s H vs Q E hr h => ?_)
  · obtain ⟨a, ns, k, rfl, _⟩ := h
    rfl
  · obtain ⟨a, ns, k, rfl, hS, hl, h0, q⟩ := h
    refine ⟨_, (@pss_cons _ _ _ _ _ (@ps_if _ _ _ _ _ _ _ _ (pt_cmpR op_lt (pv 1) (pe_cB call_len_seq rfl T.n_len PySem.boot_len (@pa_c _ _ _ _ _ (pv 0) pa_nil (by rfl))) (nomark _)) (@pss_one _ _ _ (@ps_ret _ _ _ _ (@pe_ix _ _ _ _ _ _ _ ix_list (pv 0) (pv 1) (fun _ _ => rfl)))) pss_nil) (@pss_one _ _ _ (@ps_ret _ _ _ _ pe_int))), ?_⟩
    simp only [tSeq, tIfS, tTest, tOp, tUn, tVar, tC, tCB, tCons, tNil, tRet, tRetN, tNext, tDrop, tAsg, tAug, ipI, gName, gTup, gCons, gNil, gSub, tTup, tLst, tSl, tNoPart, tPart, tChain, tCall, tBM, tBM0, tPar, tB, tAnd, tOr, tNot, tAndV, tOrV, tNotV, tIf, tYes, tMake, tMeth, tFld, sFld, tAugS, rGetL, rI0, rI, rU, rIxL, rIxT, rSetL, rSlL, rAppend, rBits, tTry, hEnds, tRaise, hnd_K, pnx_K, rCat, rEq, rNe, rEqL, rEqT, rIn, scal_ii, scal_bb, scal_ss, iList, iTup, iRng1, iRng2, cV, cx_K, in_K, wish_K, E0, L2.start, List.map, List.length, List.replicate, List.cons_append, List.nil_append, List.append_nil, List.getElem?_cons_zero, List.getElem?_cons_succ, List.set_cons_zero, List.set_cons_succ, Option.some.injEq, exists_eq_left', exists_eq_left, exists_and_left, V.int.injEq, V.bl.injEq, V.ref.injEq, V.ty.injEq, List.cons.injEq, reduceCtorEq, false_and, and_false, exists_false, or_false, false_or, and_true, true_and, Nat.reduceSub, Nat.reduceAdd, Nat.reduceLT, if_true, if_false, Bool.false_eq_true]
    refine ⟨_, .inl hS, ite2 (fun hc => ?_) (fun _ => q 0)⟩
    have hc := of_decide_eq_true hc
    rw [List.length_map] at hc
    refine ⟨_, hS, V.int (ns[k.toNat]'(by omega)), atI_at h0 ?_, q _⟩
    rw [List.getElem?_map, List.getElem?_eq_getElem (by omega)]
    rfl
theorem pow60 : IntMulOk (10 ^ (60 : Int).toNat) (10 ^ (60 : Int).toNat) := IntMulOk.of_bits (by decide +kernel) (by decide +kernel)
theorem cpow (k : Int) (h0 : 0 ≤ k) (h1 : k ≤ 1000) : CPow 10 k := ⟨h0, by omega, by decide⟩
theorem mod_lo (c n : Int) (h : 0 < n) : 0 ≤ c % n := Int.emod_nonneg _ (by omega)
theorem mod_hi (c n : Int) (h : 0 < n) : c % n < n := Int.emod_lt_of_pos _ h
theorem ok_bag {f : Addr} {fd : FuncData} (F : Fun K "_law_bag" "_law_bag" s_law_bag f fd) (T : Txt K mg C) : FnOk P w K mg base CX0 1 f fd ["_law_cell_here"] spBag := by
  have nd := sc_law_bag.nd
  refine F.ok sc_law_bag (fun vs H Q E h => ?_) (fun cdv A outer s H vs Q E hr h => ?_)
  · obtain ⟨c, rfl, _⟩ := h
    rfl
  · obtain ⟨c, rfl, q⟩ := h
    refine ⟨_, (@pss_cons _ _ _ _ _ (@ps_if _ _ _ _ _ _ _ _ (pt_cmpR op_ge (pv 0) (@pe_op _ _ _ _ _ _ _ _ op_pow pe_int pe_int) (nomark _)) (@pss_one _ _ _ (@ps_ret _ _ _ _ (@pe_lst _ _ _ _ (@pa_c _ _ _ _ _ (@pe_op _ _ _ _ _ _ _ _ op_mod (pv 0) (@pe_op _ _ _ _ _ _ _ _ op_mulG (@pe_op _ _ _ _ _ _ _ _ op_pow pe_int pe_int) (@pe_op _ _ _ _ _ _ _ _ op_pow pe_int pe_int))) (@pa_c _ _ _ _ _ (@pe_op _ _ _ _ _ _ _ _ op_mod (pv 0) pe_int) pa_nil (by rfl)) (by rfl))))) pss_nil) (@pss_one _ _ _ (@ps_ret _ _ _ _ (@pe_lst _ _ _ _ (@pa_c _ _ _ _ _ pe_int (@pa_c _ _ _ _ _ (@pe_op _ _ _ _ _ _ _ _ op_mod (@pe_op _ _ _ _ _ _ _ _ op_add (@pe_op _ _ _ _ _ _ _ _ op_mul (@pe_op _ _ _ _ _ _ _ _ op_mod (pv 0) pe_int) pe_int) pe_int) pe_int) pa_nil (by rfl)) (by rfl)))))), ?_⟩
    simp only [tSeq, tIfS, tTest, tOp, tUn, tVar, tC, tCB, tCons, tNil, tRet, tRetN, tNext, tDrop, tAsg, tAug, ipI, gName, gTup, gCons, gNil, gSub, tTup, tLst, tSl, tNoPart, tPart, tChain, tCall, tBM, tBM0, tPar, tB, tAnd, tOr, tNot, tAndV, tOrV, tNotV, tIf, tYes, tMake, tMeth, tFld, sFld, tAugS, rGetL, rI0, rI, rU, rIxL, rIxT, rSetL, rSlL, rAppend, rBits, tTry, hEnds, tRaise, hnd_K, pnx_K, rCat, rEq, rNe, rEqL, rEqT, rIn, scal_ii, scal_bb, scal_ss, iList, iTup, iRng1, iRng2, cV, cx_K, in_K, wish_K, E0, L2.start, List.map, List.length, List.replicate, List.cons_append, List.nil_append, List.append_nil, List.getElem?_cons_zero, List.getElem?_cons_succ, List.set_cons_zero, List.set_cons_succ, Option.some.injEq, exists_eq_left', exists_eq_left, exists_and_left, V.int.injEq, V.bl.injEq, V.ref.injEq, V.ty.injEq, List.cons.injEq, reduceCtorEq, false_and, and_false, exists_false, or_false, false_or, and_true, true_and, Nat.reduceSub, Nat.reduceAdd, Nat.reduceLT, if_true, if_false, Bool.false_eq_true]
    refine ⟨cpow _ (by decide) (by decide), ite2 (fun _ => ?_) (fun _ => ?_)⟩
    · exact ⟨cpow _ (by decide) (by decide), cpow _ (by decide) (by decide), pow60, by decide +kernel, by decide, by decide, fun p hp => q p _ _ hp (mod_lo _ _ (by decide)) (mod_hi _ _ (by decide))⟩
    · exact ⟨by decide, .inr ⟨by decide, by decide⟩, by decide, by decide, fun p hp => q p _ _ hp (mod_lo _ _ (by decide)) (mod_hi _ _ (by decide))⟩
theorem ok_draw {f : Addr} {fd : FuncData} (F : Fun K "_law_draw" "_law_draw" s_law_draw f fd) (T : Txt K mg C) : FnOk P w K mg base CX0 1 f fd ["_law_bag_here", "_law_many"] spDraw := by
  have nd := sc_law_draw.nd
  refine F.ok sc_law_draw (fun vs H Q E h => ?_) (fun cdv A outer s H vs Q E hr h => ?_)
  · obtain ⟨l, a, b, n, rfl, _⟩ := h
    rfl
  · obtain ⟨l, a, b, n, rfl, hl, b0, b1, n0, n1, q⟩ := h
    refine ⟨_, (@pss_cons _ _ _ _ _ (@ps_if _ _ _ _ _ _ _ _ (pt_cmpR op_ge (@pe_ix _ _ _ _ _ _ _ ix_list (pv 0) pe_int (fun _ _ => rfl)) (pv 1) (nomark _)) (@pss_cons _ _ _ _ _ (ps_set (i := 2) nd rfl (Or.inl rfl) (@pe_op _ _ _ _ _ _ _ _ op_mod (@pe_ix _ _ _ _ _ _ _ ix_list (pv 0) pe_int (fun _ _ => rfl)) (pv 1))) (@pss_cons _ _ _ _ _ (ps_asg (@pe_op _ _ _ _ _ _ _ _ op_fdivG (@pe_ix _ _ _ _ _ _ _ ix_list (pv 0) pe_int (fun _ _ => rfl)) (pv 1)) (pg_sub (pv 0) pe_int set_list)) (@pss_one _ _ _ (@ps_ret _ _ _ _ (pv 2))))) pss_nil) (@pss_cons _ _ _ _ _ (ps_asg pe_int (pg_sub (pv 0) pe_int set_list)) (@pss_cons _ _ _ _ _ (ps_asg (@pe_op _ _ _ _ _ _ _ _ op_mod (@pe_op _ _ _ _ _ _ _ _ op_add (@pe_op _ _ _ _ _ _ _ _ op_mul (@pe_ix _ _ _ _ _ _ _ ix_list (pv 0) pe_int (fun _ _ => rfl)) pe_int) pe_int) pe_int) (pg_sub (pv 0) pe_int set_list)) (@pss_one _ _ _ (@ps_ret _ _ _ _ (@pe_op _ _ _ _ _ _ _ _ op_mod (@pe_op _ _ _ _ _ _ _ _ op_fdiv (@pe_op _ _ _ _ _ _ _ _ op_mod (@pe_op _ _ _ _ _ _ _ _ op_mul (@pe_ix _ _ _ _ _ _ _ ix_list (pv 0) pe_int (fun _ _ => rfl)) (@pe_op _ _ _ _ _ _ _ _ op_add (@pe_op _ _ _ _ _ _ _ _ op_fdiv (@pe_ix _ _ _ _ _ _ _ ix_list (pv 0) pe_int (fun _ _ => rfl)) pe_int) pe_int)) pe_int) pe_int) (pv 1))))))), ?_⟩
    simp only [tSeq, tIfS, tTest, tOp, tUn, tVar, tC, tCB, tCons, tNil, tRet, tRetN, tNext, tDrop, tAsg, tAug, ipI, gName, gTup, gCons, gNil, gSub, tTup, tLst, tSl, tNoPart, tPart, tChain, tCall, tBM, tBM0, tPar, tB, tAnd, tOr, tNot, tAndV, tOrV, tNotV, tIf, tYes, tMake, tMeth, tFld, sFld, tAugS, rGetL, rI0, rI, rU, rIxL, rIxT, rSetL, rSlL, rAppend, rBits, tTry, hEnds, tRaise, hnd_K, pnx_K, rCat, rEq, rNe, rEqL, rEqT, rIn, scal_ii, scal_bb, scal_ss, iList, iTup, iRng1, iRng2, cV, cx_K, in_K, wish_K, E0, L2.start, List.map, List.length, List.replicate, List.cons_append, List.nil_append, List.append_nil, List.getElem?_cons_zero, List.getElem?_cons_succ, List.set_cons_zero, List.set_cons_succ, Option.some.injEq, exists_eq_left', exists_eq_left, exists_and_left, V.int.injEq, V.bl.injEq, V.ref.injEq, V.ty.injEq, List.cons.injEq, reduceCtorEq, false_and, and_false, exists_false, or_false, false_or, and_true, true_and, Nat.reduceSub, Nat.reduceAdd, Nat.reduceLT, if_true, if_false, Bool.false_eq_true]
    refine ⟨_, SqL.of hl, _, rfl, _, rfl, ite2 (fun hc => ?_) (fun hc => ?_)⟩
    · refine ⟨_, SqL.of hl, _, rfl, _, rfl, n0, _, SqL.of hl, _, rfl, _, rfl, ⟨n0, by omega⟩, _, hl, _, rfl, ?_⟩
      exact q _ _ _ (mod_lo _ _ n0) (mod_hi _ _ n0) b0 b1
    · refine ⟨_, hl, _, rfl, _, SqL.of upd_same, _, rfl, _, rfl, .inr ⟨by decide, by decide⟩, by decide, _, upd_same, _, rfl, _, SqL.of upd_same, _, rfl, _, SqL.of upd_same, _, rfl, _, rfl, ⟨by decide, by decide⟩, _, rfl, ?_⟩
      have h1 := mod_lo (b * 48271 + 4099) 2147483647 (by decide)
      have h2 := mod_hi (b * 48271 + 4099) 2147483647 (by decide)
      refine ⟨.inl ⟨by omega, by omega⟩, by decide, ⟨by decide, by decide⟩, n0, ?_⟩
      rw [upd_upd]
      exact q _ _ _ (mod_lo _ _ n0) (mod_hi _ _ n0) h1 h2
end
end Pf

set_option maxHeartbeats 4000000
namespace Pf
open PySem L2 PyProof.Rows
section
variable {P : Program} {w : World} {K : PySem.W.Frag} {mg : Str → Option Value} {base : Heap} {C : Addr}
def InR (m : Int) (ys : List Int) : Prop := ∀ y ∈ ys, 0 ≤ y ∧ y < m
def spOrder : Sp := fun vs H Q _ => ∃ (l : Addr) (m : Int), vs = [.ref l, .int m] ∧ Bag H l ∧ 0 ≤ m ∧ m ≤ 8 ∧
  ∀ (p : Addr) (ys : List Int) (H' : Hp), Ext l H H' → Bag H' l → H p = none → H' p = some (.lst (ys.map V.int)) → (ys.length : Int) = m → InR m ys → Q (.ref p) H'
theorem rngV_ints (lo hi : Int) : rngV lo hi = ((List.range (hi - lo).toNat).map fun (i : Nat) => lo + (i : Int)).map V.int := by
  unfold rngV
  rw [List.map_map]
  rfl
theorem cut_lo (xs : List V) (k : Int) (h0 : 0 ≤ k) (h1 : k ≤ xs.length) : cutV xs none (some k) = xs.take k.toNat := by
  unfold cutV HT.sIx
  have : ¬ k < 0 := by omega
  simp only [this, if_false, List.drop_zero, Nat.sub_zero]
  congr 1
  omega
theorem cut_hi (xs : List V) (k : Int) (h0 : 0 ≤ k) (h1 : k ≤ xs.length) : cutV xs (some k) none = xs.drop k.toNat := by
  unfold cutV HT.sIx
  have e : ¬ k < 0 := by omega
  have e2 : min k.toNat xs.length = k.toNat := by omega
  simp only [e, if_false, e2]
  rw [List.take_of_length_le]
  rw [List.length_drop]
  omega
theorem Bag.ne {H : Hp} {l p : Addr} (h : Bag H l) (hp : H p = none) : p ≠ l := by
  obtain ⟨a, b, e, _⟩ := h
  exact (ne_of_none e hp).symm
theorem Bag.new {H : Hp} {l p : Addr} {o : HO} (h : Bag H l) (hp : p ≠ l) : Bag (upd H p o) l := by
  obtain ⟨a, b, e, h1, h2⟩ := h
  exact ⟨a, b, by rw [upd_ne hp.symm]; exact e, h1, h2⟩
theorem Bag.set {H : Hp} {l : Addr} {a b : Int} (h1 : 0 ≤ b) (h2 : b < 2147483647) : Bag (upd H l (BagV a b)) l := ⟨a, b, upd_same, h1, h2⟩
theorem ok_order {f : Addr} {fd : FuncData} (F : Fun K "_law_order" "_law_order" s_law_order f fd) (T : Txt K mg C) (C_law_draw : Cal P w K mg base "_law_draw" 1 spDraw) : FnOk P w K mg base CX0 2 f fd ["_law_bag_here", "_law_many"] spOrder := by
  have nd := sc_law_order.nd
  refine F.ok sc_law_order (fun vs H Q E h => ?_) (fun cdv A outer s H vs Q E hr h => ?_)
  · obtain ⟨l, m, rfl, _⟩ := h
    rfl
  · obtain ⟨l, m, rfl, hb, m0, m8, q⟩ := h
    refine ⟨_, (@pss_cons _ _ _ _ _ (ps_set (i := 2) nd rfl (Or.inl rfl) (pe_cT (call_list_rng rfl) rfl T.n_list boot_list (@pa_c _ _ _ _ _ (pe_cT call_rng1 rfl T.n_range boot_range (@pa_c _ _ _ _ _ (pv 1) pa_nil (by rfl))) pa_nil (by rfl)))) (@pss_cons _ _ _ _ _ (ps_set (i := 3) nd rfl (Or.inl rfl) (@pe_lst _ _ _ _ pa_nil)) (@pss_cons _ _ _ _ _ (ps_while PassesOwn.never (pt_cmpR op_gt (pe_cB call_len_seq rfl T.n_len PySem.boot_len (@pa_c _ _ _ _ _ (pv 2) pa_nil (by rfl))) pe_int (nomark _)) (@pss_cons _ _ _ _ _ (ps_set (i := 4) nd rfl (Or.inl rfl) (pe_c C_law_draw (hr.mono (by decide)) rfl (@pa_c _ _ _ _ _ (pv 0) (@pa_c _ _ _ _ _ (pe_cB call_len_seq rfl T.n_len PySem.boot_len (@pa_c _ _ _ _ _ (pv 2) pa_nil (by rfl))) pa_nil (by rfl)) (by rfl)))) (@pss_cons _ _ _ _ _ (ps_expr (pe_bm PySem.F.plainAttrs_list PySem.F.slot_list_append PySem.F.type_list_append mt_append (pv 3) (@pa_c _ _ _ _ _ (@pe_ix _ _ _ _ _ _ _ ix_list (pv 2) (pv 4) (fun _ _ => rfl)) pa_nil (by rfl)))) (@pss_one _ _ _ (ps_set (i := 2) nd rfl (Or.inl rfl) (@pe_op _ _ _ _ _ _ _ _ op_cat (@pe_slice _ _ _ _ _ _ _ _ _ _ sl_list (pv 2) po_none (@po_some _ _ _ (pv 4))) (@pe_slice _ _ _ _ _ _ _ _ _ _ sl_list (pv 2) (@po_some _ _ _ (@pe_op _ _ _ _ _ _ _ _ op_add (pv 4) pe_int)) po_none))))))) (@pss_one _ _ _ (@ps_ret _ _ _ _ (pv 3)))))), ?_⟩
    simp only [tSeq, tIfS, tTest, tOp, tUn, tVar, tC, tCB, tCons, tNil, tRet, tRetN, tNext, tDrop, tAsg, tAug, ipI, gName, gTup, gCons, gNil, gSub, tTup, tLst, tSl, tNoPart, tPart, tChain, tCall, tBM, tBM0, tPar, tB, tAnd, tOr, tNot, tAndV, tOrV, tNotV, tIf, tYes, tMake, tMeth, tFld, sFld, tAugS, rGetL, rI0, rI, rU, rIxL, rIxT, rSetL, rSlL, rAppend, rBits, tTry, hEnds, tRaise, hnd_K, pnx_K, rCat, rEq, rNe, rEqL, rEqT, rIn, scal_ii, scal_bb, scal_ss, iList, iTup, iRng1, iRng2, cV, cx_K, in_K, wish_K, E0, L2.start, List.map, List.length, List.replicate, List.cons_append, List.nil_append, List.append_nil, List.getElem?_cons_zero, List.getElem?_cons_succ, List.set_cons_zero, List.set_cons_succ, Option.some.injEq, exists_eq_left', exists_eq_left, exists_and_left, V.int.injEq, V.bl.injEq, V.ref.injEq, V.ty.injEq, List.cons.injEq, reduceCtorEq, false_and, and_false, exists_false, or_false, false_or, and_true, true_and, Nat.reduceSub, Nat.reduceAdd, Nat.reduceLT, if_true, if_false, Bool.false_eq_true]
    intro p hp
    refine ⟨_, _, upd_same, ⟨by decide, by decide, by omega, by omega⟩, by omega, fun l1 hl1 => ⟨by decide, fun p1 hp1 => ?_⟩⟩
    have hpl := hb.ne hp
    have b1 : Bag (upd H p (.rng 0 m)) l := hb.new hpl
    have hll := b1.ne hl1
    have b2 : Bag (upd (upd H p (.rng 0 m)) l1 (.lst (rngV 0 m))) l := b1.new hll
    have hl1p : p1 ≠ l1 := (ne_of_none upd_same hp1).symm
    have hHp1 : H p1 = none := ((Same.new hp).trans (Same.new hl1)).free hp1
    rw [rngV_ints] at *
    refine ⟨fun k σ H2 => ∃ (pl : Addr) (ls rs : List Int) (v : Option V), σ = [some (.ref l), some (.int m), some (.ref pl), some (.ref p1), v] ∧ k = ls.length ∧ Ext l H H2 ∧ Bag H2 l ∧
      H2 pl = some (.lst (ls.map V.int)) ∧ H2 p1 = some (.lst (rs.map V.int)) ∧ pl ≠ p1 ∧ pl ≠ l ∧ ((ls.length : Int) + rs.length = m) ∧ InR m ls ∧ InR m rs, ?_, ?_⟩
    · refine ⟨_, l1, ((List.range (m - 0).toNat).map fun (i : Nat) => (0 : Int) + (i : Int)), [], none, rfl, rfl, ?_, b2.new (b2.ne hp1), ?_, upd_same, hl1p.symm, hll, ?_, ?_, fun _ h => nomatch h⟩
      · exact ((Ext.new hp).trans (Ext.new hl1)).trans (Ext.new hp1)
      · rw [upd_ne hl1p.symm, upd_same]
      · rw [List.length_map, List.length_range]
        simp
        omega
      · intro y hy
        obtain ⟨i, hi, rfl⟩ := List.mem_map.mp hy
        have := List.mem_range.mp hi
        omega
    · rintro k σ H2 ⟨pl, ls, rs, v, rfl, rfl, ex, hb2, hpl2, hp12, n1, n2, hlen, il, ir⟩
      simp only [tSeq, tIfS, tTest, tOp, tUn, tVar, tC, tCB, tCons, tNil, tRet, tRetN, tNext, tDrop, tAsg, tAug, ipI, gName, gTup, gCons, gNil, gSub, tTup, tLst, tSl, tNoPart, tPart, tChain, tCall, tBM, tBM0, tPar, tB, tAnd, tOr, tNot, tAndV, tOrV, tNotV, tIf, tYes, tMake, tMeth, tFld, sFld, tAugS, rGetL, rI0, rI, rU, rIxL, rIxT, rSetL, rSlL, rAppend, rBits, tTry, hEnds, tRaise, hnd_K, pnx_K, rCat, rEq, rNe, rEqL, rEqT, rIn, scal_ii, scal_bb, scal_ss, iList, iTup, iRng1, iRng2, cV, cx_K, in_K, wish_K, E0, L2.start, List.map, List.length, List.replicate, List.cons_append, List.nil_append, List.append_nil, List.getElem?_cons_zero, List.getElem?_cons_succ, List.set_cons_zero, List.set_cons_succ, Option.some.injEq, exists_eq_left', exists_eq_left, exists_and_left, V.int.injEq, V.bl.injEq, V.ref.injEq, V.ty.injEq, List.cons.injEq, reduceCtorEq, false_and, and_false, exists_false, or_false, false_or, and_true, true_and, Nat.reduceSub, Nat.reduceAdd, Nat.reduceLT, if_true, if_false, Bool.false_eq_true]
      refine ⟨_, .inl (SqL.of hpl2), ite2 (fun hc => ?_) (fun hc => ?_)⟩
      · refine ⟨_, fun _ _ h => h, ?_⟩
        have hc := of_decide_eq_true hc
        rw [List.length_map] at hc
        simp only [tSeq, tIfS, tTest, tOp, tUn, tVar, tC, tCB, tCons, tNil, tRet, tRetN, tNext, tDrop, tAsg, tAug, ipI, gName, gTup, gCons, gNil, gSub, tTup, tLst, tSl, tNoPart, tPart, tChain, tCall, tBM, tBM0, tPar, tB, tAnd, tOr, tNot, tAndV, tOrV, tNotV, tIf, tYes, tMake, tMeth, tFld, sFld, tAugS, rGetL, rI0, rI, rU, rIxL, rIxT, rSetL, rSlL, rAppend, rBits, tTry, hEnds, tRaise, hnd_K, pnx_K, rCat, rEq, rNe, rEqL, rEqT, rIn, scal_ii, scal_bb, scal_ss, iList, iTup, iRng1, iRng2, cV, cx_K, in_K, wish_K, E0, L2.start, List.map, List.length, List.replicate, List.cons_append, List.nil_append, List.append_nil, List.getElem?_cons_zero, List.getElem?_cons_succ, List.set_cons_zero, List.set_cons_succ, Option.some.injEq, exists_eq_left', exists_eq_left, exists_and_left, V.int.injEq, V.bl.injEq, V.ref.injEq, V.ty.injEq, List.cons.injEq, reduceCtorEq, false_and, and_false, exists_false, or_false, false_or, and_true, true_and, Nat.reduceSub, Nat.reduceAdd, Nat.reduceLT, if_true, if_false, Bool.false_eq_true]
        refine ⟨_, .inl (SqL.of hpl2), ?_⟩
        obtain ⟨a, b, hla, b0, b1'⟩ := hb2
        rw [List.length_map]
        refine ⟨l, a, b, _, rfl, hla, b0, b1', hc, by omega, fun r a' b' r0 r1 c0 c1 => ?_⟩
        have hr1 : r.toNat < ls.length := by omega
        have hp1l : p1 ≠ l := hb.ne hHp1
        have h3pl : (upd H2 l (BagV a' b')) pl = some (.lst (ls.map V.int)) := by rw [upd_ne n2]; exact hpl2
        have h3p1 : (upd H2 l (BagV a' b')) p1 = some (.lst (rs.map V.int)) := by rw [upd_ne hp1l]; exact hp12
        have e1 : Ext l H (upd H2 l (BagV a' b')) := ex.trans Ext.set
        have B1 : Bag (upd H2 l (BagV a' b')) l := Bag.set c0 c1
        refine ⟨.inl ⟨rfl, _, SqL.of h3p1⟩, _, r, rfl, SqL.of h3pl, V.int (ls[r.toNat]), atI_at r0 (by rw [List.getElem?_map, List.getElem?_eq_getElem hr1]; rfl), _, h3p1, small1000 (by rw [List.length_map]; omega), r, rfl, _,
          SqL.of (by rw [upd_ne n1]; exact h3pl), fun p2 hp2 => ⟨r, rfl, ls.map V.int, SqL.of ?g1, fun p3 hp3 => ⟨cutV (ls.map V.int) none (some r), ?g2, _, upd_same, ?g3, fun p4 hp4 => ?g4⟩⟩⟩
        case g1 =>
          have : pl ≠ p2 := ne_of_none (by rw [upd_ne n1]; exact h3pl) hp2
          rw [upd_ne this, upd_ne n1]
          exact h3pl
        case g2 => rw [upd_ne (ne_of_none upd_same hp3)]; exact upd_same
        case g3 =>
          have h1 := cutV_length (ls.map V.int) none (some r)
          have h2 := cutV_length (ls.map V.int) (some (r + 1)) none
          rw [List.length_map] at h1 h2
          exact Nat.le_of_lt (small1000 (by omega))
        case g4 =>
          have e2 := e1.upd (o := .lst (rs.map V.int ++ [V.int ls[r.toNat]])) hHp1
          have B2 : Bag (upd (upd H2 l (BagV a' b')) p1 (.lst (rs.map V.int ++ [V.int ls[r.toNat]]))) l := B1.new hp1l
          have e3 := e2.trans (Ext.new (o := .lst (cutV (ls.map V.int) none (some r))) hp2)
          have B3 := B2.new (o := .lst (cutV (ls.map V.int) none (some r))) (B2.ne hp2)
          have e4 := e3.trans (Ext.new (o := .lst (cutV (ls.map V.int) (some (r + 1)) none)) hp3)
          have B4 := B3.new (o := .lst (cutV (ls.map V.int) (some (r + 1)) none)) (B3.ne hp3)
          have n21 : p2 ≠ p1 := (ne_of_none upd_same hp2).symm
          have q2 : (upd (upd (upd H2 l (BagV a' b')) p1 (.lst (rs.map V.int ++ [V.int ls[r.toNat]]))) p2 (.lst (cutV (ls.map V.int) none (some r)))) p1 = some (.lst (rs.map V.int ++ [V.int ls[r.toNat]])) := by
            rw [upd_ne n21.symm]; exact upd_same
          have n31 : p1 ≠ p3 := ne_of_none q2 hp3
          have q3 : (upd (upd (upd (upd H2 l (BagV a' b')) p1 (.lst (rs.map V.int ++ [V.int ls[r.toNat]]))) p2 (.lst (cutV (ls.map V.int) none (some r)))) p3 (.lst (cutV (ls.map V.int) (some (r + 1)) none))) p1 = some (.lst (rs.map V.int ++ [V.int ls[r.toNat]])) := by
            rw [upd_ne n31]; exact q2
          have n41 : p1 ≠ p4 := ne_of_none q3 hp4
          refine ⟨(ls.take r.toNat ++ ls.drop (r.toNat + 1)).length, by rw [List.length_append, List.length_take, List.length_drop]; omega, p4, ls.take r.toNat ++ ls.drop (r.toNat + 1), rs ++ [ls[r.toNat]], _, ⟨rfl, rfl⟩, rfl, e4.trans (Ext.new hp4), B4.new (B4.ne hp4), ?_, ?_, n41.symm, B4.ne hp4, ?_, ?_, ?_⟩
          · rw [upd_same, cut_lo _ _ r0 (by rw [List.length_map]; omega), cut_hi _ _ (by omega) (by rw [List.length_map]; omega), List.map_append, List.map_take, List.map_drop, show (r + 1).toNat = r.toNat + 1 by omega]
          · rw [upd_ne n41, q3, List.map_append]
            rfl
          · rw [List.length_append, List.length_append, List.length_take, List.length_drop]
            simp
            omega
          · intro y hy
            rcases List.mem_append.mp hy with h | h
            · exact il y (List.mem_of_mem_take h)
            · exact il y (List.mem_of_mem_drop h)
          · intro y hy
            rcases List.mem_append.mp hy with h | h
            · exact ir y h
            · rw [List.mem_singleton.mp h]
              exact il _ (List.getElem_mem hr1)
      · have hc : ¬ (0 : Int) < ((ls.map V.int).length : Nat) := fun z => hc (decide_eq_true z)
        rw [List.length_map] at hc
        exact q p1 rs H2 ex hb2 hHp1 hp12 (by omega) ir
end
end Pf

set_option maxHeartbeats 1000000
namespace Pf
open PySem L2 PyProof.Rows
section
variable {P : Program} {w : World} {K : PySem.W.Frag} {mg : Str → Option Value} {base : Heap} {C : Addr}
/-- a list of pairs of points -/
def Edge (H : Hp) (m : Int) (x : V) : Prop := ∃ (t : Addr) (i j : Int), x = .ref t ∧ H t = some (.tup [.int i, .int j]) ∧ 0 ≤ i ∧ i < m ∧ 0 ≤ j ∧ j < m
def Edges (H : Hp) (m : Int) (xs : List V) : Prop := ∀ x ∈ xs, Edge H m x
theorem Edge.same {H H' : Hp} {m : Int} {x : V} (e : Edge H m x) (s : Same H H') : Edge H' m x := by
  obtain ⟨t, i, j, h1, h2, h3⟩ := e
  exact ⟨t, i, j, h1, s _ _ h2, h3⟩
theorem Edges.same {H H' : Hp} {m : Int} {xs : List V} (e : Edges H m xs) (s : Same H H') : Edges H' m xs := fun x hx => (e x hx).same s
theorem Edge.ext {H H' : Hp} {m : Int} {l : Addr} {x : V} {ys : List V} (e : Edge H m x) (s : Ext l H H') (hl : H l = some (.lst ys)) : Edge H' m x := by
  obtain ⟨t, i, j, h1, h2, h3⟩ := e
  exact ⟨t, i, j, h1, s _ _ (ne_of h2 hl (by intro z; cases z)) h2, h3⟩
theorem Edges.ext {H H' : Hp} {m : Int} {l : Addr} {xs ys : List V} (e : Edges H m xs) (s : Ext l H H') (hl : H l = some (.lst ys)) : Edges H' m xs := fun x hx => (e x hx).ext s hl
theorem Edges.nil {H : Hp} {m : Int} : Edges H m [] := fun _ h => nomatch h
theorem Edges.snoc {H : Hp} {m : Int} {xs : List V} {x : V} (e : Edges H m xs) (h : Edge H m x) : Edges H m (xs ++ [x]) := fun y hy => by
  rcases List.mem_append.mp hy with z | z
  · exact e y z
  · rw [List.mem_singleton.mp z]; exact h
theorem Edges.append {H : Hp} {m : Int} {xs ys : List V} (e : Edges H m xs) (h : Edges H m ys) : Edges H m (xs ++ ys) := fun y hy => by
  rcases List.mem_append.mp hy with z | z
  · exact e y z
  · exact h y z
theorem Edges.lift {H : Hp} {m m' : Int} {xs : List V} (e : Edges H m xs) (h : m ≤ m') : Edges H m' xs := fun y hy => by
  obtain ⟨t, i, j, h1, h2, h3, h4, h5, h6⟩ := e y hy
  exact ⟨t, i, j, h1, h2, h3, by omega, h5, by omega⟩
/-- changing a list keeps the pairs -/
theorem Edges.put {H : Hp} {m : Int} {xs ys : List V} {p : Addr} {o : HO} (e : Edges H m xs) (hp : H p = some (.lst ys)) : Edges (upd H p o) m xs := e.ext (l := p) Ext.set hp
structure Out (l : Addr) (H : Hp) (p e : Addr) (m : Int) (xs : List V) (H' : Hp) : Prop where
  ext : Ext l H H'
  bag : Bag H' l
  tup : H' p = some (.tup [.int m, .ref e])
  lst : H' e = some (.lst xs)
  new : H e = none
  lo : 1 ≤ m
  hi : m ≤ 8
  len : xs.length ≤ 9
  ed : Edges H' m xs
def spOut (K0 : List V → Prop) : Sp := fun vs H Q _ => ∃ (l : Addr) (r : List V), vs = .ref l :: r ∧ K0 r ∧ Bag H l ∧ ∀ p e m xs H', Out l H p e m xs H' → Q (.ref p) H'
def way1 (r : List V) : Prop := ∃ k : Int, r = [.int k]
def way0 (r : List V) : Prop := r = []

theorem Edge.mk {H : Hp} {p : Addr} {i j m : Int} (h1 : 0 ≤ i) (h2 : i < m) (h3 : 0 ≤ j) (h4 : j < m) : Edge (upd H p (.tup [.int i, .int j])) m (.ref p) := ⟨p, i, j, rfl, upd_same, h1, h2, h3, h4⟩
theorem Edges.add {H : Hp} {p : Addr} {i j m : Int} {xs : List V} (e : Edges H m xs) (hp : H p = none) (h1 : 0 ≤ i) (h2 : i < m) (h3 : 0 ≤ j) (h4 : j < m) : Edges (upd H p (.tup [.int i, .int j])) m (xs ++ [.ref p]) :=
  (e.same (Same.new hp)).snoc (Edge.mk h1 h2 h3 h4)
/-- [(a, b) for k in range(..)] -/
theorem comp_pairs {fr : List (Str × Nat)} {σ : L2.St} {t1 t2 : TE} {lo m : Int} {n : Nat} {D : Addr} {H1 : Hp} {Q : VK} (a b : Nat → Int) (hD : H1 D = none) (hn : n ≤ 9)
    (h1 : ∀ i H Q, i < n → Q (.int (a i)) H → t1 (some (.int (lo + (i : Nat))) :: capOf fr σ) H Q) (h2 : ∀ i H Q, i < n → Q (.int (b i)) H → t2 (some (.int (lo + (i : Nat))) :: capOf fr σ) H Q)
    (hr : ∀ i, i < n → 0 ≤ a i ∧ a i < m ∧ 0 ≤ b i ∧ b i < m) (hQ : ∀ xs H', Same H1 H' → H' D = some (.lst xs) → xs.length = n → Edges H' m xs → Q (.ref D) H') :
    tBlock (gName 0) tYes (tTup (tCons t1 (tCons t2 tNil))) (Itr lo n) D (capS 1 fr σ) H1 Q := by
  refine comp_itr (fun i vs H => Same H1 H ∧ H D = some (.lst vs) ∧ vs.length = i ∧ Edges H m vs) ⟨Same.new hD, upd_same, rfl, Edges.nil⟩ ?_ (fun vs H ⟨s, e, l, d⟩ => hQ vs H s e l d)
  rintro i x vs σ' H hi rfl sh ⟨s, e, hl, d⟩
  obtain ⟨z, rfl⟩ := sh.one
  simp only [tTurn, gName, tYes, List.set_cons_zero, if_true, tTup, tCons, tNil]
  refine h1 i H _ hi (h2 i H _ hi ⟨by show 2 ≤ sizeLine; decide, fun p hp => ?_⟩)
  obtain ⟨r1, r2, r3, r4⟩ := hr i hi
  have nD : D ≠ p := ne_of_none e hp
  have e' : (upd H p (.tup [.int (a i), .int (b i)])) D = some (.lst vs) := by rw [upd_ne nD]; exact e
  exact leaf (ws := vs ++ [.ref p]) hi Sh.mk1 e' (small1000 (by omega)) ⟨(s.trans (Same.new hp)).upd hD, upd_same, by rw [List.length_append, hl]; rfl, (d.add hp r1 r2 r3 r4).put e'⟩
/-- the end of each maker of edges: (many, edges) -/
theorem Out.fin {l p t : Addr} {m : Int} {xs : List V} {H H2 : Hp} (ex : Ext l H H2) (b : Bag H2 l) (hp : H2 p = some (.lst xs)) (new : H p = none) (lo : 1 ≤ m) (hi : m ≤ 8) (len : xs.length ≤ 9) (d : Edges H2 m xs) (ht : H2 t = none) :
    Out l H t p m xs (upd H2 t (.tup [.int m, .ref p])) :=
  ⟨ex.trans (Ext.new ht), b.new (b.ne ht), upd_same, by rw [upd_ne (ne_of_none hp ht)]; exact hp, new, lo, hi, len, d.same (Same.new ht)⟩
theorem Bag.draw {H : Hp} {l : Addr} {n : Int} {Q : VK} {E : XK} (b : Bag H l) (h0 : 0 < n) (h1 : n ≤ 100000000000000000000000000000000) (q : ∀ (r : Int) (H' : Hp), 0 ≤ r → r < n → Ext l H H' → Bag H' l → Q (.int r) H') : spDraw [.ref l, .int n] H Q E := by
  obtain ⟨x, y, e, y0, y1⟩ := b
  exact ⟨l, x, y, n, rfl, e, y0, y1, h0, h1, fun r a' b' r0 r1 c0 c1 => q r _ r0 r1 Ext.set (Bag.set c0 c1)⟩
theorem Bag.lst {H : Hp} {l : Addr} (b : Bag H l) : ∃ ys, H l = some (.lst ys) := by
  obtain ⟨x, y, e, _⟩ := b
  exact ⟨_, e⟩
theorem Edges.bag {H H' : Hp} {m : Int} {l : Addr} {xs : List V} (e : Edges H m xs) (s : Ext l H H') (b : Bag H l) : Edges H' m xs := by
  obtain ⟨ys, h⟩ := b.lst
  exact e.ext s h
theorem rng_draw {R : It → Hp → Prop} {l : Addr} {σ : L2.St} {H : Hp} {k : Int} (b : Bag H l) (h0 : 0 < k) (h1 : k < 1000000000) (q : ∀ (n : Int) (H3 : Hp), 0 ≤ n → n < k → Ext l H H3 → Bag H3 l → R (Itr 0 n.toNat) H3) :
    iRng1 (tCons (tCall spDraw [] E0 (tCons (tVar 0) (tCons (tC (.int k)) tNil))) tNil) (some (.ref l) :: σ) H R := by
  refine ⟨_, rfl, ?_⟩
  simp only [tCons, tC, tNil, List.append_nil]
  exact b.draw h0 (by omega) fun n H3 n0 n1 e3 b3 => ⟨n, rfl, by omega, by omega, q n H3 n0 n1 e3 b3⟩
theorem ok_rest {f : Addr} {fd : FuncData} (F : Fun K "_law_rest_edges" "_law_rest_edges" s_law_rest_edges f fd) (T : Txt K mg C) (C_law_draw : Cal P w K mg base "_law_draw" 1 spDraw) : FnOk P w K mg base CX0 2 f fd ["_law_bag_here", "_law_way"] (spOut way1) := by
  have nd := sc_law_rest_edges.nd
  refine F.ok sc_law_rest_edges (fun vs H Q E h => ?_) (fun cdv A outer s H vs Q E hr h => ?_)
  · obtain ⟨l, r, rfl, ⟨k, rfl⟩, _⟩ := h
    rfl
  · obtain ⟨l, r, rfl, ⟨k, rfl⟩, hb, q⟩ := h
    refine ⟨_, (@pss_cons _ _ _ _ _ (ps_set (i := 2) nd rfl (Or.inl rfl) (@pe_lst _ _ _ _ pa_nil)) (@pss_cons _ _ _ _ _ (ps_set (i := 3) nd rfl (Or.inl rfl) (@pe_op _ _ _ _ _ _ _ _ op_add pe_int (pe_c C_law_draw (hr.mono (by decide)) rfl (@pa_c _ _ _ _ _ (pv 0) (@pa_c _ _ _ _ _ pe_int pa_nil (by rfl)) (by rfl))))) (@pss_cons _ _ _ _ _ (@ps_if _ _ _ _ _ _ _ _ (pt_cmpR op_eq (pv 1) pe_int (nomark _)) (@pss_one _ _ _ (ps_for PassesOwn.never rfl (pi_r2 rfl T.n_range (@pa_c _ _ _ _ _ pe_int (@pa_c _ _ _ _ _ (pv 3) pa_nil (by rfl)) (by rfl))) (@pg_name _ _ 4 _ nd rfl (Or.inl rfl) (Or.inl rfl)) (@pss_one _ _ _ (@ps_if _ _ _ _ _ _ _ _ (pt_cmpR op_gt (pe_c C_law_draw (hr.mono (by decide)) rfl (@pa_c _ _ _ _ _ (pv 0) (@pa_c _ _ _ _ _ pe_int pa_nil (by rfl)) (by rfl))) pe_int (nomark _)) (@pss_one _ _ _ (ps_expr (pe_bm PySem.F.plainAttrs_list PySem.F.slot_list_append PySem.F.type_list_append mt_append (pv 2) (@pa_c _ _ _ _ _ (@pe_tup _ _ _ _ _ (@pa_c _ _ _ _ _ (@pe_op _ _ _ _ _ _ _ _ op_sub (pv 4) pe_int) (@pa_c _ _ _ _ _ (pv 4) pa_nil (by rfl)) (by rfl))) pa_nil (by rfl))))) pss_nil)))) (@pss_one _ _ _ (@ps_if _ _ _ _ _ _ _ _ (pt_cmpR op_eq (pv 1) pe_int (nomark _)) (@pss_one _ _ _ (ps_for PassesOwn.never rfl (pi_r1 rfl T.n_range (@pa_c _ _ _ _ _ (pe_c C_law_draw (hr.mono (by decide)) rfl (@pa_c _ _ _ _ _ (pv 0) (@pa_c _ _ _ _ _ pe_int pa_nil (by rfl)) (by rfl))) pa_nil (by rfl))) (@pg_name _ _ 4 _ nd rfl (Or.inl rfl) (Or.inl rfl)) (@pss_cons _ _ _ _ _ (ps_set (i := 5) nd rfl (Or.inl rfl) (pe_c C_law_draw (hr.mono (by decide)) rfl (@pa_c _ _ _ _ _ (pv 0) (@pa_c _ _ _ _ _ (pv 3) pa_nil (by rfl)) (by rfl)))) (@pss_one _ _ _ (ps_expr (pe_bm PySem.F.plainAttrs_list PySem.F.slot_list_append PySem.F.type_list_append mt_append (pv 2) (@pa_c _ _ _ _ _ (@pe_tup _ _ _ _ _ (@pa_c _ _ _ _ _ (pv 5) (@pa_c _ _ _ _ _ (pe_c C_law_draw (hr.mono (by decide)) rfl (@pa_c _ _ _ _ _ (pv 0) (@pa_c _ _ _ _ _ (pv 3) pa_nil (by rfl)) (by rfl))) pa_nil (by rfl)) (by rfl))) pa_nil (by rfl)))))))) (@pss_one _ _ _ (ps_for PassesOwn.never rfl (pi_r2 rfl T.n_range (@pa_c _ _ _ _ _ pe_int (@pa_c _ _ _ _ _ (pv 3) pa_nil (by rfl)) (by rfl))) (@pg_name _ _ 4 _ nd rfl (Or.inl rfl) (Or.inl rfl)) (@pss_one _ _ _ (ps_expr (pe_bm PySem.F.plainAttrs_list PySem.F.slot_list_append PySem.F.type_list_append mt_append (pv 2) (@pa_c _ _ _ _ _ (@pe_tup _ _ _ _ _ (@pa_c _ _ _ _ _ (pe_c C_law_draw (hr.mono (by decide)) rfl (@pa_c _ _ _ _ _ (pv 0) (@pa_c _ _ _ _ _ (pv 4) pa_nil (by rfl)) (by rfl))) (@pa_c _ _ _ _ _ (pv 4) pa_nil (by rfl)) (by rfl))) pa_nil (by rfl)))))))))) (@pss_one _ _ _ (@ps_ret _ _ _ _ (@pe_tup _ _ _ _ _ (@pa_c _ _ _ _ _ (pv 3) (@pa_c _ _ _ _ _ (pv 2) pa_nil (by rfl)) (by rfl)))))))), ?_⟩
    simp only [tSeq, tIfS, tTest, tOp, tUn, tVar, tC, tCB, tCons, tNil, tRet, tRetN, tNext, tDrop, tAsg, tAug, ipI, gName, gTup, gCons, gNil, gSub, tTup, tLst, tSl, tNoPart, tPart, tChain, tCall, tBM, tBM0, tPar, tB, tAnd, tOr, tNot, tAndV, tOrV, tNotV, tIf, tYes, tMake, tMeth, tFld, sFld, tAugS, rGetL, rI0, rI, rU, rIxL, rIxT, rSetL, rSlL, rAppend, rBits, tTry, hEnds, tRaise, hnd_K, pnx_K, rCat, rEq, rNe, rEqL, rEqT, rIn, scal_ii, scal_bb, scal_ss, iList, iTup, iRng1, iRng2, cV, cx_K, in_K, wish_K, E0, L2.start, List.map, List.length, List.replicate, List.cons_append, List.nil_append, List.append_nil, List.getElem?_cons_zero, List.getElem?_cons_succ, List.set_cons_zero, List.set_cons_succ, Option.some.injEq, exists_eq_left', exists_eq_left, exists_and_left, V.int.injEq, V.bl.injEq, V.ref.injEq, V.ty.injEq, List.cons.injEq, reduceCtorEq, false_and, and_false, exists_false, or_false, false_or, and_true, true_and, Nat.reduceSub, Nat.reduceAdd, Nat.reduceLT, if_true, if_false, Bool.false_eq_true]
    refine ⟨by decide, fun p hp => ?_⟩
    have hpl := hb.ne hp
    refine (hb.new hpl).draw (by decide) (by decide) fun x H2 x0 x1 e2 b2 => ⟨x, rfl, ?_⟩
    have hp2 : H2 p = some (.lst []) := e2 _ _ hpl upd_same
    have ex2 : Ext l H H2 := (Ext.new hp).trans e2
    have fin : ∀ (σ : L2.St) (H3 : Hp) (xs : List V) (v v5 : Option V), σ = [some (.ref l), some (.int k), some (.ref p), some (.int (1 + x)), v, v5] → Ext l H H3 → Bag H3 l → H3 p = some (.lst xs) → xs.length ≤ 9 → Edges H3 (1 + x) xs →
        tRet (tTup (tCons (tVar 3) (tCons (tVar 2) tNil))) { nx := fun x H' => Q V.non H', rt := Q } σ H3 := by
      rintro σ H3 xs v v5 rfl ex b hx hl d
      exact ⟨_, rfl, _, rfl, by show 2 ≤ sizeLine; decide, fun t ht => q _ _ _ _ _ (Out.fin ex b hx hp (by omega) (by omega) hl d ht)⟩
    have Iv : ∀ (_ : Nat), True := fun _ => trivial
    refine ite2 (fun _ => ?_) (fun _ => ite2 (fun _ => ?_) (fun _ => ?_))
    · refine ⟨_, rfl, 1, 1 + x, rfl, ⟨by decide, by decide, by omega, by omega⟩, for_range (fun i σ H3 => ∃ (xs : List V) (v v5 : Option V), σ = [some (.ref l), some (.int k), some (.ref p), some (.int (1 + x)), v, v5] ∧ Ext l H H3 ∧ Bag H3 l ∧ H3 p = some (.lst xs) ∧ xs.length ≤ i ∧ Edges H3 (1 + x) xs)
        ⟨[], none, none, rfl, ex2, b2, hp2, Nat.le_refl _, Edges.nil⟩ ?_ ?_⟩
      · rintro i σ H3 hi ⟨xs, v, v5, rfl, ex, b, hx, hl, d⟩
        simp only [tSeq, tIfS, tTest, tOp, tUn, tVar, tC, tCB, tCons, tNil, tRet, tRetN, tNext, tDrop, tAsg, tAug, ipI, gName, gTup, gCons, gNil, gSub, tTup, tLst, tSl, tNoPart, tPart, tChain, tCall, tBM, tBM0, tPar, tB, tAnd, tOr, tNot, tAndV, tOrV, tNotV, tIf, tYes, tMake, tMeth, tFld, sFld, tAugS, rGetL, rI0, rI, rU, rIxL, rIxT, rSetL, rSlL, rAppend, rBits, tTry, hEnds, tRaise, hnd_K, pnx_K, rCat, rEq, rNe, rEqL, rEqT, rIn, scal_ii, scal_bb, scal_ss, iList, iTup, iRng1, iRng2, cV, cx_K, in_K, wish_K, E0, L2.start, List.map, List.length, List.replicate, List.cons_append, List.nil_append, List.append_nil, List.getElem?_cons_zero, List.getElem?_cons_succ, List.set_cons_zero, List.set_cons_succ, Option.some.injEq, exists_eq_left', exists_eq_left, exists_and_left, V.int.injEq, V.bl.injEq, V.ref.injEq, V.ty.injEq, List.cons.injEq, reduceCtorEq, false_and, and_false, exists_false, or_false, false_or, and_true, true_and, Nat.reduceSub, Nat.reduceAdd, Nat.reduceLT, if_true, if_false, Bool.false_eq_true]
        refine b.draw (by decide) (by decide) fun r H4 r0 r1 e4 b4 => ⟨r, rfl, ite2 (fun _ => ?_) (fun _ => ?_)⟩
        · have hx4 : H4 p = some (.lst xs) := e4 _ _ hpl hx
          refine ⟨.inl ⟨rfl, _, SqL.of hx4⟩, by decide, fun t ht => ?_⟩
          have nt : p ≠ t := ne_of_none hx4 ht
          have hx5 : (upd H4 t (.tup [.int (1 + (i : Int) - 1), .int (1 + (i : Int))])) p = some (.lst xs) := by rw [upd_ne nt]; exact hx4
          refine ⟨_, hx5, small1000 (by omega), xs ++ [.ref t], _, _, ⟨rfl, rfl⟩, ((ex.trans e4).trans (Ext.new ht)).upd hp, (b4.new (b4.ne ht)).new hpl, upd_same, by rw [List.length_append]; show _ + 1 ≤ _; omega, ((d.bag e4 b).add ht (by omega) (by omega) (by omega) (by omega)).put hx5⟩
        · exact ⟨xs, _, _, ⟨rfl, rfl⟩, ex.trans e4, b4, e4 _ _ hpl hx, by omega, d.bag e4 b⟩
      · rintro σ H3 ⟨xs, v, v5, rfl, ex, b, hx, hl, d⟩
        exact fin _ H3 xs v v5 rfl ex b hx (by omega) d
    · refine rng_draw b2 (by decide) (by decide) fun n H3 n0 n1 e3 b3 => ?_
      refine (for_range (fun i σ H3 => ∃ (xs : List V) (v v5 : Option V), σ = [some (.ref l), some (.int k), some (.ref p), some (.int (1 + x)), v, v5] ∧ Ext l H H3 ∧ Bag H3 l ∧ H3 p = some (.lst xs) ∧ xs.length ≤ i ∧ Edges H3 (1 + x) xs)
        ⟨[], none, none, rfl, ex2.trans e3, b3, e3 _ _ hpl hp2, Nat.le_refl _, Edges.nil⟩ ?_ ?_)
      · rintro i σ H3 hi ⟨xs, v, v5, rfl, ex, b, hx, hl, d⟩
        simp only [tSeq, tIfS, tTest, tOp, tUn, tVar, tC, tCB, tCons, tNil, tRet, tRetN, tNext, tDrop, tAsg, tAug, ipI, gName, gTup, gCons, gNil, gSub, tTup, tLst, tSl, tNoPart, tPart, tChain, tCall, tBM, tBM0, tPar, tB, tAnd, tOr, tNot, tAndV, tOrV, tNotV, tIf, tYes, tMake, tMeth, tFld, sFld, tAugS, rGetL, rI0, rI, rU, rIxL, rIxT, rSetL, rSlL, rAppend, rBits, tTry, hEnds, tRaise, hnd_K, pnx_K, rCat, rEq, rNe, rEqL, rEqT, rIn, scal_ii, scal_bb, scal_ss, iList, iTup, iRng1, iRng2, cV, cx_K, in_K, wish_K, E0, L2.start, List.map, List.length, List.replicate, List.cons_append, List.nil_append, List.append_nil, List.getElem?_cons_zero, List.getElem?_cons_succ, List.set_cons_zero, List.set_cons_succ, Option.some.injEq, exists_eq_left', exists_eq_left, exists_and_left, V.int.injEq, V.bl.injEq, V.ref.injEq, V.ty.injEq, List.cons.injEq, reduceCtorEq, false_and, and_false, exists_false, or_false, false_or, and_true, true_and, Nat.reduceSub, Nat.reduceAdd, Nat.reduceLT, if_true, if_false, Bool.false_eq_true]
        refine b.draw (by omega) (by omega) fun r H4 r0 r1 e4 b4 => ?_
        refine ⟨.inl ⟨rfl, _, SqL.of (e4 _ _ hpl hx)⟩, b4.draw (by omega) (by omega) fun r' H5 r0' r1' e5 b5 => ⟨by decide, fun t ht => ?_⟩⟩
        have hx4 : H5 p = some (.lst xs) := e5 _ _ hpl (e4 _ _ hpl hx)
        have nt : p ≠ t := ne_of_none hx4 ht
        have hx5 : (upd H5 t (.tup [.int r, .int r'])) p = some (.lst xs) := by rw [upd_ne nt]; exact hx4
        refine ⟨_, hx5, small1000 (by omega), xs ++ [.ref t], _, _, ⟨rfl, rfl⟩, (((ex.trans e4).trans e5).trans (Ext.new ht)).upd hp, (b5.new (b5.ne ht)).new hpl, upd_same, by rw [List.length_append]; show _ + 1 ≤ _; omega, (((d.bag e4 b).bag e5 b4).add ht r0 r1 r0' r1').put hx5⟩
      · rintro σ H3 ⟨xs, v, v5, rfl, ex, b, hx, hl, d⟩
        exact fin _ H3 xs v v5 rfl ex b hx (by omega) d
    · refine ⟨_, rfl, 1, 1 + x, rfl, ⟨by decide, by decide, by omega, by omega⟩, for_range (fun i σ H3 => ∃ (xs : List V) (v v5 : Option V), σ = [some (.ref l), some (.int k), some (.ref p), some (.int (1 + x)), v, v5] ∧ Ext l H H3 ∧ Bag H3 l ∧ H3 p = some (.lst xs) ∧ xs.length ≤ i ∧ Edges H3 (1 + x) xs)
        ⟨[], none, none, rfl, ex2, b2, hp2, Nat.le_refl _, Edges.nil⟩ ?_ ?_⟩
      · rintro i σ H3 hi ⟨xs, v, v5, rfl, ex, b, hx, hl, d⟩
        simp only [tSeq, tIfS, tTest, tOp, tUn, tVar, tC, tCB, tCons, tNil, tRet, tRetN, tNext, tDrop, tAsg, tAug, ipI, gName, gTup, gCons, gNil, gSub, tTup, tLst, tSl, tNoPart, tPart, tChain, tCall, tBM, tBM0, tPar, tB, tAnd, tOr, tNot, tAndV, tOrV, tNotV, tIf, tYes, tMake, tMeth, tFld, sFld, tAugS, rGetL, rI0, rI, rU, rIxL, rIxT, rSetL, rSlL, rAppend, rBits, tTry, hEnds, tRaise, hnd_K, pnx_K, rCat, rEq, rNe, rEqL, rEqT, rIn, scal_ii, scal_bb, scal_ss, iList, iTup, iRng1, iRng2, cV, cx_K, in_K, wish_K, E0, L2.start, List.map, List.length, List.replicate, List.cons_append, List.nil_append, List.append_nil, List.getElem?_cons_zero, List.getElem?_cons_succ, List.set_cons_zero, List.set_cons_succ, Option.some.injEq, exists_eq_left', exists_eq_left, exists_and_left, V.int.injEq, V.bl.injEq, V.ref.injEq, V.ty.injEq, List.cons.injEq, reduceCtorEq, false_and, and_false, exists_false, or_false, false_or, and_true, true_and, Nat.reduceSub, Nat.reduceAdd, Nat.reduceLT, if_true, if_false, Bool.false_eq_true]
        refine ⟨.inl ⟨rfl, _, SqL.of hx⟩, b.draw (by omega) (by omega) fun r H4 r0 r1 e4 b4 => ⟨by decide, fun t ht => ?_⟩⟩
        have hx4 : H4 p = some (.lst xs) := e4 _ _ hpl hx
        have nt : p ≠ t := ne_of_none hx4 ht
        have hx5 : (upd H4 t (.tup [.int r, .int (1 + (i : Int))])) p = some (.lst xs) := by rw [upd_ne nt]; exact hx4
        refine ⟨_, hx5, small1000 (by omega), xs ++ [.ref t], _, _, ⟨rfl, rfl⟩, ((ex.trans e4).trans (Ext.new ht)).upd hp, (b4.new (b4.ne ht)).new hpl, upd_same, by rw [List.length_append]; show _ + 1 ≤ _; omega, ((d.bag e4 b).add ht r0 (by omega) (by omega) (by omega)).put hx5⟩
      · rintro σ H3 ⟨xs, v, v5, rfl, ex, b, hx, hl, d⟩
        exact fin _ H3 xs v v5 rfl ex b hx (by omega) d
end
end Pf

set_option maxHeartbeats 1000000
namespace Pf
open PySem L2 PyProof.Rows
section
variable {P : Program} {w : World} {K : PySem.W.Frag} {mg : Str → Option Value} {base : Heap} {C : Addr}
theorem Bag.same {H H' : Hp} {l : Addr} (b : Bag H l) (s : Same H H') : Bag H' l := by
  obtain ⟨x, y, e, h1, h2⟩ := b
  exact ⟨x, y, s _ _ e, h1, h2⟩
/-- a list that was laid, at the end -/
theorem Out.done {l p t : Addr} {m : Int} {xs : List V} {H H2 H5 : Hp} (ex : Ext l H H2) (b : Bag H2 l) (s : Same H2 H5) (hp : H5 p = none) (lo : 1 ≤ m) (hi : m ≤ 8) (len : xs.length ≤ 9) (d : Edges H5 m xs) (ht : (upd H5 p (.lst xs)) t = none) :
    Out l H t p m xs (upd (upd H5 p (.lst xs)) t (.tup [.int m, .ref p])) :=
  have b5 := b.same s
  have e5 : Ext l H H5 := ex.trans s.ext
  Out.fin (e5.trans (Ext.new hp)) (b5.new (b5.ne hp)) upd_same (e5.free (b5.ne hp) hp) lo hi len (d.same (Same.new hp)) ht
theorem Edges.sub {H : Hp} {m : Int} {xs ys : List V} (e : Edges H m xs) (h : ∀ y ∈ ys, y ∈ xs) : Edges H m ys := fun y hy => e y (h y hy)
theorem ok_bad {f : Addr} {fd : FuncData} (F : Fun K "_law_bad_edges" "_law_bad_edges" s_law_bad_edges f fd) (T : Txt K mg C) (C_law_draw : Cal P w K mg base "_law_draw" 1 spDraw) : FnOk P w K mg base CX0 2 f fd ["_law_bag_here"] (spOut way0) := by
  have nd := sc_law_bad_edges.nd
  refine F.ok sc_law_bad_edges (fun vs H Q E h => ?_) (fun cdv A outer s H vs Q E hr h => ?_)
  · obtain ⟨l, r, rfl, rfl, _⟩ := h
    rfl
  · obtain ⟨l, r, rfl, rfl, hb, q⟩ := h
    refine ⟨_, (@pss_cons _ _ _ _ _ (ps_set (i := 1) nd rfl (Or.inl rfl) (pe_c C_law_draw (hr.mono (by decide)) rfl (@pa_c _ _ _ _ _ (pv 0) (@pa_c _ _ _ _ _ pe_int pa_nil (by rfl)) (by rfl)))) (@pss_cons _ _ _ _ _ (@ps_if _ _ _ _ _ _ _ _ (pt_cmpR op_eq (pv 1) pe_int (nomark _)) (@pss_cons _ _ _ _ _ (ps_set (i := 2) nd rfl (Or.inr rfl) (@pe_op _ _ _ _ _ _ _ _ op_add pe_int (pe_c C_law_draw (hr.mono (by decide)) rfl (@pa_c _ _ _ _ _ (pv 0) (@pa_c _ _ _ _ _ pe_int pa_nil (by rfl)) (by rfl))))) (@pss_one _ _ _ (@ps_ret _ _ _ _ (@pe_tup _ _ _ _ _ (@pa_c _ _ _ _ _ (pv 2) (@pa_c _ _ _ _ _ (pe_comp (own := ["_law_k"]) (fr := [("_law_many", 2)]) rfl (bl_of (by kernel_rfl)) (pi_r1 rfl T.n_range (@pa_c _ _ _ _ _ (pv 2) pa_nil (by rfl))) (fun _ _ _ _ => ⟨(@pg_name _ _ 0 _ (show (["_law_k", "_law_many"] : List Str).Nodup by decide +kernel) rfl (Or.inl rfl) (Or.inr rfl)), pts_nil, (@pe_tup _ _ _ _ _ (@pa_c _ _ _ _ _ (pv 0) (@pa_c _ _ _ _ _ (@pe_op _ _ _ _ _ _ _ _ op_mod (@pe_op _ _ _ _ _ _ _ _ op_add (pv 0) pe_int) (pv 1)) pa_nil (by rfl)) (by rfl)))⟩)) pa_nil (by rfl)) (by rfl)))))) pss_nil) (@pss_cons _ _ _ _ _ (@ps_if _ _ _ _ _ _ _ _ (pt_cmpR op_eq (pv 1) pe_int (nomark _)) (@pss_cons _ _ _ _ _ (ps_set (i := 2) nd rfl (Or.inr rfl) (@pe_op _ _ _ _ _ _ _ _ op_add pe_int (pe_c C_law_draw (hr.mono (by decide)) rfl (@pa_c _ _ _ _ _ (pv 0) (@pa_c _ _ _ _ _ pe_int pa_nil (by rfl)) (by rfl))))) (@pss_one _ _ _ (@ps_ret _ _ _ _ (@pe_tup _ _ _ _ _ (@pa_c _ _ _ _ _ (pv 2) (@pa_c _ _ _ _ _ (pe_comp (own := ["_law_k"]) (fr := []) rfl (bl_of (by kernel_rfl)) (pi_r2 rfl T.n_range (@pa_c _ _ _ _ _ pe_int (@pa_c _ _ _ _ _ (pv 2) pa_nil (by rfl)) (by rfl))) (fun _ _ _ _ => ⟨(@pg_name _ _ 0 _ (show (["_law_k"] : List Str).Nodup by decide +kernel) rfl (Or.inl rfl) (Or.inr rfl)), pts_nil, (@pe_tup _ _ _ _ _ (@pa_c _ _ _ _ _ pe_int (@pa_c _ _ _ _ _ (pv 0) pa_nil (by rfl)) (by rfl)))⟩)) pa_nil (by rfl)) (by rfl)))))) pss_nil) (@pss_cons _ _ _ _ _ (@ps_if _ _ _ _ _ _ _ _ (pt_cmpR op_eq (pv 1) pe_int (nomark _)) (@pss_cons _ _ _ _ _ (ps_set (i := 3) nd rfl (Or.inl rfl) (@pe_op _ _ _ _ _ _ _ _ op_add pe_int (pe_c C_law_draw (hr.mono (by decide)) rfl (@pa_c _ _ _ _ _ (pv 0) (@pa_c _ _ _ _ _ pe_int pa_nil (by rfl)) (by rfl))))) (@pss_cons _ _ _ _ _ (ps_comp (i := 4) (own := ["_law_k"]) (fr := []) rfl (bl_of (by kernel_rfl)) (pi_r1 rfl T.n_range (@pa_c _ _ _ _ _ (@pe_op _ _ _ _ _ _ _ _ op_sub (pv 3) pe_int) pa_nil (by rfl))) (fun _ _ _ _ => ⟨(@pg_name _ _ 0 _ (show (["_law_k"] : List Str).Nodup by decide +kernel) rfl (Or.inl rfl) (Or.inr rfl)), pts_nil, (@pe_tup _ _ _ _ _ (@pa_c _ _ _ _ _ (pv 0) (@pa_c _ _ _ _ _ (@pe_op _ _ _ _ _ _ _ _ op_add (pv 0) pe_int) pa_nil (by rfl)) (by rfl)))⟩) nd rfl rfl rfl) (@pss_one _ _ _ (@ps_ret _ _ _ _ (@pe_tup _ _ _ _ _ (@pa_c _ _ _ _ _ (@pe_op _ _ _ _ _ _ _ _ op_add (pv 3) pe_int) (@pa_c _ _ _ _ _ (@pe_op _ _ _ _ _ _ _ _ op_cat (pv 4) (@pe_lst _ _ _ _ (@pa_c _ _ _ _ _ (@pe_tup _ _ _ _ _ (@pa_c _ _ _ _ _ pe_int (@pa_c _ _ _ _ _ (pv 3) pa_nil (by rfl)) (by rfl))) (@pa_c _ _ _ _ _ (@pe_tup _ _ _ _ _ (@pa_c _ _ _ _ _ pe_int (@pa_c _ _ _ _ _ (@pe_op _ _ _ _ _ _ _ _ op_add (pv 3) pe_int) pa_nil (by rfl)) (by rfl))) (@pa_c _ _ _ _ _ (@pe_tup _ _ _ _ _ (@pa_c _ _ _ _ _ (@pe_op _ _ _ _ _ _ _ _ op_sub (pv 3) pe_int) (@pa_c _ _ _ _ _ (@pe_op _ _ _ _ _ _ _ _ op_add (pv 3) pe_int) pa_nil (by rfl)) (by rfl))) (@pa_c _ _ _ _ _ (@pe_tup _ _ _ _ _ (@pa_c _ _ _ _ _ (@pe_op _ _ _ _ _ _ _ _ op_sub (pv 3) pe_int) (@pa_c _ _ _ _ _ (@pe_op _ _ _ _ _ _ _ _ op_add (pv 3) pe_int) pa_nil (by rfl)) (by rfl))) pa_nil (by rfl)) (by rfl)) (by rfl)) (by rfl)))) pa_nil (by rfl)) (by rfl))))))) pss_nil) (@pss_cons _ _ _ _ _ (@ps_if _ _ _ _ _ _ _ _ (pt_cmpR op_eq (pv 1) pe_int (nomark _)) (@pss_cons _ _ _ _ _ (ps_set (i := 2) nd rfl (Or.inr rfl) (@pe_op _ _ _ _ _ _ _ _ op_add pe_int (pe_c C_law_draw (hr.mono (by decide)) rfl (@pa_c _ _ _ _ _ (pv 0) (@pa_c _ _ _ _ _ pe_int pa_nil (by rfl)) (by rfl))))) (@pss_one _ _ _ (@ps_ret _ _ _ _ (@pe_tup _ _ _ _ _ (@pa_c _ _ _ _ _ (pv 2) (@pa_c _ _ _ _ _ (@pe_slice _ _ _ _ _ _ _ _ _ _ sl_list (@pe_lst _ _ _ _ (@pa_c _ _ _ _ _ (@pe_tup _ _ _ _ _ (@pa_c _ _ _ _ _ pe_int (@pa_c _ _ _ _ _ pe_int pa_nil (by rfl)) (by rfl))) (@pa_c _ _ _ _ _ (@pe_tup _ _ _ _ _ (@pa_c _ _ _ _ _ pe_int (@pa_c _ _ _ _ _ pe_int pa_nil (by rfl)) (by rfl))) (@pa_c _ _ _ _ _ (@pe_tup _ _ _ _ _ (@pa_c _ _ _ _ _ pe_int (@pa_c _ _ _ _ _ pe_int pa_nil (by rfl)) (by rfl))) (@pa_c _ _ _ _ _ (@pe_tup _ _ _ _ _ (@pa_c _ _ _ _ _ pe_int (@pa_c _ _ _ _ _ pe_int pa_nil (by rfl)) (by rfl))) (@pa_c _ _ _ _ _ (@pe_tup _ _ _ _ _ (@pa_c _ _ _ _ _ pe_int (@pa_c _ _ _ _ _ pe_int pa_nil (by rfl)) (by rfl))) (@pa_c _ _ _ _ _ (@pe_tup _ _ _ _ _ (@pa_c _ _ _ _ _ pe_int (@pa_c _ _ _ _ _ pe_int pa_nil (by rfl)) (by rfl))) (@pa_c _ _ _ _ _ (@pe_tup _ _ _ _ _ (@pa_c _ _ _ _ _ pe_int (@pa_c _ _ _ _ _ pe_int pa_nil (by rfl)) (by rfl))) pa_nil (by rfl)) (by rfl)) (by rfl)) (by rfl)) (by rfl)) (by rfl)) (by rfl))) po_none (@po_some _ _ _ (@pe_op _ _ _ _ _ _ _ _ op_sub (pv 2) pe_int))) pa_nil (by rfl)) (by rfl)))))) pss_nil) (@pss_one _ _ _ (@ps_ret _ _ _ _ (@pe_tup _ _ _ _ _ (@pa_c _ _ _ _ _ pe_int (@pa_c _ _ _ _ _ (@pe_lst _ _ _ _ (@pa_c _ _ _ _ _ (@pe_tup _ _ _ _ _ (@pa_c _ _ _ _ _ pe_int (@pa_c _ _ _ _ _ pe_int pa_nil (by rfl)) (by rfl))) (@pa_c _ _ _ _ _ (@pe_tup _ _ _ _ _ (@pa_c _ _ _ _ _ pe_int (@pa_c _ _ _ _ _ pe_int pa_nil (by rfl)) (by rfl))) (@pa_c _ _ _ _ _ (@pe_tup _ _ _ _ _ (@pa_c _ _ _ _ _ pe_int (@pa_c _ _ _ _ _ pe_int pa_nil (by rfl)) (by rfl))) (@pa_c _ _ _ _ _ (@pe_tup _ _ _ _ _ (@pa_c _ _ _ _ _ pe_int (@pa_c _ _ _ _ _ pe_int pa_nil (by rfl)) (by rfl))) (@pa_c _ _ _ _ _ (@pe_tup _ _ _ _ _ (@pa_c _ _ _ _ _ pe_int (@pa_c _ _ _ _ _ pe_int pa_nil (by rfl)) (by rfl))) (@pa_c _ _ _ _ _ (@pe_tup _ _ _ _ _ (@pa_c _ _ _ _ _ pe_int (@pa_c _ _ _ _ _ pe_int pa_nil (by rfl)) (by rfl))) (@pa_c _ _ _ _ _ (@pe_tup _ _ _ _ _ (@pa_c _ _ _ _ _ pe_int (@pa_c _ _ _ _ _ pe_int pa_nil (by rfl)) (by rfl))) pa_nil (by rfl)) (by rfl)) (by rfl)) (by rfl)) (by rfl)) (by rfl)) (by rfl))) pa_nil (by rfl)) (by rfl)))))))))), ?_⟩
    simp only [tSeq, tIfS, tTest, tOp, tUn, tVar, tC, tCB, tCons, tNil, tRet, tRetN, tNext, tDrop, tAsg, tAug, ipI, gName, gTup, gCons, gNil, gSub, tTup, tLst, tSl, tNoPart, tPart, tChain, tCall, tBM, tBM0, tPar, tB, tAnd, tOr, tNot, tAndV, tOrV, tNotV, tIf, tYes, tMake, tMeth, tFld, sFld, tAugS, rGetL, rI0, rI, rU, rIxL, rIxT, rSetL, rSlL, rAppend, rBits, tTry, hEnds, tRaise, hnd_K, pnx_K, rCat, rEq, rNe, rEqL, rEqT, rIn, scal_ii, scal_bb, scal_ss, iList, iTup, iRng1, iRng2, cV, cx_K, in_K, wish_K, E0, L2.start, List.map, List.length, List.replicate, List.cons_append, List.nil_append, List.append_nil, List.getElem?_cons_zero, List.getElem?_cons_succ, List.set_cons_zero, List.set_cons_succ, Option.some.injEq, exists_eq_left', exists_eq_left, exists_and_left, V.int.injEq, V.bl.injEq, V.ref.injEq, V.ty.injEq, List.cons.injEq, reduceCtorEq, false_and, and_false, exists_false, or_false, false_or, and_true, true_and, Nat.reduceSub, Nat.reduceAdd, Nat.reduceLT, if_true, if_false, Bool.false_eq_true]
    refine hb.draw (by decide) (by decide) fun z H1 z0 z1 e1 b1 => ⟨rfl, ite2 (fun _ => ?_) (fun _ => ⟨rfl, ite2 (fun _ => ?_) (fun _ => ⟨rfl, ite2 (fun _ => ?_) (fun _ => ⟨rfl, ite2 (fun _ => ?_) (fun _ => ?_)⟩)⟩)⟩)⟩
    · refine b1.draw (by decide) (by decide) fun r H2 r0 r1 e2 b2 => ⟨r, rfl, ?_⟩
      refine ⟨_, rfl, 1 + r, rfl, by omega, by omega, fun D hD => comp_pairs (m := 1 + r) (fun i => 0 + (i : Int)) (fun i => (0 + (i : Int) + 1) % (1 + r)) hD (by omega) (fun i H Q _ h => ⟨_, rfl, h⟩) (fun i H Q _ h => ⟨_, rfl, _, _, rfl, rfl, _, rfl, _, _, rfl, rfl, by omega, h⟩)
        (fun i hi => ⟨by omega, by omega, mod_lo _ _ (by omega), mod_hi _ _ (by omega)⟩) fun xs H' s e hl d => ⟨by decide, fun t ht => ?_⟩⟩
      have n1 := b2.ne hD
      have ex : Ext l H H2 := e1.trans e2
      obtain ⟨ya, yb, ye, y0, y1⟩ := id b2
      exact q _ _ _ _ _ (Out.fin (ex.trans s.ext) ⟨ya, yb, s _ _ ye, y0, y1⟩ e (ex.free n1 hD) (by omega) (by omega) (by omega) d ht)
    · refine b1.draw (by decide) (by decide) fun r H2 r0 r1 e2 b2 => ⟨r, rfl, ?_⟩
      refine ⟨_, rfl, 1, 5 + r, rfl, ⟨by decide, by decide, by omega, by omega⟩, fun D hD => comp_pairs (m := 5 + r) (fun i => 0) (fun i => 1 + (i : Int)) hD (by omega) (fun i H Q _ h => h) (fun i H Q _ h => ⟨_, rfl, h⟩)
        (fun i hi => ⟨by omega, by omega, by omega, by omega⟩) fun xs H' s e hl d => ⟨by decide, fun t ht => ?_⟩⟩
      have n1 := b2.ne hD
      have ex : Ext l H H2 := e1.trans e2
      obtain ⟨ya, yb, ye, y0, y1⟩ := id b2
      exact q _ _ _ _ _ (Out.fin (ex.trans s.ext) ⟨ya, yb, s _ _ ye, y0, y1⟩ e (ex.free n1 hD) (by omega) (by omega) (by omega) d ht)
    · refine b1.draw (by decide) (by decide) fun r H2 r0 r1 e2 b2 => ⟨r, rfl, ?_⟩
      refine ⟨_, rfl, _, _, rfl, rfl, _, rfl, by omega, by omega, fun D hD => comp_pairs (m := 2 + r) (fun i => 0 + (i : Int)) (fun i => 0 + (i : Int) + 1) hD (by omega) (fun i H Q _ h => ⟨_, rfl, h⟩) (fun i H Q _ h => ⟨_, rfl, _, _, rfl, rfl, h⟩)
        (fun i hi => ⟨by omega, by omega, by omega, by omega⟩) fun xs H' s e hl d => ?_⟩
      refine ⟨by decide, fun p1 h1 => ⟨by decide, fun p2 h2 => ⟨by decide, fun p3 h3 => ⟨by decide, fun p4 h4 => ⟨by decide, fun p5 h5 => ?_⟩⟩⟩⟩⟩
      have D1 := (Edges.nil (H := H') (m := 2 + r + 4)).add (i := 0) (j := 2 + r) h1 (by omega) (by omega) (by omega) (by omega)
      have D2 := D1.add (i := 0) (j := 2 + r + 1) h2 (by omega) (by omega) (by omega) (by omega)
      have D3 := D2.add (i := 2 + r - 1) (j := 2 + r + 2) h3 (by omega) (by omega) (by omega) (by omega)
      have D4 := D3.add (i := 2 + r - 1) (j := 2 + r + 3) h4 (by omega) (by omega) (by omega) (by omega)
      have S5 := ((((Same.new h1).trans (Same.new h2)).trans (Same.new h3)).trans (Same.new h4)).trans (Same.new (o := .lst [.ref p1, .ref p2, .ref p3, .ref p4]) h5)
      refine ⟨D, rfl, xs, S5 _ _ e, _, upd_same, small1000 (by show xs.length + 4 ≤ 1000; omega) |> Nat.le_of_lt, fun p6 h6 => ⟨by decide, fun p7 h7 => ?_⟩⟩
      exact q _ _ _ _ _ (Out.done (e1.trans e2) b2 (s.trans S5) h6 (by omega) (by omega) (by rw [List.length_append]; show xs.length + 4 ≤ 9; omega) (Edges.append ((d.lift (by omega)).same S5) (D4.same (Same.new h5))) h7)
    · refine b1.draw (by decide) (by decide) fun r H2 r0 r1 e2 b2 => ⟨r, rfl, ?_⟩
      refine ⟨by decide, fun p1 h1 => ⟨by decide, fun p2 h2 => ⟨by decide, fun p3 h3 => ⟨by decide, fun p4 h4 => ⟨by decide, fun p5 h5 => ⟨by decide, fun p6 h6 => ⟨by decide, fun p7 h7 => ⟨by decide, fun p8 h8 => ⟨_, SqL.of upd_same, fun p9 h9 => ⟨by decide, fun p10 h10 => ?_⟩⟩⟩⟩⟩⟩⟩⟩⟩⟩
      have D1 := (Edges.nil (H := H2) (m := 7)).add (i := 0) (j := 1) (m := 7) h1 (by omega) (by omega) (by omega) (by omega)
      have D2 := D1.add (i := 1) (j := 2) (m := 7) h2 (by omega) (by omega) (by omega) (by omega)
      have D3 := D2.add (i := 0) (j := 3) (m := 7) h3 (by omega) (by omega) (by omega) (by omega)
      have D4 := D3.add (i := 3) (j := 4) (m := 7) h4 (by omega) (by omega) (by omega) (by omega)
      have D5 := D4.add (i := 0) (j := 5) (m := 7) h5 (by omega) (by omega) (by omega) (by omega)
      have D6 := D5.add (i := 5) (j := 6) (m := 7) h6 (by omega) (by omega) (by omega) (by omega)
      have S8 := (((((((Same.new h1).trans (Same.new h2)).trans (Same.new h3)).trans (Same.new h4)).trans (Same.new h5)).trans (Same.new h6)).trans (Same.new h7)).trans (Same.new (o := .lst [.ref p1, .ref p2, .ref p3, .ref p4, .ref p5, .ref p6, .ref p7]) h8)
      have E6 := D6.same ((Same.new (o := .tup [.int 6, .int 7]) h7).trans (Same.new (o := .lst [.ref p1, .ref p2, .ref p3, .ref p4, .ref p5, .ref p6, .ref p7]) h8))
      rcases (show r = 0 ∨ r = 1 by omega) with rfl | rfl
      · exact q _ _ _ _ _ (Out.done (e1.trans e2) b2 S8 h9 (by decide) (by decide) (Nat.le_trans (cutV_length _ _ _) (by show 7 ≤ 9; decide)) (E6.lift (by decide)) h10)
      · exact q _ _ _ _ _ (Out.done (e1.trans e2) b2 S8 h9 (by decide) (by decide) (Nat.le_trans (cutV_length _ _ _) (by show 7 ≤ 9; decide)) (((D6.lift (m' := 8) (by decide)).add (i := 6) (j := 7) h7 (by decide) (by decide) (by decide) (by decide)).same (Same.new h8)) h10)
    · refine ⟨by decide, fun p1 h1 => ⟨by decide, fun p2 h2 => ⟨by decide, fun p3 h3 => ⟨by decide, fun p4 h4 => ⟨by decide, fun p5 h5 => ⟨by decide, fun p6 h6 => ⟨by decide, fun p7 h7 => ⟨by decide, fun p8 h8 => ⟨by decide, fun p9 h9 => ?_⟩⟩⟩⟩⟩⟩⟩⟩⟩
      have D1 := (Edges.nil (H := H1) (m := 8)).add (i := 0) (j := 1) (m := 8) h1 (by omega) (by omega) (by omega) (by omega)
      have D2 := D1.add (i := 0) (j := 2) (m := 8) h2 (by omega) (by omega) (by omega) (by omega)
      have D3 := D2.add (i := 2) (j := 3) (m := 8) h3 (by omega) (by omega) (by omega) (by omega)
      have D4 := D3.add (i := 3) (j := 4) (m := 8) h4 (by omega) (by omega) (by omega) (by omega)
      have D5 := D4.add (i := 0) (j := 5) (m := 8) h5 (by omega) (by omega) (by omega) (by omega)
      have D6 := D5.add (i := 5) (j := 6) (m := 8) h6 (by omega) (by omega) (by omega) (by omega)
      have D7 := D6.add (i := 6) (j := 7) (m := 8) h7 (by omega) (by omega) (by omega) (by omega)
      exact q _ _ _ _ _ (Out.done e1 b1 (((((((Same.new h1).trans (Same.new h2)).trans (Same.new h3)).trans (Same.new h4)).trans (Same.new h5)).trans (Same.new h6)).trans (Same.new h7)) h8 (by decide) (by decide) (by show 7 ≤ 9; decide) D7 h9)
end
end Pf

set_option maxHeartbeats 1000000
namespace Pf
open PySem L2 PyProof.Rows
section
variable {P : Program} {w : World} {K : PySem.W.Frag} {mg : Str → Option Value} {base : Heap} {C : Addr}
theorem ok_edges {f : Addr} {fd : FuncData} (F : Fun K "_law_edges" "_law_edges" s_law_edges f fd) (T : Txt K mg C) (C_law_draw : Cal P w K mg base "_law_draw" 1 spDraw) (C_law_bad_edges : Cal P w K mg base "_law_bad_edges" 2 (spOut way0)) (C_law_rest_edges : Cal P w K mg base "_law_rest_edges" 2 (spOut way1)) : FnOk P w K mg base CX0 3 f fd ["_law_bag_here", "_law_way"] (spOut way1) := by
  have nd := sc_law_edges.nd
  refine F.ok sc_law_edges (fun vs H Q E h => ?_) (fun cdv A outer s H vs Q E hr h => ?_)
  · obtain ⟨l, r, rfl, ⟨k, rfl⟩, _⟩ := h
    rfl
  · obtain ⟨l, r, rfl, ⟨k, rfl⟩, hb, q⟩ := h
    refine ⟨_, (@pss_cons _ _ _ _ _ (@ps_if _ _ _ _ _ _ _ _ (pt_cmpR op_lt (pv 1) pe_int (nomark _)) (@pss_cons _ _ _ _ _ (ps_set (i := 2) nd rfl (Or.inl rfl) (@pe_op _ _ _ _ _ _ _ _ op_add pe_int (pe_c C_law_draw (hr.mono (by decide)) rfl (@pa_c _ _ _ _ _ (pv 0) (@pa_c _ _ _ _ _ pe_int pa_nil (by rfl)) (by rfl))))) (@pss_one _ _ _ (@ps_ret _ _ _ _ (@pe_tup _ _ _ _ _ (@pa_c _ _ _ _ _ (pv 2) (@pa_c _ _ _ _ _ (pe_comp (own := ["_law_k"]) (fr := []) rfl (bl_of (by kernel_rfl)) (pi_r1 rfl T.n_range (@pa_c _ _ _ _ _ (@pe_op _ _ _ _ _ _ _ _ op_sub (pv 2) pe_int) pa_nil (by rfl))) (fun _ _ _ _ => ⟨(@pg_name _ _ 0 _ (show (["_law_k"] : List Str).Nodup by decide +kernel) rfl (Or.inl rfl) (Or.inr rfl)), pts_nil, (@pe_tup _ _ _ _ _ (@pa_c _ _ _ _ _ (pv 0) (@pa_c _ _ _ _ _ (@pe_op _ _ _ _ _ _ _ _ op_add (pv 0) pe_int) pa_nil (by rfl)) (by rfl)))⟩)) pa_nil (by rfl)) (by rfl)))))) pss_nil) (@pss_cons _ _ _ _ _ (@ps_if _ _ _ _ _ _ _ _ (pt_cmpR op_eq (pv 1) pe_int (nomark _)) (@pss_cons _ _ _ _ _ (ps_set (i := 2) nd rfl (Or.inl rfl) (@pe_op _ _ _ _ _ _ _ _ op_add pe_int (pe_c C_law_draw (hr.mono (by decide)) rfl (@pa_c _ _ _ _ _ (pv 0) (@pa_c _ _ _ _ _ pe_int pa_nil (by rfl)) (by rfl))))) (@pss_one _ _ _ (@ps_ret _ _ _ _ (@pe_tup _ _ _ _ _ (@pa_c _ _ _ _ _ (pv 2) (@pa_c _ _ _ _ _ (@pe_op _ _ _ _ _ _ _ _ op_cat (@pe_lst _ _ _ _ (@pa_c _ _ _ _ _ (@pe_tup _ _ _ _ _ (@pa_c _ _ _ _ _ pe_int (@pa_c _ _ _ _ _ pe_int pa_nil (by rfl)) (by rfl))) (@pa_c _ _ _ _ _ (@pe_tup _ _ _ _ _ (@pa_c _ _ _ _ _ pe_int (@pa_c _ _ _ _ _ pe_int pa_nil (by rfl)) (by rfl))) (@pa_c _ _ _ _ _ (@pe_tup _ _ _ _ _ (@pa_c _ _ _ _ _ pe_int (@pa_c _ _ _ _ _ pe_int pa_nil (by rfl)) (by rfl))) pa_nil (by rfl)) (by rfl)) (by rfl))) (pe_comp (own := ["_law_k"]) (fr := []) rfl (bl_of (by kernel_rfl)) (pi_r2 rfl T.n_range (@pa_c _ _ _ _ _ pe_int (@pa_c _ _ _ _ _ (@pe_op _ _ _ _ _ _ _ _ op_sub (pv 2) pe_int) pa_nil (by rfl)) (by rfl))) (fun _ _ _ _ => ⟨(@pg_name _ _ 0 _ (show (["_law_k"] : List Str).Nodup by decide +kernel) rfl (Or.inl rfl) (Or.inr rfl)), pts_nil, (@pe_tup _ _ _ _ _ (@pa_c _ _ _ _ _ (pv 0) (@pa_c _ _ _ _ _ (@pe_op _ _ _ _ _ _ _ _ op_add (pv 0) pe_int) pa_nil (by rfl)) (by rfl)))⟩))) pa_nil (by rfl)) (by rfl)))))) pss_nil) (@pss_cons _ _ _ _ _ (@ps_if _ _ _ _ _ _ _ _ (pt_cmpR op_eq (pv 1) pe_int (nomark _)) (@pss_cons _ _ _ _ _ (ps_set (i := 2) nd rfl (Or.inl rfl) (@pe_op _ _ _ _ _ _ _ _ op_add pe_int (pe_c C_law_draw (hr.mono (by decide)) rfl (@pa_c _ _ _ _ _ (pv 0) (@pa_c _ _ _ _ _ pe_int pa_nil (by rfl)) (by rfl))))) (@pss_one _ _ _ (@ps_ret _ _ _ _ (@pe_tup _ _ _ _ _ (@pa_c _ _ _ _ _ (pv 2) (@pa_c _ _ _ _ _ (@pe_op _ _ _ _ _ _ _ _ op_cat (@pe_lst _ _ _ _ (@pa_c _ _ _ _ _ (@pe_tup _ _ _ _ _ (@pa_c _ _ _ _ _ pe_int (@pa_c _ _ _ _ _ pe_int pa_nil (by rfl)) (by rfl))) (@pa_c _ _ _ _ _ (@pe_tup _ _ _ _ _ (@pa_c _ _ _ _ _ pe_int (@pa_c _ _ _ _ _ pe_int pa_nil (by rfl)) (by rfl))) (@pa_c _ _ _ _ _ (@pe_tup _ _ _ _ _ (@pa_c _ _ _ _ _ pe_int (@pa_c _ _ _ _ _ pe_int pa_nil (by rfl)) (by rfl))) (@pa_c _ _ _ _ _ (@pe_tup _ _ _ _ _ (@pa_c _ _ _ _ _ pe_int (@pa_c _ _ _ _ _ pe_int pa_nil (by rfl)) (by rfl))) pa_nil (by rfl)) (by rfl)) (by rfl)) (by rfl))) (pe_comp (own := ["_law_k"]) (fr := []) rfl (bl_of (by kernel_rfl)) (pi_r2 rfl T.n_range (@pa_c _ _ _ _ _ pe_int (@pa_c _ _ _ _ _ (@pe_op _ _ _ _ _ _ _ _ op_sub (pv 2) pe_int) pa_nil (by rfl)) (by rfl))) (fun _ _ _ _ => ⟨(@pg_name _ _ 0 _ (show (["_law_k"] : List Str).Nodup by decide +kernel) rfl (Or.inl rfl) (Or.inr rfl)), pts_nil, (@pe_tup _ _ _ _ _ (@pa_c _ _ _ _ _ (pv 0) (@pa_c _ _ _ _ _ (@pe_op _ _ _ _ _ _ _ _ op_add (pv 0) pe_int) pa_nil (by rfl)) (by rfl)))⟩))) pa_nil (by rfl)) (by rfl)))))) pss_nil) (@pss_cons _ _ _ _ _ (@ps_if _ _ _ _ _ _ _ _ (pt_cmpR op_eq (pv 1) pe_int (nomark _)) (@pss_one _ _ _ (@ps_ret _ _ _ _ (pe_c C_law_bad_edges (hr.mono (by decide)) rfl (@pa_c _ _ _ _ _ (pv 0) pa_nil (by rfl))))) pss_nil) (@pss_one _ _ _ (@ps_ret _ _ _ _ (pe_c C_law_rest_edges (hr.mono (by decide)) rfl (@pa_c _ _ _ _ _ (pv 0) (@pa_c _ _ _ _ _ (pv 1) pa_nil (by rfl)) (by rfl))))))))), ?_⟩
    simp only [tSeq, tIfS, tTest, tOp, tUn, tVar, tC, tCB, tCons, tNil, tRet, tRetN, tNext, tDrop, tAsg, tAug, ipI, gName, gTup, gCons, gNil, gSub, tTup, tLst, tSl, tNoPart, tPart, tChain, tCall, tBM, tBM0, tPar, tB, tAnd, tOr, tNot, tAndV, tOrV, tNotV, tIf, tYes, tMake, tMeth, tFld, sFld, tAugS, rGetL, rI0, rI, rU, rIxL, rIxT, rSetL, rSlL, rAppend, rBits, tTry, hEnds, tRaise, hnd_K, pnx_K, rCat, rEq, rNe, rEqL, rEqT, rIn, scal_ii, scal_bb, scal_ss, iList, iTup, iRng1, iRng2, cV, cx_K, in_K, wish_K, E0, L2.start, List.map, List.length, List.replicate, List.cons_append, List.nil_append, List.append_nil, List.getElem?_cons_zero, List.getElem?_cons_succ, List.set_cons_zero, List.set_cons_succ, Option.some.injEq, exists_eq_left', exists_eq_left, exists_and_left, V.int.injEq, V.bl.injEq, V.ref.injEq, V.ty.injEq, List.cons.injEq, reduceCtorEq, false_and, and_false, exists_false, or_false, false_or, and_true, true_and, Nat.reduceSub, Nat.reduceAdd, Nat.reduceLT, if_true, if_false, Bool.false_eq_true]
    refine ite2 (fun _ => ?_) (fun _ => ite2 (fun _ => ?_) (fun _ => ite2 (fun _ => ?_) (fun _ => ite2 (fun _ => ⟨l, [], rfl, rfl, hb, q⟩) (fun _ => ⟨l, [.int k], rfl, ⟨k, rfl⟩, hb, q⟩))))
    · refine hb.draw (by decide) (by decide) fun r H2 r0 r1 e2 b2 => ⟨r, rfl, ?_⟩
      refine ⟨_, rfl, _, _, rfl, rfl, _, rfl, by omega, by omega, fun D hD => comp_pairs (m := 1 + r) (fun i => 0 + (i : Int)) (fun i => 0 + (i : Int) + 1) hD (by omega) (fun i H Q _ h => ⟨_, rfl, h⟩) (fun i H Q _ h => ⟨_, rfl, _, _, rfl, rfl, h⟩)
        (fun i hi => ⟨by omega, by omega, by omega, by omega⟩) fun xs H' s e hl d => ⟨by decide, fun t ht => ?_⟩⟩
      exact q _ _ _ _ _ (Out.fin (e2.trans s.ext) (b2.same s) e (e2.free (b2.ne hD) hD) (by omega) (by omega) (by omega) d ht)
    · refine hb.draw (by decide) (by decide) fun r H2 r0 r1 e2 b2 => ⟨r, rfl, ?_⟩
      refine ⟨by decide, fun p1 h1 => ⟨by decide, fun p2 h2 => ⟨by decide, fun p3 h3 => ⟨by decide, fun p4 h4 => ?_⟩⟩⟩⟩
      have D1 := (Edges.nil (H := H2) (m := 4 + r)).add (i := 0) (j := 1) h1 (by omega) (by omega) (by omega) (by omega)
      have D2 := D1.add (i := 0) (j := 2) h2 (by omega) (by omega) (by omega) (by omega)
      have D3 := D2.add (i := 0) (j := 3) h3 (by omega) (by omega) (by omega) (by omega)
      have S4 := (((Same.new h1).trans (Same.new h2)).trans (Same.new h3)).trans (Same.new (o := .lst [.ref p1, .ref p2, .ref p3]) h4)
      refine ⟨_, rfl, _, _, rfl, rfl, _, _, rfl, ⟨by decide, by decide, by omega, by omega⟩, fun D hD => comp_pairs (m := 4 + r) (fun i => 3 + (i : Int)) (fun i => 3 + (i : Int) + 1) hD (by omega) (fun i H Q _ h => ⟨_, rfl, h⟩) (fun i H Q _ h => ⟨_, rfl, _, _, rfl, rfl, h⟩)
        (fun i hi => ⟨by omega, by omega, by omega, by omega⟩) fun xs H' s e hl d => ⟨D, rfl, _, s _ _ upd_same, _, e, Nat.le_of_lt (small1000 (by show 3 + xs.length ≤ 1000; omega)), fun p6 h6 => ⟨by decide, fun p7 h7 => ?_⟩⟩⟩
      exact q _ _ _ _ _ (Out.done e2 b2 (S4.trans s) h6 (by omega) (by omega) (by rw [List.length_append]; show 3 + xs.length ≤ 9; omega) (Edges.append ((D3.same (Same.new h4)).same s) d) h7)
    · refine hb.draw (by decide) (by decide) fun r H2 r0 r1 e2 b2 => ⟨r, rfl, ?_⟩
      refine ⟨by decide, fun p1 h1 => ⟨by decide, fun p2 h2 => ⟨by decide, fun p3 h3 => ⟨by decide, fun p4 h4 => ⟨by decide, fun p5 h5 => ?_⟩⟩⟩⟩⟩
      have D1 := (Edges.nil (H := H2) (m := 6 + r)).add (i := 0) (j := 1) h1 (by omega) (by omega) (by omega) (by omega)
      have D2 := D1.add (i := 0) (j := 2) h2 (by omega) (by omega) (by omega) (by omega)
      have D3 := D2.add (i := 2) (j := 3) h3 (by omega) (by omega) (by omega) (by omega)
      have D4 := D3.add (i := 0) (j := 4) h4 (by omega) (by omega) (by omega) (by omega)
      have S5 := ((((Same.new h1).trans (Same.new h2)).trans (Same.new h3)).trans (Same.new h4)).trans (Same.new (o := .lst [.ref p1, .ref p2, .ref p3, .ref p4]) h5)
      refine ⟨_, rfl, _, _, rfl, rfl, _, _, rfl, ⟨by decide, by decide, by omega, by omega⟩, fun D hD => comp_pairs (m := 6 + r) (fun i => 4 + (i : Int)) (fun i => 4 + (i : Int) + 1) hD (by omega) (fun i H Q _ h => ⟨_, rfl, h⟩) (fun i H Q _ h => ⟨_, rfl, _, _, rfl, rfl, h⟩)
        (fun i hi => ⟨by omega, by omega, by omega, by omega⟩) fun xs H' s e hl d => ⟨D, rfl, _, s _ _ upd_same, _, e, Nat.le_of_lt (small1000 (by show 4 + xs.length ≤ 1000; omega)), fun p6 h6 => ⟨by decide, fun p7 h7 => ?_⟩⟩⟩
      exact q _ _ _ _ _ (Out.done e2 b2 (S5.trans s) h6 (by omega) (by omega) (by rw [List.length_append]; show 4 + xs.length ≤ 9; omega) (Edges.append ((D4.same (Same.new h5)).same s) d) h7)
theorem ok_drawn {f : Addr} {fd : FuncData} (F : Fun K "_law_drawn" "_law_drawn" s_law_drawn f fd) (T : Txt K mg C) (C_law_draw : Cal P w K mg base "_law_draw" 1 spDraw) (C_law_edges : Cal P w K mg base "_law_edges" 3 (spOut way1)) (C_law_order : Cal P w K mg base "_law_order" 2 spOrder) : FnOk P w K mg base CX0 4 f fd ["_law_bag_here", "_law_way"] (spOut way1) := by
  have nd := sc_law_drawn.nd
  refine F.ok sc_law_drawn (fun vs H Q E h => ?_) (fun cdv A outer s H vs Q E hr h => ?_)
  · obtain ⟨l, r, rfl, ⟨k, rfl⟩, _⟩ := h
    rfl
  · obtain ⟨l, r, rfl, ⟨k, rfl⟩, hb, q⟩ := h
    refine ⟨_, (@pss_cons _ _ _ _ _ (ps_asg (pe_c C_law_edges (hr.mono (by decide)) rfl (@pa_c _ _ _ _ _ (pv 0) (@pa_c _ _ _ _ _ (pv 1) pa_nil (by rfl)) (by rfl))) (@pg_tup _ _ _ _ _ 2 rfl (@pgs_cons _ _ _ _ _ (@pg_name _ _ 2 _ nd rfl (Or.inl rfl) (Or.inl rfl)) (@pgs_cons _ _ _ _ _ (@pg_name _ _ 3 _ nd rfl (Or.inl rfl) (Or.inl rfl)) (@pgs_nil _) (by rfl)) (by rfl)) (by rfl) (by rfl))) (@pss_cons _ _ _ _ _ (ps_set (i := 4) nd rfl (Or.inl rfl) (pe_c C_law_order (hr.mono (by decide)) rfl (@pa_c _ _ _ _ _ (pv 0) (@pa_c _ _ _ _ _ (pv 2) pa_nil (by rfl)) (by rfl)))) (@pss_cons _ _ _ _ _ (ps_set (i := 5) nd rfl (Or.inl rfl) (@pe_lst _ _ _ _ pa_nil)) (@pss_cons _ _ _ _ _ (ps_while PassesOwn.never (pt_cmpR op_gt (pe_cB call_len_seq rfl T.n_len PySem.boot_len (@pa_c _ _ _ _ _ (pv 3) pa_nil (by rfl))) pe_int (nomark _)) (@pss_cons _ _ _ _ _ (ps_set (i := 6) nd rfl (Or.inl rfl) (pe_c C_law_draw (hr.mono (by decide)) rfl (@pa_c _ _ _ _ _ (pv 0) (@pa_c _ _ _ _ _ (pe_cB call_len_seq rfl T.n_len PySem.boot_len (@pa_c _ _ _ _ _ (pv 3) pa_nil (by rfl))) pa_nil (by rfl)) (by rfl)))) (@pss_cons _ _ _ _ _ (ps_asg (@pe_ix _ _ _ _ _ _ _ ix_list (pv 3) (pv 6) (fun _ _ => rfl)) (@pg_tup _ _ _ _ _ 2 rfl (@pgs_cons _ _ _ _ _ (@pg_name _ _ 7 _ nd rfl (Or.inl rfl) (Or.inl rfl)) (@pgs_cons _ _ _ _ _ (@pg_name _ _ 8 _ nd rfl (Or.inl rfl) (Or.inl rfl)) (@pgs_nil _) (by rfl)) (by rfl)) (by rfl) (by rfl))) (@pss_cons _ _ _ _ _ (ps_set (i := 3) nd rfl (Or.inl rfl) (@pe_op _ _ _ _ _ _ _ _ op_cat (@pe_slice _ _ _ _ _ _ _ _ _ _ sl_list (pv 3) po_none (@po_some _ _ _ (pv 6))) (@pe_slice _ _ _ _ _ _ _ _ _ _ sl_list (pv 3) (@po_some _ _ _ (@pe_op _ _ _ _ _ _ _ _ op_add (pv 6) pe_int)) po_none))) (@pss_cons _ _ _ _ _ (@ps_if _ _ _ _ _ _ _ _ (pt_cmpR op_eq (pe_c C_law_draw (hr.mono (by decide)) rfl (@pa_c _ _ _ _ _ (pv 0) (@pa_c _ _ _ _ _ pe_int pa_nil (by rfl)) (by rfl))) pe_int (nomark _)) (@pss_one _ _ _ (ps_par (i := 7) (j := 8) rfl nd rfl rfl (by decide) rfl rfl (@pa_c _ _ _ _ _ (pv 8) (@pa_c _ _ _ _ _ (pv 7) pa_nil (by rfl)) (by rfl)) rfl)) pss_nil) (@pss_one _ _ _ (ps_expr (pe_bm PySem.F.plainAttrs_list PySem.F.slot_list_append PySem.F.type_list_append mt_append (pv 5) (@pa_c _ _ _ _ _ (@pe_tup _ _ _ _ _ (@pa_c _ _ _ _ _ (@pe_ix _ _ _ _ _ _ _ ix_list (pv 4) (pv 7) (fun _ _ => rfl)) (@pa_c _ _ _ _ _ (@pe_ix _ _ _ _ _ _ _ ix_list (pv 4) (pv 8) (fun _ _ => rfl)) pa_nil (by rfl)) (by rfl))) pa_nil (by rfl)))))))))) (@pss_one _ _ _ (@ps_ret _ _ _ _ (@pe_tup _ _ _ _ _ (@pa_c _ _ _ _ _ (pv 2) (@pa_c _ _ _ _ _ (pv 5) pa_nil (by rfl)) (by rfl))))))))), ?_⟩
    simp only [tSeq, tIfS, tTest, tOp, tUn, tVar, tC, tCB, tCons, tNil, tRet, tRetN, tNext, tDrop, tAsg, tAug, ipI, gName, gTup, gCons, gNil, gSub, tTup, tLst, tSl, tNoPart, tPart, tChain, tCall, tBM, tBM0, tPar, tB, tAnd, tOr, tNot, tAndV, tOrV, tNotV, tIf, tYes, tMake, tMeth, tFld, sFld, tAugS, rGetL, rI0, rI, rU, rIxL, rIxT, rSetL, rSlL, rAppend, rBits, tTry, hEnds, tRaise, hnd_K, pnx_K, rCat, rEq, rNe, rEqL, rEqT, rIn, scal_ii, scal_bb, scal_ss, iList, iTup, iRng1, iRng2, cV, cx_K, in_K, wish_K, E0, L2.start, List.map, List.length, List.replicate, List.cons_append, List.nil_append, List.append_nil, List.getElem?_cons_zero, List.getElem?_cons_succ, List.set_cons_zero, List.set_cons_succ, Option.some.injEq, exists_eq_left', exists_eq_left, exists_and_left, V.int.injEq, V.bl.injEq, V.ref.injEq, V.ty.injEq, List.cons.injEq, reduceCtorEq, false_and, and_false, exists_false, or_false, false_or, and_true, true_and, Nat.reduceSub, Nat.reduceAdd, Nat.reduceLT, if_true, if_false, Bool.false_eq_true]
    refine ⟨l, _, rfl, ⟨k, rfl⟩, hb, fun p e m xs H1 O => ⟨p, rfl, _, SqT.of O.tup, rfl, _, _, rfl, _, _, rfl, rfl, ?_⟩⟩
    have m0 := O.lo
    have m8 := O.hi
    refine ⟨l, m, rfl, O.bag, by omega, O.hi, fun po ys H2 ex2 b2 hpo hpo2 hlen inr => ⟨by decide, fun pa hpa => ?_⟩⟩
    have nel : e ≠ l := hb.ne O.new
    have e2e : H2 e = some (.lst xs) := ex2 _ _ nel O.lst
    have nal : pa ≠ l := b2.ne hpa
    have nae : e ≠ pa := ne_of_none e2e hpa
    have nao : po ≠ pa := ne_of_none hpo2 hpa
    have exH : Ext l H H2 := O.ext.trans ex2
    have fpa : H pa = none := exH.free nal hpa
    have noe : e ≠ po := (ne_of_none O.lst hpo)
    have nol : po ≠ l := O.bag.ne hpo
    refine ⟨fun n σ H3 => ∃ (pl : Addr) (ls as : List V) (v6 v7 v8 : Option V), σ = [some (.ref l), some (.int k), some (.int m), some (.ref pl), some (.ref po), some (.ref pa), v6, v7, v8] ∧ n = ls.length ∧ Ext l H H3 ∧ Bag H3 l ∧
      H3 pl = some (.lst ls) ∧ H3 po = some (.lst (ys.map V.int)) ∧ H3 pa = some (.lst as) ∧ pl ≠ l ∧ pl ≠ pa ∧ ls.length + as.length ≤ 9 ∧ Edges H3 m ls ∧ Edges H3 m as, ?_, ?_⟩
    · exact ⟨_, e, xs, [], none, none, none, rfl, rfl, exH.trans (Ext.new hpa), b2.new nal, by rw [upd_ne nae]; exact e2e, by rw [upd_ne nao]; exact hpo2, upd_same, nel, nae, by have := O.len; simpa using this, (O.ed.bag ex2 O.bag).same (Same.new hpa), Edges.nil⟩
    · rintro n σ H3 ⟨pl, ls, as, v6, v7, v8, rfl, rfl, ex, b, hpl, hpo3, hpa3, n1, n2, hl, dl, da⟩
      simp only [tSeq, tIfS, tTest, tOp, tUn, tVar, tC, tCB, tCons, tNil, tRet, tRetN, tNext, tDrop, tAsg, tAug, ipI, gName, gTup, gCons, gNil, gSub, tTup, tLst, tSl, tNoPart, tPart, tChain, tCall, tBM, tBM0, tPar, tB, tAnd, tOr, tNot, tAndV, tOrV, tNotV, tIf, tYes, tMake, tMeth, tFld, sFld, tAugS, rGetL, rI0, rI, rU, rIxL, rIxT, rSetL, rSlL, rAppend, rBits, tTry, hEnds, tRaise, hnd_K, pnx_K, rCat, rEq, rNe, rEqL, rEqT, rIn, scal_ii, scal_bb, scal_ss, iList, iTup, iRng1, iRng2, cV, cx_K, in_K, wish_K, E0, L2.start, List.map, List.length, List.replicate, List.cons_append, List.nil_append, List.append_nil, List.getElem?_cons_zero, List.getElem?_cons_succ, List.set_cons_zero, List.set_cons_succ, Option.some.injEq, exists_eq_left', exists_eq_left, exists_and_left, V.int.injEq, V.bl.injEq, V.ref.injEq, V.ty.injEq, List.cons.injEq, reduceCtorEq, false_and, and_false, exists_false, or_false, false_or, and_true, true_and, Nat.reduceSub, Nat.reduceAdd, Nat.reduceLT, if_true, if_false, Bool.false_eq_true]
      refine ⟨_, .inl (SqL.of hpl), ite2 (fun hc => ?_) (fun hc => ?_)⟩
      · have hc := of_decide_eq_true hc
        refine ⟨_, fun _ _ h => h, ?_⟩
        simp only [tSeq, tIfS, tTest, tOp, tUn, tVar, tC, tCB, tCons, tNil, tRet, tRetN, tNext, tDrop, tAsg, tAug, ipI, gName, gTup, gCons, gNil, gSub, tTup, tLst, tSl, tNoPart, tPart, tChain, tCall, tBM, tBM0, tPar, tB, tAnd, tOr, tNot, tAndV, tOrV, tNotV, tIf, tYes, tMake, tMeth, tFld, sFld, tAugS, rGetL, rI0, rI, rU, rIxL, rIxT, rSetL, rSlL, rAppend, rBits, tTry, hEnds, tRaise, hnd_K, pnx_K, rCat, rEq, rNe, rEqL, rEqT, rIn, scal_ii, scal_bb, scal_ss, iList, iTup, iRng1, iRng2, cV, cx_K, in_K, wish_K, E0, L2.start, List.map, List.length, List.replicate, List.cons_append, List.nil_append, List.append_nil, List.getElem?_cons_zero, List.getElem?_cons_succ, List.set_cons_zero, List.set_cons_succ, Option.some.injEq, exists_eq_left', exists_eq_left, exists_and_left, V.int.injEq, V.bl.injEq, V.ref.injEq, V.ty.injEq, List.cons.injEq, reduceCtorEq, false_and, and_false, exists_false, or_false, false_or, and_true, true_and, Nat.reduceSub, Nat.reduceAdd, Nat.reduceLT, if_true, if_false, Bool.false_eq_true]
        refine ⟨_, .inl (SqL.of hpl), b.draw hc (by omega) fun r H4 r0 r1 e4 b4 => ?_⟩
        have hr1 : r.toNat < ls.length := by omega
        have hpl4 := e4 _ _ n1 hpl
        have hpo4 := e4 _ _ nol hpo3
        have hpa4 := e4 _ _ nal hpa3
        have dl4 := dl.bag e4 b
        have da4 := da.bag e4 b
        obtain ⟨t, i, j, hx, ht4, i0, i1, j0, j1⟩ := dl4 _ (List.getElem_mem hr1)
        refine ⟨ls, r, rfl, SqL.of hpl4, .ref t, atI_at r0 (by rw [List.getElem?_eq_getElem hr1, hx]), t, rfl, _, SqT.of ht4, rfl, _, _, rfl, _, _, rfl, rfl, r, rfl, ls, SqL.of hpl4, fun p2 h2 => ⟨r, rfl, ls, SqL.of (by rw [upd_ne (ne_of_none hpl4 h2)]; exact hpl4), fun p3 h3 => ?_⟩⟩
        have l1 := cut_lo ls r r0 (by omega)
        have l2 := cut_hi ls (r + 1) (by omega) (by omega)
        have hNL : (cutV ls none (some r) ++ cutV ls (some (r + 1)) none).length < ls.length := by
          rw [l1, l2, List.length_append, List.length_take, List.length_drop]; omega
        refine ⟨cutV ls none (some r), by rw [upd_ne (ne_of_none upd_same h3)]; exact upd_same, _, upd_same, Nat.le_of_lt (small1000 (by rw [List.length_append] at hNL; omega)), fun p4 h4 => ?_⟩
        have S6 := (Same.new (o := .lst (cutV ls none (some r))) h2).trans (Same.new (o := .lst (cutV ls (some (r + 1)) none)) h3)
        have S := S6.trans (Same.new (o := .lst (cutV ls none (some r) ++ cutV ls (some (r + 1)) none)) h4)
        have b7 := b4.same S
        have p4nl : p4 ≠ l := (b4.same S6).ne h4
        have npa4 : pa ≠ p4 := ne_of_none (S6 _ _ hpa4) h4
        refine b7.draw (by decide) (by decide) fun z H8 z0 z1 e8 b8 => ⟨rfl, ?_⟩
        have pa8 := e8 _ _ nal (S _ _ hpa4)
        have po8 := e8 _ _ nol (S _ _ hpo4)
        have p48 := e8 _ _ p4nl upd_same
        have exH8 : Ext l H H8 := (ex.trans e4).trans (S.ext.trans e8)
        have dN8 : Edges H8 m (cutV ls none (some r) ++ cutV ls (some (r + 1)) none) := ((dl4.sub fun y hy => by
          rw [l1, l2] at hy
          rcases List.mem_append.mp hy with h | h
          · exact List.mem_of_mem_take h
          · exact List.mem_of_mem_drop h).same S).bag e8 b7
        have da8 := (da4.same S).bag e8 b7
        refine ite2 (fun _ => ?_) (fun _ => ?_)
        ·
          refine ⟨_, _, ⟨rfl, rfl⟩, .inl ⟨rfl, _, SqL.of pa8⟩, _, j, rfl, SqL.of po8, V.int (ys[j.toNat]'(by omega)), atI_at j0 (by rw [List.getElem?_map, List.getElem?_eq_getElem (by omega)]; rfl), _, i, rfl, SqL.of po8, V.int (ys[i.toNat]'(by omega)), atI_at i0 (by rw [List.getElem?_map, List.getElem?_eq_getElem (by omega)]; rfl), by decide, fun p5 h5 => ?_⟩
          have ia := inr _ (List.getElem_mem (show j.toNat < ys.length by omega))
          have ic := inr _ (List.getElem_mem (show i.toNat < ys.length by omega))
          have pa9 : (upd H8 p5 (.tup [V.int (ys[j.toNat]'(by omega)), V.int (ys[i.toNat]'(by omega))])) pa = some (.lst as) := by rw [upd_ne (ne_of_none pa8 h5)]; exact pa8
          have n5 : p4 ≠ p5 := ne_of_none p48 h5
          have n5o : po ≠ p5 := ne_of_none po8 h5
          exact ⟨as, pa9, small1000 (by omega), _, hNL, p4, _, as ++ [.ref p5], _, _, _, ⟨rfl, rfl, rfl, rfl⟩, rfl, (exH8.trans (Ext.new h5)).upd fpa, (b8.new (b8.ne h5)).new nal, by rw [upd_ne npa4.symm, upd_ne n5]; exact p48, by rw [upd_ne nao, upd_ne n5o]; exact po8, upd_same, p4nl, npa4.symm,
            by have hL : (as ++ [V.ref p5]).length = as.length + 1 := by { rw [List.length_append]; rfl }
               rw [hL]; omega, (dN8.same (Same.new h5)).put pa9, (da8.add h5 ia.1 ia.2 ic.1 ic.2).put pa9⟩
        ·
          refine ⟨.inl ⟨rfl, _, SqL.of pa8⟩, _, i, rfl, SqL.of po8, V.int (ys[i.toNat]'(by omega)), atI_at i0 (by rw [List.getElem?_map, List.getElem?_eq_getElem (by omega)]; rfl), _, j, rfl, SqL.of po8, V.int (ys[j.toNat]'(by omega)), atI_at j0 (by rw [List.getElem?_map, List.getElem?_eq_getElem (by omega)]; rfl), by decide, fun p5 h5 => ?_⟩
          have ia := inr _ (List.getElem_mem (show i.toNat < ys.length by omega))
          have ic := inr _ (List.getElem_mem (show j.toNat < ys.length by omega))
          have pa9 : (upd H8 p5 (.tup [V.int (ys[i.toNat]'(by omega)), V.int (ys[j.toNat]'(by omega))])) pa = some (.lst as) := by rw [upd_ne (ne_of_none pa8 h5)]; exact pa8
          have n5 : p4 ≠ p5 := ne_of_none p48 h5
          have n5o : po ≠ p5 := ne_of_none po8 h5
          exact ⟨as, pa9, small1000 (by omega), _, hNL, p4, _, as ++ [.ref p5], _, _, _, ⟨rfl, rfl, rfl, rfl⟩, rfl, (exH8.trans (Ext.new h5)).upd fpa, (b8.new (b8.ne h5)).new nal, by rw [upd_ne npa4.symm, upd_ne n5]; exact p48, by rw [upd_ne nao, upd_ne n5o]; exact po8, upd_same, p4nl, npa4.symm,
            by have hL : (as ++ [V.ref p5]).length = as.length + 1 := by { rw [List.length_append]; rfl }
               rw [hL]; omega, (dN8.same (Same.new h5)).put pa9, (da8.add h5 ia.1 ia.2 ic.1 ic.2).put pa9⟩
      · have hc : ¬ (0 : Int) < (ls.length : Nat) := fun z => hc (decide_eq_true z)
        exact ⟨by decide, fun t ht => q _ _ _ _ _ (Out.fin ex b hpa3 fpa m0 m8 (by omega) da ht)⟩
end
end Pf

set_option maxHeartbeats 1000000
namespace Pf
open PySem L2 PyProof.Rows
structure Cs where
  LimbError : Addr
  NoGround : Addr
  NoNumber : Addr
  NoTable : Addr
  NoDrawing : Addr
  NoKind : Addr
  NoStanding : Addr
  NoChange : Addr
  NoMirror : Addr
  NoRoot : Addr
  NoText : Addr
  NoRow : Addr
  NoName : Addr
structure Xt (K : PySem.W.Frag) (mg : Str → Option Value) (base : Heap) (cc : Cs) : Prop where
  g_LimbError : mg "LimbError" = some (.ref cc.LimbError)
  g_NoGround : mg "NoGround" = some (.ref cc.NoGround)
  g_NoNumber : mg "NoNumber" = some (.ref cc.NoNumber)
  g_NoTable : mg "NoTable" = some (.ref cc.NoTable)
  g_NoDrawing : mg "NoDrawing" = some (.ref cc.NoDrawing)
  g_NoKind : mg "NoKind" = some (.ref cc.NoKind)
  g_NoStanding : mg "NoStanding" = some (.ref cc.NoStanding)
  g_NoChange : mg "NoChange" = some (.ref cc.NoChange)
  g_NoMirror : mg "NoMirror" = some (.ref cc.NoMirror)
  g_NoRoot : mg "NoRoot" = some (.ref cc.NoRoot)
  g_NoText : mg "NoText" = some (.ref cc.NoText)
  g_NoRow : mg "NoRow" = some (.ref cc.NoRow)
  g_NoName : mg "NoName" = some (.ref cc.NoName)
  o_LimbError : OwnCls "LimbError" cc.LimbError bmV newV mg base
  o_NoDrawing : OwnCls "NoDrawing" cc.NoDrawing bmV newV mg base
  u_NoDrawing : ∃ C' nm q N bs bm hdct sn sub ab col dd k0 k1 k2 k3 k5 new, Value.ref cc.NoDrawing = .ref C' ∧ base.get? C' = some (excClassObj nm q C' N bs bm hdct sn sub ab col dd k0 k1 k2 k3 k5 new) ∧ bm.contains (.ref cc.LimbError) = true
  z : ExcCls K cc.NoDrawing
  i : (PySem.W.clsIn K cc.NoDrawing).isSome = true
  t1 : PySem.W.kitAny K (.ref cc.NoDrawing) [.ref cc.NoGround, .ref cc.NoNumber, .ref cc.NoTable, .ref cc.NoKind, .ref cc.NoStanding, .ref cc.NoChange, .ref cc.NoMirror, .ref cc.NoRoot] = some false
  t2 : PySem.W.kitAny K (.ref cc.NoDrawing) [.ref cc.NoText, .ref cc.NoRow, .ref cc.NoName] = some false
  v : PySem.W.kitOne K (.ref cc.NoDrawing) (.type "ValueError") = some true
section
variable {P : Program} {w : World} {K : PySem.W.Frag} {mg : Str → Option Value} {base : Heap} {C : Addr} {cc : Cs}
theorem iteP {c A B : Prop} [Decidable c] (hc : c) (h : A) : if c then A else B := by rw [if_pos hc]; exact h
theorem iteN {c A B : Prop} [Decidable c] (hc : ¬ c) (h : B) : if c then A else B := by rw [if_neg hc]; exact h
/-- [test for x in xs], each test a truth; the heap may grow -/
theorem comp_bl_l {a D : Addr} {xs : List V} {fr : List (Str × Nat)} {σ : L2.St} {te : TE} {H1 : Hp} {Q : VK} (fb : Nat → Bool) (ha : H1 a = some (.lst xs)) (hD : H1 D = none) (hn : xs.length ≤ 1000)
    (h : ∀ (i : Nat) x H (Q : VK), xs[i]? = some x → Same H1 H → (∀ H', Same H H' → Q (.bl (fb i)) H') → te (some x :: capOf fr σ) H Q)
    (hQ : ∀ H', Same H1 H' → H' D = some (.lst (((List.range xs.length).map fb).map V.bl)) → Q (.ref D) H') : tBlock (gName 0) tYes te (Itl K a) D (capS 1 fr σ) H1 Q := by
  refine comp_itl (xs := xs) (fun i vs H => Same H1 H ∧ H D = some (.lst vs) ∧ vs = ((List.range i).map fb).map V.bl) ⟨Same.new hD, upd_same, rfl⟩ (fun i vs H _ p => SqL.of (p.1 _ _ ha)) ?_ (fun vs H ⟨s, e, hv⟩ => hQ H s (by rw [e, hv]))
  rintro i x vs σ' H hi hx sh ⟨s, e, rfl⟩
  obtain ⟨z, rfl⟩ := sh.one
  simp only [tTurn, gName, tYes, List.set_cons_zero, if_true]
  refine h i x H _ hx s fun H' s' => ?_
  exact leaf (ws := ((List.range (i + 1)).map fb).map V.bl) hi Sh.mk1 (s' _ _ e) (small1000 (by rw [List.length_map, List.length_map, List.length_range]; omega)) ⟨(s.trans s').upd hD, by rw [upd_same, List.range_succ, List.map_append, List.map_append]; rfl, rfl⟩
theorem comp_bl_t {a D : Addr} {xs : List V} {fr : List (Str × Nat)} {σ : L2.St} {te : TE} {H1 : Hp} {Q : VK} (fb : Nat → Bool) (ha : H1 a = some (.tup xs)) (hD : H1 D = none) (hn : xs.length ≤ 1000)
    (h : ∀ (i : Nat) x H (Q : VK), xs[i]? = some x → Same H1 H → (∀ H', Same H H' → Q (.bl (fb i)) H') → te (some x :: capOf fr σ) H Q)
    (hQ : ∀ H', Same H1 H' → H' D = some (.lst (((List.range xs.length).map fb).map V.bl)) → Q (.ref D) H') : tBlock (gName 0) tYes te (Itt K a) D (capS 1 fr σ) H1 Q := by
  refine comp_itt (xs := xs) (fun i vs H => Same H1 H ∧ H D = some (.lst vs) ∧ vs = ((List.range i).map fb).map V.bl) ⟨Same.new hD, upd_same, rfl⟩ (fun i vs H _ p => SqT.of (p.1 _ _ ha)) ?_ (fun vs H ⟨s, e, hv⟩ => hQ H s (by rw [e, hv]))
  rintro i x vs σ' H hi hx sh ⟨s, e, rfl⟩
  obtain ⟨z, rfl⟩ := sh.one
  simp only [tTurn, gName, tYes, List.set_cons_zero, if_true]
  refine h i x H _ hx s fun H' s' => ?_
  exact leaf (ws := ((List.range (i + 1)).map fb).map V.bl) hi Sh.mk1 (s' _ _ e) (small1000 (by rw [List.length_map, List.length_map, List.length_range]; omega)) ⟨(s.trans s').upd hD, by rw [upd_same, List.range_succ, List.map_append, List.map_append]; rfl, rfl⟩
/-! ### things of whatever kind -/
def Kn (H : Hp) (v : V) : Prop := v = .non ∨ (∃ b, v = .bl b) ∨ (∃ i, v = .int i) ∨ (∃ s, v = .str s) ∨ (∃ a xs, v = .ref a ∧ H a = some (.lst xs) ∧ xs.length ≤ 1000) ∨ ∃ a xs, v = .ref a ∧ H a = some (.tup xs) ∧ xs.length ≤ 1000
theorem Kn.same {H H' : Hp} {v : V} (h : Kn H v) (s : Same H H') : Kn H' v := by
  rcases h with h | h | h | h | ⟨a, xs, h1, h2, h3⟩ | ⟨a, xs, h1, h2, h3⟩
  · exact .inl h
  · exact .inr (.inl h)
  · exact .inr (.inr (.inl h))
  · exact .inr (.inr (.inr (.inl h)))
  · exact .inr (.inr (.inr (.inr (.inl ⟨a, xs, h1, s _ _ h2, h3⟩))))
  · exact .inr (.inr (.inr (.inr (.inr ⟨a, xs, h1, s _ _ h2, h3⟩))))
theorem Kn.int {H : Hp} {i : Int} : Kn H (.int i) := .inr (.inr (.inl ⟨i, rfl⟩))
theorem Kn.bl {H : Hp} {i : Bool} : Kn H (.bl i) := .inr (.inl ⟨i, rfl⟩)
theorem Kn.str {H : Hp} {i : Str} : Kn H (.str i) := .inr (.inr (.inr (.inl ⟨i, rfl⟩)))
theorem Kn.lst {H : Hp} {a : Addr} {xs : List V} (h : H a = some (.lst xs)) (hl : xs.length ≤ 1000) : Kn H (.ref a) := .inr (.inr (.inr (.inr (.inl ⟨a, xs, rfl, h, hl⟩))))
theorem Kn.tup {H : Hp} {a : Addr} {xs : List V} (h : H a = some (.tup xs)) (hl : xs.length ≤ 1000) : Kn H (.ref a) := .inr (.inr (.inr (.inr (.inr ⟨a, xs, rfl, h, hl⟩))))
def isI : V → Bool
  | .int _ => true
  | .bl _ => true
  | _ => false
def isBl : V → Bool
  | .bl _ => true
  | _ => false
def isTu (H : Hp) : V → Bool
  | .ref a => match H a with
    | some (.tup _) => true
    | _ => false
  | _ => false
def isLi (H : Hp) : V → Bool
  | .ref a => match H a with
    | some (.lst _) => true
    | _ => false
  | _ => false
def whB : V → Bool
  | .int _ => true
  | _ => false
theorem kn_int {H : Hp} {v : V} (h : Kn H v) : ∃ t, TyOf K H v t ∧ PySem.W.kitOne K t (.type "int") = some (isI v) := by
  rcases h with rfl | ⟨b, rfl⟩ | ⟨i, rfl⟩ | ⟨z, rfl⟩ | ⟨a, xs, rfl, h2, _⟩ | ⟨a, xs, rfl, h2, _⟩
  · exact ⟨_, .non, by kernel_rfl⟩
  · exact ⟨_, .bl b, k_bool_int K⟩
  · exact ⟨_, .int i, k_int_int K⟩
  · exact ⟨_, .str z, by kernel_rfl⟩
  · exact ⟨_, .lst h2, by kernel_rfl⟩
  · exact ⟨_, .tup h2, by kernel_rfl⟩
theorem kn_bool {H : Hp} {v : V} (h : Kn H v) : ∃ t, TyOf K H v t ∧ PySem.W.kitOne K t (.type "bool") = some (isBl v) := by
  rcases h with rfl | ⟨b, rfl⟩ | ⟨i, rfl⟩ | ⟨z, rfl⟩ | ⟨a, xs, rfl, h2, _⟩ | ⟨a, xs, rfl, h2, _⟩
  · exact ⟨_, .non, by kernel_rfl⟩
  · exact ⟨_, .bl b, k_bool_bool K⟩
  · exact ⟨_, .int i, k_int_bool K⟩
  · exact ⟨_, .str z, by kernel_rfl⟩
  · exact ⟨_, .lst h2, by kernel_rfl⟩
  · exact ⟨_, .tup h2, by kernel_rfl⟩
theorem kn_tup {H : Hp} {v : V} (h : Kn H v) : ∃ t, TyOf K H v t ∧ PySem.W.kitOne K t (.type "tuple") = some (isTu H v) := by
  rcases h with rfl | ⟨b, rfl⟩ | ⟨i, rfl⟩ | ⟨z, rfl⟩ | ⟨a, xs, rfl, h2, _⟩ | ⟨a, xs, rfl, h2, _⟩
  · exact ⟨_, .non, by kernel_rfl⟩
  · exact ⟨_, .bl b, by kernel_rfl⟩
  · exact ⟨_, .int i, by kernel_rfl⟩
  · exact ⟨_, .str z, by kernel_rfl⟩
  · refine ⟨_, .lst h2, ?_⟩
    simp only [isTu, h2]
    kernel_rfl
  · refine ⟨_, .tup h2, ?_⟩
    simp only [isTu, h2]
    exact k_tup_tup K
theorem kn_list {H : Hp} {v : V} (h : Kn H v) : ∃ t, TyOf K H v t ∧ PySem.W.kitOne K t (.type "list") = some (isLi H v) := by
  rcases h with rfl | ⟨b, rfl⟩ | ⟨i, rfl⟩ | ⟨z, rfl⟩ | ⟨a, xs, rfl, h2, _⟩ | ⟨a, xs, rfl, h2, _⟩
  · exact ⟨_, .non, by kernel_rfl⟩
  · exact ⟨_, .bl b, by kernel_rfl⟩
  · exact ⟨_, .int i, by kernel_rfl⟩
  · exact ⟨_, .str z, by kernel_rfl⟩
  · refine ⟨_, .lst h2, ?_⟩
    simp only [isLi, h2]
    exact k_list_list K
  · refine ⟨_, .tup h2, ?_⟩
    simp only [isLi, h2]
    kernel_rfl
def spWholeA : Sp := fun vs H Q _ => ∃ v : V, vs = [v] ∧ Kn H v ∧ Q (.bl (whB v)) H
theorem ok_wholeA {f : Addr} {fd : FuncData} (F : Fun K "is_whole" "is_whole" s_is_whole f fd) (T : Txt K mg C) : FnOk P w K mg base CX0 1 f fd ["thing"] spWholeA := by
  have nd := sc_is_whole.nd
  refine F.ok sc_is_whole (fun vs H Q E h => ?_) (fun cdv A outer s H vs Q E hr h => ?_)
  · obtain ⟨i, rfl, _⟩ := h
    rfl
  · obtain ⟨v, rfl, hk, q⟩ := h
    refine ⟨_, (@pss_one _ _ _ (@ps_ret _ _ _ _ (pe_and (pe_cB call_isinst rfl T.n_isinstance boot_isinstance (@pa_c _ _ _ _ _ (pv 0) (@pa_c _ _ _ _ _ (pe_ty rfl T.n_int boot_int) pa_nil (by rfl)) (by rfl))) (pe_one (pe_not (pe_cB call_isinst rfl T.n_isinstance boot_isinstance (@pa_c _ _ _ _ _ (pv 0) (@pa_c _ _ _ _ _ (pe_ty rfl T.n_bool boot_bool) pa_nil (by rfl)) (by rfl)))))))), ?_⟩
    simp only [tSeq, tIfS, tTest, tOp, tUn, tVar, tC, tCB, tCons, tNil, tRet, tRetN, tNext, tDrop, tAsg, tAug, ipI, gName, gTup, gCons, gNil, gSub, tTup, tLst, tSl, tNoPart, tPart, tChain, tCall, tBM, tBM0, tPar, tB, tAnd, tOr, tNot, tAndV, tOrV, tNotV, tIf, tYes, tMake, tMeth, tFld, sFld, tAugS, rGetL, rI0, rI, rU, rIxL, rIxT, rSetL, rSlL, rAppend, rBits, tTry, hEnds, tRaise, hnd_K, pnx_K, rCat, rEq, rNe, rEqL, rEqT, rIn, scal_ii, scal_bb, scal_ss, iList, iTup, iRng1, iRng2, cV, cx_K, in_K, wish_K, E0, L2.start, List.map, List.length, List.replicate, List.cons_append, List.nil_append, List.append_nil, List.getElem?_cons_zero, List.getElem?_cons_succ, List.set_cons_zero, List.set_cons_succ, Option.some.injEq, exists_eq_left', exists_eq_left, exists_and_left, V.int.injEq, V.bl.injEq, V.ref.injEq, V.ty.injEq, List.cons.injEq, reduceCtorEq, false_and, and_false, exists_false, or_false, false_or, and_true, true_and, Nat.reduceSub, Nat.reduceAdd, Nat.reduceLT, if_true, if_false, Bool.false_eq_true]
    obtain ⟨t1, h1, h2⟩ := kn_int (K := K) hk
    obtain ⟨t2, h3, h4⟩ := kn_bool (K := K) hk
    refine ⟨_, _, ⟨rfl, rfl⟩, _, rfl, _, h1, _, h2, ite2 (fun hc => ⟨_, _, ⟨rfl, rfl⟩, _, rfl, _, h3, _, h4, ?_⟩) (fun hc => ?_)⟩
    · cases v <;> first | exact q | cases hc
    · cases v <;> first | exact q | exact absurd rfl hc
/-- a known address is as it was -/
theorem Kn.back {H H' : Hp} {a : Addr} {o : HO} (h : Kn H (.ref a)) (s : Same H H') (e : H' a = some o) : H a = some o := by
  rcases h with h | ⟨_, h⟩ | ⟨_, h⟩ | ⟨_, h⟩ | ⟨b, xs, h1, h2, _⟩ | ⟨b, xs, h1, h2, _⟩
  · cases h
  · cases h
  · cases h
  · cases h
  · cases h1
    rw [s _ _ h2] at e
    rw [h2, e]
  · cases h1
    rw [s _ _ h2] at e
    rw [h2, e]
theorem Kn.at {H H' : Hp} {a : Addr} (h : Kn H (.ref a)) (s : Same H H') : H' a = H a := by
  rcases h with h | ⟨_, h⟩ | ⟨_, h⟩ | ⟨_, h⟩ | ⟨b, xs, h1, h2, _⟩ | ⟨b, xs, h1, h2, _⟩
  · cases h
  · cases h
  · cases h
  · cases h
  · cases h1
    rw [s _ _ h2, h2]
  · cases h1
    rw [s _ _ h2, h2]
theorem tu_of {H : Hp} {v : V} (h : Kn H v) (ht : isTu H v = true) : ∃ a xs, v = .ref a ∧ H a = some (.tup xs) ∧ xs.length ≤ 1000 := by
  rcases h with rfl | ⟨b, rfl⟩ | ⟨i, rfl⟩ | ⟨z, rfl⟩ | ⟨a, xs, rfl, h2, _⟩ | h
  · cases ht
  · cases ht
  · cases ht
  · cases ht
  · simp only [isTu, h2] at ht; cases ht
  · exact h
theorem li_of {H : Hp} {v : V} (h : Kn H v) (ht : isLi H v = true) : ∃ a xs, v = .ref a ∧ H a = some (.lst xs) ∧ xs.length ≤ 1000 := by
  rcases h with rfl | ⟨b, rfl⟩ | ⟨i, rfl⟩ | ⟨z, rfl⟩ | h | ⟨a, xs, rfl, h2, _⟩
  · cases ht
  · cases ht
  · cases ht
  · cases ht
  · exact h
  · simp only [isLi, h2] at ht; cases ht
theorem wh_of {v : V} (h : whB v = true) : ∃ i, v = .int i := by
  cases v <;> first | exact ⟨_, rfl⟩ | cases h
def endB (m : Int) : V → Bool
  | .int i => decide (0 ≤ i) && decide (i < m)
  | _ => false
def arrowB (m : Int) (H : Hp) : V → Bool
  | .ref a => match H a with
    | some (.tup xs) => decide (xs.length = 2) && xs.all (endB m)
    | _ => false
  | _ => false
def drawB (H : Hp) (v u : V) : Bool := match v with
  | .int m => decide (1 ≤ m) && decide (m ≤ 8) && (match u with
    | .ref a => match H a with
      | some (.lst xs) => decide (xs.length ≤ 9) && xs.all (arrowB m H)
      | _ => false
    | _ => false)
  | _ => false
def WfA (H : Hp) (v : V) : Prop := Kn H v ∧ ∀ a xs, v = .ref a → H a = some (.tup xs) → ∀ y ∈ xs, Kn H y
def WfL (H : Hp) (v : V) : Prop := Kn H v ∧ ∀ a xs, v = .ref a → H a = some (.lst xs) → ∀ y ∈ xs, WfA H y
theorem WfA.same {H H' : Hp} {v : V} (h : WfA H v) (s : Same H H') : WfA H' v := ⟨h.1.same s, fun a xs e1 e2 y hy => by subst e1; exact (h.2 a xs rfl (h.1.back s e2) y hy).same s⟩
theorem WfL.same {H H' : Hp} {v : V} (h : WfL H v) (s : Same H H') : WfL H' v := ⟨h.1.same s, fun a xs e1 e2 y hy => by subst e1; exact (h.2 a xs rfl (h.1.back s e2) y hy).same s⟩
theorem arrowB_same {H H' : Hp} {m : Int} {v : V} (h : Kn H v) (s : Same H H') : arrowB m H' v = arrowB m H v := by
  cases v <;> try rfl
  simp only [arrowB, h.at s]
theorem all_congr {xs : List V} {f g : V → Bool} (h : ∀ y ∈ xs, f y = g y) : xs.all f = xs.all g := by
  rw [Bool.eq_iff_iff, List.all_eq_true, List.all_eq_true]
  exact ⟨fun q y hy => by rw [← h y hy]; exact q y hy, fun q y hy => by rw [h y hy]; exact q y hy⟩
theorem drawB_same {H H' : Hp} {v u : V} (h : WfL H u) (s : Same H H') : drawB H' v u = drawB H v u := by
  unfold drawB
  cases v <;> try rfl
  cases u <;> try rfl
  rename_i m a
  simp only [h.1.at s]
  cases e : H a with
  | none => rfl
  | some o =>
    cases o <;> try rfl
    rename_i xs
    simp only
    rw [all_congr fun y hy => arrowB_same (h.2 a xs rfl e y hy).1 s]
theorem drawB_list {H : Hp} {v : V} {a b : Addr} {xs : List V} (ha : H a = some (.lst xs)) (hb : H b = some (.lst xs)) : drawB H v (.ref a) = drawB H v (.ref b) := by
  unfold drawB
  cases v <;> try rfl
  simp only [ha, hb]
theorem all_at2 {f : V → Bool} (xs : List V) : ((List.range xs.length).map fun i => f (xs.getD i .non)).all id = xs.all f := by
  rw [Bool.eq_iff_iff, List.all_eq_true, List.all_eq_true]
  constructor
  · intro h x hx
    obtain ⟨i, hi, rfl⟩ := List.mem_iff_getElem.mp hx
    have := h (f (xs.getD i .non)) (List.mem_map.mpr ⟨i, List.mem_range.mpr hi, rfl⟩)
    rw [List.getD_eq_getElem?_getD, List.getElem?_eq_getElem hi] at this
    exact this
  · intro h b hb
    obtain ⟨i, hi, rfl⟩ := List.mem_map.mp hb
    have hi := List.mem_range.mp hi
    rw [List.getD_eq_getElem?_getD, List.getElem?_eq_getElem hi]
    exact h _ (List.getElem_mem hi)
theorem getD_of {xs : List V} {i : Nat} {x : V} (h : xs[i]? = some x) : xs.getD i .non = x := by rw [List.getD_eq_getElem?_getD, h]; rfl
def spArrow : Sp := fun vs H Q _ => ∃ (m : Int) (x : V), vs = [.int m, x] ∧ WfA H x ∧ ∀ H', Same H H' → Q (.bl (arrowB m H x)) H'
theorem ok_arrow {f : Addr} {fd : FuncData} (F : Fun K "is_arrow" "is_arrow" s_is_arrow f fd) (T : Txt K mg C) (C_is_whole : Cal P w K mg base "is_whole" 1 spWholeA) : FnOk P w K mg base CX0 2 f fd ["many", "thing"] spArrow := by
  have nd := sc_is_arrow.nd
  refine F.ok sc_is_arrow (fun vs H Q E h => ?_) (fun cdv A outer s H vs Q E hr h => ?_)
  · obtain ⟨m, x, rfl, _⟩ := h
    rfl
  · obtain ⟨m, x, rfl, ⟨hk, hx⟩, q⟩ := h
    refine ⟨_, (@pss_cons _ _ _ _ _ (@ps_if _ _ _ _ _ _ _ _ (PW.pt (pw_or (pt_not (pt_val (pe_cB call_isinst rfl T.n_isinstance boot_isinstance (@pa_c _ _ _ _ _ (pv 1) (@pa_c _ _ _ _ _ (pe_ty rfl T.n_tuple boot_tuple) pa_nil (by rfl)) (by rfl))))) (pw_or1 (pt_cmpR op_ne (pe_cB call_len_seq rfl T.n_len PySem.boot_len (@pa_c _ _ _ _ _ (pv 1) pa_nil (by rfl))) pe_int (nomark _))))) (@pss_one _ _ _ (@ps_ret _ _ _ _ pe_bl)) pss_nil) (@pss_one _ _ _ (@ps_ret _ _ _ _ (pe_cB (call_all rfl) rfl T.n_all boot_all (@pa_c _ _ _ _ _ (pe_comp (own := ["end"]) (fr := [("many", 0)]) rfl (bl_of (by kernel_rfl)) (pi_tup (pv 1)) (fun _ _ _ _ => ⟨(@pg_name _ _ 0 _ (show (["end", "many"] : List Str).Nodup by decide +kernel) rfl (Or.inl rfl) (Or.inr rfl)), pts_nil, (pe_and (pe_c C_is_whole (hr.mono (by decide)) rfl (@pa_c _ _ _ _ _ (pv 0) pa_nil (by rfl))) (pe_one (pe_chain op_le op_lt pe_int (pv 0) (pv 1))))⟩)) pa_nil (by rfl)))))), ?_⟩
    simp only [tSeq, tIfS, tTest, tOp, tUn, tVar, tC, tCB, tCons, tNil, tRet, tRetN, tNext, tDrop, tAsg, tAug, ipI, gName, gTup, gCons, gNil, gSub, tTup, tLst, tSl, tNoPart, tPart, tChain, tCall, tBM, tBM0, tPar, tB, tAnd, tOr, tNot, tAndV, tOrV, tNotV, tIf, tYes, tMake, tMeth, tFld, sFld, tAugS, rGetL, rI0, rI, rU, rIxL, rIxT, rSetL, rSlL, rAppend, rBits, tTry, hEnds, tRaise, hnd_K, pnx_K, rCat, rEq, rNe, rEqL, rEqT, rIn, scal_ii, scal_bb, scal_ss, iList, iTup, iRng1, iRng2, cV, cx_K, in_K, wish_K, E0, L2.start, List.map, List.length, List.replicate, List.cons_append, List.nil_append, List.append_nil, List.getElem?_cons_zero, List.getElem?_cons_succ, List.set_cons_zero, List.set_cons_succ, Option.some.injEq, exists_eq_left', exists_eq_left, exists_and_left, V.int.injEq, V.bl.injEq, V.ref.injEq, V.ty.injEq, List.cons.injEq, reduceCtorEq, false_and, and_false, exists_false, or_false, false_or, and_true, true_and, Nat.reduceSub, Nat.reduceAdd, Nat.reduceLT, if_true, if_false, Bool.false_eq_true]
    obtain ⟨t1, h1, h2⟩ := kn_tup (K := K) hk
    refine ⟨_, _, ⟨rfl, rfl⟩, _, rfl, _, h1, _, h2, ite2 (fun hc => ?_) (fun hc => ?_)⟩
    · have hc : isTu H x = false := by simpa using hc
      have e : arrowB m H x = false := by
        cases x <;> try rfl
        simp only [isTu] at hc
        simp only [arrowB]
        split
        · rename_i e; rw [e] at hc; cases hc
        · rfl
      have := q H (Same.refl _)
      rw [e] at this
      exact this
    · obtain ⟨a, xs, rfl, ha, hl⟩ := tu_of hk (by simpa using hc)
      have e : arrowB m H (.ref a) = (decide (xs.length = 2) && xs.all (endB m)) := by simp only [arrowB, ha]
      refine ⟨a, rfl, xs, .inr (SqT.of ha), ite2 (fun hn => ?_) (fun hn => ?_)⟩
      · have hn : ¬ xs.length = 2 := by intro z; rw [z] at hn; exact absurd hn (by decide)
        have := q H (Same.refl _)
        rw [e, decide_eq_false hn, Bool.false_and] at this
        exact this
      · have hn : xs.length = 2 := by
          have : ((xs.length : Nat) : Int) = 2 := by simpa using hn
          omega
        rw [e, decide_eq_true hn, Bool.true_and] at q
        refine ⟨_, rfl, a, rfl, ⟨_, SqT.of ha⟩, fun D hD => comp_bl_t (fun i => endB m (xs.getD i .non)) ha hD (by omega) (fun k y H' Q' hy s' q' => ?_) fun H' s' e' => ⟨D, rfl, _, SqL.of e', ?_⟩⟩
        · rw [getD_of hy] at q'
          refine ⟨_, rfl, y, rfl, (hx a xs rfl ha y (List.mem_of_getElem? hy)).same s', whB y, rfl, ite2 (fun hw => ?_) (fun hw => ?_)⟩
          · obtain ⟨z, rfl⟩ := wh_of hw
            refine ⟨_, rfl, _, _, rfl, rfl, _, rfl, ite2 (fun z0 => ⟨_, rfl, _, _, rfl, rfl, ?_⟩) (fun z0 => ?_)⟩
            · have := q' H' (Same.refl _)
              simp only [endB] at this
              rw [show decide (0 ≤ z) = true from z0, Bool.true_and] at this
              exact this
            · have := q' H' (Same.refl _)
              simp only [endB] at this
              rw [show decide (0 ≤ z) = false by simpa using z0, Bool.false_and] at this
              exact this
          · have := q' H' (Same.refl _)
            rw [show endB m y = false by cases y <;> first | rfl | exact absurd rfl hw] at this
            exact this
        · rw [all_at2]
          exact q H' s'
def spMakes : Sp := fun vs H Q _ => ∃ v u : V, vs = [v, u] ∧ Kn H v ∧ WfL H u ∧ ∀ H', Same H H' → Q (.bl (drawB H v u)) H'
theorem ok_makes {f : Addr} {fd : FuncData} (F : Fun K "makes_drawing" "makes_drawing" s_makes_drawing f fd) (T : Txt K mg C) (C_is_whole : Cal P w K mg base "is_whole" 1 spWholeA) (C_is_arrow : Cal P w K mg base "is_arrow" 2 spArrow) : FnOk P w K mg base CX0 3 f fd ["many", "arrows"] spMakes := by
  have nd := sc_makes_drawing.nd
  refine F.ok sc_makes_drawing (fun vs H Q E h => ?_) (fun cdv A outer s H vs Q E hr h => ?_)
  · obtain ⟨v, u, rfl, _⟩ := h
    rfl
  · obtain ⟨v, u, rfl, hv, ⟨hk, hx⟩, q⟩ := h
    refine ⟨_, (@pss_cons _ _ _ _ _ (@ps_if _ _ _ _ _ _ _ _ (PW.pt (pw_or (pt_not (pt_val (pe_c C_is_whole (hr.mono (by decide)) rfl (@pa_c _ _ _ _ _ (pv 0) pa_nil (by rfl))))) (pw_or1 (pt_not (pt_chain op_le op_le pe_int (pv 0) (pe_globI rfl T.g_MOST_POINTS)))))) (@pss_one _ _ _ (@ps_ret _ _ _ _ pe_bl)) pss_nil) (@pss_cons _ _ _ _ _ (@ps_if _ _ _ _ _ _ _ _ (PW.pt (pw_or (pt_not (pt_val (pe_cB call_isinst rfl T.n_isinstance boot_isinstance (@pa_c _ _ _ _ _ (pv 1) (@pa_c _ _ _ _ _ (pe_ty rfl T.n_list boot_list) pa_nil (by rfl)) (by rfl))))) (pw_or1 (pt_cmpR op_gt (pe_cB call_len_seq rfl T.n_len PySem.boot_len (@pa_c _ _ _ _ _ (pv 1) pa_nil (by rfl))) (pe_globI rfl T.g_MOST_ARROWS) (nomark _))))) (@pss_one _ _ _ (@ps_ret _ _ _ _ pe_bl)) pss_nil) (@pss_one _ _ _ (@ps_ret _ _ _ _ (pe_cB (call_all rfl) rfl T.n_all boot_all (@pa_c _ _ _ _ _ (pe_comp (own := ["arrow"]) (fr := [("many", 0)]) rfl (bl_of (by kernel_rfl)) (pi_list (pv 1)) (fun _ _ _ _ => ⟨(@pg_name _ _ 0 _ (show (["arrow", "many"] : List Str).Nodup by decide +kernel) rfl (Or.inl rfl) (Or.inr rfl)), pts_nil, (pe_c C_is_arrow (hr.mono (by decide)) rfl (@pa_c _ _ _ _ _ (pv 1) (@pa_c _ _ _ _ _ (pv 0) pa_nil (by rfl)) (by rfl)))⟩)) pa_nil (by rfl))))))), ?_⟩
    simp only [tSeq, tIfS, tTest, tOp, tUn, tVar, tC, tCB, tCons, tNil, tRet, tRetN, tNext, tDrop, tAsg, tAug, ipI, gName, gTup, gCons, gNil, gSub, tTup, tLst, tSl, tNoPart, tPart, tChain, tCall, tBM, tBM0, tPar, tB, tAnd, tOr, tNot, tAndV, tOrV, tNotV, tIf, tYes, tMake, tMeth, tFld, sFld, tAugS, rGetL, rI0, rI, rU, rIxL, rIxT, rSetL, rSlL, rAppend, rBits, tTry, hEnds, tRaise, hnd_K, pnx_K, rCat, rEq, rNe, rEqL, rEqT, rIn, scal_ii, scal_bb, scal_ss, iList, iTup, iRng1, iRng2, cV, cx_K, in_K, wish_K, E0, L2.start, List.map, List.length, List.replicate, List.cons_append, List.nil_append, List.append_nil, List.getElem?_cons_zero, List.getElem?_cons_succ, List.set_cons_zero, List.set_cons_succ, Option.some.injEq, exists_eq_left', exists_eq_left, exists_and_left, V.int.injEq, V.bl.injEq, V.ref.injEq, V.ty.injEq, List.cons.injEq, reduceCtorEq, false_and, and_false, exists_false, or_false, false_or, and_true, true_and, Nat.reduceSub, Nat.reduceAdd, Nat.reduceLT, if_true, if_false, Bool.false_eq_true]
    have q0 := q H (Same.refl _)
    refine ⟨v, rfl, hv, whB v, rfl, ite2 (fun hc => ?_) (fun hc => ?_)⟩
    · rw [show drawB H v u = false by cases v <;> first | rfl | (exact absurd hc (by simp [whB]))] at q0
      exact q0
    · obtain ⟨m, rfl⟩ := wh_of (v := v) (by simpa using hc)
      refine ⟨m, rfl, ite2 (fun h1 => ⟨m, rfl, ite2 (fun h8 => ?_) (fun h8 => ?_)⟩) (fun h1 => iteP rfl ?_)⟩
      · rw [show drawB H (.int m) u = false by simp only [drawB]; rw [show decide (m ≤ 8) = false by simpa using h8]; simp] at q0
        exact q0
      · have h8 : decide (m ≤ 8) = true := by simpa using h8
        obtain ⟨t1, k1, k2⟩ := kn_list (K := K) hk
        refine ⟨_, _, ⟨rfl, rfl⟩, _, rfl, _, k1, _, k2, ite2 (fun hc => ?_) (fun hc => ?_)⟩
        · have hc : isLi H u = false := by simpa using hc
          have e : drawB H (.int m) u = false := by
            simp only [drawB]
            cases u <;> try simp
            simp only [isLi] at hc
            split
            · rename_i e; rw [e] at hc; cases hc
            · simp
          rw [e] at q0
          exact q0
        · obtain ⟨a, xs, rfl, ha, hl⟩ := li_of hk (by simpa using hc)
          have e : drawB H (.int m) (.ref a) = (decide (xs.length ≤ 9) && xs.all (arrowB m H)) := by simp only [drawB, ha]; rw [show decide (1 ≤ m) = true from h1, h8]; rfl
          refine ⟨a, rfl, xs, .inl (SqL.of ha), ite2 (fun h9 => ?_) (fun h9 => ?_)⟩
          · have h9 := of_decide_eq_true h9
            rw [e, decide_eq_false (show ¬ xs.length ≤ 9 by omega), Bool.false_and] at q0
            exact q0
          · have h9 : xs.length ≤ 9 := by
              have : ¬ (9 : Int) < xs.length := fun z => h9 (decide_eq_true z)
              omega
            rw [e, decide_eq_true h9, Bool.true_and] at q
            refine ⟨_, rfl, a, rfl, ⟨_, SqL.of ha⟩, fun D hD => comp_bl_l (fun i => arrowB m H (xs.getD i .non)) ha hD (by omega) (fun k y H' Q' hy s' q' => ?_) fun H' s' e' => ⟨D, rfl, _, SqL.of e', ?_⟩⟩
            · rw [getD_of hy] at q'
              have wy := hx a xs rfl ha y (List.mem_of_getElem? hy)
              exact ⟨_, rfl, _, rfl, m, y, rfl, wy.same s', fun H'' s'' => by rw [arrowB_same wy.1 s']; exact q' H'' s''⟩
            · rw [all_at2]
              exact q H' s'
      · rw [show drawB H (.int m) u = false by simp only [drawB]; rw [show decide (1 ≤ m) = false by simpa using h1]; simp] at q0
        exact q0
def flds (m : Int) (lp : Addr) : List (Str × V) := putF "arrows" (.ref lp) (putF "many" (.int m) [])
theorem flds_arrows (m : Int) (lp : Addr) : (flds m lp).lookup ("arrows" : Str) = some (.ref lp) := by
  unfold flds
  rw [lookup_putF, if_pos rfl]
theorem flds_many (m : Int) (lp : Addr) : (flds m lp).lookup ("many" : Str) = some (.int m) := by
  unfold flds
  rw [lookup_putF, if_neg (by decide +kernel), lookup_putF, if_pos rfl]
theorem flds_len (m : Int) : (putF "many" (.int m) ([] : List (Str × V))).length < 1000 := by
  have := length_putF "many" (.int m) []
  simp at this
  omega
theorem drawB_of {H : Hp} {v u : V} (h : drawB H v u = true) : ∃ m a xs, v = .int m ∧ u = .ref a ∧ H a = some (.lst xs) := by
  unfold drawB at h
  cases v with
  | int m =>
    cases u with
    | ref a =>
      simp only [Bool.and_eq_true] at h
      have := h.2
      split at this
      · rename_i xs e
        exact ⟨m, a, xs, rfl, rfl, e⟩
      · cases this
    | _ => simp at h
  | _ => cases h
def spInit (C ND : Addr) : Sp := fun vs H Q E => ∃ (p dx : Addr) (v u : V), vs = [.ref p, v, u] ∧ H p = some (.ins C dx []) ∧ Kn H v ∧ WfL H u ∧ (drawB H v u = false → ∀ H', Same H H' → E (.ref ND) none H') ∧
  ∀ (m : Int) (a : Addr) (xs : List V), v = .int m → u = .ref a → H a = some (.lst xs) → drawB H v u = true → ∀ (lp : Addr) (H' : Hp), Ext p H H' → H' p = some (.ins C dx (flds m lp)) → H lp = none → H' lp = some (.lst xs) → Q .non H'
theorem ok_init {f : Addr} {fd : FuncData} (F : Fun K "__init__" "Drawing.__init__" s_Drawing_init f fd) (T : Txt K mg C) (XT : Xt K mg base cc) (C_makes_drawing : Cal P w K mg base "makes_drawing" 3 spMakes) : FnOk P w K mg base (CXe P w) 4 f fd ["self", "many", "arrows"] (spInit C cc.NoDrawing) := by
  have nd := sc_Drawing_init.nd
  refine F.okE sc_Drawing_init (fun vs H Q E h => ?_) (fun cdv A outer s H vs Q E hr h => ?_)
  · obtain ⟨p, dx, v, u, rfl, _⟩ := h
    rfl
  · obtain ⟨p, dx, v, u, rfl, hp, hk, hw, hE, q⟩ := h
    refine ⟨_, (@pss_cons _ _ _ _ _ (@ps_if _ _ _ _ _ _ _ _ (pt_not (pt_val (pe_c C_makes_drawing (hr.mono (by decide)) rfl (@pa_c _ _ _ _ _ (pv 1) (@pa_c _ _ _ _ _ (pv 2) pa_nil (by rfl)) (by rfl))))) (@pss_one _ _ _ (ps_rse XT.o_NoDrawing rfl (@pa_c _ _ _ _ _ pe_str pa_nil (by rfl)))) pss_nil) (@pss_cons _ _ _ _ _ (ps_fld (pv 0) (pv 1) rfl) (@pss_one _ _ _ (ps_fld (pv 0) (pe_cT call_list_of rfl T.n_list boot_list (@pa_c _ _ _ _ _ (pv 2) pa_nil (by rfl))) rfl)))), ?_⟩
    simp only [tSeq, tIfS, tTest, tOp, tUn, tVar, tC, tCB, tCons, tNil, tRet, tRetN, tNext, tDrop, tAsg, tAug, ipI, gName, gTup, gCons, gNil, gSub, tTup, tLst, tSl, tNoPart, tPart, tChain, tCall, tBM, tBM0, tPar, tB, tAnd, tOr, tNot, tAndV, tOrV, tNotV, tIf, tYes, tMake, tMeth, tFld, sFld, tAugS, rGetL, rI0, rI, rU, rIxL, rIxT, rSetL, rSlL, rAppend, rBits, tTry, hEnds, tRaise, hnd_K, pnx_K, rCat, rEq, rNe, rEqL, rEqT, rIn, scal_ii, scal_bb, scal_ss, iList, iTup, iRng1, iRng2, cV, cx_K, in_K, wish_K, E0, L2.start, List.map, List.length, List.replicate, List.cons_append, List.nil_append, List.append_nil, List.getElem?_cons_zero, List.getElem?_cons_succ, List.set_cons_zero, List.set_cons_succ, Option.some.injEq, exists_eq_left', exists_eq_left, exists_and_left, V.int.injEq, V.bl.injEq, V.ref.injEq, V.ty.injEq, List.cons.injEq, reduceCtorEq, false_and, and_false, exists_false, or_false, false_or, and_true, true_and, Nat.reduceSub, Nat.reduceAdd, Nat.reduceLT, if_true, if_false, Bool.false_eq_true]
    refine ⟨v, u, rfl, hk, hw, fun H1 s1 => ⟨drawB H v u, rfl, ite2 (fun hc => ⟨by decide, hE (by simpa using hc) H1 s1⟩) (fun hc => ?_)⟩⟩
    have hd : drawB H v u = true := by simpa using hc
    obtain ⟨m, a, xs, rfl, rfl, ha⟩ := drawB_of hd
    have nap : a ≠ p := ne_of ha hp (by intro z; cases z)
    refine ⟨C, dx, [], s1 _ _ hp, T.cl_Drawing, T.nM, by show 0 < 1000; decide, ?_⟩
    refine ⟨_, rfl, xs, .inl (SqL.of (by rw [upd_ne nap]; exact s1 _ _ ha)), fun l hl0 => ?_⟩
    have npl : p ≠ l := ne_of_none upd_same hl0
    refine ⟨C, dx, _, by rw [upd_ne npl]; exact upd_same, T.cl_Drawing, T.nA, flds_len m, ?_⟩
    have fl : H l = none := by
      rw [upd_ne npl.symm] at hl0
      exact s1.free hl0
    refine q m a xs rfl rfl ha hd l _ (fun b o nb e => ?_) upd_same fl (by rw [upd_ne npl.symm]; exact upd_same)
    rw [upd_ne nb, upd_ne (ne_of_none e fl), upd_ne nb]
    exact s1 _ _ e
end
end Pf

set_option maxHeartbeats 1000000
namespace Pf
open PySem L2 PyProof.Rows
section
variable {P : Program} {w : World} {K : PySem.W.Frag} {mg : Str → Option Value} {base : Heap} {C : Addr} {cc : Cs}
theorem kit_self {t : Value} : PySem.W.kitOne K t t = some true := by unfold PySem.W.kitOne; rw [if_pos (by simp)]
theorem room8 {k : Nat} {A : Around} (hr : Room k A) : A.units + 8 < cLine := by have := hr.units; omega
theorem Same.thru {l : Addr} {H H1 H2 : Hp} (s : Same H H1) (h : H l = none) (e : Ext l H1 H2) : Same H H2 := fun b o eb => e b o (ne_of_none eb h) (s b o eb)
theorem seq_cut1 {A X : TS} {D : Ends} {σ : L2.St} {H : Hp} (h : ∀ X', X' = X → tSeq A X' D σ H) : tSeq A X D σ H := h X rfl
theorem seq_cut3 {A B C' X : TS} {D : Ends} {σ : L2.St} {H : Hp} (h : ∀ X' D', X' = X → D' = D → tSeq A (tSeq B (tSeq C' X')) D' σ H) : tSeq A (tSeq B (tSeq C' X)) D σ H := h X D rfl rfl
theorem seq_cut5 {A B C' D0 E' X : TS} {D : Ends} {σ : L2.St} {H : Hp} (h : ∀ X', X' = X → tSeq A (tSeq B (tSeq C' (tSeq D0 (tSeq E' X')))) D σ H) : tSeq A (tSeq B (tSeq C' (tSeq D0 (tSeq E' X)))) D σ H := h X rfl
def spRefused : Sp := fun vs H Q _ => ∃ v u : V, vs = [v, u] ∧ Kn H v ∧ WfL H u ∧ drawB H v u = false ∧ ∀ H', Same H H' → Q (.bl true) H'
theorem ok_refused {f : Addr} {fd : FuncData} (F : Fun K "_law_refused" "_law_refused" s_law_refused f fd) (T : Txt K mg C) (XT : Xt K mg base cc) (C_Drawing : CalIE P w K mg base "Drawing" C 4 (spInit C cc.NoDrawing)) : FnOk P w K mg base CX0 6 f fd ["_law_many", "_law_arrows"] spRefused := by
  have nd := sc_law_refused.nd
  refine F.ok sc_law_refused (fun vs H Q E h => ?_) (fun cdv A outer s H vs Q E hr h => ?_)
  · obtain ⟨v, u, rfl, _⟩ := h
    rfl
  · obtain ⟨v, u, rfl, hk, hw, hd, q⟩ := h
    refine ⟨_, (@pss_cons _ _ _ _ _ (ps_try (E' := (fun c _ H' => c = .ref cc.NoDrawing ∧ Same H H')) (i := 2) rfl rfl rfl (fun pins xt hps => (@pss_one _ _ _ (ps_expr (pe_nE C_Drawing hps (hr.mono (by decide)) rfl (@pa_c _ _ _ _ _ (pv 0) (@pa_c _ _ _ _ _ (pv 1) pa_nil (by rfl)) (by rfl)))))) (fun pins a => (@pss_cons _ _ _ _ _ (@ps_if _ _ _ _ _ _ _ _ (pt_val (pe_cB (call_isxTK K rfl) rfl T.n_isinstance boot_isinstance (@pa_c _ _ _ _ _ (pv 2) (@pa_c _ _ _ _ _ (@pe_tup _ _ _ _ _ (@pa_c _ _ _ _ _ (pe_glob (v := .ref cc.NoGround) rfl XT.g_NoGround rfl) (@pa_c _ _ _ _ _ (pe_glob (v := .ref cc.NoNumber) rfl XT.g_NoNumber rfl) (@pa_c _ _ _ _ _ (pe_glob (v := .ref cc.NoTable) rfl XT.g_NoTable rfl) (@pa_c _ _ _ _ _ (pe_glob (v := .ref cc.NoKind) rfl XT.g_NoKind rfl) (@pa_c _ _ _ _ _ (pe_glob (v := .ref cc.NoStanding) rfl XT.g_NoStanding rfl) (@pa_c _ _ _ _ _ (pe_glob (v := .ref cc.NoChange) rfl XT.g_NoChange rfl) (@pa_c _ _ _ _ _ (pe_glob (v := .ref cc.NoMirror) rfl XT.g_NoMirror rfl) (@pa_c _ _ _ _ _ (pe_glob (v := .ref cc.NoRoot) rfl XT.g_NoRoot rfl) pa_nil (by rfl)) (by rfl)) (by rfl)) (by rfl)) (by rfl)) (by rfl)) (by rfl)) (by rfl))) pa_nil (by rfl)) (by rfl)))) (@pss_one _ _ _ (@ps_ret _ _ _ _ pe_bl)) pss_nil) (@pss_one _ _ _ (@ps_ret _ _ _ _ (pe_and (pe_cB (call_isxK K rfl) rfl T.n_isinstance boot_isinstance (@pa_c _ _ _ _ _ (pv 2) (@pa_c _ _ _ _ _ (pe_glob (v := .ref cc.NoDrawing) rfl XT.g_NoDrawing rfl) pa_nil (by rfl)) (by rfl))) (pe_and (pe_cB (call_isxK K rfl) rfl T.n_isinstance boot_isinstance (@pa_c _ _ _ _ _ (pv 2) (@pa_c _ _ _ _ _ (pe_ty rfl T.n_ValueError boot_ValueError) pa_nil (by rfl)) (by rfl))) (pe_one (pe_not (pe_cB (call_isxTK K rfl) rfl T.n_isinstance boot_isinstance (@pa_c _ _ _ _ _ (pv 2) (@pa_c _ _ _ _ _ (@pe_tup _ _ _ _ _ (@pa_c _ _ _ _ _ (pe_glob (v := .ref cc.NoText) rfl XT.g_NoText rfl) (@pa_c _ _ _ _ _ (pe_glob (v := .ref cc.NoRow) rfl XT.g_NoRow rfl) (@pa_c _ _ _ _ _ (pe_glob (v := .ref cc.NoName) rfl XT.g_NoName rfl) pa_nil (by rfl)) (by rfl)) (by rfl))) pa_nil (by rfl)) (by rfl))))))))))) rfl XT.o_LimbError (by decide) (fun c H' h => h.1 ▸ XT.u_NoDrawing) nd rfl rfl) (@pss_one _ _ _ (@ps_ret _ _ _ _ pe_bl))), ?_⟩
    refine ⟨?_, fun cls H' a σ' hE ha hl => ?_⟩
    · simp only [tSeq, tIfS, tTest, tOp, tUn, tVar, tC, tCB, tCons, tNil, tRet, tRetN, tNext, tDrop, tAsg, tAug, ipI, gName, gTup, gCons, gNil, gSub, tTup, tLst, tSl, tNoPart, tPart, tChain, tCall, tBM, tBM0, tPar, tB, tAnd, tOr, tNot, tAndV, tOrV, tNotV, tIf, tYes, tMake, tMeth, tFld, sFld, tAugS, rGetL, rI0, rI, rU, rIxL, rIxT, rSetL, rSlL, rAppend, rBits, tTry, hEnds, tRaise, hnd_K, pnx_K, rCat, rEq, rNe, rEqL, rEqT, rIn, scal_ii, scal_bb, scal_ss, iList, iTup, iRng1, iRng2, cV, cx_K, in_K, wish_K, E0, L2.start, List.map, List.length, List.replicate, List.cons_append, List.nil_append, List.append_nil, List.getElem?_cons_zero, List.getElem?_cons_succ, List.set_cons_zero, List.set_cons_succ, Option.some.injEq, exists_eq_left', exists_eq_left, exists_and_left, V.int.injEq, V.bl.injEq, V.ref.injEq, V.ty.injEq, List.cons.injEq, reduceCtorEq, false_and, and_false, exists_false, or_false, false_or, and_true, true_and, Nat.reduceSub, Nat.reduceAdd, Nat.reduceLT, if_true, if_false, Bool.false_eq_true]
      intro x dx hx hdx ndx
      have fx1 : (upd H dx (.own x)) x = none := by rw [upd_ne ndx.symm]; exact hx
      have s45 : Same H (upd (upd H dx (.own x)) x (.ins C dx [])) := (Same.new hdx).trans (Same.new fx1)
      refine ⟨x, dx, v, u, rfl, upd_same, hk.same s45, hw.same s45, fun _ H1 s1 => ⟨rfl, s45.trans s1⟩, fun m a xs hv hu ha hd' => ?_⟩
      rw [drawB_same hw s45, hd] at hd'
      cases hd'
    · obtain ⟨v0, v1, v2, rfl⟩ : ∃ v0 v1 v2 : Option V, σ' = [v0, v1, v2] := by
        match σ', hl with
        | [v0, v1, v2], _ => exact ⟨v0, v1, v2, rfl⟩
      obtain ⟨rfl, sH⟩ := hE
      have h1 : upd H' a (isExc a (.ref cc.NoDrawing)) a = some (isExc a (.ref cc.NoDrawing)) := upd_same
      have s1 := sH.trans (Same.new (o := isExc a (.ref cc.NoDrawing)) ha)
      simp only [tSeq, tIfS, tTest, tOp, tUn, tVar, tC, tCB, tCons, tNil, tRet, tRetN, tNext, tDrop, tAsg, tAug, ipI, gName, gTup, gCons, gNil, gSub, tTup, tLst, tSl, tNoPart, tPart, tChain, tCall, tBM, tBM0, tPar, tB, tAnd, tOr, tNot, tAndV, tOrV, tNotV, tIf, tYes, tMake, tMeth, tFld, sFld, tAugS, rGetL, rI0, rI, rU, rIxL, rIxT, rSetL, rSlL, rAppend, rBits, tTry, hEnds, tRaise, hnd_K, pnx_K, rCat, rEq, rNe, rEqL, rEqT, rIn, scal_ii, scal_bb, scal_ss, iList, iTup, iRng1, iRng2, cV, cx_K, in_K, wish_K, E0, L2.start, List.map, List.length, List.replicate, List.cons_append, List.nil_append, List.append_nil, List.getElem?_cons_zero, List.getElem?_cons_succ, List.set_cons_zero, List.set_cons_succ, Option.some.injEq, exists_eq_left', exists_eq_left, exists_and_left, V.int.injEq, V.bl.injEq, V.ref.injEq, V.ty.injEq, List.cons.injEq, reduceCtorEq, false_and, and_false, exists_false, or_false, false_or, and_true, true_and, Nat.reduceSub, Nat.reduceAdd, Nat.reduceLT, if_true, if_false, Bool.false_eq_true]
      generalize upd H' a (isExc a (.ref cc.NoDrawing)) = H1 at *
      refine ⟨by decide, fun p1 hp1 => ⟨a, cc.NoDrawing, p1, ⟨rfl, rfl⟩, _, upd_same, [.ref cc.NoGround, .ref cc.NoNumber, .ref cc.NoTable, .ref cc.NoKind, .ref cc.NoStanding, .ref cc.NoChange, .ref cc.NoMirror, .ref cc.NoRoot], rfl, by rw [upd_ne (ne_of_none h1 hp1)]; exact h1, XT.z, XT.i, false, XT.t1, iteF ?_⟩⟩
      have s2 := s1.trans (Same.new (o := .tup [V.ref cc.NoGround, V.ref cc.NoNumber, V.ref cc.NoTable, V.ref cc.NoKind, V.ref cc.NoStanding, V.ref cc.NoChange, V.ref cc.NoMirror, V.ref cc.NoRoot]) hp1)
      have h2 := (Same.new (o := .tup [V.ref cc.NoGround, V.ref cc.NoNumber, V.ref cc.NoTable, V.ref cc.NoKind, V.ref cc.NoStanding, V.ref cc.NoChange, V.ref cc.NoMirror, V.ref cc.NoRoot]) hp1) _ _ h1
      generalize upd H1 p1 (.tup [V.ref cc.NoGround, V.ref cc.NoNumber, V.ref cc.NoTable, V.ref cc.NoKind, V.ref cc.NoStanding, V.ref cc.NoChange, V.ref cc.NoMirror, V.ref cc.NoRoot]) = H2 at *
      refine ⟨a, cc.NoDrawing, _, ⟨rfl, rfl⟩, .ref cc.NoDrawing, rfl, h2, XT.z, XT.i, true, kit_self, iteT ⟨a, cc.NoDrawing, _, ⟨rfl, rfl⟩, .type "ValueError", rfl, h2, XT.z, XT.i, true, XT.v, iteT ⟨by decide, fun p2 hp2 => ⟨a, cc.NoDrawing, p2, ⟨rfl, rfl⟩, _, upd_same, [.ref cc.NoText, .ref cc.NoRow, .ref cc.NoName], rfl, by rw [upd_ne (ne_of_none h2 hp2)]; exact h2, XT.z, XT.i, false, XT.t2, ?_⟩⟩⟩⟩
      exact q _ (s2.trans (Same.new hp2))
theorem edge_kn {H : Hp} {m : Int} {x : V} (h : Edge H m x) : WfA H x := by
  obtain ⟨t, i, j, rfl, ht, _⟩ := h
  refine ⟨Kn.tup ht (by show 2 ≤ 1000; decide), fun a xs e1 e2 y hy => ?_⟩
  cases e1
  rw [ht] at e2
  cases e2
  simp only [List.mem_cons, List.not_mem_nil, or_false] at hy
  rcases hy with rfl | rfl <;> exact Kn.int
theorem edge_arrow {H : Hp} {m : Int} {x : V} (h : Edge H m x) : arrowB m H x = true := by
  obtain ⟨t, i, j, rfl, ht, i0, i1, j0, j1⟩ := h
  simp only [arrowB, ht, List.all_cons, List.all_nil, endB, decide_eq_true i0, decide_eq_true i1, decide_eq_true j0, decide_eq_true j1]
  rfl
theorem edges_wf {H : Hp} {m : Int} {a : Addr} {xs : List V} (h : Edges H m xs) (ha : H a = some (.lst xs)) (hl : xs.length ≤ 9) : WfL H (.ref a) :=
  ⟨Kn.lst ha (by omega), fun b ys e1 e2 y hy => by cases e1; rw [ha] at e2; cases e2; exact edge_kn (h y hy)⟩
theorem edges_draw {H : Hp} {m : Int} {a : Addr} {xs : List V} (h : Edges H m xs) (ha : H a = some (.lst xs)) (hl : xs.length ≤ 9) (m0 : 1 ≤ m) (m8 : m ≤ 8) : drawB H (.int m) (.ref a) = true := by
  simp only [drawB, ha]
  rw [decide_eq_true m0, decide_eq_true m8, decide_eq_true hl, List.all_eq_true.mpr fun y hy => edge_arrow (h y hy)]
  rfl
theorem copy_eq {H : Hp} {xs : List V} (h : ∀ y ∈ xs, Kn H y) : ItemsEq K H 6 xs xs (List.replicate xs.length true) := by
  refine ⟨rfl, List.length_replicate, fun j x y b e1 e2 e3 => ?_⟩
  rw [e1] at e2
  cases e2
  rw [List.getElem?_replicate] at e3
  split at e3
  · cases e3
    rcases h x (List.mem_of_getElem? e1) with rfl | ⟨b, rfl⟩ | ⟨i, rfl⟩ | ⟨z, rfl⟩ | ⟨a, zs, rfl, _⟩ | ⟨a, zs, rfl, _⟩
    · exact EqD.flat rfl rfl
    · have := EqD.flat (K := K) (H := H) (n := 6) (x := .bl b) (y := .bl b) rfl rfl
      rwa [show eqV (.bl b) (.bl b) = true by simp [eqV]] at this
    · have := EqD.flat (K := K) (H := H) (n := 6) (x := .int i) (y := .int i) rfl rfl
      rwa [show eqV (.int i) (.int i) = true by simp [eqV]] at this
    · have := EqD.flat (K := K) (H := H) (n := 6) (x := .str z) (y := .str z) rfl rfl
      rwa [show eqV (.str z) (.str z) = true by simp [eqV]] at this
    · exact EqD.same
    · exact EqD.same
  · cases e3
def spLMade : Sp := fun vs H Q _ => ∃ (m : Int) (a : Addr) (xs : List V), vs = [.int m, .ref a] ∧ 1 ≤ m ∧ m ≤ 8 ∧ H a = some (.lst xs) ∧ xs.length ≤ 9 ∧ Edges H m xs ∧ ∀ H', Same H H' → Q (.bl true) H'
theorem ok_lmade {f : Addr} {fd : FuncData} (F : Fun K "_law_made" "_law_made" s_law_made f fd) (T : Txt K mg C) (C_Drawing : CalIE P w K mg base "Drawing" C 4 (spInit C cc.NoDrawing)) : FnOk P w K mg base CX0 6 f fd ["_law_many", "_law_arrows"] spLMade := by
  have nd := sc_law_made.nd
  refine F.ok sc_law_made (fun vs H Q E h => ?_) (fun cdv A outer s H vs Q E hr h => ?_)
  · obtain ⟨m, a, xs, rfl, _⟩ := h
    rfl
  · obtain ⟨m, a, xs, rfl, m0, m8, ha, hl, d, q⟩ := h
    have hu8 := room8 hr
    refine ⟨_, (@pss_cons _ _ _ _ _ (ps_set (i := 2) nd rfl (Or.inl rfl) (pe_cT call_list_of rfl T.n_list boot_list (@pa_c _ _ _ _ _ (pv 1) pa_nil (by rfl)))) (@pss_cons _ _ _ _ _ (ps_set (i := 3) nd rfl (Or.inl rfl) (pe_nE C_Drawing pass_no (hr.mono (by decide)) rfl (@pa_c _ _ _ _ _ (pv 0) (@pa_c _ _ _ _ _ (pv 2) pa_nil (by rfl)) (by rfl)))) (@pss_cons _ _ _ _ _ (@ps_if _ _ _ _ _ _ _ _ (pt_cmpR (op_neL hu8) (pv 2) (pv 1) (nomark _)) (@pss_one _ _ _ (@ps_ret _ _ _ _ pe_bl)) pss_nil) (@pss_cons _ _ _ _ _ (ps_expr (pe_bm PySem.F.plainAttrs_list PySem.F.slot_list_append PySem.F.type_list_append mt_append (pv 2) (@pa_c _ _ _ _ _ (@pe_tup _ _ _ _ _ (@pa_c _ _ _ _ _ pe_int (@pa_c _ _ _ _ _ pe_int pa_nil (by rfl)) (by rfl))) pa_nil (by rfl)))) (@pss_cons _ _ _ _ _ (ps_asg (@pe_tup _ _ _ _ _ (@pa_c _ _ _ _ _ pe_int (@pa_c _ _ _ _ _ pe_int pa_nil (by rfl)) (by rfl))) (pg_sub (pv 2) pe_int set_list)) (@pss_cons _ _ _ _ _ (@ps_if _ _ _ _ _ _ _ _ (PW.pt (pw_or (pt_not (pt_val (pe_cB call_isinst rfl T.n_isinstance boot_isinstance (@pa_c _ _ _ _ _ (pe_fld (pv 3) rfl) (@pa_c _ _ _ _ _ (pe_ty rfl T.n_int boot_int) pa_nil (by rfl)) (by rfl))))) (pw_or (pt_val (pe_cB call_isinst rfl T.n_isinstance boot_isinstance (@pa_c _ _ _ _ _ (pe_fld (pv 3) rfl) (@pa_c _ _ _ _ _ (pe_ty rfl T.n_bool boot_bool) pa_nil (by rfl)) (by rfl)))) (pw_or1 (pt_not (pt_val (pe_cB call_isinst rfl T.n_isinstance boot_isinstance (@pa_c _ _ _ _ _ (pe_fld (pv 3) rfl) (@pa_c _ _ _ _ _ (pe_ty rfl T.n_list boot_list) pa_nil (by rfl)) (by rfl))))))))) (@pss_one _ _ _ (@ps_ret _ _ _ _ pe_bl)) pss_nil) (@pss_one _ _ _ (@ps_ret _ _ _ _ (pe_and (pe_cmpR op_eq (pe_fld (pv 3) rfl) (pv 0) (nomark _)) (pe_one (pe_cmpR (op_eqL hu8) (pe_fld (pv 3) rfl) (pv 1) (nomark _)))))))))))), ?_⟩
    simp only [tSeq, tIfS, tTest, tOp, tUn, tVar, tC, tCB, tCons, tNil, tRet, tRetN, tNext, tDrop, tAsg, tAug, ipI, gName, gTup, gCons, gNil, gSub, tTup, tLst, tSl, tNoPart, tPart, tChain, tCall, tBM, tBM0, tPar, tB, tAnd, tOr, tNot, tAndV, tOrV, tNotV, tIf, tYes, tMake, tMeth, tFld, sFld, tAugS, rGetL, rI0, rI, rU, rIxL, rIxT, rSetL, rSlL, rAppend, rBits, tTry, hEnds, tRaise, hnd_K, pnx_K, rCat, rEq, rNe, rEqL, rEqT, rIn, scal_ii, scal_bb, scal_ss, iList, iTup, iRng1, iRng2, cV, cx_K, in_K, wish_K, E0, L2.start, List.map, List.length, List.replicate, List.cons_append, List.nil_append, List.append_nil, List.getElem?_cons_zero, List.getElem?_cons_succ, List.set_cons_zero, List.set_cons_succ, Option.some.injEq, exists_eq_left', exists_eq_left, exists_and_left, V.int.injEq, V.bl.injEq, V.ref.injEq, V.ty.injEq, List.cons.injEq, reduceCtorEq, false_and, and_false, exists_false, or_false, false_or, and_true, true_and, Nat.reduceSub, Nat.reduceAdd, Nat.reduceLT, if_true, if_false, Bool.false_eq_true]
    refine ⟨xs, .inl (SqL.of ha), fun l hl0 => ?_⟩
    have s1 := Same.new (o := .lst xs) hl0
    have hL : (upd H l (.lst xs)) l = some (.lst xs) := upd_same
    generalize upd H l (.lst xs) = H1 at *
    intro x dx hx hdx ndx
    have fx1 : (upd H1 dx (.own x)) x = none := by rw [upd_ne ndx.symm]; exact hx
    have s45 : Same H1 (upd (upd H1 dx (.own x)) x (.ins C dx [])) := (Same.new hdx).trans (Same.new fx1)
    refine ⟨x, dx, _, _, rfl, upd_same, Kn.int, edges_wf ((d.same s1).same s45) (s45 _ _ hL) hl, fun hz => ?_, fun m' a' xs' hm hA hx' _ lp H2 e2 h2 hlp h2l => ⟨rfl, ?_⟩⟩
    · rw [edges_draw ((d.same s1).same s45) (s45 _ _ hL) hl m0 m8] at hz
      cases hz
    · cases hm
      cases hA
      rw [s45 _ _ hL] at hx'
      cases hx'
      have ha1 : H1 a = some (.lst xs) := s1 _ _ ha
      have nlx : l ≠ x := ne_of_none hL hx
      have nax : a ≠ x := ne_of_none ha1 hx
      have nal : a ≠ l := ne_of_none ha hl0
      have nlp : l ≠ lp := ne_of_none (s45 _ _ hL) hlp
      have nxp : x ≠ lp := ne_of_none (upd_same (H := upd H1 dx (.own x)) (a := x) (o := .ins C dx [])) hlp
      have h2L := e2 _ _ nlx (s45 _ _ hL)
      have h2A := e2 _ _ nax (s45 _ _ ha1)
      have sx : Same H1 H2 := fun b o eb => e2 b o (ne_of_none eb hx) (s45 b o eb)
      have d2 := (d.same s1).same sx
      have kns : ∀ H', Same H1 H' → ∀ y ∈ xs, Kn H' y := fun H' s' y hy => (edge_kn (((d.same s1).same s') y hy)).1
      have tru : ∀ n : Nat, ¬ (!(List.replicate n true).all id) = true := fun n => by simp
      refine ⟨xs, SqL.of h2L, xs, SqL.of h2A, .inr ⟨_, copy_eq (kns H2 sx), iteN (tru _) ⟨.inl ⟨rfl, _, SqL.of h2L⟩, by decide, fun p1 hp1 => ⟨xs, by rw [upd_ne (ne_of_none h2L hp1)]; exact h2L, small1000 (by omega), by decide, fun p2 hp2 => ?_⟩⟩⟩⟩
      have np1 : l ≠ p1 := ne_of_none h2L hp1
      have np2 : l ≠ p2 := ne_of_none upd_same hp2
      refine ⟨xs ++ [.ref p1], by rw [upd_ne np2]; exact upd_same, 0, by simp [ixN], ?_⟩
      have keep : ∀ b o, b ≠ l → H2 b = some o → (upd (upd (upd (upd H2 p1 (.tup [V.int 0, V.int 0])) l (.lst (xs ++ [.ref p1]))) p2 (.tup [V.int 0, V.int 0])) l (.lst ((xs ++ [V.ref p1]).set 0 (V.ref p2)))) b = some o := fun b o nb e => by
        have nb1 : b ≠ p1 := ne_of_none e hp1
        have e1 : (upd (upd H2 p1 (.tup [V.int 0, V.int 0])) l (.lst (xs ++ [.ref p1]))) b = some o := by rw [upd_ne nb, upd_ne nb1]; exact e
        rw [upd_ne nb, upd_ne (ne_of_none e1 hp2)]
        exact e1
      generalize upd (upd (upd (upd H2 p1 (.tup [V.int 0, V.int 0])) l (.lst (xs ++ [.ref p1]))) p2 (.tup [V.int 0, V.int 0])) l (.lst ((xs ++ [V.ref p1]).set 0 (V.ref p2))) = H6 at *
      have k6 := keep _ _ nlx.symm h2
      have l6 := keep _ _ nlp.symm h2l
      have a6 := keep _ _ nal h2A
      refine ⟨C, dx, _, k6, T.cl_Drawing, T.nM, _, flds_many m lp, _, _, ⟨rfl, rfl⟩, _, rfl, _, .int m, true, k_int_int K, iteN (by decide) ⟨C, dx, _, k6, T.cl_Drawing, T.nM, _, flds_many m lp, _, _, ⟨rfl, rfl⟩, _, rfl, _, .int m, false, k_int_bool K, iteF ⟨C, dx, _, k6, T.cl_Drawing, T.nA, _, flds_arrows m lp, _, _, ⟨rfl, rfl⟩, _, rfl, _, .lst l6, true, k_list_list K, iteN (by decide) ?_⟩⟩⟩
      refine ⟨C, dx, _, k6, T.cl_Drawing, T.nM, _, flds_many m lp, rfl, iteP (decide_eq_true rfl) ⟨C, dx, _, k6, T.cl_Drawing, T.nA, _, flds_arrows m lp, _, rfl, xs, SqL.of l6, xs, SqL.of a6, .inr ⟨_, copy_eq ?_, ?_⟩⟩⟩
      · intro y hy
        obtain ⟨t, i, j, rfl, ht, _⟩ := d2 y hy
        exact Kn.tup (keep _ _ (ne_of ht h2L (by intro z; cases z)) ht) (by show 2 ≤ 1000; decide)
      · rw [show (List.replicate xs.length true).all id = true by simp]
        exact q H6 fun b o eb => keep b o (ne_of_none eb hl0) (sx _ _ (s1 _ _ eb))
theorem cut_sub {xs : List V} {lo hi : Option Int} {y : V} (h : y ∈ cutV xs lo hi) : y ∈ xs := by
  unfold cutV at h
  exact List.mem_of_mem_drop (List.mem_of_mem_take h)
theorem cut_len (xs : List V) (lo hi : Option Int) : (cutV xs lo hi).length ≤ xs.length := by
  unfold cutV
  rw [List.length_take, List.length_drop]
  omega
theorem bad_list {H : Hp} {m : Int} {b : Addr} {ys : List V} {y : V} (h : H b = some (.lst ys)) (hy : y ∈ ys) (hb : arrowB m H y = false) : drawB H (.int m) (.ref b) = false := by
  simp only [drawB, h]
  have : ys.all (arrowB m H) = false := by
    rw [Bool.eq_false_iff]
    intro z
    rw [List.all_eq_true.mp z y hy] at hb
    cases hb
  rw [this]
  simp
theorem long_list {H : Hp} {m : Int} {b : Addr} {ys : List V} (h : H b = some (.lst ys)) (hy : 9 < ys.length) : drawB H (.int m) (.ref b) = false := by
  simp only [drawB, h]
  rw [decide_eq_false (show ¬ ys.length ≤ 9 by omega)]
  simp
theorem bad_many {H : Hp} {m : Int} {u : V} (h : m < 1 ∨ 8 < m) : drawB H (.int m) u = false := by
  simp only [drawB]
  rcases h with h | h
  · rw [decide_eq_false (show ¬ 1 ≤ m by omega)]; simp
  · rw [decide_eq_false (show ¬ m ≤ 8 by omega)]; simp
theorem wfl_lst {H : Hp} {b : Addr} {ys : List V} (h : H b = some (.lst ys)) (hl : ys.length ≤ 1000) (hk : ∀ y ∈ ys, WfA H y) : WfL H (.ref b) := ⟨.lst h hl, fun c zs e1 e2 y hy => by cases e1; rw [h] at e2; cases e2; exact hk y hy⟩
theorem wfa_flat {H : Hp} {v : V} (h : Kn H v) (hn : ∀ a, v ≠ .ref a) : WfA H v := ⟨h, fun a xs e => absurd e (hn a)⟩
theorem wfa_tup {H : Hp} {a : Addr} {xs : List V} (h : H a = some (.tup xs)) (hl : xs.length ≤ 1000) (hk : ∀ y ∈ xs, Kn H y) : WfA H (.ref a) := ⟨.tup h hl, fun b ys e1 e2 y hy => by cases e1; rw [h] at e2; cases e2; exact hk y hy⟩
theorem wfa_lst {H : Hp} {a : Addr} {xs : List V} (h : H a = some (.lst xs)) (hl : xs.length ≤ 1000) : WfA H (.ref a) := ⟨.lst h hl, fun b ys e1 e2 y hy => by cases e1; rw [h] at e2; cases e2⟩
theorem ints_kn {H : Hp} {ns : List Int} : ∀ y ∈ ns.map V.int, Kn H y := fun y hy => by obtain ⟨n, _, rfl⟩ := List.mem_map.mp hy; exact Kn.int
theorem arrow_tup {H : Hp} {m : Int} {a : Addr} {xs : List V} (h : H a = some (.tup xs)) (hb : xs.length ≠ 2 ∨ xs.all (endB m) = false) : arrowB m H (.ref a) = false := by
  simp only [arrowB, h]
  rcases hb with hb | hb
  · rw [decide_eq_false hb]; rfl
  · rw [hb]; simp
theorem comp_edges {lo : Int} {n : Nat} {D : Addr} {fr : List (Str × Nat)} {σ : L2.St} {H1 : Hp} {Q : VK} (hD : H1 D = none) (hn : n ≤ 100)
    (hQ : ∀ ys H', Same H1 H' → H' D = some (.lst ys) → ys.length = n → Edges H' 1 ys → Q (.ref D) H') : tBlock (gName 0) tYes (tTup (tCons (tC (V.int 0)) (tCons (tC (V.int 0)) tNil))) (Itr lo n) D (capS 1 fr σ) H1 Q := by
  refine comp_itr (fun i vs H => Same H1 H ∧ H D = some (.lst vs) ∧ vs.length = i ∧ Edges H 1 vs) ⟨Same.new hD, upd_same, rfl, Edges.nil⟩ ?_ (fun vs H ⟨s, e, hv, ed⟩ => hQ vs H s e hv ed)
  rintro i x vs σ' H hi rfl sh ⟨s, e, hv, ed⟩
  obtain ⟨z, rfl⟩ := sh.one
  simp only [tTurn, gName, tYes, List.set_cons_zero, if_true, tTup, tCons, tC, tNil]
  refine ⟨by show 2 ≤ sizeLine; decide, fun p hp => ?_⟩
  have nDp : D ≠ p := ne_of_none e hp
  have hDp : (upd H p (.tup [V.int 0, V.int 0])) D = some (.lst vs) := by rw [upd_ne nDp]; exact e
  exact leaf (ws := vs ++ [.ref p]) hi Sh.mk1 hDp (small1000 (by omega)) ⟨(s.trans (Same.new hp)).upd hD, upd_same, by simp [hv], (ed.add hp (by decide) (by decide) (by decide) (by decide)).put hDp⟩
def spBadD : Sp := fun vs H Q _ => ∃ (l : Addr) (m : Int) (a : Addr) (xs : List V), vs = [.ref l, .int m, .ref a] ∧ Bag H l ∧ 1 ≤ m ∧ m ≤ 8 ∧ H a = some (.lst xs) ∧ a ≠ l ∧ xs.length ≤ 9 ∧ Edges H m xs ∧
  ∀ (t : Addr) (v : V) (b : Addr) (ys : List V) (H' : Hp), Ext l H H' → Bag H' l → H' t = some (.tup [v, .ref b]) → H' b = some (.lst ys) → ys.length ≤ 1000 → Kn H' v → WfL H' (.ref b) → drawB H' v (.ref b) = false → b ≠ l → Q (.ref t) H'
theorem ok_spoiled {f : Addr} {fd : FuncData} (F : Fun K "_law_spoiled" "_law_spoiled" s_law_spoiled f fd) (T : Txt K mg C) (C_law_draw : Cal P w K mg base "_law_draw" 1 spDraw) : FnOk P w K mg base CX0 2 f fd ["_law_bag_here", "_law_many", "_law_arrows"] spBadD := by
  have nd := sc_law_spoiled.nd
  refine F.ok sc_law_spoiled (fun vs H Q E h => ?_) (fun cdv A outer s H vs Q E hr h => ?_)
  · obtain ⟨l, m, a, xs, rfl, _⟩ := h
    rfl
  · obtain ⟨l, m, a, xs, rfl, hb, m0, m8, ha, nal, hl, d, q⟩ := h
    refine ⟨_, (@pss_cons _ _ _ _ _ (ps_set (i := 3) nd rfl (Or.inl rfl) (pe_c C_law_draw (hr.mono (by decide)) rfl (@pa_c _ _ _ _ _ (pv 0) (@pa_c _ _ _ _ _ pe_int pa_nil (by rfl)) (by rfl)))) (@pss_cons _ _ _ _ _ (ps_set (i := 4) nd rfl (Or.inl rfl) (pe_c C_law_draw (hr.mono (by decide)) rfl (@pa_c _ _ _ _ _ (pv 0) (@pa_c _ _ _ _ _ (@pe_op _ _ _ _ _ _ _ _ op_pow pe_int pe_int) pa_nil (by rfl)) (by rfl)))) (@pss_cons _ _ _ _ _ (@ps_if _ _ _ _ _ _ _ _ (pt_cmpR op_eq (pe_c C_law_draw (hr.mono (by decide)) rfl (@pa_c _ _ _ _ _ (pv 0) (@pa_c _ _ _ _ _ pe_int pa_nil (by rfl)) (by rfl))) pe_int (nomark _)) (@pss_one _ _ _ (ps_set (i := 4) nd rfl (Or.inl rfl) (@pe_op _ _ _ _ _ _ _ _ op_mod (pv 4) pe_int))) pss_nil) (@pss_cons _ _ _ _ _ (@ps_if _ _ _ _ _ _ _ _ (pt_cmpR op_eq (pv 3) pe_int (nomark _)) (@pss_one _ _ _ (@ps_ret _ _ _ _ (@pe_tup _ _ _ _ _ (@pa_c _ _ _ _ _ (@pe_op _ _ _ _ _ _ _ _ op_sub pe_int (pv 4)) (@pa_c _ _ _ _ _ (@pe_lst _ _ _ _ pa_nil) pa_nil (by rfl)) (by rfl))))) pss_nil) (@pss_cons _ _ _ _ _ (@ps_if _ _ _ _ _ _ _ _ (pt_cmpR op_eq (pv 3) pe_int (nomark _)) (@pss_one _ _ _ (@ps_ret _ _ _ _ (@pe_tup _ _ _ _ _ (@pa_c _ _ _ _ _ (@pe_op _ _ _ _ _ _ _ _ op_add pe_int (pv 4)) (@pa_c _ _ _ _ _ (pv 2) pa_nil (by rfl)) (by rfl))))) pss_nil) (@pss_cons _ _ _ _ _ (@ps_if _ _ _ _ _ _ _ _ (pt_cmpR op_eq (pv 3) pe_int (nomark _)) (@pss_one _ _ _ (@ps_ret _ _ _ _ (@pe_tup _ _ _ _ _ (@pa_c _ _ _ _ _ (pv 1) (@pa_c _ _ _ _ _ (@pe_slice _ _ _ _ _ _ _ _ _ _ sl_list (@pe_op _ _ _ _ _ _ _ _ op_cat (pv 2) (pe_comp (own := ["_law_k"]) (fr := []) rfl (bl_of (by kernel_rfl)) (pi_r1 rfl T.n_range (@pa_c _ _ _ _ _ pe_int pa_nil (by rfl))) (fun _ _ _ _ => ⟨(@pg_name _ _ 0 _ (show (["_law_k"] : List Str).Nodup by decide +kernel) rfl (Or.inl rfl) (Or.inr rfl)), pts_nil, (@pe_tup _ _ _ _ _ (@pa_c _ _ _ _ _ pe_int (@pa_c _ _ _ _ _ pe_int pa_nil (by rfl)) (by rfl)))⟩))) po_none (@po_some _ _ _ (@pe_op _ _ _ _ _ _ _ _ op_add pe_int (pe_c C_law_draw (hr.mono (by decide)) rfl (@pa_c _ _ _ _ _ (pv 0) (@pa_c _ _ _ _ _ pe_int pa_nil (by rfl)) (by rfl)))))) pa_nil (by rfl)) (by rfl))))) pss_nil) (@pss_cons _ _ _ _ _ (ps_set (i := 5) nd rfl (Or.inl rfl) (pe_c C_law_draw (hr.mono (by decide)) rfl (@pa_c _ _ _ _ _ (pv 0) (@pa_c _ _ _ _ _ (@pe_op _ _ _ _ _ _ _ _ op_add (pe_cB call_len_seq rfl T.n_len PySem.boot_len (@pa_c _ _ _ _ _ (pv 2) pa_nil (by rfl))) pe_int) pa_nil (by rfl)) (by rfl)))) (@pss_cons _ _ _ _ _ (ps_set (i := 6) nd rfl (Or.inl rfl) (@pe_ix _ _ _ _ _ _ _ ix_list (@pe_lst _ _ _ _ (@pa_c _ _ _ _ _ (@pe_tup _ _ _ _ _ (@pa_c _ _ _ _ _ pe_int (@pa_c _ _ _ _ _ (@pe_op _ _ _ _ _ _ _ _ op_add (pv 1) (pv 4)) pa_nil (by rfl)) (by rfl))) (@pa_c _ _ _ _ _ (@pe_tup _ _ _ _ _ (@pa_c _ _ _ _ _ (@pe_op _ _ _ _ _ _ _ _ op_add (pv 1) (pv 4)) (@pa_c _ _ _ _ _ pe_int pa_nil (by rfl)) (by rfl))) (@pa_c _ _ _ _ _ (@pe_tup _ _ _ _ _ (@pa_c _ _ _ _ _ pe_int (@pa_c _ _ _ _ _ (@pe_op _ _ _ _ _ _ _ _ op_sub (pe_un un_neg pe_int) (pv 4)) pa_nil (by rfl)) (by rfl))) (@pa_c _ _ _ _ _ (@pe_tup _ _ _ _ _ (@pa_c _ _ _ _ _ (@pe_op _ _ _ _ _ _ _ _ op_sub (pe_un un_neg pe_int) (pv 4)) (@pa_c _ _ _ _ _ pe_int pa_nil (by rfl)) (by rfl))) pa_nil (by rfl)) (by rfl)) (by rfl)) (by rfl))) (pe_c C_law_draw (hr.mono (by decide)) rfl (@pa_c _ _ _ _ _ (pv 0) (@pa_c _ _ _ _ _ pe_int pa_nil (by rfl)) (by rfl))) (fun _ _ => rfl))) (@pss_cons _ _ _ _ _ (@ps_if _ _ _ _ _ _ _ _ (pt_cmpR op_eq (pv 3) pe_int (nomark _)) (@pss_one _ _ _ (ps_set (i := 6) nd rfl (Or.inl rfl) (@pe_ix _ _ _ _ _ _ _ ix_list (@pe_lst _ _ _ _ (@pa_c _ _ _ _ _ (@pe_tup _ _ _ _ _ (@pa_c _ _ _ _ _ pe_int pa_nil (by rfl))) (@pa_c _ _ _ _ _ (@pe_tup _ _ _ _ _ (@pa_c _ _ _ _ _ pe_int (@pa_c _ _ _ _ _ pe_int (@pa_c _ _ _ _ _ pe_int pa_nil (by rfl)) (by rfl)) (by rfl))) pa_nil (by rfl)) (by rfl))) (pe_c C_law_draw (hr.mono (by decide)) rfl (@pa_c _ _ _ _ _ (pv 0) (@pa_c _ _ _ _ _ pe_int pa_nil (by rfl)) (by rfl))) (fun _ _ => rfl)))) pss_nil) (@pss_one _ _ _ (@ps_ret _ _ _ _ (@pe_tup _ _ _ _ _ (@pa_c _ _ _ _ _ (pv 1) (@pa_c _ _ _ _ _ (@pe_op _ _ _ _ _ _ _ _ op_cat (@pe_op _ _ _ _ _ _ _ _ op_cat (@pe_slice _ _ _ _ _ _ _ _ _ _ sl_list (pv 2) po_none (@po_some _ _ _ (pv 5))) (@pe_lst _ _ _ _ (@pa_c _ _ _ _ _ (pv 6) pa_nil (by rfl)))) (@pe_slice _ _ _ _ _ _ _ _ _ _ sl_list (pv 2) (@po_some _ _ _ (@pe_op _ _ _ _ _ _ _ _ op_add (pv 5) pe_int)) po_none)) pa_nil (by rfl)) (by rfl)))))))))))))), ?_⟩
    refine seq_cut3 fun X D' hX hD => ?_
    have aft : ∀ (z fa : Int) (H3 : Hp), 0 ≤ z → z < 7 → 0 ≤ fa → Ext l H H3 → Bag H3 l → X D' [some (.ref l), some (.int m), some (.ref a), some (.int z), some (.int fa), none, none] H3 := by
      intro z fa H3 z0 z7 f0 e3 b3
      have ha3 : H3 a = some (.lst xs) := e3 _ _ nal ha
      have d3 := d.bag e3 hb
      subst hX
      refine seq_cut5 fun Y hY => ?_
      have aft2 : ∀ (at' : Int) (b : V) (H4 : Hp), 0 ≤ at' → at' ≤ xs.length → Ext l H H4 → Bag H4 l → WfA H4 b → arrowB m H4 b = false → Y D' [some (.ref l), some (.int m), some (.ref a), some (.int z), some (.int fa), some (.int at'), some b] H4 := by
        intro at' b H4 a0 a1 e4 b4 wb hbad
        subst hY
        refine seq_cut1 fun Z hZ => ?_
        have fin : ∀ (b : V) (H5 : Hp), Ext l H H5 → Bag H5 l → WfA H5 b → arrowB m H5 b = false → Z D' [some (.ref l), some (.int m), some (.ref a), some (.int z), some (.int fa), some (.int at'), some b] H5 := by
          intro b H5 e5 b5 wb hbad
          subst hZ hD
          simp only [tSeq, tIfS, tTest, tOp, tUn, tVar, tC, tCB, tCons, tNil, tRet, tRetN, tNext, tDrop, tAsg, tAug, ipI, gName, gTup, gCons, gNil, gSub, tTup, tLst, tSl, tNoPart, tPart, tChain, tCall, tBM, tBM0, tPar, tB, tAnd, tOr, tNot, tAndV, tOrV, tNotV, tIf, tYes, tMake, tMeth, tFld, sFld, tAugS, rGetL, rI0, rI, rU, rIxL, rIxT, rSetL, rSlL, rAppend, rBits, tTry, hEnds, tRaise, hnd_K, pnx_K, rCat, rEq, rNe, rEqL, rEqT, rIn, scal_ii, scal_bb, scal_ss, iList, iTup, iRng1, iRng2, cV, cx_K, in_K, wish_K, E0, L2.start, List.map, List.length, List.replicate, List.cons_append, List.nil_append, List.append_nil, List.getElem?_cons_zero, List.getElem?_cons_succ, List.set_cons_zero, List.set_cons_succ, Option.some.injEq, exists_eq_left', exists_eq_left, exists_and_left, V.int.injEq, V.bl.injEq, V.ref.injEq, V.ty.injEq, List.cons.injEq, reduceCtorEq, false_and, and_false, exists_false, or_false, false_or, and_true, true_and, Nat.reduceSub, Nat.reduceAdd, Nat.reduceLT, if_true, if_false, Bool.false_eq_true]
          have ha5 : H5 a = some (.lst xs) := e5 _ _ nal ha
          have d5 := d.bag e5 hb
          have c1 := cut_len xs none (some at')
          have c2 := cut_len xs (some (at' + 1)) none
          refine ⟨xs, SqL.of ha5, fun p1 h1 => ⟨by decide, fun p2 h2 => ?_⟩⟩
          have u1 := Same.new (o := .lst (cutV xs none (some at'))) h1
          have u2 := Same.new (o := .lst [b]) h2
          have g1 := u2 _ _ (upd_same (H := H5) (a := p1) (o := .lst (cutV xs none (some at'))))
          refine ⟨_, g1, _, upd_same, Nat.le_of_lt (small1000 (by show _ + 1 ≤ 1000; omega)), fun p3 h3 => ?_⟩
          have u3 := Same.new (o := .lst (cutV xs none (some at') ++ [b])) h3
          have v3 := (u1.trans u2).trans u3
          refine ⟨xs, SqL.of (v3 _ _ ha5), fun p4 h4 => ?_⟩
          have u4 := Same.new (o := .lst (cutV xs (some (at' + 1)) none)) h4
          refine ⟨_, u4 _ _ upd_same, _, upd_same, Nat.le_of_lt (small1000 (by rw [List.length_append]; show _ + 1 + _ ≤ 1000; omega)), fun p5 h5 => ⟨by decide, fun p6 h6 => ?_⟩⟩
          have u5 := Same.new (o := .lst (cutV xs none (some at') ++ [b] ++ cutV xs (some (at' + 1)) none)) h5
          have u6 := Same.new (o := .tup [V.int m, V.ref p5]) h6
          have v6 := ((v3.trans u4).trans u5).trans u6
          have hp5 := u6 _ _ (upd_same (H := upd (upd (upd (upd H5 p1 (.lst (cutV xs none (some at')))) p2 (.lst [b])) p3 (.lst (cutV xs none (some at') ++ [b]))) p4 (.lst (cutV xs (some (at' + 1)) none))) (a := p5) (o := .lst (cutV xs none (some at') ++ [b] ++ cutV xs (some (at' + 1)) none)))
          have len : (cutV xs none (some at') ++ [b] ++ cutV xs (some (at' + 1)) none).length ≤ 1000 := by
            rw [List.length_append, List.length_append]
            show _ + 1 + _ ≤ 1000
            omega
          have b6 := b5.same v6
          refine q p6 (.int m) p5 _ _ (e5.trans v6.ext) b6 upd_same hp5 len Kn.int (wfl_lst hp5 len fun y hy => ?_) (bad_list hp5 (y := b) (by simp) (by rw [arrowB_same wb.1 v6]; exact hbad)) ?_
          · rcases List.mem_append.mp hy with hy | hy
            · rcases List.mem_append.mp hy with hy | hy
              · exact (edge_kn (d5 y (cut_sub hy))).same v6
              · rw [List.mem_singleton.mp hy]
                exact wb.same v6
            · exact (edge_kn (d5 y (cut_sub hy))).same v6
          · have fl5 : H5 p5 = none := (v3.trans u4).free h5
            exact b5.ne fl5
        simp only [tSeq, tIfS, tTest, tOp, tUn, tVar, tC, tCB, tCons, tNil, tRet, tRetN, tNext, tDrop, tAsg, tAug, ipI, gName, gTup, gCons, gNil, gSub, tTup, tLst, tSl, tNoPart, tPart, tChain, tCall, tBM, tBM0, tPar, tB, tAnd, tOr, tNot, tAndV, tOrV, tNotV, tIf, tYes, tMake, tMeth, tFld, sFld, tAugS, rGetL, rI0, rI, rU, rIxL, rIxT, rSetL, rSlL, rAppend, rBits, tTry, hEnds, tRaise, hnd_K, pnx_K, rCat, rEq, rNe, rEqL, rEqT, rIn, scal_ii, scal_bb, scal_ss, iList, iTup, iRng1, iRng2, cV, cx_K, in_K, wish_K, E0, L2.start, List.map, List.length, List.replicate, List.cons_append, List.nil_append, List.append_nil, List.getElem?_cons_zero, List.getElem?_cons_succ, List.set_cons_zero, List.set_cons_succ, Option.some.injEq, exists_eq_left', exists_eq_left, exists_and_left, V.int.injEq, V.bl.injEq, V.ref.injEq, V.ty.injEq, List.cons.injEq, reduceCtorEq, false_and, and_false, exists_false, or_false, false_or, and_true, true_and, Nat.reduceSub, Nat.reduceAdd, Nat.reduceLT, if_true, if_false, Bool.false_eq_true]
        refine ite2 (fun hz => ⟨by decide, fun t1 h1 => ⟨by decide, fun t2 h2 => ⟨by decide, fun t3 h3 => ?_⟩⟩⟩) (fun _ => fin b H4 e4 b4 wb hbad)
        have u3 := Same.new (o := .lst [V.ref t1, V.ref t2]) h3
        have u2 := (Same.new (o := .tup [V.int 0, V.int 0, V.int 0]) h2).trans u3
        have u1 := (Same.new (o := .tup [V.int 0]) h1).trans u2
        have q1 := u2 _ _ (upd_same (H := H4) (a := t1) (o := .tup [V.int 0]))
        have q2 := u3 _ _ (upd_same (H := upd H4 t1 (.tup [V.int 0])) (a := t2) (o := .tup [V.int 0, V.int 0, V.int 0]))
        have q3 : (upd (upd (upd H4 t1 (.tup [V.int 0])) t2 (.tup [V.int 0, V.int 0, V.int 0])) t3 (.lst [V.ref t1, V.ref t2])) t3 = some (.lst [V.ref t1, V.ref t2]) := upd_same
        have b4' := b4.same u1
        generalize upd (upd (upd H4 t1 (.tup [V.int 0])) t2 (.tup [V.int 0, V.int 0, V.int 0])) t3 (.lst [V.ref t1, V.ref t2]) = H5 at *
        have n1 := b4.ne h1
        refine b4'.draw (by decide) (by decide) fun k H6 k0 k1 e6 b6 => ⟨[V.ref t1, V.ref t2], k, rfl, ?_⟩
        obtain ⟨x0, y0, hbl, _⟩ := b4'
        have nt1 : t1 ≠ l := ne_of q1 hbl (by intro z; cases z)
        have nt2 : t2 ≠ l := ne_of q2 hbl (by intro z; cases z)
        have nt3 : t3 ≠ l := fun z => by
          rw [z] at h3
          have := ((Same.new (o := .tup [V.int 0]) h1).trans (Same.new (o := .tup [V.int 0, V.int 0, V.int 0]) h2)).free h3
          obtain ⟨_, _, hh, _⟩ := b4
          rw [hh] at this
          cases this
        have r1 := e6 _ _ nt1 q1
        have r2 := e6 _ _ nt2 q2
        have ex := (e4.trans u1.ext).trans e6
        refine ⟨SqL.of (e6 _ _ nt3 q3), ?_⟩
        have : k = 0 ∨ k = 1 := by omega
        rcases this with rfl | rfl
        · exact ⟨_, rfl, fin _ H6 ex b6 (wfa_tup r1 (by show 1 ≤ 1000; decide) (ints_kn (ns := [0]))) (arrow_tup r1 (.inl (by decide)))⟩
        · exact ⟨_, rfl, fin _ H6 ex b6 (wfa_tup r2 (by show 3 ≤ 1000; decide) (ints_kn (ns := [0, 0, 0]))) (arrow_tup r2 (.inl (by decide)))⟩
      have hrt : D'.rt = Q := by rw [hD]
      simp only [tSeq, tIfS, tTest, tOp, tUn, tVar, tC, tCB, tCons, tNil, tRet, tRetN, tNext, tDrop, tAsg, tAug, ipI, gName, gTup, gCons, gNil, gSub, tTup, tLst, tSl, tNoPart, tPart, tChain, tCall, tBM, tBM0, tPar, tB, tAnd, tOr, tNot, tAndV, tOrV, tNotV, tIf, tYes, tMake, tMeth, tFld, sFld, tAugS, rGetL, rI0, rI, rU, rIxL, rIxT, rSetL, rSlL, rAppend, rBits, tTry, hEnds, tRaise, hnd_K, pnx_K, rCat, rEq, rNe, rEqL, rEqT, rIn, scal_ii, scal_bb, scal_ss, iList, iTup, iRng1, iRng2, cV, cx_K, in_K, wish_K, E0, L2.start, List.map, List.length, List.replicate, List.cons_append, List.nil_append, List.append_nil, List.getElem?_cons_zero, List.getElem?_cons_succ, List.set_cons_zero, List.set_cons_succ, Option.some.injEq, exists_eq_left', exists_eq_left, exists_and_left, V.int.injEq, V.bl.injEq, V.ref.injEq, V.ty.injEq, List.cons.injEq, reduceCtorEq, false_and, and_false, exists_false, or_false, false_or, and_true, true_and, Nat.reduceSub, Nat.reduceAdd, Nat.reduceLT, if_true, if_false, Bool.false_eq_true]
      rw [hrt]
      refine ite2 (fun _ => ⟨by decide, fun p1 h1 => ⟨by decide, fun p2 h2 => ?_⟩⟩) (fun _ => ite2 (fun _ => ⟨by decide, fun p1 h1 => ?_⟩) (fun _ => ite2 (fun _ => ?_) (fun _ => ⟨xs, .inl (SqL.of ha3), b3.draw (by omega) (by omega) fun k H4 k0 k1 e4 b4 => ?_⟩)))
      · have u2 := Same.new (o := .tup [V.int (0 - fa), V.ref p1]) h2
        have u1 := (Same.new (o := .lst []) h1).trans u2
        have hp1 := u2 _ _ (upd_same (H := H3) (a := p1) (o := .lst []))
        exact q p2 _ p1 [] _ (e3.trans u1.ext) (b3.same u1) upd_same hp1 (by decide) Kn.int (wfl_lst hp1 (by decide) (fun y hy => by cases hy)) (bad_many (.inl (by omega))) (b3.ne h1)
      · have u1 := Same.new (o := .tup [V.int (9 + fa), V.ref a]) h1
        exact q p1 _ a xs _ (e3.trans u1.ext) (b3.same u1) upd_same (u1 _ _ ha3) (by omega) Kn.int ((edges_wf d3 ha3 hl).same u1) (bad_many (.inr (by omega))) nal
      · refine ⟨24, rfl, by decide, by decide, fun D hD0 => comp_edges hD0 (by decide) fun ys H4 s4 hD4 hn4 ed4 => ?_⟩
        have ha4 := s4 _ _ ha3
        have hn4 : ys.length = 24 := hn4
        refine ⟨D, rfl, xs, ha4, ys, hD4, Nat.le_of_lt (small1000 (by omega)), fun p1 h1 => ?_⟩
        have u1 := s4.trans (Same.new (o := .lst (xs ++ ys)) h1)
        have b4 := b3.same u1
        have n1 : p1 ≠ l := b3.ne (s4.free h1)
        refine b4.draw (by decide) (by decide) fun k H5 k0 k1 e5 b5 => ⟨k, rfl, xs ++ ys, SqL.of (e5 _ _ n1 upd_same), fun p2 h2 => ⟨by decide, fun p3 h3 => ?_⟩⟩
        have lc := cut_lo (xs ++ ys) (10 + k) (by omega) (by rw [List.length_append]; omega)
        rw [lc]
        have u3 := Same.new (o := .tup [V.int m, V.ref p2]) h3
        rw [lc] at u3 h3
        have u2 := (Same.new (o := .lst ((xs ++ ys).take (10 + k).toNat)) h2).trans u3
        have hp2 := u3 _ _ (upd_same (H := H5) (a := p2) (o := .lst ((xs ++ ys).take (10 + k).toNat)))
        have len : ((xs ++ ys).take (10 + k).toNat).length = (10 + k).toNat := by rw [List.length_take, List.length_append]; omega
        have n2 := b5.ne h2
        have ed5 : Edges H5 m (xs ++ ys) := (((d3.same u1).append ((ed4.same (Same.new h1)).lift m0)).bag e5 b4)
        exact q p3 _ p2 _ _ (((e3.trans u1.ext).trans e5).trans u2.ext) (b5.same u2) upd_same hp2 (by omega) Kn.int (wfl_lst hp2 (by omega) fun y hy => (edge_kn (ed5 y (List.mem_of_mem_take hy))).same u2) (long_list hp2 (by omega)) n2
      · refine ⟨by decide, fun t1 h1 => ⟨by decide, fun t2 h2 => ⟨by decide, fun t3 h3 => ⟨by decide, fun t4 h4 => ⟨by decide, fun t5 h5 => ?_⟩⟩⟩⟩⟩
        have u5 := Same.new (o := .lst [V.ref t1, V.ref t2, V.ref t3, V.ref t4]) h5
        have u4 := (Same.new (o := .tup [V.int (-1 - fa), V.int 0]) h4).trans u5
        have u3 := (Same.new (o := .tup [V.int 0, V.int (-1 - fa)]) h3).trans u4
        have u2 := (Same.new (o := .tup [V.int (m + fa), V.int 0]) h2).trans u3
        have u1 := (Same.new (o := .tup [V.int 0, V.int (m + fa)]) h1).trans u2
        have q1 := u2 _ _ (upd_same (H := H4) (a := t1) (o := .tup [V.int 0, V.int (m + fa)]))
        have q2 := u3 _ _ (upd_same (H := upd H4 t1 (.tup [V.int 0, V.int (m + fa)])) (a := t2) (o := .tup [V.int (m + fa), V.int 0]))
        have q3 := u4 _ _ (upd_same (H := upd (upd H4 t1 (.tup [V.int 0, V.int (m + fa)])) t2 (.tup [V.int (m + fa), V.int 0])) (a := t3) (o := .tup [V.int 0, V.int (-1 - fa)]))
        have q4 := u5 _ _ (upd_same (H := upd (upd (upd H4 t1 (.tup [V.int 0, V.int (m + fa)])) t2 (.tup [V.int (m + fa), V.int 0])) t3 (.tup [V.int 0, V.int (-1 - fa)])) (a := t4) (o := .tup [V.int (-1 - fa), V.int 0]))
        have q5 : (upd (upd (upd (upd (upd H4 t1 (.tup [V.int 0, V.int (m + fa)])) t2 (.tup [V.int (m + fa), V.int 0])) t3 (.tup [V.int 0, V.int (-1 - fa)])) t4 (.tup [V.int (-1 - fa), V.int 0])) t5 (.lst [V.ref t1, V.ref t2, V.ref t3, V.ref t4])) t5 = some (.lst [V.ref t1, V.ref t2, V.ref t3, V.ref t4]) := upd_same
        have f5 := ((((Same.new (o := .tup [V.int 0, V.int (m + fa)]) h1).trans (Same.new (o := .tup [V.int (m + fa), V.int 0]) h2)).trans (Same.new (o := .tup [V.int 0, V.int (-1 - fa)]) h3)).trans (Same.new (o := .tup [V.int (-1 - fa), V.int 0]) h4)).free h5
        generalize upd (upd (upd (upd (upd H4 t1 (.tup [V.int 0, V.int (m + fa)])) t2 (.tup [V.int (m + fa), V.int 0])) t3 (.tup [V.int 0, V.int (-1 - fa)])) t4 (.tup [V.int (-1 - fa), V.int 0])) t5 (.lst [V.ref t1, V.ref t2, V.ref t3, V.ref t4]) = H5 at *
        have b5 := b4.same u1
        have n5 := b4.ne f5
        refine b5.draw (by decide) (by decide) fun j H6 j0 j1 e6 b6 => ⟨[V.ref t1, V.ref t2, V.ref t3, V.ref t4], j, rfl, SqL.of (e6 _ _ n5 q5), ?_⟩
        obtain ⟨x0, y0, hbl, _⟩ := b5
        have r1 := e6 _ _ (ne_of q1 hbl (by intro z; cases z)) q1
        have r2 := e6 _ _ (ne_of q2 hbl (by intro z; cases z)) q2
        have r3 := e6 _ _ (ne_of q3 hbl (by intro z; cases z)) q3
        have r4 := e6 _ _ (ne_of q4 hbl (by intro z; cases z)) q4
        have ex := ((e3.trans e4).trans u1.ext).trans e6
        have : j = 0 ∨ j = 1 ∨ j = 2 ∨ j = 3 := by omega
        have o1 : endB m (.int (m + fa)) = false := by simp only [endB]; rw [decide_eq_false (show ¬ m + fa < m by omega)]; simp
        have o2 : endB m (.int (-1 - fa)) = false := by simp only [endB]; rw [decide_eq_false (show ¬ 0 ≤ -1 - fa by omega)]; simp
        rcases this with rfl | rfl | rfl | rfl
        · exact ⟨_, rfl, aft2 k _ H6 k0 (by omega) ex b6 (wfa_tup r1 (by show 2 ≤ 1000; decide) (ints_kn (ns := [0, m + fa]))) (arrow_tup r1 (.inr (by simp [o1])))⟩
        · exact ⟨_, rfl, aft2 k _ H6 k0 (by omega) ex b6 (wfa_tup r2 (by show 2 ≤ 1000; decide) (ints_kn (ns := [m + fa, 0]))) (arrow_tup r2 (.inr (by simp [o1])))⟩
        · exact ⟨_, rfl, aft2 k _ H6 k0 (by omega) ex b6 (wfa_tup r3 (by show 2 ≤ 1000; decide) (ints_kn (ns := [0, -1 - fa]))) (arrow_tup r3 (.inr (by simp [o2])))⟩
        · exact ⟨_, rfl, aft2 k _ H6 k0 (by omega) ex b6 (wfa_tup r4 (by show 2 ≤ 1000; decide) (ints_kn (ns := [-1 - fa, 0]))) (arrow_tup r4 (.inr (by simp [o2])))⟩
    simp only [tSeq, tIfS, tTest, tOp, tUn, tVar, tC, tCB, tCons, tNil, tRet, tRetN, tNext, tDrop, tAsg, tAug, ipI, gName, gTup, gCons, gNil, gSub, tTup, tLst, tSl, tNoPart, tPart, tChain, tCall, tBM, tBM0, tPar, tB, tAnd, tOr, tNot, tAndV, tOrV, tNotV, tIf, tYes, tMake, tMeth, tFld, sFld, tAugS, rGetL, rI0, rI, rU, rIxL, rIxT, rSetL, rSlL, rAppend, rBits, tTry, hEnds, tRaise, hnd_K, pnx_K, rCat, rEq, rNe, rEqL, rEqT, rIn, scal_ii, scal_bb, scal_ss, iList, iTup, iRng1, iRng2, cV, cx_K, in_K, wish_K, E0, L2.start, List.map, List.length, List.replicate, List.cons_append, List.nil_append, List.append_nil, List.getElem?_cons_zero, List.getElem?_cons_succ, List.set_cons_zero, List.set_cons_succ, Option.some.injEq, exists_eq_left', exists_eq_left, exists_and_left, V.int.injEq, V.bl.injEq, V.ref.injEq, V.ty.injEq, List.cons.injEq, reduceCtorEq, false_and, and_false, exists_false, or_false, false_or, and_true, true_and, Nat.reduceSub, Nat.reduceAdd, Nat.reduceLT, if_true, if_false, Bool.false_eq_true]
    refine hb.draw (by decide) (by decide) fun z H1 z0 z1 e1 b1 => ⟨⟨by decide, by decide, by decide⟩, b1.draw (by decide +kernel) (by decide +kernel) fun fa H2 f0 f1 e2 b2 => b2.draw (by decide) (by decide) fun g H3 g0 g1 e3 b3 => ⟨rfl, ite2 (fun hc => ⟨fa, rfl, by decide, ?_⟩) (fun hc => ?_)⟩⟩
    · exact aft z (fa % 3) H3 z0 z1 (Int.emod_nonneg _ (by decide)) ((e1.trans e2).trans e3) b3
    · exact aft z fa H3 z0 z1 f0 ((e1.trans e2).trans e3) b3
end
end Pf

set_option maxHeartbeats 1000000
namespace Pf
open PySem L2 PyProof.Rows
section
variable {P : Program} {w : World} {K : PySem.W.Frag} {mg : Str → Option Value} {base : Heap} {C : Addr} {cc : Cs}
theorem drawB_not {H : Hp} {v u : V} (h : whB v = false) : drawB H v u = false := by cases v <;> first | rfl | cases h
theorem drawB_noL {H : Hp} {v u : V} (h : isLi H u = false) : drawB H v u = false := by
  unfold drawB
  cases v <;> try rfl
  cases u <;> try simp
  simp only [isLi] at h
  split
  · rename_i e; rw [e] at h; cases h
  · simp
theorem wfl_not {H : Hp} {u : V} (h : Kn H u) (hn : isLi H u = false) : WfL H u := ⟨h, fun a xs e1 e2 => by subst e1; simp only [isLi, e2] at hn; cases hn⟩
def Odd (l : Addr) (H : Hp) (v : V) : Prop := (whB v = false ∧ Kn H v ∧ ∀ a, v ≠ .ref a) ∨ (∃ a ys, v = .ref a ∧ a ≠ l ∧ H a = some (.lst ys) ∧ ys.length ≤ 1000) ∨ ∃ a, ∃ ns : List Int, v = .ref a ∧ a ≠ l ∧ H a = some (.tup (ns.map V.int)) ∧ ns.length ≠ 2 ∧ ns.length ≤ 1000
theorem flat_kn {H H' : Hp} {v : V} (h : Kn H v) (hn : ∀ a, v ≠ .ref a) : Kn H' v := by
  rcases h with h | h | h | h | ⟨a, xs, h1, _⟩ | ⟨a, xs, h1, _⟩
  · exact .inl h
  · exact .inr (.inl h)
  · exact .inr (.inr (.inl h))
  · exact .inr (.inr (.inr (.inl h)))
  · exact absurd h1 (hn a)
  · exact absurd h1 (hn a)
theorem Odd.ext {l : Addr} {H H' : Hp} {v : V} (h : Odd l H v) (e : Ext l H H') : Odd l H' v := by
  rcases h with ⟨h1, h2, h3⟩ | ⟨a, ys, h1, h2, h3, h4⟩ | ⟨a, ns, h1, h2, h3, h4, h5⟩
  · exact .inl ⟨h1, flat_kn h2 h3, h3⟩
  · exact .inr (.inl ⟨a, ys, h1, h2, e _ _ h2 h3, h4⟩)
  · exact .inr (.inr ⟨a, ns, h1, h2, e _ _ h2 h3, h4, h5⟩)
theorem Odd.wf {l : Addr} {H : Hp} {v : V} (h : Odd l H v) : WfA H v := by
  rcases h with ⟨h1, h2, h3⟩ | ⟨a, ys, rfl, h2, h3, h4⟩ | ⟨a, ns, rfl, h2, h3, h4, h5⟩
  · exact wfa_flat h2 h3
  · exact wfa_lst h3 h4
  · exact wfa_tup h3 (by rw [List.length_map]; exact h5) ints_kn
theorem Odd.wh {l : Addr} {H : Hp} {v : V} (h : Odd l H v) : whB v = false := by
  rcases h with ⟨h1, h2, h3⟩ | ⟨a, ys, rfl, _⟩ | ⟨a, ns, rfl, _⟩
  · exact h1
  · rfl
  · rfl
theorem Odd.arrow {l : Addr} {H : Hp} {v : V} {m : Int} (h : Odd l H v) : arrowB m H v = false := by
  rcases h with ⟨h1, h2, h3⟩ | ⟨a, ys, rfl, h2, h3, h4⟩ | ⟨a, ns, rfl, h2, h3, h4, h5⟩
  · cases v <;> first | rfl | exact absurd rfl (h3 _)
  · simp only [arrowB, h3]
  · exact arrow_tup h3 (.inl (by rw [List.length_map]; exact h4))
def spOddD : Sp := fun vs H Q _ => ∃ (l : Addr) (m : Int) (a : Addr) (xs : List V), vs = [.ref l, .int m, .ref a] ∧ Bag H l ∧ 1 ≤ m ∧ m ≤ 8 ∧ H a = some (.lst xs) ∧ a ≠ l ∧ xs.length ≤ 9 ∧ Edges H m xs ∧
  ∀ (t : Addr) (v u : V) (H' : Hp), Ext l H H' → Bag H' l → H' t = some (.tup [v, u]) → Kn H' v → WfL H' u → drawB H' v u = false → Q (.ref t) H'
theorem ok_strange {f : Addr} {fd : FuncData} (F : Fun K "_law_strange" "_law_strange" s_law_strange f fd) (T : Txt K mg C) (C_law_draw : Cal P w K mg base "_law_draw" 1 spDraw) : FnOk P w K mg base CX0 2 f fd ["_law_bag_here", "_law_many", "_law_arrows"] spOddD := by
  have nd := sc_law_strange.nd
  refine F.ok sc_law_strange (fun vs H Q E h => ?_) (fun cdv A outer s H vs Q E hr h => ?_)
  · obtain ⟨l, m, a, xs, rfl, _⟩ := h
    rfl
  · obtain ⟨l, m, a, xs, rfl, hb, m0, m8, ha, nal, hl, d, q⟩ := h
    refine ⟨_, (@pss_cons _ _ _ _ _ (ps_set (i := 3) nd rfl (Or.inl rfl) (pe_c C_law_draw (hr.mono (by decide)) rfl (@pa_c _ _ _ _ _ (pv 0) (@pa_c _ _ _ _ _ pe_int pa_nil (by rfl)) (by rfl)))) (@pss_cons _ _ _ _ _ (@ps_set _ _ 4 _ _ _ _ nd rfl (Or.inl rfl) (@pe_lst _ _ _ _ (@pa_c _ _ _ _ _ pe_bl (@pa_c _ _ _ _ _ pe_bl (@pa_c _ _ _ _ _ pe_non (@pa_c _ _ _ _ _ pe_str (@pa_c _ _ _ _ _ (@pe_tup _ _ _ _ _ (@pa_c _ _ _ _ _ pe_int pa_nil (by rfl))) (@pa_c _ _ _ _ _ (@pe_lst _ _ _ _ (@pa_c _ _ _ _ _ pe_int pa_nil (by rfl))) (@pa_c _ _ _ _ _ pe_str (@pa_c _ _ _ _ _ (@pe_tup _ _ _ _ _ pa_nil) (@pa_c _ _ _ _ _ (@pe_lst _ _ _ _ (@pa_c _ _ _ _ _ pe_int (@pa_c _ _ _ _ _ pe_int pa_nil (by rfl)) (by rfl))) pa_nil (by rfl)) (by rfl)) (by rfl)) (by rfl)) (by rfl)) (by rfl)) (by rfl)) (by rfl)) (by rfl))) (by kernel_rfl) (Or.inr rfl)) (@pss_cons _ _ _ _ _ (ps_set (i := 5) nd rfl (Or.inl rfl) (@pe_ix _ _ _ _ _ _ _ ix_list (pv 4) (pe_c C_law_draw (hr.mono (by decide)) rfl (@pa_c _ _ _ _ _ (pv 0) (@pa_c _ _ _ _ _ pe_int pa_nil (by rfl)) (by rfl))) (fun _ _ => rfl))) (@pss_cons _ _ _ _ _ (@ps_if _ _ _ _ _ _ _ _ (pt_cmpR op_eq (pv 3) pe_int (nomark _)) (@pss_one _ _ _ (@ps_ret _ _ _ _ (@pe_tup _ _ _ _ _ (@pa_c _ _ _ _ _ (pv 5) (@pa_c _ _ _ _ _ (@pe_lst _ _ _ _ pa_nil) pa_nil (by rfl)) (by rfl))))) pss_nil) (@pss_cons _ _ _ _ _ (@ps_if _ _ _ _ _ _ _ _ (pt_cmpR op_eq (pv 3) pe_int (nomark _)) (@pss_one _ _ _ (@ps_ret _ _ _ _ (@pe_tup _ _ _ _ _ (@pa_c _ _ _ _ _ (pv 1) (@pa_c _ _ _ _ _ (@pe_ix _ _ _ _ _ _ _ ix_list (@pe_lst _ _ _ _ (@pa_c _ _ _ _ _ pe_non (@pa_c _ _ _ _ _ pe_str (@pa_c _ _ _ _ _ (pe_cT call_tuple_of rfl T.n_tuple boot_tuple (@pa_c _ _ _ _ _ (pv 2) pa_nil (by rfl))) (@pa_c _ _ _ _ _ pe_int (@pa_c _ _ _ _ _ pe_bl (@pa_c _ _ _ _ _ (@pe_tup _ _ _ _ _ (@pa_c _ _ _ _ _ (@pe_lst _ _ _ _ pa_nil) pa_nil (by rfl))) pa_nil (by rfl)) (by rfl)) (by rfl)) (by rfl)) (by rfl)) (by rfl))) (pe_c C_law_draw (hr.mono (by decide)) rfl (@pa_c _ _ _ _ _ (pv 0) (@pa_c _ _ _ _ _ pe_int pa_nil (by rfl)) (by rfl))) (fun _ _ => rfl)) pa_nil (by rfl)) (by rfl))))) pss_nil) (@pss_cons _ _ _ _ _ (ps_set (i := 6) nd rfl (Or.inl rfl) (pe_c C_law_draw (hr.mono (by decide)) rfl (@pa_c _ _ _ _ _ (pv 0) (@pa_c _ _ _ _ _ (@pe_op _ _ _ _ _ _ _ _ op_add (pe_cB call_len_seq rfl T.n_len PySem.boot_len (@pa_c _ _ _ _ _ (pv 2) pa_nil (by rfl))) pe_int) pa_nil (by rfl)) (by rfl)))) (@pss_cons _ _ _ _ _ (ps_set (i := 7) nd rfl (Or.inl rfl) (@pe_ix _ _ _ _ _ _ _ ix_list (@pe_lst _ _ _ _ (@pa_c _ _ _ _ _ (pv 5) (@pa_c _ _ _ _ _ (@pe_tup _ _ _ _ _ (@pa_c _ _ _ _ _ (pv 5) (@pa_c _ _ _ _ _ pe_int pa_nil (by rfl)) (by rfl))) (@pa_c _ _ _ _ _ (@pe_tup _ _ _ _ _ (@pa_c _ _ _ _ _ pe_int (@pa_c _ _ _ _ _ (pv 5) pa_nil (by rfl)) (by rfl))) (@pa_c _ _ _ _ _ (@pe_lst _ _ _ _ (@pa_c _ _ _ _ _ pe_int (@pa_c _ _ _ _ _ pe_int pa_nil (by rfl)) (by rfl))) pa_nil (by rfl)) (by rfl)) (by rfl)) (by rfl))) (@pe_op _ _ _ _ _ _ _ _ op_sub (pv 3) pe_int) (fun _ _ => rfl))) (@pss_one _ _ _ (@ps_ret _ _ _ _ (@pe_tup _ _ _ _ _ (@pa_c _ _ _ _ _ (pv 1) (@pa_c _ _ _ _ _ (@pe_op _ _ _ _ _ _ _ _ op_cat (@pe_op _ _ _ _ _ _ _ _ op_cat (@pe_slice _ _ _ _ _ _ _ _ _ _ sl_list (pv 2) po_none (@po_some _ _ _ (pv 6))) (@pe_lst _ _ _ _ (@pa_c _ _ _ _ _ (pv 7) pa_nil (by rfl)))) (@pe_slice _ _ _ _ _ _ _ _ _ _ sl_list (pv 2) (@po_some _ _ _ (@pe_op _ _ _ _ _ _ _ _ op_add (pv 6) pe_int)) po_none)) pa_nil (by rfl)) (by rfl)))))))))))), ?_⟩
    refine seq_cut3 fun X D' hX hD => ?_
    have aft : ∀ (z : Int) (L : Option V) (th : V) (H3 : Hp), 0 ≤ z → z < 6 → Ext l H H3 → Bag H3 l → Odd l H3 th → X D' [some (.ref l), some (.int m), some (.ref a), some (.int z), L, some th, none, none] H3 := by
      intro z L th H3 z0 z6 e3 b3 ot
      have wt := ot.wf
      have ht := ot.wh
      have ha3 : H3 a = some (.lst xs) := e3 _ _ nal ha
      have d3 := d.bag e3 hb
      subst hX hD
      simp only [tSeq, tIfS, tTest, tOp, tUn, tVar, tC, tCB, tCons, tNil, tRet, tRetN, tNext, tDrop, tAsg, tAug, ipI, gName, gTup, gCons, gNil, gSub, tTup, tLst, tSl, tNoPart, tPart, tChain, tCall, tBM, tBM0, tPar, tB, tAnd, tOr, tNot, tAndV, tOrV, tNotV, tIf, tYes, tMake, tMeth, tFld, sFld, tAugS, rGetL, rI0, rI, rU, rIxL, rIxT, rSetL, rSlL, rAppend, rBits, tTry, hEnds, tRaise, hnd_K, pnx_K, rCat, rEq, rNe, rEqL, rEqT, rIn, scal_ii, scal_bb, scal_ss, iList, iTup, iRng1, iRng2, cV, cx_K, in_K, wish_K, E0, L2.start, List.map, List.length, List.replicate, List.cons_append, List.nil_append, List.append_nil, List.getElem?_cons_zero, List.getElem?_cons_succ, List.set_cons_zero, List.set_cons_succ, Option.some.injEq, exists_eq_left', exists_eq_left, exists_and_left, V.int.injEq, V.bl.injEq, V.ref.injEq, V.ty.injEq, List.cons.injEq, reduceCtorEq, false_and, and_false, exists_false, or_false, false_or, and_true, true_and, Nat.reduceSub, Nat.reduceAdd, Nat.reduceLT, if_true, if_false, Bool.false_eq_true]
      refine ite2 (fun _ => ⟨by decide, fun p1 h1 => ⟨by decide, fun p2 h2 => ?_⟩⟩) (fun hz0 => ite2 (fun _ => ⟨xs, .inl ⟨SqL.of ha3, fun t1 h1 => ⟨by decide, fun t2 h2 => ⟨by decide, fun t3 h3 => ⟨by decide, fun t4 h4 => ?_⟩⟩⟩⟩⟩) (fun hz1 => ⟨xs, .inl (SqL.of ha3), b3.draw (by omega) (by omega) fun k H4 k0 k1 e4 b4 => ?_⟩))
      · have u2 := Same.new (o := .tup [th, V.ref p1]) h2
        have u1 := (Same.new (o := .lst []) h1).trans u2
        have hp1 := u2 _ _ (upd_same (H := H3) (a := p1) (o := .lst []))
        exact q p2 th (.ref p1) _ (e3.trans u1.ext) (b3.same u1) upd_same (wt.1.same u1) (wfl_lst hp1 (by decide) (fun y hy => by cases hy)) (drawB_not ht)
      · have u4 := Same.new (o := .lst [V.non, V.str (Str.ofString "0"), V.ref t1, V.int 1, V.bl true, V.ref t3]) h4
        have u3 := (Same.new (o := .tup [V.ref t2]) h3).trans u4
        have u2 := (Same.new (o := .lst []) h2).trans u3
        have u1 := (Same.new (o := .tup xs) h1).trans u2
        have q1 := u2 _ _ (upd_same (H := H3) (a := t1) (o := .tup xs))
        have q3 := u4 _ _ (upd_same (H := upd (upd H3 t1 (.tup xs)) t2 (.lst [])) (a := t3) (o := .tup [V.ref t2]))
        have q4 : (upd (upd (upd (upd H3 t1 (.tup xs)) t2 (.lst [])) t3 (.tup [V.ref t2])) t4 (.lst [V.non, V.str (Str.ofString "0"), V.ref t1, V.int 1, V.bl true, V.ref t3])) t4 = some (.lst [V.non, V.str (Str.ofString "0"), V.ref t1, V.int 1, V.bl true, V.ref t3]) := upd_same
        have f4 := (((Same.new (o := .tup xs) h1).trans (Same.new (o := .lst []) h2)).trans (Same.new (o := .tup [V.ref t2]) h3)).free h4
        generalize upd (upd (upd (upd H3 t1 (.tup xs)) t2 (.lst [])) t3 (.tup [V.ref t2])) t4 (.lst [V.non, V.str (Str.ofString "0"), V.ref t1, V.int 1, V.bl true, V.ref t3]) = H5 at *
        have b5 := b3.same u1
        have n4 := b3.ne f4
        refine b5.draw (by decide) (by decide) fun j H6 j0 j1 e6 b6 => ⟨[V.non, V.str (Str.ofString "0"), V.ref t1, V.int 1, V.bl true, V.ref t3], j, rfl, SqL.of (e6 _ _ n4 q4), ?_⟩
        obtain ⟨x0, y0, hbl, _⟩ := b5
        have r1 := e6 _ _ (ne_of q1 hbl (by intro z; cases z)) q1
        have r3 := e6 _ _ (ne_of q3 hbl (by intro z; cases z)) q3
        have ex := (e3.trans u1.ext).trans e6
        have fin : ∀ u, Kn H6 u → isLi H6 u = false → 2 ≤ sizeLine ∧ ∀ p, H6 p = none → Q (.ref p) (upd H6 p (.tup [V.int m, u])) := fun u hu hn => ⟨by decide, fun p hp => by
          have s := Same.new (o := .tup [V.int m, u]) hp
          exact q p (.int m) u _ (ex.trans s.ext) (b6.same s) upd_same Kn.int ((wfl_not hu hn).same s) (by rw [drawB_same (wfl_not hu hn) s]; exact drawB_noL hn)⟩
        have : j = 0 ∨ j = 1 ∨ j = 2 ∨ j = 3 ∨ j = 4 ∨ j = 5 := by omega
        rcases this with rfl | rfl | rfl | rfl | rfl | rfl
        · exact ⟨_, rfl, fin _ (.inl rfl) rfl⟩
        · exact ⟨_, rfl, fin _ Kn.str rfl⟩
        · exact ⟨_, rfl, fin _ (Kn.tup r1 (by omega)) (by simp only [isLi, r1])⟩
        · exact ⟨_, rfl, fin _ Kn.int rfl⟩
        · exact ⟨_, rfl, fin _ Kn.bl rfl⟩
        · exact ⟨_, rfl, fin _ (Kn.tup r3 (by show 1 ≤ 1000; decide)) (by simp only [isLi, r3])⟩
      · have hz0 : ¬ z = 0 := fun w => hz0 (decide_eq_true w)
        have hz1 : ¬ z = 1 := fun w => hz1 (decide_eq_true w)
        have ot4 := ot.ext e4
        have ex4 := e3.trans e4
        refine ⟨by decide, fun t1 h1 => ⟨by decide, fun t2 h2 => ⟨by decide, fun t3 h3 => ⟨by decide, fun t4 h4 => ⟨_, SqL.of upd_same, ?_⟩⟩⟩⟩⟩
        have u4 := Same.new (o := .lst [th, V.ref t1, V.ref t2, V.ref t3]) h4
        have u3 := (Same.new (o := .lst [V.int 0, V.int 0]) h3).trans u4
        have u2 := (Same.new (o := .tup [V.int 0, th]) h2).trans u3
        have u1 := (Same.new (o := .tup [th, V.int 0]) h1).trans u2
        have q1 := u2 _ _ (upd_same (H := H4) (a := t1) (o := .tup [th, V.int 0]))
        have q2 := u3 _ _ (upd_same (H := upd H4 t1 (.tup [th, V.int 0])) (a := t2) (o := .tup [V.int 0, th]))
        have q3 := u4 _ _ (upd_same (H := upd (upd H4 t1 (.tup [th, V.int 0])) t2 (.tup [V.int 0, th])) (a := t3) (o := .lst [V.int 0, V.int 0]))
        have b5 := b4.same u1
        have ex5 := ex4.trans u1.ext
        have ot5 := ot4.ext u1.ext
        generalize upd (upd (upd (upd H4 t1 (.tup [th, V.int 0])) t2 (.tup [V.int 0, th])) t3 (.lst [V.int 0, V.int 0])) t4 (.lst [th, V.ref t1, V.ref t2, V.ref t3]) = H5 at *
        have thb : endB m th = false := by
          have := ot5.wh
          cases th <;> first | rfl | cases this
        have two : ∀ {x y : V} {t : Addr}, H5 t = some (.tup [x, y]) → Kn H5 x → Kn H5 y → WfA H5 (.ref t) := fun h hx hy => wfa_tup h (by show 2 ≤ 1000; decide) fun w hw => by
          rcases List.mem_cons.mp hw with rfl | hw
          · exact hx
          · rw [List.mem_singleton.mp hw]; exact hy
        have pick : ∃ b, atI [th, V.ref t1, V.ref t2, V.ref t3] (z - 2) = some b ∧ WfA H5 b ∧ arrowB m H5 b = false := by
          have : z = 2 ∨ z = 3 ∨ z = 4 ∨ z = 5 := by omega
          rcases this with rfl | rfl | rfl | rfl
          · exact ⟨_, rfl, ot5.wf, ot5.arrow⟩
          · exact ⟨_, rfl, two q1 ot5.wf.1 Kn.int, arrow_tup q1 (.inr (by simp [thb]))⟩
          · exact ⟨_, rfl, two q2 Kn.int ot5.wf.1, arrow_tup q2 (.inr (by simp [thb]))⟩
          · exact ⟨_, rfl, wfa_lst q3 (by show 2 ≤ 1000; decide), by simp only [arrowB, q3]⟩
        obtain ⟨b, hb1, wb, hbad⟩ := pick
        refine ⟨b, hb1, ?_⟩
        have ha5 : H5 a = some (.lst xs) := ex5 _ _ nal ha
        have d5 := d.bag ex5 hb
        have c1 := cut_len xs none (some k)
        have c2 := cut_len xs (some (k + 1)) none
        refine ⟨k, rfl, xs, SqL.of ha5, fun p1 h1 => ⟨by decide, fun p2 h2 => ?_⟩⟩
        have u1 := Same.new (o := .lst (cutV xs none (some k))) h1
        have u2 := Same.new (o := .lst [b]) h2
        have g1 := u2 _ _ (upd_same (H := H5) (a := p1) (o := .lst (cutV xs none (some k))))
        refine ⟨_, g1, _, upd_same, Nat.le_of_lt (small1000 (by show _ + 1 ≤ 1000; omega)), fun p3 h3 => ?_⟩
        have u3 := Same.new (o := .lst (cutV xs none (some k) ++ [b])) h3
        have v3 := (u1.trans u2).trans u3
        refine ⟨k, rfl, xs, SqL.of (v3 _ _ ha5), fun p4 h4 => ?_⟩
        have u4 := Same.new (o := .lst (cutV xs (some (k + 1)) none)) h4
        refine ⟨_, u4 _ _ upd_same, _, upd_same, Nat.le_of_lt (small1000 (by rw [List.length_append]; show _ + 1 + _ ≤ 1000; omega)), fun p5 h5 => ⟨by decide, fun p6 h6 => ?_⟩⟩
        have u5 := Same.new (o := .lst (cutV xs none (some k) ++ [b] ++ cutV xs (some (k + 1)) none)) h5
        have u6 := Same.new (o := .tup [V.int m, V.ref p5]) h6
        have v6 := ((v3.trans u4).trans u5).trans u6
        have hp5 := u6 _ _ (upd_same (H := upd (upd (upd (upd H5 p1 (.lst (cutV xs none (some k)))) p2 (.lst [b])) p3 (.lst (cutV xs none (some k) ++ [b]))) p4 (.lst (cutV xs (some (k + 1)) none))) (a := p5) (o := .lst (cutV xs none (some k) ++ [b] ++ cutV xs (some (k + 1)) none)))
        have len : (cutV xs none (some k) ++ [b] ++ cutV xs (some (k + 1)) none).length ≤ 1000 := by
          rw [List.length_append, List.length_append]
          show _ + 1 + _ ≤ 1000
          omega
        have b6 := b5.same v6
        refine q p6 (.int m) (.ref p5) _ (ex5.trans v6.ext) b6 upd_same Kn.int (wfl_lst hp5 len fun y hy => ?_) (bad_list hp5 (y := b) (by simp) (by rw [arrowB_same wb.1 v6]; exact hbad))
        · rcases List.mem_append.mp hy with hy | hy
          · rcases List.mem_append.mp hy with hy | hy
            · exact (edge_kn (d5 y (cut_sub hy))).same v6
            · rw [List.mem_singleton.mp hy]
              exact wb.same v6
          · exact (edge_kn (d5 y (cut_sub hy))).same v6
    simp only [tSeq, tIfS, tTest, tOp, tUn, tVar, tC, tCB, tCons, tNil, tRet, tRetN, tNext, tDrop, tAsg, tAug, ipI, gName, gTup, gCons, gNil, gSub, tTup, tLst, tSl, tNoPart, tPart, tChain, tCall, tBM, tBM0, tPar, tB, tAnd, tOr, tNot, tAndV, tOrV, tNotV, tIf, tYes, tMake, tMeth, tFld, sFld, tAugS, rGetL, rI0, rI, rU, rIxL, rIxT, rSetL, rSlL, rAppend, rBits, tTry, hEnds, tRaise, hnd_K, pnx_K, rCat, rEq, rNe, rEqL, rEqT, rIn, scal_ii, scal_bb, scal_ss, iList, iTup, iRng1, iRng2, cV, cx_K, in_K, wish_K, E0, L2.start, List.map, List.length, List.replicate, List.cons_append, List.nil_append, List.append_nil, List.getElem?_cons_zero, List.getElem?_cons_succ, List.set_cons_zero, List.set_cons_succ, Option.some.injEq, exists_eq_left', exists_eq_left, exists_and_left, V.int.injEq, V.bl.injEq, V.ref.injEq, V.ty.injEq, List.cons.injEq, reduceCtorEq, false_and, and_false, exists_false, or_false, false_or, and_true, true_and, Nat.reduceSub, Nat.reduceAdd, Nat.reduceLT, if_true, if_false, Bool.false_eq_true]
    refine hb.draw (by decide) (by decide) fun z H1 z0 z1 e1 b1 => ⟨by decide, fun t1 h1 => ⟨by decide, fun t2 h2 => ⟨by decide, fun t3 h3 => ⟨by decide, fun t4 h4 => ⟨by decide, fun t5 h5 => ?_⟩⟩⟩⟩⟩
    have u5 := Same.new (o := .lst [V.bl true, V.bl false, V.non, V.str (Str.ofString "2"), V.ref t1, V.ref t2, V.str (Str.ofString ""), V.ref t3, V.ref t4]) h5
    have u4 := (Same.new (o := .lst [V.int 1, V.int 1]) h4).trans u5
    have u3 := (Same.new (o := .tup []) h3).trans u4
    have u2 := (Same.new (o := .lst [V.int 2]) h2).trans u3
    have u1 := (Same.new (o := .tup [V.int 2]) h1).trans u2
    have q1 := u2 _ _ (upd_same (H := H1) (a := t1) (o := .tup [V.int 2]))
    have q2 := u3 _ _ (upd_same (H := upd H1 t1 (.tup [V.int 2])) (a := t2) (o := .lst [V.int 2]))
    have q3 := u4 _ _ (upd_same (H := upd (upd H1 t1 (.tup [V.int 2])) t2 (.lst [V.int 2])) (a := t3) (o := .tup []))
    have q4 := u5 _ _ (upd_same (H := upd (upd (upd H1 t1 (.tup [V.int 2])) t2 (.lst [V.int 2])) t3 (.tup [])) (a := t4) (o := .lst [V.int 1, V.int 1]))
    have q5 : (upd (upd (upd (upd (upd H1 t1 (.tup [V.int 2])) t2 (.lst [V.int 2])) t3 (.tup [])) t4 (.lst [V.int 1, V.int 1])) t5 (.lst [V.bl true, V.bl false, V.non, V.str (Str.ofString "2"), V.ref t1, V.ref t2, V.str (Str.ofString ""), V.ref t3, V.ref t4])) t5 = some (.lst [V.bl true, V.bl false, V.non, V.str (Str.ofString "2"), V.ref t1, V.ref t2, V.str (Str.ofString ""), V.ref t3, V.ref t4]) := upd_same
    have f2 := (Same.new (o := .tup [V.int 2]) h1).free h2
    have f4 := (((Same.new (o := .tup [V.int 2]) h1).trans (Same.new (o := .lst [V.int 2]) h2)).trans (Same.new (o := .tup []) h3)).free h4
    have f5 := ((((Same.new (o := .tup [V.int 2]) h1).trans (Same.new (o := .lst [V.int 2]) h2)).trans (Same.new (o := .tup []) h3)).trans (Same.new (o := .lst [V.int 1, V.int 1]) h4)).free h5
    generalize upd (upd (upd (upd (upd H1 t1 (.tup [V.int 2])) t2 (.lst [V.int 2])) t3 (.tup [])) t4 (.lst [V.int 1, V.int 1])) t5 (.lst [V.bl true, V.bl false, V.non, V.str (Str.ofString "2"), V.ref t1, V.ref t2, V.str (Str.ofString ""), V.ref t3, V.ref t4]) = H5 at *
    have b5 := b1.same u1
    have n2 := b1.ne f2
    have n4 := b1.ne f4
    have n5 := b1.ne f5
    refine b5.draw (by decide) (by decide) fun j H6 j0 j1 e6 b6 => ⟨_, j, rfl, SqL.of (e6 _ _ n5 q5), ?_⟩
    obtain ⟨x0, y0, hbl, _⟩ := b5
    have r1 := e6 _ _ (ne_of q1 hbl (by intro z; cases z)) q1
    have r2 := e6 _ _ n2 q2
    have r3 := e6 _ _ (ne_of q3 hbl (by intro z; cases z)) q3
    have r4 := e6 _ _ n4 q4
    have ex := (e1.trans u1.ext).trans e6
    have fl : ∀ {v : V}, Kn H6 v → (∀ a, v ≠ .ref a) → whB v = false → X D' [some (.ref l), some (.int m), some (.ref a), some (.int z), some (.ref t5), some v, none, none] H6 := fun {v} hk hn hw =>
      aft z _ v H6 z0 z1 ex b6 (.inl ⟨hw, hk, hn⟩)
    have : j = 0 ∨ j = 1 ∨ j = 2 ∨ j = 3 ∨ j = 4 ∨ j = 5 ∨ j = 6 ∨ j = 7 ∨ j = 8 := by omega
    rcases this with rfl | rfl | rfl | rfl | rfl | rfl | rfl | rfl | rfl
    · exact ⟨_, rfl, fl Kn.bl (by intro a z; cases z) rfl⟩
    · exact ⟨_, rfl, fl Kn.bl (by intro a z; cases z) rfl⟩
    · exact ⟨_, rfl, fl (.inl rfl) (by intro a z; cases z) rfl⟩
    · exact ⟨_, rfl, fl Kn.str (by intro a z; cases z) rfl⟩
    · exact ⟨_, rfl, aft z _ _ H6 z0 z1 ex b6 (.inr (.inr ⟨_, [2], rfl, ne_of q1 hbl (by intro z; cases z), r1, by decide, by decide⟩))⟩
    · exact ⟨_, rfl, aft z _ _ H6 z0 z1 ex b6 (.inr (.inl ⟨_, _, rfl, n2, r2, by show 1 ≤ 1000; decide⟩))⟩
    · exact ⟨_, rfl, fl Kn.str (by intro a z; cases z) rfl⟩
    · exact ⟨_, rfl, aft z _ _ H6 z0 z1 ex b6 (.inr (.inr ⟨_, [], rfl, ne_of q3 hbl (by intro z; cases z), r3, by decide, by decide⟩))⟩
    · exact ⟨_, rfl, aft z _ _ H6 z0 z1 ex b6 (.inr (.inl ⟨_, _, rfl, n4, r4, by show 2 ≤ 1000; decide⟩))⟩
end
end Pf

set_option maxHeartbeats 1000000
namespace Pf
open PySem L2 PyProof.Rows
section
variable {P : Program} {w : World} {K : PySem.W.Frag} {mg : Str → Option Value} {base : Heap} {C : Addr} {cc : Cs}
def spLaw (K : PySem.W.Frag) : Sp := fun vs H Q _ => ∃ (a : Addr) (ns : List Int), vs = [.ref a] ∧ SqL K H a (ns.map V.int) ∧ ns.length ≤ 63 ∧ ∀ H', Q (.bl true) H'
theorem ok_law {f : Addr} {fd : FuncData} (F : Fun K "law" "law" s_law f fd) (T : Txt K mg C) (C_law_cell : Cal P w K mg base "_law_cell" 1 (spCell K)) (C_law_bag : Cal P w K mg base "_law_bag" 1 spBag) (C_law_draw : Cal P w K mg base "_law_draw" 1 spDraw)
    (C_law_drawn : Cal P w K mg base "_law_drawn" 4 (spOut way1)) (C_law_spoiled : Cal P w K mg base "_law_spoiled" 2 spBadD) (C_law_strange : Cal P w K mg base "_law_strange" 2 spOddD) (C_law_made : Cal P w K mg base "_law_made" 6 spLMade) (C_law_refused : Cal P w K mg base "_law_refused" 6 spRefused) :
    FnOk P w K mg base CX0 8 f fd ["_law_script"] (spLaw K) := by
  have nd := sc_law.nd
  refine F.ok sc_law (fun vs H Q E h => ?_) (fun cdv A outer s H vs Q E hr h => ?_)
  · obtain ⟨a, ns, rfl, _⟩ := h
    rfl
  · obtain ⟨a, ns, rfl, hS, hl, q⟩ := h
    have hu8 := room8 hr
    refine ⟨_, (@pss_cons _ _ _ _ _ (ps_for PassesOwn.never rfl (pi_r1 rfl T.n_range (@pa_c _ _ _ _ _ (@pe_op _ _ _ _ _ _ _ _ op_add (pe_cB (call_min2 rfl) rfl T.n_min boot_min (@pa_c _ _ _ _ _ (pe_cB call_len_seq rfl T.n_len PySem.boot_len (@pa_c _ _ _ _ _ (pv 0) pa_nil (by rfl))) (@pa_c _ _ _ _ _ pe_int pa_nil (by rfl)) (by rfl))) pe_int) pa_nil (by rfl))) (@pg_name _ _ 1 _ nd rfl (Or.inl rfl) (Or.inl rfl)) (@pss_cons _ _ _ _ _ (ps_set (i := 2) nd rfl (Or.inl rfl) (pe_c C_law_bag (hr.mono (by decide)) rfl (@pa_c _ _ _ _ _ (pe_c C_law_cell (hr.mono (by decide)) rfl (@pa_c _ _ _ _ _ (pv 0) (@pa_c _ _ _ _ _ (pv 1) pa_nil (by rfl)) (by rfl))) pa_nil (by rfl)))) (@pss_cons _ _ _ _ _ (ps_asg (pe_c C_law_drawn (hr.mono (by decide)) rfl (@pa_c _ _ _ _ _ (pv 2) (@pa_c _ _ _ _ _ (pe_c C_law_draw (hr.mono (by decide)) rfl (@pa_c _ _ _ _ _ (pv 2) (@pa_c _ _ _ _ _ pe_int pa_nil (by rfl)) (by rfl))) pa_nil (by rfl)) (by rfl))) (@pg_tup _ _ _ _ _ 2 rfl (@pgs_cons _ _ _ _ _ (@pg_name _ _ 3 _ nd rfl (Or.inl rfl) (Or.inl rfl)) (@pgs_cons _ _ _ _ _ (@pg_name _ _ 4 _ nd rfl (Or.inl rfl) (Or.inl rfl)) (@pgs_nil _) (by rfl)) (by rfl)) (by rfl) (by rfl))) (@pss_cons _ _ _ _ _ (ps_asg (pe_c C_law_spoiled (hr.mono (by decide)) rfl (@pa_c _ _ _ _ _ (pv 2) (@pa_c _ _ _ _ _ (pv 3) (@pa_c _ _ _ _ _ (pv 4) pa_nil (by rfl)) (by rfl)) (by rfl))) (@pg_tup _ _ _ _ _ 2 rfl (@pgs_cons _ _ _ _ _ (@pg_name _ _ 5 _ nd rfl (Or.inl rfl) (Or.inl rfl)) (@pgs_cons _ _ _ _ _ (@pg_name _ _ 6 _ nd rfl (Or.inl rfl) (Or.inl rfl)) (@pgs_nil _) (by rfl)) (by rfl)) (by rfl) (by rfl))) (@pss_cons _ _ _ _ _ (ps_set (i := 7) nd rfl (Or.inl rfl) (pe_cT call_list_of rfl T.n_list boot_list (@pa_c _ _ _ _ _ (pv 6) pa_nil (by rfl)))) (@pss_cons _ _ _ _ _ (@ps_if _ _ _ _ _ _ _ _ (PW.pt (pw_or (pt_not (pt_val (pe_c C_law_made (hr.mono (by decide)) rfl (@pa_c _ _ _ _ _ (pv 3) (@pa_c _ _ _ _ _ (pv 4) pa_nil (by rfl)) (by rfl))))) (pw_or (pt_not (pt_val (pe_c C_law_refused (hr.mono (by decide)) rfl (@pa_c _ _ _ _ _ (pv 5) (@pa_c _ _ _ _ _ (pv 7) pa_nil (by rfl)) (by rfl))))) (pw_or1 (pt_cmpR (op_neL hu8) (pv 7) (pv 6) (nomark _)))))) (@pss_one _ _ _ (@ps_ret _ _ _ _ pe_bl)) pss_nil) (@pss_cons _ _ _ _ _ (ps_asg (pe_c C_law_strange (hr.mono (by decide)) rfl (@pa_c _ _ _ _ _ (pv 2) (@pa_c _ _ _ _ _ (pv 3) (@pa_c _ _ _ _ _ (pv 4) pa_nil (by rfl)) (by rfl)) (by rfl))) (@pg_tup _ _ _ _ _ 2 rfl (@pgs_cons _ _ _ _ _ (@pg_name _ _ 5 _ nd rfl (Or.inl rfl) (Or.inl rfl)) (@pgs_cons _ _ _ _ _ (@pg_name _ _ 6 _ nd rfl (Or.inl rfl) (Or.inl rfl)) (@pgs_nil _) (by rfl)) (by rfl)) (by rfl) (by rfl))) (@pss_one _ _ _ (@ps_if _ _ _ _ _ _ _ _ (PW.pt (pw_or (pt_not (pt_val (pe_c C_law_refused (hr.mono (by decide)) rfl (@pa_c _ _ _ _ _ (pv 5) (@pa_c _ _ _ _ _ (pv 6) pa_nil (by rfl)) (by rfl))))) (pw_or1 (pt_not (pt_val (pe_c C_law_made (hr.mono (by decide)) rfl (@pa_c _ _ _ _ _ (pv 3) (@pa_c _ _ _ _ _ (pv 4) pa_nil (by rfl)) (by rfl)))))))) (@pss_one _ _ _ (@ps_ret _ _ _ _ pe_bl)) pss_nil))))))))) (@pss_one _ _ _ (@ps_ret _ _ _ _ pe_bl))), ?_⟩
    refine ⟨_, rfl, a, _, rfl, .inl hS, _, _, rfl, _, _, rfl, rfl, _, rfl, ?_, ?_, for_range (fun i σ H2 => ∃ v1 v2 v3 v4 v5 v6 v7 : Option V, σ = [some (.ref a), v1, v2, v3, v4, v5, v6, v7] ∧ Same H H2) ⟨none, none, none, none, none, none, none, rfl, Same.refl H⟩ ?_ ?_⟩
    · split <;> omega
    · split <;> omega
    · rintro i σ H2 hi ⟨v1, v2, v3, v4, v5, v6, v7, rfl, s2⟩
      simp only [tSeq, tIfS, tTest, tOp, tUn, tVar, tC, tCB, tCons, tNil, tRet, tRetN, tNext, tDrop, tAsg, tAug, ipI, gName, gTup, gCons, gNil, gSub, tTup, tLst, tSl, tNoPart, tPart, tChain, tCall, tBM, tBM0, tPar, tB, tAnd, tOr, tNot, tAndV, tOrV, tNotV, tIf, tYes, tMake, tMeth, tFld, sFld, tAugS, rGetL, rI0, rI, rU, rIxL, rIxT, rSetL, rSlL, rAppend, rBits, tTry, hEnds, tRaise, hnd_K, pnx_K, rCat, rEq, rNe, rEqL, rEqT, rIn, scal_ii, scal_bb, scal_ss, iList, iTup, iRng1, iRng2, cV, cx_K, in_K, wish_K, E0, L2.start, List.map, List.length, List.replicate, List.cons_append, List.nil_append, List.append_nil, List.getElem?_cons_zero, List.getElem?_cons_succ, List.set_cons_zero, List.set_cons_succ, Option.some.injEq, exists_eq_left', exists_eq_left, exists_and_left, V.int.injEq, V.bl.injEq, V.ref.injEq, V.ty.injEq, List.cons.injEq, reduceCtorEq, false_and, and_false, exists_false, or_false, false_or, and_true, true_and, Nat.reduceSub, Nat.reduceAdd, Nat.reduceLT, if_true, if_false, Bool.false_eq_true]
      refine ⟨a, ns, 0 + i, rfl, s2.seq hS, hl, by omega, fun c => ⟨c, rfl, fun l xa xb hl0 xb0 xb1 => ?_⟩⟩
      have b3 : Bag (upd H2 l (BagV xa xb)) l := Bag.set xb0 xb1
      have s3 : Same H (upd H2 l (BagV xa xb)) := s2.trans (Same.new hl0)
      have fl : H l = none := s2.free hl0
      refine b3.draw (n := 8) (by decide) (by decide) fun r H4 r0 r1 e4 b4 => ?_
      refine ⟨l, _, rfl, ⟨r, rfl⟩, b4, fun p e m xs H5 O => ⟨p, rfl, _, SqT.of O.tup, rfl, _, _, rfl, _, _, rfl, rfl, ?_⟩⟩
      have s5 : Same H H5 := Same.thru (Same.thru s3 fl e4) fl O.ext
      have m0 := O.lo
      have m8 := O.hi
      have b5 := O.bag
      have nel : e ≠ l := b4.ne O.new
      refine ⟨l, m, e, xs, rfl, b5, m0, m8, O.lst, nel, O.len, O.ed, fun t v b ys H6 e6 b6 ht hb6 hy6 kv wb hd nbl => ?_⟩
      have s6 := Same.thru s5 fl e6
      have he6 := e6 _ _ nel O.lst
      have d6 := O.ed.bag e6 b5
      have wys := wb.2 b ys rfl hb6
      refine ⟨t, rfl, _, SqT.of ht, rfl, _, _, rfl, _, _, rfl, rfl, b, rfl, ys, .inl (SqL.of hb6), fun lc hlc => ?_⟩
      have u7 := Same.new (o := .lst ys) hlc
      have hlc7 : (upd H6 lc (.lst ys)) lc = some (.lst ys) := upd_same
      generalize upd H6 lc (.lst ys) = H7 at *
      refine ⟨m, e, xs, rfl, m0, m8, u7 _ _ he6, O.len, d6.same u7, fun H8 s8 => ⟨true, rfl, iteN (by decide) ?_⟩⟩
      have t8 := u7.trans s8
      have hw8 : WfL H8 (.ref lc) := wfl_lst (s8 _ _ hlc7) hy6 fun y hy => (wys y hy).same t8
      have hd8 : drawB H8 v (.ref lc) = false := by rw [drawB_list (s8 _ _ hlc7) (t8 _ _ hb6), drawB_same wb t8]; exact hd
      refine ⟨v, .ref lc, rfl, kv.same t8, hw8, hd8, fun H9 s9 => ⟨true, rfl, iteN (by decide) ?_⟩⟩
      have t9 := t8.trans s9
      have tru : ∀ n : Nat, ¬ (!(List.replicate n true).all id) = true := fun n => by simp
      refine ⟨b, rfl, ys, SqL.of (s9 _ _ (s8 _ _ hlc7)), ys, SqL.of (t9 _ _ hb6), .inr ⟨_, copy_eq fun y hy => ((wys y hy).same t9).1, iteN (tru _) ?_⟩⟩
      have b9 := b6.same t9
      have he9 := t9 _ _ he6
      have d9 := d6.same t9
      refine ⟨l, m, e, xs, rfl, b9, m0, m8, he9, nel, O.len, d9, fun t2 v2 u2 H10 e10 b10 ht2 kv2 wu2 hd2 => ⟨t2, rfl, _, SqT.of ht2, rfl, _, _, rfl, _, _, rfl, rfl, ?_⟩⟩
      have s10 := Same.thru (s6.trans t9) fl e10
      refine ⟨v2, u2, rfl, kv2, wu2, hd2, fun H11 s11 => ⟨true, rfl, iteN (by decide) ?_⟩⟩
      refine ⟨m, e, xs, rfl, m0, m8, s11 _ _ (e10 _ _ nel he9), O.len, (d9.bag e10 b9).same s11, fun H12 s12 => ⟨true, rfl, iteN (by decide) ?_⟩⟩
      exact ⟨_, _, _, _, _, _, _, ⟨rfl, rfl, rfl, rfl, rfl, rfl, rfl⟩, (s10.trans s11).trans s12⟩
    · rintro σ H2 ⟨v1, v2, v3, v4, v5, v6, v7, rfl, s2⟩
      exact q H2
end
end Pf

set_option maxHeartbeats 4000000
namespace Pf
open PySem L2 PyProof.Rows
theorem all_mk {l : PySem.W.OpenLaw} {w : World} {K : PySem.W.Frag} {h : Heap} {mg : Str → Option Value} {fa C : Addr} {t1 t2 : Tok} (X : K.In h) (G : h.Ns mainGlobals mg) (hfa : mg "law" = some (.ref fa))
    {f1 : Addr} {od1 an1 : Option Addr} {sl1 : Array (Option Value)} {oc1 kV1 dc1 pm1 cd1 ct1 : Value}
    {f2 : Addr} {od2 an2 : Option Addr} {sl2 : Array (Option Value)} {oc2 kV2 dc2 pm2 cd2 ct2 : Value}
    {f3 : Addr} {od3 an3 : Option Addr} {sl3 : Array (Option Value)} {oc3 kV3 dc3 pm3 cd3 ct3 : Value}
    {f4 : Addr} {od4 an4 : Option Addr} {sl4 : Array (Option Value)} {oc4 kV4 dc4 pm4 cd4 ct4 : Value}
    {f5 : Addr} {od5 an5 : Option Addr} {sl5 : Array (Option Value)} {oc5 kV5 dc5 pm5 cd5 ct5 : Value}
    {f6 : Addr} {od6 an6 : Option Addr} {sl6 : Array (Option Value)} {oc6 kV6 dc6 pm6 cd6 ct6 : Value}
    {f7 : Addr} {od7 an7 : Option Addr} {sl7 : Array (Option Value)} {oc7 kV7 dc7 pm7 cd7 ct7 : Value}
    {f8 : Addr} {od8 an8 : Option Addr} {sl8 : Array (Option Value)} {oc8 kV8 dc8 pm8 cd8 ct8 : Value}
    {f9 : Addr} {od9 an9 : Option Addr} {sl9 : Array (Option Value)} {oc9 kV9 dc9 pm9 cd9 ct9 : Value}
    {f10 : Addr} {od10 an10 : Option Addr} {sl10 : Array (Option Value)} {oc10 kV10 dc10 pm10 cd10 ct10 : Value}
    {f11 : Addr} {od11 an11 : Option Addr} {sl11 : Array (Option Value)} {oc11 kV11 dc11 pm11 cd11 ct11 : Value}
    {f12 : Addr} {od12 an12 : Option Addr} {sl12 : Array (Option Value)} {oc12 kV12 dc12 pm12 cd12 ct12 : Value}
    {f13 : Addr} {od13 an13 : Option Addr} {sl13 : Array (Option Value)} {oc13 kV13 dc13 pm13 cd13 ct13 : Value}
    {f14 : Addr} {od14 an14 : Option Addr} {sl14 : Array (Option Value)} {oc14 kV14 dc14 pm14 cd14 ct14 : Value}
    {f15 : Addr} {od15 an15 : Option Addr} {sl15 : Array (Option Value)} {oc15 kV15 dc15 pm15 cd15 ct15 : Value}
    {f16 : Addr} {od16 an16 : Option Addr} {sl16 : Array (Option Value)} {oc16 kV16 dc16 pm16 cd16 ct16 : Value}
    {f17 : Addr} {od17 an17 : Option Addr} {sl17 : Array (Option Value)} {oc17 kV17 dc17 pm17 cd17 ct17 : Value}
    {x_LimbError x_NoGround x_NoNumber x_NoTable x_NoDrawing x_NoKind x_NoStanding x_NoChange x_NoMirror x_NoRoot x_NoText x_NoRow x_NoName : Addr}
    (a1 : PySem.W.nsIn K mainGlobals "is_whole" = some (some (.ref f1)))
    (l1 : K.lookup f1 = some ⟨oc1, od1, .func (PySem.W.fnOf "is_whole" "is_whole" (defArgs s_is_whole) (defBody s_is_whole) (defScope s_is_whole) .none kV1 dc1 pm1 an1 cd1 ct1), sl1⟩)
    (c1 : PySem.W.codeIn K cd1 "is_whole" = true)
    (k1 : PySem.W.keepIn K (.ref f1) = true)
    (a2 : PySem.W.nsIn K mainGlobals "makes_drawing" = some (some (.ref f2)))
    (l2 : K.lookup f2 = some ⟨oc2, od2, .func (PySem.W.fnOf "makes_drawing" "makes_drawing" (defArgs s_makes_drawing) (defBody s_makes_drawing) (defScope s_makes_drawing) .none kV2 dc2 pm2 an2 cd2 ct2), sl2⟩)
    (c2 : PySem.W.codeIn K cd2 "makes_drawing" = true)
    (k2 : PySem.W.keepIn K (.ref f2) = true)
    (a3 : PySem.W.nsIn K mainGlobals "is_arrow" = some (some (.ref f3)))
    (l3 : K.lookup f3 = some ⟨oc3, od3, .func (PySem.W.fnOf "is_arrow" "is_arrow" (defArgs s_is_arrow) (defBody s_is_arrow) (defScope s_is_arrow) .none kV3 dc3 pm3 an3 cd3 ct3), sl3⟩)
    (c3 : PySem.W.codeIn K cd3 "is_arrow" = true)
    (k3 : PySem.W.keepIn K (.ref f3) = true)
    (a4 : PySem.W.nsIn K mainGlobals "_law_cell" = some (some (.ref f4)))
    (l4 : K.lookup f4 = some ⟨oc4, od4, .func (PySem.W.fnOf "_law_cell" "_law_cell" (defArgs s_law_cell) (defBody s_law_cell) (defScope s_law_cell) .none kV4 dc4 pm4 an4 cd4 ct4), sl4⟩)
    (c4 : PySem.W.codeIn K cd4 "_law_cell" = true)
    (k4 : PySem.W.keepIn K (.ref f4) = true)
    (a5 : PySem.W.nsIn K mainGlobals "_law_bag" = some (some (.ref f5)))
    (l5 : K.lookup f5 = some ⟨oc5, od5, .func (PySem.W.fnOf "_law_bag" "_law_bag" (defArgs s_law_bag) (defBody s_law_bag) (defScope s_law_bag) .none kV5 dc5 pm5 an5 cd5 ct5), sl5⟩)
    (c5 : PySem.W.codeIn K cd5 "_law_bag" = true)
    (k5 : PySem.W.keepIn K (.ref f5) = true)
    (a6 : PySem.W.nsIn K mainGlobals "_law_draw" = some (some (.ref f6)))
    (l6 : K.lookup f6 = some ⟨oc6, od6, .func (PySem.W.fnOf "_law_draw" "_law_draw" (defArgs s_law_draw) (defBody s_law_draw) (defScope s_law_draw) .none kV6 dc6 pm6 an6 cd6 ct6), sl6⟩)
    (c6 : PySem.W.codeIn K cd6 "_law_draw" = true)
    (k6 : PySem.W.keepIn K (.ref f6) = true)
    (a7 : PySem.W.nsIn K mainGlobals "_law_order" = some (some (.ref f7)))
    (l7 : K.lookup f7 = some ⟨oc7, od7, .func (PySem.W.fnOf "_law_order" "_law_order" (defArgs s_law_order) (defBody s_law_order) (defScope s_law_order) .none kV7 dc7 pm7 an7 cd7 ct7), sl7⟩)
    (c7 : PySem.W.codeIn K cd7 "_law_order" = true)
    (k7 : PySem.W.keepIn K (.ref f7) = true)
    (a8 : PySem.W.nsIn K mainGlobals "_law_rest_edges" = some (some (.ref f8)))
    (l8 : K.lookup f8 = some ⟨oc8, od8, .func (PySem.W.fnOf "_law_rest_edges" "_law_rest_edges" (defArgs s_law_rest_edges) (defBody s_law_rest_edges) (defScope s_law_rest_edges) .none kV8 dc8 pm8 an8 cd8 ct8), sl8⟩)
    (c8 : PySem.W.codeIn K cd8 "_law_rest_edges" = true)
    (k8 : PySem.W.keepIn K (.ref f8) = true)
    (a9 : PySem.W.nsIn K mainGlobals "_law_bad_edges" = some (some (.ref f9)))
    (l9 : K.lookup f9 = some ⟨oc9, od9, .func (PySem.W.fnOf "_law_bad_edges" "_law_bad_edges" (defArgs s_law_bad_edges) (defBody s_law_bad_edges) (defScope s_law_bad_edges) .none kV9 dc9 pm9 an9 cd9 ct9), sl9⟩)
    (c9 : PySem.W.codeIn K cd9 "_law_bad_edges" = true)
    (k9 : PySem.W.keepIn K (.ref f9) = true)
    (a10 : PySem.W.nsIn K mainGlobals "_law_edges" = some (some (.ref f10)))
    (l10 : K.lookup f10 = some ⟨oc10, od10, .func (PySem.W.fnOf "_law_edges" "_law_edges" (defArgs s_law_edges) (defBody s_law_edges) (defScope s_law_edges) .none kV10 dc10 pm10 an10 cd10 ct10), sl10⟩)
    (c10 : PySem.W.codeIn K cd10 "_law_edges" = true)
    (k10 : PySem.W.keepIn K (.ref f10) = true)
    (a11 : PySem.W.nsIn K mainGlobals "_law_drawn" = some (some (.ref f11)))
    (l11 : K.lookup f11 = some ⟨oc11, od11, .func (PySem.W.fnOf "_law_drawn" "_law_drawn" (defArgs s_law_drawn) (defBody s_law_drawn) (defScope s_law_drawn) .none kV11 dc11 pm11 an11 cd11 ct11), sl11⟩)
    (c11 : PySem.W.codeIn K cd11 "_law_drawn" = true)
    (k11 : PySem.W.keepIn K (.ref f11) = true)
    (a12 : PySem.W.nsIn K mainGlobals "_law_spoiled" = some (some (.ref f12)))
    (l12 : K.lookup f12 = some ⟨oc12, od12, .func (PySem.W.fnOf "_law_spoiled" "_law_spoiled" (defArgs s_law_spoiled) (defBody s_law_spoiled) (defScope s_law_spoiled) .none kV12 dc12 pm12 an12 cd12 ct12), sl12⟩)
    (c12 : PySem.W.codeIn K cd12 "_law_spoiled" = true)
    (k12 : PySem.W.keepIn K (.ref f12) = true)
    (a13 : PySem.W.nsIn K mainGlobals "_law_strange" = some (some (.ref f13)))
    (l13 : K.lookup f13 = some ⟨oc13, od13, .func (PySem.W.fnOf "_law_strange" "_law_strange" (defArgs s_law_strange) (defBody s_law_strange) (defScope s_law_strange) .none kV13 dc13 pm13 an13 cd13 ct13), sl13⟩)
    (c13 : PySem.W.codeIn K cd13 "_law_strange" = true)
    (k13 : PySem.W.keepIn K (.ref f13) = true)
    (a14 : PySem.W.nsIn K mainGlobals "_law_refused" = some (some (.ref f14)))
    (l14 : K.lookup f14 = some ⟨oc14, od14, .func (PySem.W.fnOf "_law_refused" "_law_refused" (defArgs s_law_refused) (defBody s_law_refused) (defScope s_law_refused) .none kV14 dc14 pm14 an14 cd14 ct14), sl14⟩)
    (c14 : PySem.W.codeIn K cd14 "_law_refused" = true)
    (k14 : PySem.W.keepIn K (.ref f14) = true)
    (a15 : PySem.W.nsIn K mainGlobals "_law_made" = some (some (.ref f15)))
    (l15 : K.lookup f15 = some ⟨oc15, od15, .func (PySem.W.fnOf "_law_made" "_law_made" (defArgs s_law_made) (defBody s_law_made) (defScope s_law_made) .none kV15 dc15 pm15 an15 cd15 ct15), sl15⟩)
    (c15 : PySem.W.codeIn K cd15 "_law_made" = true)
    (k15 : PySem.W.keepIn K (.ref f15) = true)
    (a16 : PySem.W.nsIn K mainGlobals "law" = some (some (.ref f16)))
    (l16 : K.lookup f16 = some ⟨oc16, od16, .func (PySem.W.fnOf "law" "law" (defArgs s_law) (defBody s_law) (defScope s_law) .none kV16 dc16 pm16 an16 cd16 ct16), sl16⟩)
    (c16 : PySem.W.codeIn K cd16 "law" = true)
    (k16 : PySem.W.keepIn K (.ref f16) = true)
    (aC : PySem.W.nsIn K mainGlobals "Drawing" = some (some (.ref C)))
    (a17 : PySem.W.findIn K (.ref C) "__init__" = some (some (.ref f17)))
    (i17 : PySem.W.isFn K (.ref f17) = true)
    (l17 : K.lookup f17 = some ⟨oc17, od17, .func (PySem.W.fnOf "__init__" "Drawing.__init__" (defArgs s_Drawing_init) (defBody s_Drawing_init) (defScope s_Drawing_init) .none kV17 dc17 pm17 an17 cd17 ct17), sl17⟩)
    (c17 : PySem.W.codeIn K cd17 "Drawing.__init__" = true)
    (k17 : PySem.W.keepIn K (.ref f17) = true)
    (pg : PySem.W.plainGet K C Str.empty = true)
    (hd : PySem.W.hasDictIn K C = true)
    (po : PySem.W.plainOver K C = true)
    (sa : PySem.W.findIn K (.ref C) "__setattr__" = some (some (.builtin "object.__setattr__")))
    (mk : PySem.W.makesIn K C = true)
    (kc : PySem.W.keepIn K (.ref C) = true)
    (nM : PySem.W.findIn K (.ref C) "many" = some none)
    (nA : PySem.W.findIn K (.ref C) "arrows" = some none)
    (g1 : PySem.W.nsIn K mainGlobals "MOST_POINTS" = some (some (.int 8 t1)))
    (g2 : PySem.W.nsIn K mainGlobals "MOST_ARROWS" = some (some (.int 9 t2)))
    (z0 : PySem.W.nsIn K mainGlobals "len" = some none)
    (z1 : PySem.W.nsIn K mainGlobals "range" = some none)
    (z2 : PySem.W.nsIn K mainGlobals "list" = some none)
    (z3 : PySem.W.nsIn K mainGlobals "min" = some none)
    (z4 : PySem.W.nsIn K mainGlobals "int" = some none)
    (z5 : PySem.W.nsIn K mainGlobals "bool" = some none)
    (z6 : PySem.W.nsIn K mainGlobals "tuple" = some none)
    (z7 : PySem.W.nsIn K mainGlobals "all" = some none)
    (z8 : PySem.W.nsIn K mainGlobals "isinstance" = some none)
    (z9 : PySem.W.nsIn K mainGlobals "ValueError" = some none)
    (a_LimbError : PySem.W.nsIn K mainGlobals "LimbError" = some (some (.ref x_LimbError)))
    (a_NoGround : PySem.W.nsIn K mainGlobals "NoGround" = some (some (.ref x_NoGround)))
    (a_NoNumber : PySem.W.nsIn K mainGlobals "NoNumber" = some (some (.ref x_NoNumber)))
    (a_NoTable : PySem.W.nsIn K mainGlobals "NoTable" = some (some (.ref x_NoTable)))
    (a_NoDrawing : PySem.W.nsIn K mainGlobals "NoDrawing" = some (some (.ref x_NoDrawing)))
    (a_NoKind : PySem.W.nsIn K mainGlobals "NoKind" = some (some (.ref x_NoKind)))
    (a_NoStanding : PySem.W.nsIn K mainGlobals "NoStanding" = some (some (.ref x_NoStanding)))
    (a_NoChange : PySem.W.nsIn K mainGlobals "NoChange" = some (some (.ref x_NoChange)))
    (a_NoMirror : PySem.W.nsIn K mainGlobals "NoMirror" = some (some (.ref x_NoMirror)))
    (a_NoRoot : PySem.W.nsIn K mainGlobals "NoRoot" = some (some (.ref x_NoRoot)))
    (a_NoText : PySem.W.nsIn K mainGlobals "NoText" = some (some (.ref x_NoText)))
    (a_NoRow : PySem.W.nsIn K mainGlobals "NoRow" = some (some (.ref x_NoRow)))
    (a_NoName : PySem.W.nsIn K mainGlobals "NoName" = some (some (.ref x_NoName)))
    (e_LimbError : PySem.W.excIn K x_LimbError [.type "ValueError", .type "Exception", .type "BaseException", .type "object"] "ValueError.__new__" = true)
    (e_NoDrawing : PySem.W.excIn K x_NoDrawing [.type "ValueError", .type "Exception", .type "BaseException", .type "object"] "ValueError.__new__" = true)
    (m_R : PySem.W.mroIn K x_NoDrawing (.ref x_LimbError) = some true)
    (n_R : x_NoDrawing ≠ x_LimbError)
    (y_ga : PySem.W.findIn K (.ref x_NoDrawing) "__getattribute__" = some (some (.builtin "BaseException.__getattribute__")))
    (y_gt : PySem.W.findIn K (.ref x_NoDrawing) "__getattr__" = some none)
    (y_cl : PySem.W.findIn K (.ref x_NoDrawing) "__class__" = some (some (.builtin "object.__class__")))
    (y_so : PySem.W.mroIn K x_NoDrawing (.type "object") = some true)
    (y_sb : PySem.W.mroIn K x_NoDrawing (.type "BaseException") = some true)
    (y_t1 : PySem.W.kitAny K (.ref x_NoDrawing) [.ref x_NoGround, .ref x_NoNumber, .ref x_NoTable, .ref x_NoKind, .ref x_NoStanding, .ref x_NoChange, .ref x_NoMirror, .ref x_NoRoot] = some false)
    (y_t2 : PySem.W.kitAny K (.ref x_NoDrawing) [.ref x_NoText, .ref x_NoRow, .ref x_NoName] = some false)
    (y_v : PySem.W.kitOne K (.ref x_NoDrawing) (.type "ValueError") = some true) :
    ∃ fd : FuncData, (∀ (s : Shared) (v : Value), BindsTo s fd ⟨[v], []⟩ [("_law_script", v)]) ∧ ∀ base : Heap, K.In base → base.Ns mainGlobals mg → FnOk l.prog w K mg base CX0 8 fa fd ["_law_script"] (spLaw K) := by
  have e := hfa.symm.trans (PySem.W.mg_of X G a16)
  cases e
  have T : Txt K mg C := ⟨⟨pg, hd, po, sa⟩, nM, nA, PySem.W.mg_none_of X G z0, PySem.W.mg_none_of X G z1, PySem.W.mg_none_of X G z2, PySem.W.mg_none_of X G z3, PySem.W.mg_none_of X G z4, PySem.W.mg_none_of X G z5, PySem.W.mg_none_of X G z6, PySem.W.mg_none_of X G z7, PySem.W.mg_none_of X G z8, PySem.W.mg_none_of X G z9, ⟨t1, PySem.W.mg_of X G g1⟩, ⟨t2, PySem.W.mg_of X G g2⟩⟩
  have F1 := fun_mk (st := s_is_whole) l1 c1 k1
  have b1 := F1.binds (ps := ["thing"]) fun _ _ _ _ _ _ us hl => match us, hl with | [_], _ => rfl
  have F2 := fun_mk (st := s_makes_drawing) l2 c2 k2
  have b2 := F2.binds (ps := ["many", "arrows"]) fun _ _ _ _ _ _ us hl => match us, hl with | [_, _], _ => rfl
  have F3 := fun_mk (st := s_is_arrow) l3 c3 k3
  have b3 := F3.binds (ps := ["many", "thing"]) fun _ _ _ _ _ _ us hl => match us, hl with | [_, _], _ => rfl
  have F4 := fun_mk (st := s_law_cell) l4 c4 k4
  have b4 := F4.binds (ps := ["_law_script", "_law_k"]) fun _ _ _ _ _ _ us hl => match us, hl with | [_, _], _ => rfl
  have F5 := fun_mk (st := s_law_bag) l5 c5 k5
  have b5 := F5.binds (ps := ["_law_cell_here"]) fun _ _ _ _ _ _ us hl => match us, hl with | [_], _ => rfl
  have F6 := fun_mk (st := s_law_draw) l6 c6 k6
  have b6 := F6.binds (ps := ["_law_bag_here", "_law_many"]) fun _ _ _ _ _ _ us hl => match us, hl with | [_, _], _ => rfl
  have F7 := fun_mk (st := s_law_order) l7 c7 k7
  have b7 := F7.binds (ps := ["_law_bag_here", "_law_many"]) fun _ _ _ _ _ _ us hl => match us, hl with | [_, _], _ => rfl
  have F8 := fun_mk (st := s_law_rest_edges) l8 c8 k8
  have b8 := F8.binds (ps := ["_law_bag_here", "_law_way"]) fun _ _ _ _ _ _ us hl => match us, hl with | [_, _], _ => rfl
  have F9 := fun_mk (st := s_law_bad_edges) l9 c9 k9
  have b9 := F9.binds (ps := ["_law_bag_here"]) fun _ _ _ _ _ _ us hl => match us, hl with | [_], _ => rfl
  have F10 := fun_mk (st := s_law_edges) l10 c10 k10
  have b10 := F10.binds (ps := ["_law_bag_here", "_law_way"]) fun _ _ _ _ _ _ us hl => match us, hl with | [_, _], _ => rfl
  have F11 := fun_mk (st := s_law_drawn) l11 c11 k11
  have b11 := F11.binds (ps := ["_law_bag_here", "_law_way"]) fun _ _ _ _ _ _ us hl => match us, hl with | [_, _], _ => rfl
  have F12 := fun_mk (st := s_law_spoiled) l12 c12 k12
  have b12 := F12.binds (ps := ["_law_bag_here", "_law_many", "_law_arrows"]) fun _ _ _ _ _ _ us hl => match us, hl with | [_, _, _], _ => rfl
  have F13 := fun_mk (st := s_law_strange) l13 c13 k13
  have b13 := F13.binds (ps := ["_law_bag_here", "_law_many", "_law_arrows"]) fun _ _ _ _ _ _ us hl => match us, hl with | [_, _, _], _ => rfl
  have F14 := fun_mk (st := s_law_refused) l14 c14 k14
  have b14 := F14.binds (ps := ["_law_many", "_law_arrows"]) fun _ _ _ _ _ _ us hl => match us, hl with | [_, _], _ => rfl
  have F15 := fun_mk (st := s_law_made) l15 c15 k15
  have b15 := F15.binds (ps := ["_law_many", "_law_arrows"]) fun _ _ _ _ _ _ us hl => match us, hl with | [_, _], _ => rfl
  have F16 := fun_mk (st := s_law) l16 c16 k16
  have F17 := fun_mk (st := s_Drawing_init) l17 c17 k17
  have b17 := F17.binds (ps := ["self", "many", "arrows"]) fun _ _ _ _ _ _ us hl => match us, hl with | [_, _, _], _ => rfl
  refine ⟨PySem.W.fnOf "law" "law" (defArgs s_law) (defBody s_law) (defScope s_law) .none kV16 dc16 pm16 an16 cd16 ct16, fun s v => .of_eq rfl, fun base KB _ => ?_⟩
  have XT : Xt K mg base ⟨x_LimbError, x_NoGround, x_NoNumber, x_NoTable, x_NoDrawing, x_NoKind, x_NoStanding, x_NoChange, x_NoMirror, x_NoRoot, x_NoText, x_NoRow, x_NoName⟩ := ⟨PySem.W.mg_of X G a_LimbError, PySem.W.mg_of X G a_NoGround, PySem.W.mg_of X G a_NoNumber, PySem.W.mg_of X G a_NoTable, PySem.W.mg_of X G a_NoDrawing, PySem.W.mg_of X G a_NoKind, PySem.W.mg_of X G a_NoStanding, PySem.W.mg_of X G a_NoChange, PySem.W.mg_of X G a_NoMirror, PySem.W.mg_of X G a_NoRoot, PySem.W.mg_of X G a_NoText, PySem.W.mg_of X G a_NoRow, PySem.W.mg_of X G a_NoName, own_cls KB (PySem.W.mg_of X G a_LimbError) e_LimbError, own_cls KB (PySem.W.mg_of X G a_NoDrawing) e_NoDrawing, own_under KB e_NoDrawing m_R n_R, ⟨y_ga, y_gt, y_cl, y_so, y_sb⟩, cls_of_mro y_so, y_t1, y_t2, y_v⟩
  have C1 : Cal l.prog w K mg base "is_whole" 1 spWholeA := ⟨_, _, _, ok_wholeA F1 T , PySem.W.mg_of X G a1, k1, b1⟩
  have C3 : Cal l.prog w K mg base "is_arrow" 2 spArrow := ⟨_, _, _, ok_arrow F3 T C1, PySem.W.mg_of X G a3, k3, b3⟩
  have C2 : Cal l.prog w K mg base "makes_drawing" 3 spMakes := ⟨_, _, _, ok_makes F2 T C1 C3, PySem.W.mg_of X G a2, k2, b2⟩
  have C4 : Cal l.prog w K mg base "_law_cell" 1 (spCell K) := ⟨_, _, _, ok_cell F4 T , PySem.W.mg_of X G a4, k4, b4⟩
  have C5 : Cal l.prog w K mg base "_law_bag" 1 spBag := ⟨_, _, _, ok_bag F5 T , PySem.W.mg_of X G a5, k5, b5⟩
  have C6 : Cal l.prog w K mg base "_law_draw" 1 spDraw := ⟨_, _, _, ok_draw F6 T , PySem.W.mg_of X G a6, k6, b6⟩
  have C7 : Cal l.prog w K mg base "_law_order" 2 spOrder := ⟨_, _, _, ok_order F7 T C6, PySem.W.mg_of X G a7, k7, b7⟩
  have C8 : Cal l.prog w K mg base "_law_rest_edges" 2 (spOut way1) := ⟨_, _, _, ok_rest F8 T C6, PySem.W.mg_of X G a8, k8, b8⟩
  have C9 : Cal l.prog w K mg base "_law_bad_edges" 2 (spOut way0) := ⟨_, _, _, ok_bad F9 T C6, PySem.W.mg_of X G a9, k9, b9⟩
  have C10 : Cal l.prog w K mg base "_law_edges" 3 (spOut way1) := ⟨_, _, _, ok_edges F10 T C6 C9 C8, PySem.W.mg_of X G a10, k10, b10⟩
  have C11 : Cal l.prog w K mg base "_law_drawn" 4 (spOut way1) := ⟨_, _, _, ok_drawn F11 T C6 C10 C7, PySem.W.mg_of X G a11, k11, b11⟩
  have C17 : CalIE l.prog w K mg base "Drawing" C 4 (spInit C (⟨x_LimbError, x_NoGround, x_NoNumber, x_NoTable, x_NoDrawing, x_NoKind, x_NoStanding, x_NoChange, x_NoMirror, x_NoRoot, x_NoText, x_NoRow, x_NoName⟩ : Cs).NoDrawing) := ⟨_, _, _, ok_init F17 T XT C2, ⟨mk, a17, i17, kc⟩, PySem.W.mg_of X G aC, b17⟩
  have C12 : Cal l.prog w K mg base "_law_spoiled" 2 spBadD := ⟨_, _, _, ok_spoiled F12 T C6, PySem.W.mg_of X G a12, k12, b12⟩
  have C13 : Cal l.prog w K mg base "_law_strange" 2 spOddD := ⟨_, _, _, ok_strange F13 T C6, PySem.W.mg_of X G a13, k13, b13⟩
  have C14 : Cal l.prog w K mg base "_law_refused" 6 spRefused := ⟨_, _, _, ok_refused F14 T XT C17, PySem.W.mg_of X G a14, k14, b14⟩
  have C15 : Cal l.prog w K mg base "_law_made" 6 spLMade := ⟨_, _, _, ok_lmade F15 T C17, PySem.W.mg_of X G a15, k15, b15⟩
  exact ok_law F16 T C4 C5 C6 C11 C12 C13 C15 C14
theorem walk {l : PySem.W.OpenLaw} {q : Program} {loose : List Str} {XP : (Str → Option Value) → Heap → Prop} {YP : World → Heap → Prop} {d : DefRec} {K : Params → PySem.W.Frag} (hn : l.most = some 63) (hdf : d.params.defaults = [])
    (hY : ∀ (w : World) (h : Heap), YP w h → (K w.params).In h)
    (F : ∀ (w : World) (mg : Str → Option Value) (fa : Addr) (h : Heap), (K w.params).In h → h.Ns mainGlobals mg → mg d.name = some (.ref fa) →
      ∃ fd : FuncData, (∀ (s : Shared) (u : Value), BindsTo s fd ⟨[u], []⟩ [("_law_script", u)]) ∧ ∀ base : Heap, (K w.params).In base → base.Ns mainGlobals mg → FnOk l.prog w (K w.params) mg base CX0 8 fa fd ["_law_script"] (spLaw (K w.params))) :
    PySem.W.WalkO q loose XP YP l.row.toRowW d [] (fun f vs => PySem.call f vs) :=
  L2.walk_of (n := 63) (k := 8) (x := "_law_script") (CX := fun _ => CX0) (sp := fun w => spLaw (K w.params)) hn (by decide) hdf ⟨rfl, by decide, by decide⟩ hY F (fun _ _ a ns hl _ hS => ⟨a, ns, rfl, hS, hl, fun _ => rfl⟩) (fun _ _ _ _ _ h => h)
end Pf
def PySem.W.Fast.tw1858214993285629182 : Nat := 0
def PySem.W.Fast.tw8606903233137167913 : Nat := 0
def PySem.W.Fast.tw2387219811241646321 : Nat := 0
def PySem.W.Fast.tw4820317217700233943 : Nat := 0
def PySem.W.Fast.tw13880903226666548191 : Nat := 0
def PySem.W.Fast.tw9758740319884679762 : Nat := 0
def PySem.W.Fast.tw18006044774137423532 : Nat := 0
def PySem.W.Fast.tw17148728122062213301 : Nat := 0
def PySem.W.Fast.tw11291038444426489190 : Nat := 0
def PySem.W.Fast.tw14291226382357019543 : Nat := 0
def PySem.W.Fast.tw15296297073947025358 : Nat := 0
def PySem.W.Fast.tw17256743471796431643 : Nat := 0
def PySem.W.Fast.tw1942132416944934963 : Nat := 0
def PySem.W.Fast.tw1570877413933603705 : Nat := 0
def PySem.W.Fast.tw18390128572189748806 : Nat := 0
def PySem.W.Fast.tw13498860837628497026 : Nat := 0
def PySem.W.Fast.tw6718159734597349319 : Nat := 0
def PySem.W.Fast.tw10102846447993256138 : Nat := 0
def PySem.W.Fast.tw5032964915584794268 : Nat := 0
def PySem.W.Fast.tw11476023448369166942 : Nat := 0
def PySem.W.Fast.tw10723241652759169064 : Nat := 0
def PySem.W.Fast.tw1985971373277074285 : Nat := 0
def PySem.W.Fast.tw14288991178678345117 : Nat := 0
def PySem.W.Fast.tw2338925434895424221 : Nat := 0
def PySem.W.Fast.tw9945567945508509620 : Nat := 0
def PySem.W.Fast.tw11773554562401203108 : Nat := 0
def PySem.W.Fast.tw18433092746905510102 : Nat := 0
def PySem.W.Fast.tw17185214786826768715 : Nat := 0
def PySem.W.Fast.tw12493827599741641181 : Nat := 0
def PySem.W.Fast.tw16604744424893438908 : Nat := 0
def PySem.W.Fast.tw13299271427070620673 : Nat := 0
open PySem PySem.W PyProof.Rows
set_option maxRecDepth 100000 in
set_option maxHeartbeats 0 in
theorem PySem.Challenge.cw_limbtables_k13_drawings_refused_holds : PySem.Challenge.rw_limbtables_k13_drawings_refused.Holds := by
  w_on; o_law; k_head; (case hw => w_witness2)
  k_fill
  refine Pf.walk (l := PySem.Challenge.rw_limbtables_k13_drawings_refused) rfl rfl (fun w h Y => PySem.W.kIn_of Y) ?F
  case F =>
    intro w mg fa h KX G hmg
    refine' Pf.all_mk KX G hmg ?a1 ?l1 ?c1 ?k1 ?a2 ?l2 ?c2 ?k2 ?a3 ?l3 ?c3 ?k3 ?a4 ?l4 ?c4 ?k4 ?a5 ?l5 ?c5 ?k5 ?a6 ?l6 ?c6 ?k6 ?a7 ?l7 ?c7 ?k7 ?a8 ?l8 ?c8 ?k8 ?a9 ?l9 ?c9 ?k9 ?a10 ?l10 ?c10 ?k10 ?a11 ?l11 ?c11 ?k11 ?a12 ?l12 ?c12 ?k12 ?a13 ?l13 ?c13 ?k13 ?a14 ?l14 ?c14 ?k14 ?a15 ?l15 ?c15 ?k15 ?a16 ?l16 ?c16 ?k16 ?aC ?a17 ?i17 ?l17 ?c17 ?k17 ?pg ?hd ?po ?sa ?mk ?kc ?nM ?nA ?g1 ?g2 ?z0 ?z1 ?z2 ?z3 ?z4 ?z5 ?z6 ?z7 ?z8 ?z9 ?a_LimbError ?a_NoGround ?a_NoNumber ?a_NoTable ?a_NoDrawing ?a_NoKind ?a_NoStanding ?a_NoChange ?a_NoMirror ?a_NoRoot ?a_NoText ?a_NoRow ?a_NoName ?e_LimbError ?e_NoDrawing ?m_R ?n_R ?y_ga ?y_gt ?y_cl ?y_so ?y_sb ?y_t1 ?y_t2 ?y_v
    (case a1 => k_is)
    (case l1 => k_is)
    (case c1 => k_is)
    (case k1 => k_is)
    (case a2 => k_is)
    (case l2 => k_is)
    (case c2 => k_is)
    (case k2 => k_is)
    (case a3 => k_is)
    (case l3 => k_is)
    (case c3 => k_is)
    (case k3 => k_is)
    (case a4 => k_is)
    (case l4 => k_is)
    (case c4 => k_is)
    (case k4 => k_is)
    (case a5 => k_is)
    (case l5 => k_is)
    (case c5 => k_is)
    (case k5 => k_is)
    (case a6 => k_is)
    (case l6 => k_is)
    (case c6 => k_is)
    (case k6 => k_is)
    (case a7 => k_is)
    (case l7 => k_is)
    (case c7 => k_is)
    (case k7 => k_is)
    (case a8 => k_is)
    (case l8 => k_is)
    (case c8 => k_is)
    (case k8 => k_is)
    (case a9 => k_is)
    (case l9 => k_is)
    (case c9 => k_is)
    (case k9 => k_is)
    (case a10 => k_is)
    (case l10 => k_is)
    (case c10 => k_is)
    (case k10 => k_is)
    (case a11 => k_is)
    (case l11 => k_is)
    (case c11 => k_is)
    (case k11 => k_is)
    (case a12 => k_is)
    (case l12 => k_is)
    (case c12 => k_is)
    (case k12 => k_is)
    (case a13 => k_is)
    (case l13 => k_is)
    (case c13 => k_is)
    (case k13 => k_is)
    (case a14 => k_is)
    (case l14 => k_is)
    (case c14 => k_is)
    (case k14 => k_is)
    (case a15 => k_is)
    (case l15 => k_is)
    (case c15 => k_is)
    (case k15 => k_is)
    (case a16 => k_is)
    (case l16 => k_is)
    (case c16 => k_is)
    (case k16 => k_is)
    (case aC => k_is)
    (case a17 => k_is)
    (case i17 => k_is)
    (case l17 => k_is)
    (case c17 => k_is)
    (case k17 => k_is)
    (case pg => k_is)
    (case hd => k_is)
    (case po => k_is)
    (case sa => k_is)
    (case mk => k_is)
    (case kc => k_is)
    (case nM => k_is)
    (case nA => k_is)
    (case g1 => k_is)
    (case g2 => k_is)
    (case z0 => k_is)
    (case z1 => k_is)
    (case z2 => k_is)
    (case z3 => k_is)
    (case z4 => k_is)
    (case z5 => k_is)
    (case z6 => k_is)
    (case z7 => k_is)
    (case z8 => k_is)
    (case z9 => k_is)
    (case a_LimbError => k_is)
    (case a_NoGround => k_is)
    (case a_NoNumber => k_is)
    (case a_NoTable => k_is)
    (case a_NoDrawing => k_is)
    (case a_NoKind => k_is)
    (case a_NoStanding => k_is)
    (case a_NoChange => k_is)
    (case a_NoMirror => k_is)
    (case a_NoRoot => k_is)
    (case a_NoText => k_is)
    (case a_NoRow => k_is)
    (case a_NoName => k_is)
    (case e_LimbError => k_exc)
    (case e_NoDrawing => k_exc)
    (case m_R => k_is)
    (case n_R => decide)
    (case y_ga => k_is)
    (case y_gt => k_is)
    (case y_cl => k_is)
    (case y_so => k_is)
    (case y_sb => k_is)
    (case y_t1 => kit_is)
    (case y_t2 => kit_is)
    (case y_v => kit_is)
#print axioms PySem.Challenge.cw_limbtables_k13_drawings_refused_holds

