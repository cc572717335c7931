import PyProof.Rows.All
import Wide.All
import OpenK.AllK
import Wide.FinOn
import Lean
import PyProof.EqAt
import PyProof.EqKinds
import PyProof.TupleCall
import PyProof.NeData
import PyProof.Rows.SumAny
import PyProof.ListRange
import PyProof.Rows.Range3
import OpenK.KOwn
import KE.KTryMore
import PyProof.RulesAs
import PyProof.MinMaxWalk
import PyProof.WalkInts
import PyProof.Rows.CallKwBuiltin
import KE.KMinKey
import PyProof.Draws
import OpenK.KMake
import PySem.Challenge.RW_eightsides_k34_partners
set_option Elab.async false
set_option linter.all false
set_option maxRecDepth 100000
/-! THE HAND LAYER, for ints, bools, texts, own classes, LISTS and tuples (index, slices, in, append, pop ..), calls, loops. Paste it whole ahead of your own text; what your proof does not reach may be deleted. -/
namespace L2
open PySem PySem.Spec PyProof.Rows

/-- a key: an int or a str -/
abbrev Key := Sum Int Str
def keyIs : Key → Value → Bool
  | .inl k, v => Value.isInt k v
  | .inr x, v => Value.isStrOf x v
def keyH (w : World) : Key → Int
  | .inl k => hashInt k
  | .inr x => hashStr w x
theorem keyIs_shape : ∀ {k : Key} {v : Value}, keyIs k v = true → (∃ i t, k = Sum.inl i ∧ v = Value.int i t) ∨ (∃ x t, k = Sum.inr x ∧ v = Value.str x t)
  | .inl i, v, h => by
    obtain ⟨t, e⟩ := Value.isInt_shape (k := i) (v := v) h
    exact .inl ⟨i, t, rfl, e⟩
  | .inr x, v, h => by
    obtain ⟨t, e⟩ := Value.isStrOf_shape (x := x) (v := v) h
    exact .inr ⟨x, t, rfl, e⟩
theorem key_ll (a b : Int) : decide ((Sum.inl a : Key) = Sum.inl b) = (a == b) := by
  by_cases e : a = b
  · subst e; simp
  · have h : ¬ (Sum.inl a : Key) = Sum.inl b := fun q => e (Sum.inl.inj q)
    rw [decide_eq_false h]
    exact (beq_eq_false_iff_ne.mpr e).symm
theorem key_rr (a b : Str) : decide ((Sum.inr a : Key) = Sum.inr b) = decide (a = b) := by
  by_cases e : a = b
  · subst e; simp
  · have h : ¬ (Sum.inr a : Key) = Sum.inr b := fun q => e (Sum.inr.inj q)
    rw [decide_eq_false h, decide_eq_false e]
theorem key_lr (a : Int) (b : Str) : decide ((Sum.inl a : Key) = Sum.inr b) = false := decide_eq_false (fun q => nomatch q)
theorem key_rl (a : Str) (b : Int) : decide ((Sum.inr a : Key) = Sum.inl b) = false := decide_eq_false (fun q => nomatch q)

def mixKind (prog : Program) (w : World) : PySem.KeyKind prog w Key where
  is := keyIs
  hash := keyH w
  inj := fun v a b ha hb => by
    rcases keyIs_shape ha with ⟨i, t, rfl, rfl⟩ | ⟨x, t, rfl, rfl⟩
    · rcases keyIs_shape hb with ⟨j, u, rfl, e⟩ | ⟨y, u, rfl, e⟩
      · injection e with e1 _; rw [e1]
      · exact nomatch e
    · rcases keyIs_shape hb with ⟨j, u, rfl, e⟩ | ⟨y, u, rfl, e⟩
      · exact nomatch e
      · injection e with e1 _; rw [e1]
  byValue := fun k v h => by
    rcases keyIs_shape h with ⟨i, t, rfl, rfl⟩ | ⟨x, t, rfl, rfl⟩ <;> rfl
  pyHash := fun hv h => by
    rcases keyIs_shape hv with ⟨i, t, rfl, rfl⟩ | ⟨x, t, rfl, rfl⟩
    · exact wpAny_pyHash_int h
    · exact wpAny_pyHash_str h
  eqBool := fun hu hv h => by
    rcases keyIs_shape hu with ⟨i, t, rfl, rfl⟩ | ⟨x, t, rfl, rfl⟩
    · rcases keyIs_shape hv with ⟨j, u, rfl, rfl⟩ | ⟨y, u, rfl, rfl⟩
      · rw [key_ll] at h; exact wpAny_eqBool_int h
      · rw [key_lr] at h; exact SeqAt.EqAt.int_str i t y u _ _ _ _ h
    · rcases keyIs_shape hv with ⟨j, u, rfl, rfl⟩ | ⟨y, u, rfl, rfl⟩
      · rw [key_rl] at h; exact SeqAt.EqAt.str_int x t j u _ _ _ _ h
      · rw [key_rr] at h; exact wpAny_eqBool_str h
  «strs» := fun k x t v h => by
    rcases keyIs_shape h with ⟨i, u, rfl, e⟩ | ⟨y, u, rfl, e⟩
    · exact nomatch e
    · injection e with e1 _
      subst e1
      cases v <;> rfl

end L2

namespace L2
open PySem PySem.Spec PyProof.Rows

/-- a value, without the heap -/
inductive V where
  | non | bl (b : Bool) | int (i : Int) | str (x : Str) | byt (b : Array UInt8) | flt (b : UInt64) | ref (a : Addr) | ty (n : String)
  deriving DecidableEq

def RelV : V → Value → Prop
  | .non, u => u = Value.none
  | .bl b, u => u = Value.bool b
  | .int i, u => ∃ t, u = Value.int i t
  | .str x, u => ∃ t, u = Value.str x t
  | .byt b, u => ∃ t, u = Value.bytes b t
  | .flt b, u => ∃ t, u = Value.float b t
  | .ref a, u => u = Value.ref a
  | .ty n, u => u = Value.type n

abbrev Vals : List V → List Value → Prop := Paired RelV
theorem Vals.length {xs : List V} {us : List Value} (r : Vals xs us) : xs.length = us.length := Paired.length r
theorem Vals.get : ∀ {xs : List V} {us : List Value} {i : Nat} {x : V}, Vals xs us → xs[i]? = some x → ∃ u, us[i]? = some u ∧ RelV x u
  | _, _, _, _, .nil, e => by simp at e
  | _, _, 0, _, .cons r _, e => by simp at e; subst e; exact ⟨_, rfl, r⟩
  | _, _, i + 1, x, .cons _ t, e => by
    obtain ⟨u, h1, h2⟩ := Vals.get (i := i) (x := x) t (by simpa using e)
    exact ⟨u, by simpa using h1, h2⟩
theorem Vals.set {x : V} {u : Value} (r : RelV x u) : ∀ {xs : List V} {us : List Value} (i : Nat), Vals xs us → Vals (xs.set i x) (us.set i u)
  | _, _, _, .nil => .nil
  | _, _, 0, .cons _ t => .cons r t
  | _, _, i + 1, .cons q t => .cons q (Vals.set r i t)
theorem Vals.append : ∀ {xs ys : List V} {us ws : List Value}, Vals xs us → Vals ys ws → Vals (xs ++ ys) (us ++ ws)
  | _, _, _, _, .nil, s => s
  | _, _, _, _, .cons r t, s => .cons r (Vals.append t s)

def RelO : Option V → Option Value → Prop
  | some v, some u => RelV v u
  | none, none => True
  | _, _ => False
def KV {κ : Type} : List (κ × V) → List (κ × Value) → Prop := Paired fun (p : κ × V) (q : κ × Value) => p.1 = q.1 ∧ RelV p.2 q.2

/-- a key of a dict (00_mix): an int or a text -/
def kV : Key → V
  | .inl i => .int i
  | .inr x => .str x

/-- what stands at a tracked address -/
inductive HO where
  /-- a list -/
  | lst (xs : List V)
  /-- a tuple (never changes) -/
  | tup (xs : List V)
  /-- a dict whose keys are ints and texts; one whose keys are tuples of ints and texts (the empty one is both) -/
  | dK (kvs : List (Key × V)) | dT (kvs : List (List Key × V))
  /-- a set of ints: its members, its size -/
  | set (S : Int → Bool) (n : Nat)
  /-- an instance of the class at C, its dict at dx, its attributes -/
  | ins (C dx : Addr) (fs : List (Str × V))
  /-- the dict of the instance at x -/
  | own (x : Addr)
  /-- the dict of an exception -/
  | xd (fs : List (Str × V))
  /-- a bound method, f of x -/
  | met (f x : Addr)
  /-- a range object lo, lo + 1, .. below hi -/
  | rng (lo hi : Int)
  /-- a thing that is known to the object (the script; a dict while a loop walks it): read, never written while it is so -/
  | frz (o : Obj) (u : HO)
  /-- a code object's table -/
  | tbl (ps : Array Value)
  /-- any other thing, by what is true of its one object (a def of one's own: SetO a S n := HO.ext fun h => ..) -/
  | ext (φ : Heap → Prop)

abbrev Hp := Addr → Option HO
def upd (H : Hp) (a : Addr) (o : HO) : Hp := fun b => if b = a then some o else H b
theorem upd_same {H : Hp} {a : Addr} {o : HO} : upd H a o a = some o := by unfold upd; rw [if_pos rfl]
theorem upd_ne {H : Hp} {a b : Addr} {o : HO} (h : b ≠ a) : upd H a o b = H b := by unfold upd; rw [if_neg h]
/-- two objects of different content stand apart -/
theorem ne_of {H : Hp} {a b : Addr} {o u : HO} (h : H a = some o) (h' : H b = some u) (d : o ≠ u) : a ≠ b := by
  intro e; subst e; rw [h] at h'; exact d (Option.some.inj h')
theorem ne_of_none {H : Hp} {a b : Addr} {o : HO} (h : H a = some o) (h' : H b = none) : a ≠ b := by
  intro e; subst e; rw [h] at h'; cases h'

section
variable (P : Program) (w : World)
def ObjOk (H : Hp) (h : Heap) (a : Addr) : HO → Prop
  | .lst xs => xs.length ≤ sizeLine ∧ ∃ (its : List Value) (n : Nat), Vals xs its ∧ h.get? a = some { cls := .type "list", data := .seq its.toArray n }
  | .tup xs => xs.length ≤ sizeLine ∧ ∃ its : List Value, Vals xs its ∧ IsTup h a its.toArray
  | .dK kvs => kvs.length ≤ sizeLine ∧ (a == sysModules) = false ∧ ∃ vs, KV kvs vs ∧ h.DictOf (mixKind P w) a vs
  | .dT kvs => kvs.length ≤ sizeLine ∧ (a == sysModules) = false ∧ ∃ xs : List (List Key × Addr × Value),
      Paired (fun (p : List Key × V) (q : List Key × Addr × Value) => p.1 = q.1 ∧ H q.2.1 = some (.tup (p.1.map kV)) ∧ RelV p.2 q.2.2) kvs xs ∧
      ∃ o es ep, h.get? a = some o ∧ o.ExactDict ∧ o.data = .dict es ep ∧ es.toList = xs.map (entryOfKey (tupleKind (mixKind P w))) ∧ (xs.map (·.1)).Nodup
  | .set S n => h.SetOf (intKind P w) a S n
  | .ins C dx fs => H dx = some (.own a) ∧ fs.length ≤ 1000 ∧ dx ≠ a ∧ h.get? a = some (PySem.W.instObj C dx) ∧
      ∃ mA, h.Ns1 dx mA ∧ (∀ f, RelO (fs.lookup f) (mA f)) ∧ PySem.Within mA (fs.map (·.1))
  | .own _ => ∃ o, h.get? a = some o
  | .xd fs => ∃ mA, h.Ns1 a mA ∧ ∀ f, RelO (fs.lookup f) (mA f)
  | .rng lo hi => ∃ t u v, h.get? a = some { cls := .type "range", data := .fields #[.int lo t, .int hi u, .int 1 v] }
  | .frz o u => h.get? a = some o ∧ ObjOk H h a u
  | .tbl ps => h.get? a = some { cls := .none, data := .fields ps }
  | .met f x => h.get? a = some (PySem.W.methodObj (.ref f) (.ref x))
  | .ext φ => φ h ∧ (∃ o, h.get? a = some o) ∧ ∀ h1 h2 : Heap, φ h1 → (∀ o, h1.get? a = some o → h2.get? a = some o) → φ h2
/-- the abstract heap is held -/
def HOk (H : Hp) (h : Heap) : Prop := ∀ a o, H a = some o → ObjOk P w H h a o
end

section
variable {P : Program} {w : World} {H H' : Hp} {h h' : Heap} {a : Addr} {o : HO}
theorem ObjOk.lt (x : ObjOk P w H h a o) : a < h.objs.size := by
  cases o with
  | lst xs => obtain ⟨_, _, _, _, e⟩ := x; exact Heap.lt_size e
  | tup xs => obtain ⟨_, _, _, p⟩ := x; exact p.lt
  | dK kvs => obtain ⟨_, _, _, _, o, _, _, e, _⟩ := x; exact Heap.lt_size e
  | dT kvs => obtain ⟨_, _, _, _, o, _, _, e, _⟩ := x; exact Heap.lt_size e
  | set S n => obtain ⟨o, _, _, _, e, _⟩ := x; exact Heap.lt_size e
  | ins C dx fs => obtain ⟨_, _, _, e, _⟩ := x; exact Heap.lt_size e
  | own y => obtain ⟨_, e⟩ := x; exact Heap.lt_size e
  | xd fs => obtain ⟨_, ⟨_, _, _, e, _⟩, _⟩ := x; exact Heap.lt_size e
  | rng lo hi => obtain ⟨_, _, _, e⟩ := x; exact Heap.lt_size e
  | frz ob u => obtain ⟨e, _⟩ := x; exact Heap.lt_size e
  | tbl ps => exact Heap.lt_size (show h.get? a = some _ from x)
  | met f y => exact Heap.lt_size (show h.get? a = some _ from x)
  | ext φ => obtain ⟨_, ⟨_, e⟩, _⟩ := x; exact Heap.lt_size e
theorem Paired.mapP {α β : Type} {F G : α → β → Prop} : ∀ {l₁ : List α} {l₂ : List β}, Paired F l₁ l₂ → (∀ a b, F a b → G a b) → Paired G l₁ l₂
  | _, _, .nil, _ => .nil
  | _, _, .cons r t, f => .cons (f _ _ r) (Paired.mapP t f)
/-- what an object's description leans on: its own object, its own dict, the tuples -/
theorem ObjOk.stay (x : ObjOk P w H h a o) (k : ∀ b u, (b = a ∨ H b = some (.own a)) → h.get? b = some u → h'.get? b = some u)
    (ho : ∀ b, H b = some (.own a) → H' b = some (.own a)) (ht : ∀ b xs, H b = some (.tup xs) → H' b = some (.tup xs)) : ObjOk P w H' h' a o := by
  induction o with
  | lst xs => obtain ⟨z, its, n, r, e⟩ := x; exact ⟨z, its, n, r, k _ _ (.inl rfl) e⟩
  | tup xs => obtain ⟨z, its, r, ob, e, c⟩ := x; exact ⟨z, its, r, ob, k _ _ (.inl rfl) e, c⟩
  | dK kvs => obtain ⟨z, y, vs, r, ob, es, ep, e, c⟩ := x; exact ⟨z, y, vs, r, ob, es, ep, k _ _ (.inl rfl) e, c⟩
  | dT kvs =>
    obtain ⟨z, y, xs, r, ob, es, ep, e, c⟩ := x
    exact ⟨z, y, xs, Paired.mapP r fun p q z => ⟨z.1, ht _ _ z.2.1, z.2.2⟩, ob, es, ep, k _ _ (.inl rfl) e, c⟩
  | set S n => obtain ⟨ob, es, ep, t, e, c⟩ := x; exact ⟨ob, es, ep, t, k _ _ (.inl rfl) e, c⟩
  | ins C dx fs =>
    obtain ⟨d, z, ne, e, mA, ⟨od, es, ep, e2, c⟩, r⟩ := x
    exact ⟨ho _ d, z, ne, k _ _ (.inl rfl) e, mA, ⟨od, es, ep, k _ _ (.inr d) e2, c⟩, r⟩
  | own y => obtain ⟨ob, e⟩ := x; exact ⟨ob, k _ _ (.inl rfl) e⟩
  | xd fs => obtain ⟨mA, ⟨od, es, ep, e, c⟩, r⟩ := x; exact ⟨mA, ⟨od, es, ep, k _ _ (.inl rfl) e, c⟩, r⟩
  | rng lo hi => obtain ⟨t, u, v, e⟩ := x; exact ⟨t, u, v, k _ _ (.inl rfl) e⟩
  | frz ob u ih => obtain ⟨e, q⟩ := x; exact ⟨k _ _ (.inl rfl) e, ih q⟩
  | tbl ps =>
    have e : h.get? a = some { cls := .none, data := .fields ps } := x
    show h'.get? a = some { cls := .none, data := .fields ps }
    exact k a _ (.inl rfl) e
  | met f y =>
    have e : h.get? a = some (PySem.W.methodObj (.ref f) (.ref y)) := x
    show h'.get? a = some (PySem.W.methodObj (.ref f) (.ref y))
    exact k a _ (.inl rfl) e
  | ext φ => obtain ⟨p, ⟨o, e⟩, st⟩ := x; exact ⟨st _ _ p fun o q => k _ _ (.inl rfl) q, ⟨o, k _ _ (.inl rfl) e⟩, st⟩
theorem HOk.lt (x : HOk P w H h) (e : H a = some o) : a < h.objs.size := (x a o e).lt
theorem HOk.fresh (x : HOk P w H h) (e : h.objs.size ≤ a) : H a = none := by
  cases q : H a with
  | none => rfl
  | some u => exact absurd (Nat.lt_of_lt_of_le (x.lt q) e) (Nat.lt_irrefl _)
/-- every object of the heap is kept -/
theorem HOk.kept (x : HOk P w H h) (k : ∀ b u, h.get? b = some u → h'.get? b = some u) : HOk P w H h' := fun a o e =>
  (x a o e).stay (fun b u _ q => k b u q) (fun _ q => q) fun _ _ q => q
/-- a new object is laid and tracked -/
theorem HOk.laid (x : HOk P w H h) (k : ∀ b u, h.get? b = some u → h'.get? b = some u) (hp : h.objs.size ≤ a) (new : ObjOk P w (upd H a o) h' a o) : HOk P w (upd H a o) h' := fun b u e => by
  have hn := x.fresh hp
  by_cases hb : b = a
  · subst hb; rw [upd_same] at e; cases e; exact new
  · rw [upd_ne hb] at e
    exact (x b u e).stay (fun c v _ q => k c v q) (fun c q => by rw [upd_ne (ne_of_none q hn)]; exact q) fun c xs q => by rw [upd_ne (ne_of_none q hn)]; exact q
end

/-- what may be read as u: it is u, or a known u -/
def Rd (H : Hp) (a : Addr) (u : HO) : Prop := H a = some u ∨ ∃ o, H a = some (.frz o u)
theorem Rd.ok {P : Program} {w : World} {H : Hp} {h : Heap} {a : Addr} {u : HO} (r : Rd H a u) (x : HOk P w H h) : ObjOk P w H h a u := by
  rcases r with r | ⟨o, r⟩
  · exact x a u r
  · obtain ⟨_, q⟩ := x a _ r
    exact q
/-- what may be written -/
def Mut : Option HO → Prop
  | some (.lst _) => True
  | some (.dK _) => True
  | some (.dT _) => True
  | some (.set _ _) => True
  | some (.ins _ _ _) => True
  | some (.ext _) => True
  | _ => False
section
variable {P : Program} {w : World} {H : Hp} {h h' : Heap} {x e : Addr} {o' : HO}
/-- the object at e is changed: x itself, or the dict of the instance x -/
theorem HOk.write (ok : HOk P w H h) (mu : Mut (H x)) (he : e = x ∨ H e = some (.own x)) (k : ∀ b u, b ≠ e → h.get? b = some u → h'.get? b = some u) (heo : ∃ u, h'.get? e = some u)
    (new : ObjOk P w (upd H x o') h' x o') : HOk P w (upd H x o') h' := fun b u q => by
  have nown : ∀ c y, H c = some (.own y) → c ≠ x := fun c y r z => by subst z; rw [r] at mu; exact mu
  have ntup : ∀ c xs, H c = some (.tup xs) → c ≠ x := fun c xs r z => by subst z; rw [r] at mu; exact mu
  by_cases hb : b = x
  · subst hb; rw [upd_same] at q; cases q; exact new
  · rw [upd_ne hb] at q
    by_cases hbe : b = e
    · have q' : H b = some (.own x) := by
        rcases he with z | z
        · exact absurd (hbe.trans z) hb
        · rw [hbe]; exact z
      rw [q] at q'; cases q'
      obtain ⟨v, hv⟩ := heo
      exact ⟨v, by rw [hbe]; exact hv⟩
    · refine (ok b u q).stay (fun c v hc r => k c v ?_ r) (fun c r => by rw [upd_ne (nown c b r)]; exact r) fun c xs r => by rw [upd_ne (ntup c xs r)]; exact r
      rcases hc with rfl | hc
      · exact hbe
      · rintro rfl
        rcases he with z | z
        · exact nown c b hc z
        · rw [hc] at z; cases z; exact hb rfl
end

/-! ### kept unless tracked; of the frames at fs (the callers') the slots may change (an exception that passes writes there); of the records at ex (iterators) nothing is said -/
structure Un (fs ex : List Addr) (H H' : Hp) (h h' : Heap) : Prop where
  keep : ∀ b o, h.get? b = some o → H b = none → b ∉ fs → b ∉ ex → h'.get? b = some o
  slot : ∀ b o, h.get? b = some o → H b = none → b ∈ fs → b ∉ ex → ∃ sl, h'.get? b = some { o with slots := sl }
  free : ∀ b o, h.get? b = some o → H b = none → b ∉ ex → H' b = none
  there : ∀ b o, h.get? b = some o → b ∉ ex → ∃ o', h'.get? b = some o'
  tups : ∀ b xs, H b = some (.tup xs) → H' b = some (.tup xs)
  frzs : ∀ b o u, H b = some (.frz o u) → H' b = some (.frz o u)
  tbls : ∀ b ps, H b = some (.tbl ps) → ∃ more, H' b = some (.tbl (ps ++ more))
section
variable {fs fs' ex ex' : List Addr} {H H1 H2 : Hp} {h h1 h2 h' : Heap} {a x e : Addr} {o : HO}
theorem Un.any (u : Un fs ex H H1 h h1) {b : Addr} {ob : Obj} (q : h.get? b = some ob) (n : H b = none) (hx : b ∉ ex) : ∃ sl, h1.get? b = some { ob with slots := sl } := by
  by_cases hb : b ∈ fs
  · exact u.slot b ob q n hb hx
  · exact ⟨ob.slots, u.keep b ob q n hb hx⟩
theorem Un.trans (a : Un fs ex H H1 h h1) (b : Un fs ex H1 H2 h1 h2) : Un fs ex H H2 h h2 where
  keep := fun c ob q n hc hx => b.keep c ob (a.keep c ob q n hc hx) (a.free c ob q n hx) hc hx
  slot := fun c ob q n hc hx => by
    obtain ⟨sl, e1⟩ := a.slot c ob q n hc hx
    obtain ⟨sl', e2⟩ := b.slot c _ e1 (a.free c ob q n hx) hc hx
    exact ⟨sl', e2⟩
  free := fun c ob q n hx => by
    obtain ⟨o', e1⟩ := a.there c ob q hx
    exact b.free c o' e1 (a.free c ob q n hx) hx
  there := fun c ob q hx => by
    obtain ⟨o', e1⟩ := a.there c ob q hx
    exact b.there c o' e1 hx
  tups := fun c xs q => b.tups c xs (a.tups c xs q)
  frzs := fun c ob xs q => b.frzs c ob xs (a.frzs c ob xs q)
  tbls := fun c ps q => by
    obtain ⟨m1, e1⟩ := a.tbls c ps q
    obtain ⟨m2, e2⟩ := b.tbls c _ e1
    exact ⟨m1 ++ m2, by rw [e2, Array.append_assoc]⟩
theorem Un.kept (k : ∀ b u, h.get? b = some u → h'.get? b = some u) : Un fs ex H H h h' :=
  ⟨fun b ob q _ _ _ => k b ob q, fun b ob q _ _ _ => ⟨ob.slots, k b ob q⟩, fun _ _ _ n _ => n, fun b ob q _ => ⟨ob, k b ob q⟩, fun _ _ q => q, fun _ _ _ q => q, fun _ ps q => ⟨#[], by rw [q]; simp⟩⟩
theorem Un.refl : Un fs ex H H h h := Un.kept fun _ _ q => q
theorem Un.laid (k : ∀ b u, h.get? b = some u → h'.get? b = some u) (hp : h.objs.size ≤ a) (hn : H a = none) : Un fs ex H (upd H a o) h h' where
  keep := fun b u q _ _ _ => k b u q
  slot := fun b u q _ _ _ => ⟨u.slots, k b u q⟩
  free := fun b u q n _ => by rw [upd_ne (Nat.ne_of_lt (Nat.lt_of_lt_of_le (Heap.lt_size q) hp))]; exact n
  there := fun b u q _ => ⟨u, k b u q⟩
  tups := fun b xs q => by rw [upd_ne (ne_of_none q hn)]; exact q
  frzs := fun b u xs q => by rw [upd_ne (ne_of_none q hn)]; exact q
  tbls := fun b ps q => ⟨#[], by rw [upd_ne (ne_of_none q hn), q]; simp⟩
theorem Un.write (mu : Mut (H x)) (he : e = x ∨ H e = some (.own x)) (k : ∀ b u, b ≠ e → h.get? b = some u → h'.get? b = some u) (heo : ∃ u, h'.get? e = some u) : Un fs ex H (upd H x o) h h' := by
  have hx : ∀ b, H b = none → b ≠ x := fun b n z => by subst z; rw [n] at mu; exact mu
  have hb : ∀ b, H b = none → b ≠ e := fun b n z => by
    subst z
    rcases he with r | r
    · exact hx b n r
    · rw [n] at r; cases r
  have hm : ∀ b u, H b = some u → ¬ Mut (some u) → b ≠ x := fun b u q nm z => by subst z; rw [q] at mu; exact nm mu
  refine ⟨fun b u q n _ _ => k b u (hb b n) q, fun b u q n _ _ => ⟨u.slots, k b u (hb b n) q⟩, fun b u q n _ => by rw [upd_ne (hx b n)]; exact n, fun b u q _ => ?_,
    fun b xs q => by rw [upd_ne (hm b _ q fun z => z)]; exact q, fun b u xs q => by rw [upd_ne (hm b _ q fun z => z)]; exact q, fun b ps q => ⟨#[], by rw [upd_ne (hm b _ q fun z => z), q]; simp⟩⟩
  by_cases hbe : b = e
  · subst hbe; exact heo
  · exact ⟨u, k b u hbe q⟩
end

/-! ### the heap without what is tracked -/
def trk (h : Heap) (H : Hp) : List Addr := (List.range h.objs.size).filter fun a => (H a).isSome
def hidT (h : Heap) (H : Hp) : Heap := PySem.W.hideAll h (trk h H)
theorem hidT_size (h : Heap) (H : Hp) : (hidT h H).objs.size = h.objs.size := PySem.W.hideAll_size _ _
theorem hidT_get {h : Heap} {H : Hp} {b : Addr} {o : Obj} (e : h.get? b = some o) (n : H b = none) : (hidT h H).get? b = some o :=
  PySem.W.hideAll_get _ e fun hm => by
    have q : (H b).isSome = true := (List.mem_filter.mp hm).2
    rw [n] at q; simp at q
theorem of_hidT {h : Heap} {H : Hp} {b : Addr} {o : Obj} (e : (hidT h H).get? b = some o) : h.get? b = some o ∧ H b = none := by
  have e' : h.get? b = some o := PySem.W.of_hideAll (trk h H) e
  refine ⟨e', ?_⟩
  cases q : H b with
  | none => rfl
  | some x =>
    have hm : b ∈ trk h H := List.mem_filter.mpr ⟨List.mem_range.mpr (Heap.lt_size e'), by simp [q]⟩
    have z : (hidT h H).get? b = none := PySem.W.hideAll_none (trk h H) hm
    rw [z] at e; cases e

/-! ### OpenK's ledger, filled with every new object but one -/
def allNews (g h : Heap) (L : Addr) : List (Addr × Obj) := (List.range h.objs.size).filterMap fun a => if a = L ∨ (g.get? a).isSome = true then none else (h.get? a).map fun o => (a, o)
def rest (g h : Heap) (L d : Addr) : List (Addr × Obj) := (allNews g h L).filter fun p => decide (p.1 ≠ d)
end L2

namespace L2
open PySem PySem.Spec PyProof.Rows

/-- the module's facts, over the base: the heap at the law's entry without what is tracked there -/
structure Mod (K : PySem.W.Frag) (mg : Str → Option Value) (base : Heap) : Prop where
  kin : K.In base
  glob : base.Ns mainGlobals mg
  blt : ∃ mb, base.Ns builtinsNs mb ∧ ∀ x : Str, x ≠ "__name__" → mb x = bootBuiltins x
  nolimit : base.NoLimit

/-- the context: a def's body (or a comprehension's block) running. base: fixed through the whole law; s₀, H₀: the entry; outer: the frames whose slots others may change (a def's callers); stack: all frames that run;
   ex: iterators that were made ahead of the entry and are walked here (a comprehension's); fn: the names whose cells were made at the entry (a def: all; a comprehension's block: its own); calm: not within an except suite; pn: pins that every state bears; xe: what is wanted of an exception that leaves the code -/
structure Cx where
  prog : Program
  w : World
  K : PySem.W.Frag
  mg : Str → Option Value
  base : Heap
  A : Around
  N : List Str
  s₀ : Shared
  H₀ : Hp
  env : Env
  outer : List Env
  stack : List Env
  ex : List Addr
  fn : Str → Bool
  calm : Bool
  pn : List (Addr × Obj)
  xe : Value → Shared → Prop
/-- the callers' frames -/
def frs (l : List Env) : List Addr := l.filterMap (·.frame)
abbrev Cx.fs (X : Cx) : List Addr := frs X.outer

def Vis (sc : Scope) (x : Str) : Prop := sc.names.lookup x = some .local ∨ sc.names.lookup x = some .cell ∨ sc.names.lookup x = some .free
def Loc (sc : Scope) (x : Str) : Prop := sc.names.lookup x = some .local ∨ sc.names.lookup x = some .cell
def Look (env : Env) (h : Heap) (m : Str → Option Value) (x : Str) (u : Value) : Prop :=
  (env.kindOf x = some .local ∧ m x = some u) ∨ ((env.kindOf x = some .cell ∨ env.kindOf x = some .free) ∧ ∃ c, env.cells.lookup x = some c ∧ h.IsCell c (some u))

structure Cx.Ok (X : Cx) : Prop where
  mod : Mod X.K X.mg X.base
  kind : X.env.scope.kind = .function
  glob : X.env.globals = mainGlobals
  blt : X.env.builtins = builtinsNs
  above : X.s₀.heap.objs.size ≤ X.env.locals
  inj : ∀ x y c, X.env.cells.lookup x = some c → X.env.cells.lookup y = some c → x = y
  has : ∀ x, (X.env.kindOf x = some .cell ∨ X.env.kindOf x = some .free) → ∃ c, X.env.cells.lookup x = some c
  cab : ∀ x c, X.fn x = true → X.env.cells.lookup x = some c → X.s₀.heap.objs.size ≤ c
  hd : X.calm = true → X.A.handled = none
  frames : X.A.frames = some X.stack
  stk : X.stack = X.outer ∨ (X.stack = X.env :: X.outer ∧ X.env.frame = some X.env.locals)
  exf : ∀ b ∈ X.ex, b ≠ X.env.locals ∧ ∀ x c, X.env.cells.lookup x = some c → c ≠ b
  bs : ∀ b o, X.base.get? b = some o → X.s₀.heap.get? b = some o ∧ X.H₀ b = none
  bsz : X.base.objs.size ≤ X.s₀.heap.objs.size
  noex : ∀ b o, X.base.get? b = some o → b ∉ X.ex
  exfs : ∀ b ∈ X.ex, b ∉ X.fs
  funs : X.s₀.heap.FunFrames X.base X.outer
  frf : ∀ b ∈ X.fs, X.H₀ b = none

structure Inv (X : Cx) (pins : List (Addr × Obj)) (σ : List (Option V)) (H : Hp) (s : Shared) : Prop where
  ok : X.Ok
  os : s.os = X.s₀.os
  bare : AllBare s.gens
  base : Un X.fs X.ex X.H₀ H X.s₀.heap s.heap
  loc : ∃ m, s.heap.Ns X.env.locals m ∧ ∀ (i : Nat) (x : Str) (v : V), X.N[i]? = some x → σ[i]? = some (some v) → Vis X.env.scope x → ∃ u, RelV v u ∧ Look X.env s.heap m x u
  cell : ∀ x c, X.env.cells.lookup x = some c → ∃ v, s.heap.IsCell c v
  free : H X.env.locals = none
  freeC : ∀ x c, X.env.cells.lookup x = some c → H c = none
  pin : ∀ p ∈ X.pn ++ pins, s.heap.get? p.1 = some p.2 ∧ H p.1 = none ∧ p.1 ≠ X.env.locals ∧ p.1 ∉ X.fs ∧ ∀ v, p.2.data ≠ .cell v
  hok : HOk X.prog X.w H s.heap
  len : σ.length = X.N.length

section
variable {X : Cx} {pins : List (Addr × Obj)} {σ : List (Option V)} {H H' : Hp} {s : Shared} {h' : Heap}

theorem Cx.Ok.nofr (ok : X.Ok) {b : Addr} {o : Obj} (e : X.base.get? b = some o) : b ∉ X.fs := fun hb => by
  have := (ok.funs.mem hb).1
  rw [e] at this; cases this
theorem Inv.bs (I : Inv X pins σ H s) : ∀ b o, X.base.get? b = some o → s.heap.get? b = some o ∧ H b = none := fun b o e =>
  ⟨I.base.keep b o (I.ok.bs b o e).1 (I.ok.bs b o e).2 (I.ok.nofr e) (I.ok.noex b o e), I.base.free b o (I.ok.bs b o e).1 (I.ok.bs b o e).2 (I.ok.noex b o e)⟩
theorem Inv.bk (I : Inv X pins σ H s) : ∀ b o, X.base.get? b = some o → s.heap.get? b = some o := fun b o e => (I.bs b o e).1
theorem Inv.mod (I : Inv X pins σ H s) : Mod X.K X.mg X.base := I.ok.mod
theorem Inv.kIn (I : Inv X pins σ H s) : X.K.In s.heap := I.ok.mod.kin.keeps I.bk
theorem Inv.lt (I : Inv X pins σ H s) : X.env.locals < s.heap.objs.size := let ⟨_, hn, _⟩ := I.loc; hn.lt
theorem Inv.sz (I : Inv X pins σ H s) : X.s₀.heap.objs.size ≤ s.heap.objs.size := Nat.le_trans I.ok.above (Nat.le_of_lt I.lt)
theorem Inv.nofs (I : Inv X pins σ H s) {a : Addr} (h : s.heap.objs.size ≤ a) : a ∉ X.fs := fun hb => by
  obtain ⟨_, o, ho, _⟩ := I.ok.funs.mem hb
  exact absurd (Nat.lt_of_lt_of_le (Heap.lt_size ho) (Nat.le_trans I.sz h)) (Nat.lt_irrefl _)
theorem Inv.cne (I : Inv X pins σ H s) : ∀ x c, X.env.cells.lookup x = some c → c ≠ X.env.locals := fun x c e z => by
  obtain ⟨v, o, ho, hd⟩ := I.cell x c e
  obtain ⟨m, ⟨o', es, ep, ho', hd', _⟩, _⟩ := I.loc
  rw [z, ho'] at ho; cases ho; rw [hd'] at hd; cases hd
theorem Inv.funs (I : Inv X pins σ H s) : s.heap.FunFrames X.base X.outer := by
  have all : ∀ (l : List Env), (∀ b ∈ frs l, b ∈ X.fs) → X.s₀.heap.FunFrames X.base l → s.heap.FunFrames X.base l := by
    intro l
    induction l with
    | nil => intro _ _; trivial
    | cons env r ih =>
      intro hs hl
      obtain ⟨hk, ⟨L, o, hf, hn, ho, hd⟩, hr⟩ := hl
      have hL : L ∈ X.fs := hs L (by unfold frs; rw [List.filterMap_cons, hf]; exact List.mem_cons_self)
      obtain ⟨sl, e⟩ := I.base.slot L o ho (I.ok.frf L hL) hL fun z => I.ok.exfs L z hL
      exact ⟨hk, ⟨L, _, hf, hn, e, hd⟩, ih (fun b hb => hs b (by unfold frs; rw [List.filterMap_cons, hf]; exact List.mem_cons_of_mem _ hb)) hr⟩
  exact all X.outer (fun _ hb => hb) I.ok.funs

/-- the frames that run, for a call -/
theorem Inv.stack (I : Inv X pins σ H s) : s.heap.FunFrames X.base X.stack := by
  rcases I.ok.stk with e | ⟨e, hf⟩
  · rw [e]; exact I.funs
  · rw [e]
    obtain ⟨m, hn, _⟩ := I.loc
    refine .cons (by rw [I.ok.kind]; decide) hf hn ?_ I.funs
    exact Heap.get?_none_of_le (Nat.le_trans I.ok.bsz I.ok.above)
theorem Inv.stkSub (I : Inv X pins σ H s) : ∀ b ∈ frs X.stack, b ∈ X.env.locals :: X.fs := fun b hb => by
  rcases I.ok.stk with e | ⟨e, hf⟩
  · rw [e] at hb; exact List.mem_cons_of_mem _ hb
  · rw [e] at hb
    unfold frs at hb
    rw [List.filterMap_cons, hf] at hb
    exact hb
theorem Inv.stkFree (I : Inv X pins σ H s) : ∀ b ∈ frs X.stack, H b = none := fun b hb => by
  rcases List.mem_cons.mp (I.stkSub b hb) with e | hb
  · rw [e]; exact I.free
  · obtain ⟨_, o, ho, _⟩ := I.ok.funs.mem hb
    exact I.base.free b o ho (I.ok.frf b hb) fun z => I.ok.exfs b z hb

/-- THE STEP: the untracked objects but the frame and the records at ch are kept (the callers' frames up to slots), the frame's map is kept, the new abstract heap is held -/
theorem Inv.step {g' : Array GenState} {t' : Nat} {d' : Drawn} {ch : List Addr} (I : Inv X pins σ H s)
    (hch : ∀ b ∈ ch, (b ∈ X.ex ∨ X.s₀.heap.objs.size ≤ b) ∧ b ≠ X.env.locals ∧ (∀ x c, X.env.cells.lookup x = some c → c ≠ b) ∧ ∀ p ∈ X.pn ++ pins, p.1 ≠ b)
    (keep : ∀ b o, b ≠ X.env.locals → b ∉ X.fs → b ∉ ch → s.heap.get? b = some o → H b = none → h'.get? b = some o)
    (slot : ∀ b o, b ≠ X.env.locals → b ∈ X.fs → b ∉ ch → s.heap.get? b = some o → H b = none → ∃ sl, h'.get? b = some { o with slots := sl }) (free : ∀ b o, b ∉ ch → s.heap.get? b = some o → H b = none → H' b = none)
    (there : ∀ b o, b ∉ ch → s.heap.get? b = some o → ∃ o', h'.get? b = some o')
    (tups : ∀ b xs, H b = some (.tup xs) → H' b = some (.tup xs)) (frzs : ∀ b o u, H b = some (.frz o u) → H' b = some (.frz o u)) (tbls : ∀ b ps, H b = some (.tbl ps) → ∃ more, H' b = some (.tbl (ps ++ more)))
    (ns : ∀ m, s.heap.Ns X.env.locals m → h'.Ns X.env.locals m) (hok : HOk X.prog X.w H' h') (hg : AllBare g') :
    Inv X pins σ H' { s with heap := h', gens := g', drawn := d', toks := t' } := by
  have neL : ∀ b o, X.s₀.heap.get? b = some o → b ≠ X.env.locals := fun b o e => Nat.ne_of_lt (Nat.lt_of_lt_of_le (Heap.lt_size e) I.ok.above)
  have neC : ∀ b o, X.s₀.heap.get? b = some o → b ∉ X.ex → b ∉ ch := fun b o e hx hb => by
    rcases (hch b hb).1 with z | z
    · exact hx z
    · exact absurd (Nat.lt_of_lt_of_le (Heap.lt_size e) z) (Nat.lt_irrefl _)
  have cellK : ∀ x c, X.env.cells.lookup x = some c → ∀ v, s.heap.IsCell c v → h'.IsCell c v := fun x c e v ⟨o, ho, hd⟩ => by
    have nch : c ∉ ch := fun z => (hch c z).2.2.1 x c e rfl
    by_cases hc : c ∈ X.fs
    · obtain ⟨sl, q⟩ := slot c o (I.cne x c e) hc nch ho (I.freeC x c e)
      exact ⟨_, q, hd⟩
    · exact ⟨o, keep c o (I.cne x c e) hc nch ho (I.freeC x c e), hd⟩
  refine ⟨I.ok, I.os, hg, ⟨fun b o e n hb hx => ?_, fun b o e n hb hx => ?_, fun b o e n hx => ?_, fun b o e hx => ?_, fun b xs e => tups b xs (I.base.tups b xs e), fun b o xs e => frzs b o xs (I.base.frzs b o xs e), fun b ps e => ?_⟩, ?_, fun x c e => ?_, ?_, fun x c e => ?_, fun p hp => ?_, hok, I.len⟩
  · exact keep b o (neL b o e) hb (neC b o e hx) (I.base.keep b o e n hb hx) (I.base.free b o e n hx)
  · obtain ⟨sl, e1⟩ := I.base.slot b o e n hb hx
    obtain ⟨sl', e2⟩ := slot b _ (neL b o e) hb (neC b o e hx) e1 (I.base.free b o e n hx)
    exact ⟨sl', e2⟩
  · obtain ⟨o', e1⟩ := I.base.there b o e hx
    exact free b o' (neC b o e hx) e1 (I.base.free b o e n hx)
  · obtain ⟨o', e1⟩ := I.base.there b o e hx
    exact there b o' (neC b o e hx) e1
  · obtain ⟨m1, e1⟩ := I.base.tbls b ps e
    obtain ⟨m2, e2⟩ := tbls b _ e1
    exact ⟨m1 ++ m2, by rw [e2, Array.append_assoc]⟩
  · obtain ⟨m, hn, hl⟩ := I.loc
    refine ⟨m, ns m hn, fun i x v e1 e2 e3 => ?_⟩
    obtain ⟨u, r, l⟩ := hl i x v e1 e2 e3
    refine ⟨u, r, ?_⟩
    rcases l with l | ⟨k, c, e, z⟩
    · exact .inl l
    · exact .inr ⟨k, c, e, cellK x c e _ z⟩
  · obtain ⟨v, z⟩ := I.cell x c e
    exact ⟨v, cellK x c e v z⟩
  · obtain ⟨m, ⟨o, _, _, ho, _⟩, _⟩ := I.loc
    exact free _ o (fun z => (hch _ z).2.1 rfl) ho I.free
  · obtain ⟨v, o, ho, hd⟩ := I.cell x c e
    exact free c o (fun z => (hch c z).2.2.1 x c e rfl) ho (I.freeC x c e)
  · obtain ⟨e, n, ne, nf, d⟩ := I.pin p hp
    have nch : p.1 ∉ ch := fun z => (hch p.1 z).2.2.2 p hp rfl
    exact ⟨keep p.1 p.2 ne nf nch e n, free p.1 p.2 nch e n, ne, nf, d⟩
/-- .. where the frame's own object is kept too -/
theorem Inv.un {t' : Nat} (I : Inv X pins σ H s) (u : Un X.fs [] H H' s.heap h') (hok : HOk X.prog X.w H' h') : Inv X pins σ H' { s with heap := h', toks := t' } := by
  obtain ⟨m, ⟨o, es, ep, ho, r⟩, _⟩ := id I.loc
  obtain ⟨sl, hL⟩ := u.any ho I.free (by simp)
  exact I.step (g' := s.gens) (d' := s.drawn) (ch := []) (fun _ z => nomatch z) (fun b o _ hb _ e n => u.keep b o e n hb (by simp)) (fun b o _ hb _ e n => u.slot b o e n hb (by simp)) (fun b o _ e n => u.free b o e n (by simp)) (fun b o _ e => u.there b o e (by simp)) u.tups u.frzs u.tbls (fun m' hm => by
    obtain ⟨o', es', ep', ho', r'⟩ := hm
    rw [ho] at ho'; cases ho'
    exact ⟨_, es', ep', hL, r'⟩) hok I.bare
/-- behind a call (or a comprehension's block): the slots of this frame may have changed too, the records at ch may have turned -/
theorem Inv.call {g' : Array GenState} {t' : Nat} {d' : Drawn} {ch : List Addr} (I : Inv X pins σ H s) (u : Un (frs X.stack) ch H H' s.heap h') (hok : HOk X.prog X.w H' h') (hg : AllBare g')
    (hch : ∀ b ∈ ch, (b ∈ X.ex ∨ X.s₀.heap.objs.size ≤ b) ∧ b ≠ X.env.locals ∧ (∀ x c, X.env.cells.lookup x = some c → c ≠ b) ∧ ∀ p ∈ X.pn ++ pins, p.1 ≠ b) :
    Inv X pins σ H' { s with heap := h', gens := g', drawn := d', toks := t' } := by
  obtain ⟨m, ⟨o, es, ep, ho, r⟩, _⟩ := id I.loc
  obtain ⟨sl, hL⟩ := u.any ho I.free fun z => (hch _ z).2.1 rfl
  exact I.step (ch := ch) hch (fun b o hL hb hc e n => u.keep b o e n (fun z => (List.mem_cons.mp (I.stkSub b z)).elim hL hb) hc) (fun b o _ _ hc e n => u.any e n hc) (fun b o hc e n => u.free b o e n hc) (fun b o hc e => u.there b o e hc) u.tups u.frzs u.tbls (fun m' hm => by
    obtain ⟨o', es', ep', ho', r'⟩ := hm
    rw [ho] at ho'; cases ho'
    exact ⟨_, es', ep', hL, r'⟩) hok hg
/-- an untracked record of ours (an iterator) has turned -/
theorem Inv.turned {t' : Nat} {it : Addr} (I : Inv X pins σ H s) (k : ∀ b o, b ≠ it → s.heap.get? b = some o → h'.get? b = some o) (hn : H it = none) (hL : it ≠ X.env.locals)
    (h1 : it ∈ X.ex ∨ X.s₀.heap.objs.size ≤ it) (h2 : ∀ x c, X.env.cells.lookup x = some c → c ≠ it) (h3 : ∀ p ∈ X.pn ++ pins, p.1 ≠ it) : Inv X pins σ H { s with heap := h', toks := t' } := by
  have nit : ∀ b u, H b = some u → b ≠ it := fun b u e z => by rw [z, hn] at e; cases e
  refine I.step (g' := s.gens) (d' := s.drawn) (ch := [it]) (fun b hb => ?_) (fun b o _ _ hc e _ => k b o (fun z => hc (by simp [z])) e) (fun b o _ _ hc e _ => ⟨o.slots, k b o (fun z => hc (by simp [z])) e⟩) (fun _ _ _ _ n => n)
    (fun b o hc e => ⟨o, k b o (fun z => hc (by simp [z])) e⟩) (fun _ _ e => e) (fun _ _ _ e => e) (fun b ps e => ⟨#[], by rw [e]; simp⟩) (fun m hm => ?_) (fun b u e => ?_) I.bare
  · have e : b = it := by simpa using hb
    subst e
    exact ⟨h1, hL, h2, h3⟩
  · obtain ⟨o, es, ep, ho, r⟩ := hm
    exact ⟨o, es, ep, k _ o (Ne.symm hL) ho, r⟩
  · refine (I.hok b u e).stay (fun c v hc q => k c v ?_ q) (fun _ q => q) fun _ _ q => q
    rcases hc with z | z
    · rw [z]; exact nit b u e
    · exact nit c _ z
theorem Inv.tok (I : Inv X pins σ H s) (t : Nat) : Inv X pins σ H { s with toks := t } := I.un (h' := s.heap) (t' := t) Un.refl I.hok
/-- all objects kept -/
theorem Inv.kept {t' : Nat} (I : Inv X pins σ H s) (k : ∀ b u, s.heap.get? b = some u → h'.get? b = some u) : Inv X pins σ H { s with heap := h', toks := t' } := I.un (Un.kept k) (I.hok.kept k)
/-- a new object laid and tracked -/
theorem Inv.laid {a : Addr} {o : HO} {t' : Nat} (I : Inv X pins σ H s) (k : ∀ b u, s.heap.get? b = some u → h'.get? b = some u) (hp : s.heap.objs.size ≤ a) (new : ObjOk X.prog X.w (upd H a o) h' a o) :
    Inv X pins σ (upd H a o) { s with heap := h', toks := t' } := I.un (Un.laid k hp (I.hok.fresh hp)) (I.hok.laid k hp new)
/-- an object written -/
theorem Inv.write {x e : Addr} {o : HO} {t' : Nat} (I : Inv X pins σ H s) (mu : Mut (H x)) (he : e = x ∨ H e = some (.own x)) (k : ∀ b u, b ≠ e → s.heap.get? b = some u → h'.get? b = some u) (heo : ∃ u, h'.get? e = some u)
    (new : ObjOk X.prog X.w (upd H x o) h' x o) : Inv X pins σ (upd H x o) { s with heap := h', toks := t' } := I.un (Un.write mu he k heo) (I.hok.write mu he k heo new)
theorem Inv.pins_of {pins' : List (Addr × Obj)} (I : Inv X pins σ H s) (h : ∀ p ∈ pins', s.heap.get? p.1 = some p.2 ∧ H p.1 = none ∧ p.1 ≠ X.env.locals ∧ p.1 ∉ X.fs ∧ ∀ v, p.2.data ≠ .cell v) : Inv X pins' σ H s :=
  ⟨I.ok, I.os, I.bare, I.base, I.loc, I.cell, I.free, I.freeC, fun p hp => (List.mem_append.mp hp).elim (fun z => I.pin p (List.mem_append_left _ z)) (h p), I.hok, I.len⟩

theorem nodup_ix {N : List Str} (hN : N.Nodup) {i j : Nat} {x : Str} (a : N[i]? = some x) (b : N[j]? = some x) : i = j := by
  obtain ⟨h1, e1⟩ := List.getElem?_eq_some_iff.mp a
  obtain ⟨h2, e2⟩ := List.getElem?_eq_some_iff.mp b
  exact (List.getElem_inj hN).mp (e1.trans e2.symm)

/-- a name is stored; what changed -/
theorem store_ok2 {M : Model} {A : Around} {E : Value → Shared → Prop} {i : Nat} {x : Str} {v : V} {u : Value} {Q : Unit → Shared → Prop} (I : Inv X pins σ H s) (hN : X.N.Nodup) (hi : X.N[i]? = some x) (hx : Loc X.env.scope x) (r : RelV v u)
    (h : ∀ s', Inv X pins (σ.set i (some v)) H s' → (∃ a, Heap.SameBut a s.heap s'.heap ∧ (a = X.env.locals ∨ X.env.cells.lookup x = some a)) → Q () s') (hf : X.fn x = true ∨ X.env.scope.names.lookup x = some .local := by first | exact .inl rfl | exact .inr rfl | assumption) : wpAny M A (storeName X.env x u) Q E s := by
  obtain ⟨m, hn, hl⟩ := id I.loc
  have hcls : (X.env.scope.kind == .class || (X.env.scope.kind == .module && X.env.locals != X.env.globals)) = false := by rw [I.ok.kind]; rfl
  have hiσ : i < σ.length := by rw [I.len]; exact (List.getElem?_eq_some_iff.mp hi).1
  have cne := I.cne
  have tracked : ∀ {a : Addr} {h' : Heap}, (∃ o, s.heap.get? a = some o ∧ H a = none) → Heap.SameBut a s.heap h' → HOk X.prog X.w H h' := fun {a h'} ha hs b ob e => by
    obtain ⟨_, _, hfree⟩ := ha
    refine (I.hok b ob e).stay (fun c w' hc q => (hs.2 c ?_).trans q) (fun _ q => q) fun _ _ q => q
    rintro rfl
    rcases hc with rfl | hc
    · rw [hfree] at e; cases e
    · rw [hfree] at hc; cases hc
  rcases hx with hk | hk
  · refine wpAny_storeName_local hk hn (fun h' hn' hs => ?_) hcls
    obtain ⟨oL, _, _, hoL, _⟩ := id hn
    refine h _ ⟨I.ok, I.os, I.bare, ⟨fun b o e n hb hx => ?_, fun b o e n hb hx => ?_, I.base.free, fun b o e hx => ?_, I.base.tups, I.base.frzs, I.base.tbls⟩, ⟨_, hn', fun j y v' e1 e2 e3 => ?_⟩, fun y c e => ?_, I.free, I.freeC, fun p hp => ?_, tracked ⟨oL, hoL, I.free⟩ hs, by simpa using I.len⟩ ⟨_, hs, .inl rfl⟩
    · exact (hs.2 b (Nat.ne_of_lt (Nat.lt_of_lt_of_le (Heap.lt_size e) I.ok.above))).trans (I.base.keep b o e n hb hx)
    · obtain ⟨sl, e1⟩ := I.base.slot b o e n hb hx
      exact ⟨sl, (hs.2 b (Nat.ne_of_lt (Nat.lt_of_lt_of_le (Heap.lt_size e) I.ok.above))).trans e1⟩
    · obtain ⟨o', e1⟩ := I.base.there b o e hx
      exact ⟨o', (hs.2 b (Nat.ne_of_lt (Nat.lt_of_lt_of_le (Heap.lt_size e) I.ok.above))).trans e1⟩
    · by_cases hj : j = i
      · subst hj
        rw [hi] at e1; cases e1
        rw [List.getElem?_set_self hiσ] at e2
        cases e2
        exact ⟨u, r, .inl ⟨hk, by simp⟩⟩
      · rw [List.getElem?_set_ne (Ne.symm hj)] at e2
        obtain ⟨u', r', q⟩ := hl j y v' e1 e2 e3
        refine ⟨u', r', ?_⟩
        rcases q with ⟨k, e⟩ | ⟨k, c, e, z⟩
        · refine .inl ⟨k, ?_⟩
          have : y ≠ x := fun e => hj (nodup_ix hN e1 (e ▸ hi))
          simp [this, e]
        · exact .inr ⟨k, c, e, z.sameBut hs (cne y c e)⟩
    · obtain ⟨w', z⟩ := I.cell y c e
      exact ⟨w', z.sameBut hs (cne y c e)⟩
    · obtain ⟨e, n, ne, nf, d⟩ := I.pin p hp
      exact ⟨(hs.2 p.1 ne).trans e, n, ne, nf, d⟩
  · have hfn : X.fn x = true := by
      rcases hf with z | z
      · exact z
      · rw [z] at hk; cases hk
    obtain ⟨c, hc⟩ := I.ok.has x (.inl hk)
    obtain ⟨w', z⟩ := I.cell x c hc
    refine wpAny_storeName_cell I.ok.kind hk hc z (fun h' hc' hs => ?_)
    obtain ⟨oc, hoc, hocd⟩ := id z
    refine h { s with heap := h' } ⟨I.ok, I.os, I.bare, ⟨fun b o e n hb hx => ?_, fun b o e n hb hx => ?_, I.base.free, fun b o e hx => ?_, I.base.tups, I.base.frzs, I.base.tbls⟩, ⟨m, hn.sameBut hs (Ne.symm (cne x c hc)), fun j y v' e1 e2 e3 => ?_⟩, fun y c' e => ?_, I.free, I.freeC, fun p hp => ?_, tracked ⟨oc, hoc, I.freeC x c hc⟩ hs, by simpa using I.len⟩ ⟨c, hs, .inr hc⟩
    · exact (hs.2 b (Nat.ne_of_lt (Nat.lt_of_lt_of_le (Heap.lt_size e) (I.ok.cab x c hfn hc)))).trans (I.base.keep b o e n hb hx)
    · obtain ⟨sl, e1⟩ := I.base.slot b o e n hb hx
      exact ⟨sl, (hs.2 b (Nat.ne_of_lt (Nat.lt_of_lt_of_le (Heap.lt_size e) (I.ok.cab x c hfn hc)))).trans e1⟩
    · obtain ⟨o', e1⟩ := I.base.there b o e hx
      exact ⟨o', (hs.2 b (Nat.ne_of_lt (Nat.lt_of_lt_of_le (Heap.lt_size e) (I.ok.cab x c hfn hc)))).trans e1⟩
    · by_cases hj : j = i
      · subst hj
        rw [hi] at e1; cases e1
        rw [List.getElem?_set_self hiσ] at e2
        cases e2
        exact ⟨u, r, .inr ⟨.inl hk, c, hc, hc'⟩⟩
      · rw [List.getElem?_set_ne (Ne.symm hj)] at e2
        obtain ⟨u', r', q⟩ := hl j y v' e1 e2 e3
        refine ⟨u', r', ?_⟩
        rcases q with q | ⟨k, c', e, z'⟩
        · exact .inl q
        · refine .inr ⟨k, c', e, z'.sameBut hs ?_⟩
          rintro rfl
          exact hj (nodup_ix hN e1 (I.ok.inj _ _ _ e hc ▸ hi))
    · by_cases hcc : c' = c
      · subst hcc; exact ⟨_, hc'⟩
      · obtain ⟨w2, z2⟩ := I.cell y c' e
        exact ⟨w2, z2.sameBut hs hcc⟩
    · obtain ⟨e, n, ne, nf, d⟩ := I.pin p hp
      refine ⟨(hs.2 p.1 ?_).trans e, n, ne, nf, d⟩
      intro q
      rw [q, hoc] at e
      have q' : oc = p.2 := Option.some.inj e
      exact d w' (by rw [← q']; exact hocd)
theorem store_ok {M : Model} {A : Around} {E : Value → Shared → Prop} {i : Nat} {x : Str} {v : V} {u : Value} {Q : Unit → Shared → Prop} (I : Inv X pins σ H s) (hN : X.N.Nodup) (hi : X.N[i]? = some x) (hx : Loc X.env.scope x) (r : RelV v u)
    (h : ∀ s', Inv X pins (σ.set i (some v)) H s' → Q () s') (hf : X.fn x = true ∨ X.env.scope.names.lookup x = some .local := by first | exact .inl rfl | exact .inr rfl | assumption) : wpAny M A (storeName X.env x u) Q E s :=
  store_ok2 I hN hi hx r (fun s' I' _ => h s' I') hf
/-- behind a call or a block, the state as it is -/
theorem Inv.call' {s' : Shared} {ch : List Addr} (I : Inv X pins σ H s) (ho : s'.os = s.os) (u : Un (frs X.stack) ch H H' s.heap s'.heap) (hok : HOk X.prog X.w H' s'.heap) (hg : AllBare s'.gens)
    (hch : ∀ b ∈ ch, (b ∈ X.ex ∨ X.s₀.heap.objs.size ≤ b) ∧ b ≠ X.env.locals ∧ (∀ x c, X.env.cells.lookup x = some c → c ≠ b) ∧ ∀ p ∈ X.pn ++ pins, p.1 ≠ b) : Inv X pins σ H' s' := by
  obtain ⟨h', g', d', t', o'⟩ := s'
  have e : o' = s.os := ho
  subst e
  exact I.call (g' := g') (t' := t') (d' := d') u hok hg hch
end

/-! ### the judgements -/
/-- an exception: its class, its own dict's address (where it has one), the abstract heap behind it -/
abbrev XK := Value → Option Addr → Hp → Prop
abbrev St := List (Option V)
abbrev VK := V → Hp → Prop
/-- an expression's reading; a test's; an argument list's -/
abbrev TE := St → Hp → VK → Prop
abbrev TT := St → Hp → (Bool → Hp → Prop) → Prop
abbrev TA := St → Hp → (List V → Hp → Prop) → Prop
/-- what is wanted behind a statement -/
structure Ends where
  nx : St → Hp → Prop
  rt : VK
  bk : St → Hp → Prop := fun _ _ => False
  ct : St → Hp → Prop := fun _ _ => False
abbrev TS := Ends → St → Hp → Prop

def EP (X : Cx) (pins : List (Addr × Obj)) (σ : St) (Q : VK) (u : Value) (s' : Shared) : Prop := ∃ v H', Inv X pins σ H' s' ∧ RelV v u ∧ Q v H'
def TP (X : Cx) (pins : List (Addr × Obj)) (σ : St) (Q : Bool → Hp → Prop) (b : Bool) (s' : Shared) : Prop := ∃ H', Inv X pins σ H' s' ∧ Q b H'
def AP (X : Cx) (pins : List (Addr × Obj)) (σ : St) (Q : List V → Hp → Prop) (us : List Value) (s' : Shared) : Prop := ∃ vs H', Inv X pins σ H' s' ∧ Vals vs us ∧ Q vs H'
def SP (X : Cx) (pins : List (Addr × Obj)) (D : Ends) (f : Flow) (s' : Shared) : Prop :=
  match f with
  | .next => ∃ σ' H', Inv X pins σ' H' s' ∧ D.nx σ' H'
  | .brk => ∃ σ' H', Inv X pins σ' H' s' ∧ D.bk σ' H'
  | .cont => ∃ σ' H', Inv X pins σ' H' s' ∧ D.ct σ' H'
  | .ret u => ∃ v σ' H', Inv X pins σ' H' s' ∧ RelV v u ∧ D.rt v H'

def PE (X : Cx) (e : Expr) (t : TE) : Prop :=
  ∀ (pins : List (Addr × Obj)) (s : Shared) (σ : St) (H : Hp) (Q : VK), Inv X pins σ H s → t σ H Q → wpAny (model X.prog X.w) X.A (eval e X.env) (EP X pins σ Q) X.xe s
def PT (X : Cx) (e : Expr) (t : TT) : Prop :=
  ∀ (pins : List (Addr × Obj)) (s : Shared) (σ : St) (H : Hp) (Q : Bool → Hp → Prop), Inv X pins σ H s → t σ H Q → wpAny (model X.prog X.w) X.A (isTrue e X.env (eval e X.env)) (TP X pins σ Q) X.xe s
/-- a test whatever its 'whole' is (and, or) -/
def PW (X : Cx) (e : Expr) (t : TT) : Prop :=
  ∀ (whole : Sem Value) (pins : List (Addr × Obj)) (s : Shared) (σ : St) (H : Hp) (Q : Bool → Hp → Prop), Inv X pins σ H s → t σ H Q → wpAny (model X.prog X.w) X.A (isTrue e X.env whole) (TP X pins σ Q) X.xe s
theorem PW.pt {X : Cx} {e : Expr} {t : TT} (h : PW X e t) : PT X e t := h _
/-- an argument list (no star), from the left -/
def PA (X : Cx) (es : List Expr) (t : TA) : Prop :=
  ∀ (pos : Pos) (pins : List (Addr × Obj)) (s : Shared) (σ : St) (H : Hp) (Q : List V → Hp → Prop), Inv X pins σ H s → t σ H Q → wpAny (model X.prog X.w) X.A (spliced (backTo pos (starEach es X.env))) (AP X pins σ Q) X.xe s
def PS (X : Cx) (st : Stmt) (t : TS) : Prop :=
  ∀ (pins : List (Addr × Obj)) (s : Shared) (σ : St) (H : Hp) (D : Ends), Inv X pins σ H s → t D σ H → wpAny (model X.prog X.w) X.A (exec st X.env) (SP X pins D) X.xe s
def PSs (X : Cx) (st : List Stmt) (t : TS) : Prop :=
  ∀ (pins : List (Addr × Obj)) (s : Shared) (σ : St) (H : Hp) (D : Ends), Inv X pins σ H s → t D σ H → wpAny (model X.prog X.w) X.A (execs st X.env) (SP X pins D) X.xe s
/-- weaken the end -/
theorem thn {α : Type} {t : Sem α} {Q Q' : α → Shared → Prop} {M : Model} {A : Around} {E : Value → Shared → Prop} {s : Shared} (h : wpAny M A t Q E s) (hQ : ∀ a s, Q a s → Q' a s) : wpAny M A t Q' E s := wpAny_mono h hQ fun _ _ x => x
end L2

namespace L2
open PySem PySem.Spec PyProof.Rows
section
variable {X : Cx}


/-! ### names and constants -/
def tVar (i : Nat) : TE := fun σ H Q => ∃ v, σ[i]? = some (some v) ∧ Q v H
def tC (v : V) : TE := fun _ H Q => Q v H
theorem pe_var {i : Nat} {x : Str} {pos : Pos} (hN : X.N[i]? = some x) (hv : Vis X.env.scope x) (hd : (x == ("__debug__" : Str)) = false := by decide) (hcd : (x == ("__classdict__" : Str)) = false := by decide) : PE X (.Name x pos) (tVar i) := by
  intro pins s σ H Q I h
  obtain ⟨v, e, h⟩ := h
  obtain ⟨m, hn, hl⟩ := I.loc
  obtain ⟨u, r, l⟩ := hl i x v hN e hv
  have fin : EP X pins σ Q u s := ⟨v, H, I, r, h⟩
  rcases l with ⟨hk, hm⟩ | ⟨hk, c, hc, hcell⟩
  · exact wpAny_Name (wpAny_loadName_local I.ok.kind hk hn hm fin) hd
  · rcases hk with hk | hk
    · exact wpAny_Name (wpAny_loadName_cell I.ok.kind hk hc hcell fin) hd
    · exact wpAny_Name (wpAny_loadName_free I.ok.kind hk hc hcell fin hcd) hd
theorem pe_int {i j pos} : PE X (.Constant (.int i) j pos) (tC (.int i)) := fun _ _ _ H _ I h => wpAny_Constant_int ⟨.int i, H, I.tok _, ⟨_, rfl⟩, h⟩
theorem pe_bl {b j pos} : PE X (.Constant (.bool b) j pos) (tC (.bl b)) := fun _ _ _ H _ I h => Constant_bool ⟨.bl b, H, I, rfl, h⟩
theorem pe_non {j pos} : PE X (.Constant .none j pos) (tC .non) := fun _ _ _ H _ I h => Constant_none ⟨.non, H, I, rfl, h⟩
theorem pe_str {x j pos} : PE X (.Constant (.str x) j pos) (tC (.str x)) := fun _ _ _ H _ I h => Calls.Constant_str ⟨.str x, H, I.tok _, ⟨_, rfl⟩, h⟩

/-- a global name of the def -/
def Gl (X : Cx) (x : Str) : Prop := X.env.kindOf x = some .globalImplicit
theorem ld_glob {E : Value → Shared → Prop} {pins : List (Addr × Obj)} {s : Shared} {σ : St} {H : Hp} {x : Str} {u : Value} {pos : Pos} {Q : Value → Shared → Prop} (I : Inv X pins σ H s) (hg : Gl X x) (hm : X.mg x = some u) (h : Q u s)
    (hd : (x == ("__debug__" : Str)) = false := by decide) : wpAny (model X.prog X.w) X.A (eval (.Name x pos) X.env) Q E s :=
  Calls.Name_function_global I.ok.kind hg (Calls.loadGlobal_global (by rw [I.ok.glob]; exact I.mod.glob.keeps I.bk) hm h) hd
theorem ld_blt {E : Value → Shared → Prop} {pins : List (Addr × Obj)} {s : Shared} {σ : St} {H : Hp} {x : Str} {u : Value} {pos : Pos} {Q : Value → Shared → Prop} (I : Inv X pins σ H s) (hg : Gl X x) (hm : X.mg x = none) (hv : bootBuiltins x = some u) (h : Q u s)
    (hn : x ≠ "__name__" := by decide) (hd : (x == ("__debug__" : Str)) = false := by decide) : wpAny (model X.prog X.w) X.A (eval (.Name x pos) X.env) Q E s := by
  obtain ⟨mb, h1, h2⟩ := I.mod.blt
  exact Calls.Name_function_global I.ok.kind hg (Calls.loadGlobal_builtin (by rw [I.ok.glob]; exact I.mod.glob.keeps I.bk) hm (by rw [I.ok.blt]; exact h1.keeps I.bk) ((h2 x hn).trans hv) h) hd
theorem pe_bltn {x : Str} {v : V} {u : Value} {pos : Pos} (hg : Gl X x) (hm : X.mg x = none) (hv : bootBuiltins x = some u) (r : RelV v u) (hn : x ≠ "__name__" := by decide) (hd : (x == ("__debug__" : Str)) = false := by decide) : PE X (.Name x pos) (tC v) :=
  fun _ _ _ H _ I h => ld_blt I hg hm hv ⟨v, H, I, r, h⟩ hn hd

/-! ### arithmetic -/
variable {a b : Expr} {ta tb : TE} {pos : Pos}

/-! ### comparisons -/
/-- a comparison as a value, as a test -/
def tB (t : TE) : TT := fun σ H Q => t σ H fun x H1 => ∃ c, x = .bl c ∧ Q c H1
/-- an expression whose value is a bool, as a test -/
theorem pt_val {e : Expr} {t : TE} (h : PE X e t) (he : ∀ whole, isTrue e X.env whole = (do let v ← whole; standAt e.pos; holding [v] (truthy v)) := by intro _; rfl) : PT X e (tB t) := by
  intro pins s σ H Q I hw
  refine isTrue_plain (thn (h pins s σ H _ I hw) fun v s1 ⟨x, H1, I1, r1, q1⟩ => ?_) (he _)
  obtain ⟨d, rfl, q⟩ := q1
  cases r1
  exact wpAny_truthy_bool ⟨H1, I1, q⟩

/-! ### and, or, not -/
variable {tA tB' : TT} {rest : List Expr}
def tAnd (t u : TT) : TT := fun σ H Q => t σ H fun c H1 => if c = true then u σ H1 Q else Q false H1
def tOr (t u : TT) : TT := fun σ H Q => t σ H fun c H1 => if c = true then Q true H1 else u σ H1 Q
def tNot (t : TT) : TT := fun σ H Q => t σ H fun c H1 => Q (!c) H1
theorem pw_and1 (ha : PT X a tA) : PW X (.BoolOp .And [a] pos) tA := by
  intro wh pins s σ H Q I h
  refine isTrue_and (thn (ha pins s σ H Q I h) fun c s1 e => ?_)
  cases c with
  | true => exact isTrue_and_nil e
  | false => exact e
theorem pw_or1 (ha : PT X a tA) : PW X (.BoolOp .Or [a] pos) tA := by
  intro wh pins s σ H Q I h
  refine isTrue_or (thn (ha pins s σ H Q I h) fun c s1 e => ?_)
  cases c with
  | false => exact isTrue_or_nil e
  | true => exact e
theorem pw_and (ha : PT X a tA) (hb : PW X (.BoolOp .And (b :: rest) pos) tB') : PW X (.BoolOp .And (a :: b :: rest) pos) (tAnd tA tB') := by
  intro wh pins s σ H Q I h
  refine isTrue_and (thn (ha pins s σ H _ I h) fun c s1 ⟨H1, I1, q1⟩ => ?_)
  cases c with
  | true => exact hb wh pins s1 σ H1 Q I1 q1
  | false => exact ⟨H1, I1, q1⟩
theorem pw_or (ha : PT X a tA) (hb : PW X (.BoolOp .Or (b :: rest) pos) tB') : PW X (.BoolOp .Or (a :: b :: rest) pos) (tOr tA tB') := by
  intro wh pins s σ H Q I h
  refine isTrue_or (thn (ha pins s σ H _ I h) fun c s1 ⟨H1, I1, q1⟩ => ?_)
  cases c with
  | true => exact ⟨H1, I1, q1⟩
  | false => exact hb wh pins s1 σ H1 Q I1 q1
theorem pt_not (ha : PT X a tA) : PT X (.UnaryOp .Not a pos) (tNot tA) := by
  intro pins s σ H Q I h
  exact isTrue_not (ha pins s σ H (fun c H1 => Q (!c) H1) I h)
/-- .. as values (bools) -/
def tAndV (ta tb : TE) : TE := fun σ H Q => ta σ H fun x H1 => ∃ c, x = .bl c ∧ if c = true then tb σ H1 Q else Q (.bl false) H1
def tNotV (ta : TE) : TE := fun σ H Q => ta σ H fun x H1 => ∃ c, x = .bl c ∧ Q (.bl (!c)) H1
theorem pe_one {op} {t : TE} (h : PE X a t) : PE X (.BoolOp op [a] pos) t := fun pins s σ H Q I hw => BoolOp_one (h pins s σ H Q I hw)
theorem pe_and (ha : PE X a ta) (hb : PE X (.BoolOp .And (b :: rest) pos) tb) : PE X (.BoolOp .And (a :: b :: rest) pos) (tAndV ta tb) := by
  intro pins s σ H Q I h
  refine BoolOp_and (thn (ha pins s σ H _ I h) fun v s1 ⟨x, H1, I1, r1, q1⟩ => ?_)
  obtain ⟨c, rfl, q1⟩ := q1
  cases r1
  refine wpAny_truthy_bool ?_
  cases c with
  | true => exact hb pins s1 σ H1 Q I1 q1
  | false => exact ⟨.bl false, H1, I1, rfl, q1⟩
theorem pe_not (ha : PE X a ta) : PE X (.UnaryOp .Not a pos) (tNotV ta) := by
  intro pins s σ H Q I h
  refine UnaryOp_ (thn (ha pins s σ H _ I h) fun v s1 ⟨x, H1, I1, r1, q1⟩ => ?_)
  obtain ⟨c, rfl, q1⟩ := q1
  cases r1
  exact not_of (wpAny_truthy_bool ⟨.bl (!c), H1, I1, rfl, q1⟩)
end
end L2

namespace L2
open PySem PySem.Spec PyProof.Rows

/-! ### a list, a tuple that is read: tracked, frozen, or an object of the module -/
def SqL (K : PySem.W.Frag) (H : Hp) (a : Addr) (xs : List V) : Prop :=
  Rd H a (.lst xs) ∨
    ∃ (o : Obj) (its : Array Value) (n : Nat), K.lookup a = some o ∧ o.cls = .type "list" ∧ o.dict = none ∧ o.data = .seq its n ∧ its.size ≤ sizeLine ∧ Vals xs its.toList
def SqT (K : PySem.W.Frag) (H : Hp) (a : Addr) (xs : List V) : Prop :=
  Rd H a (.tup xs) ∨
    ∃ (o : Obj) (its : Array Value) (n : Nat), K.lookup a = some o ∧ o.cls = .type "tuple" ∧ o.data = .seq its n ∧ its.size ≤ sizeLine ∧ Vals xs its.toList
def absV : Value → Option V
  | .none => some .non
  | .bool b => some (.bl b)
  | .int i _ => some (.int i)
  | .str x _ => some (.str x)
  | .bytes b _ => some (.byt b)
  | .float b _ => some (.flt b)
  | .ref a => some (.ref a)
  | .type n => some (.ty n)
  | _ => none
theorem RelV.abs {x : V} {u : Value} (r : RelV x u) : absV u = some x := by
  cases x with
  | non => cases r; rfl
  | bl _ => cases r; rfl
  | int _ => obtain ⟨t, rfl⟩ := r; rfl
  | str _ => obtain ⟨t, rfl⟩ := r; rfl
  | byt _ => obtain ⟨t, rfl⟩ := r; rfl
  | flt _ => obtain ⟨t, rfl⟩ := r; rfl
  | ref _ => cases r; rfl
  | ty _ => cases r; rfl
theorem RelV.inj {x y : V} {u : Value} (r : RelV x u) (q : RelV y u) : x = y := Option.some.inj (r.abs.symm.trans q.abs)
theorem Vals.inj : ∀ {xs ys : List V} {us : List Value}, Vals xs us → Vals ys us → xs = ys
  | _, _, _, .nil, .nil => rfl
  | _, _, _, .cons r t, .cons r' t' => by rw [r.inj r', Vals.inj t t']
section
variable {X : Cx} {pins : List (Addr × Obj)} {σ : St} {H : Hp} {s : Shared} {a : Addr} {xs ys : List V}
theorem SqL.of {K : PySem.W.Frag} (h : H a = some (.lst xs)) : SqL K H a xs := .inl (.inl h)
theorem SqT.of {K : PySem.W.Frag} (h : H a = some (.tup xs)) : SqT K H a xs := .inl (.inl h)
theorem Inv.list (I : Inv X pins σ H s) (h : SqL X.K H a xs) : ∃ its : List Value, Vals xs its ∧ PlainL s.heap a its.toArray ∧ xs.length ≤ sizeLine := by
  rcases h with h | ⟨o, its, n, hk, hc, hd, hs, hz, r⟩
  · obtain ⟨z, its, n, r, e⟩ := h.ok I.hok
    exact ⟨its, r, ⟨_, n, e, rfl, rfl, rfl⟩, z⟩
  · refine ⟨its.toList, r, ⟨o, n, I.kIn a o hk, hc, hd, by simpa using hs⟩, ?_⟩
    have e := r.length
    simp only [Array.length_toList] at e
    omega
theorem Inv.tuple (I : Inv X pins σ H s) (h : SqT X.K H a xs) : ∃ its : List Value, Vals xs its ∧ IsTup s.heap a its.toArray ∧ xs.length ≤ sizeLine := by
  rcases h with h | ⟨o, its, n, hk, hc, hs, hz, r⟩
  · obtain ⟨z, its, r, p⟩ := h.ok I.hok
    exact ⟨its, r, p, z⟩
  · refine ⟨its.toList, r, ⟨o, I.kIn a o hk, hc, n, by simpa using hs⟩, ?_⟩
    have e := r.length
    simp only [Array.length_toList] at e
    omega
theorem Inv.list_inj (I : Inv X pins σ H s) (h : SqL X.K H a xs) (h' : SqL X.K H a ys) : xs = ys := by
  obtain ⟨its, r, ⟨o, n, e, _, _, d⟩, _⟩ := I.list h
  obtain ⟨its', r', ⟨o', n', e', _, _, d'⟩, _⟩ := I.list h'
  rw [e] at e'; cases e'
  rw [d] at d'
  injection d' with d1 _
  have : its = its' := by simpa using congrArg Array.toList d1
  subst this
  exact r.inj r'
end

/-! ### another wish about exceptions -/
abbrev Cx.wish (X : Cx) (E : Value → Shared → Prop) : Cx := { X with xe := E }
/-- no exception leaves -/
abbrev Cx.nox (X : Cx) : Cx := X.wish fun _ _ => False
theorem Cx.Ok.wish {X : Cx} (ok : X.Ok) (E : Value → Shared → Prop) : (X.wish E).Ok :=
  ⟨ok.mod, ok.kind, ok.glob, ok.blt, ok.above, ok.inj, ok.has, ok.cab, ok.hd, ok.frames, ok.stk, ok.exf, ok.bs, ok.bsz, ok.noex, ok.exfs, ok.funs, ok.frf⟩
theorem Cx.Ok.unwish {X : Cx} {E : Value → Shared → Prop} (ok : (X.wish E).Ok) : X.Ok :=
  ⟨ok.mod, ok.kind, ok.glob, ok.blt, ok.above, ok.inj, ok.has, ok.cab, ok.hd, ok.frames, ok.stk, ok.exf, ok.bs, ok.bsz, ok.noex, ok.exfs, ok.funs, ok.frf⟩
section
variable {X : Cx} {pins : List (Addr × Obj)} {σ : St} {H : Hp} {s : Shared} {E : Value → Shared → Prop}
theorem Inv.wish (I : Inv X pins σ H s) (E : Value → Shared → Prop) : Inv (X.wish E) pins σ H s := ⟨I.ok.wish E, I.os, I.bare, I.base, I.loc, I.cell, I.free, I.freeC, I.pin, I.hok, I.len⟩
theorem Inv.unwish (I : Inv (X.wish E) pins σ H s) : Inv X pins σ H s := ⟨I.ok.unwish, I.os, I.bare, I.base, I.loc, I.cell, I.free, I.freeC, I.pin, I.hok, I.len⟩
theorem SP.unwish {D : Ends} {f : Flow} {s' : Shared} (h : SP (X.wish E) pins D f s') : SP X pins D f s' := by
  cases f with
  | next => obtain ⟨σ', H', I, q⟩ := h; exact ⟨σ', H', I.unwish, q⟩
  | brk => obtain ⟨σ', H', I, q⟩ := h; exact ⟨σ', H', I.unwish, q⟩
  | cont => obtain ⟨σ', H', I, q⟩ := h; exact ⟨σ', H', I.unwish, q⟩
  | ret u => obtain ⟨v, σ', H', I, r, q⟩ := h; exact ⟨v, σ', H', I.unwish, r, q⟩
theorem PSs.nox {st : List Stmt} {t : TS} (h : PSs X.nox st t) : PSs X st t := fun pins s σ H D I hw =>
  wpAny_mono (h pins s σ H D (I.wish _) hw) (fun _ _ q => q.unwish) fun _ _ z => False.elim z
end

/-! ### blocks and small statements -/
section
variable {X : Cx} {st : Stmt} {rest : List Stmt} {t u : TS} {e : Expr} {te : TE} {pos : Pos}
def tNext : TS := fun D σ H => D.nx σ H
def tSeq (t u : TS) : TS := fun D σ H => t { D with nx := u D } σ H
theorem pss_nil : PSs X [] tNext := fun _ _ σ H _ I h => wpAny_execs_nil ⟨σ, H, I, h⟩
theorem pss_cons (h1 : PS X st t) (h2 : PSs X rest u) : PSs X (st :: rest) (tSeq t u) := by
  intro pins s σ H D I h
  refine wpAny_execs_cons (thn (h1 pins s σ H { D with nx := u D } I h) fun f s1 q => ?_)
  cases f with
  | next =>
    obtain ⟨σ', H', I', q⟩ := q
    exact h2 pins s1 σ' H' D I' q
  | ret v => exact q
  | brk => exact q
  | cont => exact q
theorem pss_one (h1 : PS X st t) : PSs X [st] t := by
  intro pins s σ H D I h
  refine wpAny_execs_cons (thn (h1 pins s σ H D I h) fun f s1 q => ?_)
  cases f with
  | next => exact wpAny_execs_nil q
  | ret v => exact q
  | brk => exact q
  | cont => exact q
/-- in a def's body nothing is shown -/
theorem Inv.quiet {pins : List (Addr × Obj)} {σ : St} {H : Hp} {s : Shared} (I : Inv X pins σ H s) : interactive X.env = false := by simp [interactive, I.ok.kind]
/-- an expression whose value is dropped -/
def tDrop (te : TE) : TS := fun D σ H => te σ H fun _ H1 => D.nx σ H1
theorem ps_expr (he : PE X e te) (hs : swapsWith e none pos.line X.env = pure false := by rfl) : PS X (.Expr e pos) (tDrop te) := by
  intro pins s σ H D I h
  exact wpAny_Expr_any (thn (he pins s σ H _ I h) fun v s1 ⟨x, H1, I1, r1, q1⟩ => ⟨σ, H1, I1, q1⟩) I.quiet hs
def tRet (te : TE) : TS := fun D σ H => te σ H D.rt
theorem ps_ret (he : PE X e te) : PS X (.Return (some e) pos) (tRet te) := by
  intro pins s σ H D I h
  exact wpAny_Return_some (thn (he pins s σ H _ I h) fun v s1 ⟨x, H1, I1, r1, q1⟩ => ⟨x, σ, H1, I1, r1, q1⟩)
def tIfS (c : TT) (t u : TS) : TS := fun D σ H => c σ H fun b H1 => if b = true then t D σ H1 else u D σ H1
theorem ps_if {c : Expr} {a b : List Stmt} {tc : TT} (hc : PT X c tc) (ha : PSs X a t) (hb : PSs X b u) : PS X (.If c a b pos) (tIfS tc t u) := by
  intro pins s σ H D I h
  refine wpAny_If (thn (hc pins s σ H _ I h) fun d s1 ⟨H1, I1, q1⟩ => ?_)
  cases d with
  | true => exact ha pins s1 σ H1 D I1 q1
  | false => exact hb pins s1 σ H1 D I1 q1
/-- code that the proof never comes to -/
def tNever : TS := fun _ _ _ => False
theorem pss_never {sts : List Stmt} : PSs X sts tNever := fun _ _ _ _ _ _ h => h.elim
end

/-! ### targets -/
abbrev TG := V → St → Hp → (St → Hp → Prop) → Prop
abbrev TGs := List V → St → Hp → (St → Hp → Prop) → Prop
def PG (X : Cx) (target : Expr) (t : TG) : Prop :=
  ∀ (pins : List (Addr × Obj)) (s : Shared) (σ : St) (H : Hp) (v : V) (u : Value) (Q : St → Hp → Prop), Inv X pins σ H s → RelV v u → t v σ H Q →
    wpAny (model X.prog X.w) X.A (assign target X.env u) (fun _ s' => ∃ σ' H', Inv X pins σ' H' s' ∧ Q σ' H') X.xe s
/-- several targets, one after another -/
def PGs (X : Cx) (ts : List Expr) (t : TGs) : Prop :=
  ∀ (pins : List (Addr × Obj)) (s : Shared) (σ : St) (H : Hp) (vs : List V) (us : List Value) (Q : St → Hp → Prop), Inv X pins σ H s → Vals vs us → t vs σ H Q →
    wpAny (model X.prog X.w) X.A (assignInOrder ((assignEach ts X.env).map (·.2)) us) (fun _ s' => ∃ σ' H', Inv X pins σ' H' s' ∧ Q σ' H') X.xe s
/-- o[i] = v, by values -/
abbrev TSet := V → V → V → Hp → (Hp → Prop) → Prop
def PSet (X : Cx) (t : TSet) : Prop :=
  ∀ (pins : List (Addr × Obj)) (s : Shared) (σ : St) (H : Hp) (o i v : V) (ov iv u : Value) (Q : Hp → Prop), Inv X pins σ H s → RelV o ov → RelV i iv → RelV v u → t o i v H Q →
    wpAny (model X.prog X.w) X.A (setItem ov iv u) (fun _ s' => ∃ H', Inv X pins σ H' s' ∧ Q H') X.xe s
section
variable {X : Cx} {pos : Pos}
def gName (i : Nat) : TG := fun v σ H Q => Q (σ.set i (some v)) H
theorem pg_name {i : Nat} {x : Str} (hN : X.N.Nodup) (hi : X.N[i]? = some x) (hx : Loc X.env.scope x) (hf : X.fn x = true ∨ X.env.scope.names.lookup x = some .local := by first | exact .inl rfl | exact .inr rfl | assumption) : PG X (.Name x pos) (gName i) := by
  intro pins s σ H v u Q I r h
  exact wpAny_assign_Name (store_ok I hN hi hx r (fun s' I' => ⟨_, H, I', h⟩) hf)
def gNil : TGs := fun vs σ H Q => vs = [] ∧ Q σ H
def gCons (t : TG) (u : TGs) : TGs := fun vs σ H Q => ∃ v r, vs = v :: r ∧ t v σ H fun σ' H' => u r σ' H' Q
theorem pgs_nil : PGs X [] gNil := by
  intro pins s σ H vs us Q I r h
  obtain ⟨e, h⟩ := h
  subst e
  cases r
  exact assignInOrder_nil ⟨σ, H, I, h⟩
theorem pgs_cons {e : Expr} {es : List Expr} {t : TG} {u : TGs} (h1 : PG X e t) (h2 : PGs X es u)
    (hs : (assignEach (e :: es) X.env).map (·.2) = assign e X.env :: (assignEach es X.env).map (·.2) := by rfl) : PGs X (e :: es) (gCons t u) := by
  intro pins s σ H vs us Q I r h
  obtain ⟨v, vr, e1, h⟩ := h
  subst e1
  cases r with
  | cons r rr =>
    rw [hs]
    refine assignInOrder_cons (thn (h1 pins s σ H _ _ _ I r h) fun _ s1 ⟨σ1, H1, I1, q1⟩ => ?_)
    exact h2 pins s1 σ1 H1 _ _ Q I1 rr q1
/-- (a, b, ..) = a tuple of that length -/
def gTup (K : PySem.W.Frag) (n : Nat) (t : TGs) : TG := fun v σ H Q => ∃ a xs, v = .ref a ∧ SqT K H a xs ∧ xs.length = n ∧ t xs σ H Q
theorem pg_tup {es : List Expr} {k : Nat} {t : TGs} {n : Nat} (hc : X.calm = true) (h : PGs X es t)
    (hn : (assignEach es X.env).length = n := by rfl) (hst : (assignEach es X.env).findIdx? (·.1) = none := by rfl) : PG X (.Tuple es k pos) (gTup X.K n t) := by
  intro pins s σ H v u Q I r hw
  obtain ⟨a, xs, e1, hq, hl, hw⟩ := hw
  subst e1
  cases r
  obtain ⟨its, rv, ht, hz⟩ := I.tuple hq
  refine assign_Tuple_tuple (I.ok.hd hc) ht (by simp [hn, ← hl, rv.length]) hst fun h' hx => ?_
  have I1 : Inv X pins σ H { s with heap := h' } := I.kept (t' := s.toks) fun b o e => hx b o (Nat.ne_of_lt (Heap.lt_size e)) e
  exact h pins _ σ H xs _ Q I1 (by simpa using rv) hw
/-- o[i] = .. -/
def gSub (to ti : TE) (t : TSet) : TG := fun v σ H Q => to σ H fun o H1 => ti σ H1 fun i H2 => t o i v H2 fun H3 => Q σ H3
theorem pg_sub {o i : Expr} {to ti : TE} {t : TSet} (ho : PE X o to) (hi : PE X i ti) (hs : PSet X t)
    (ha : ∀ v, assign (.Subscript o i pos) X.env v = (do
      let ov ← holding [v] (eval o X.env)
      let iv ← holding [v, ov] (eval i X.env)
      standAt pos
      holding [v, ov, iv] (setItem ov iv v)
      release [v, ov, iv] []) := by intro _; rfl) : PG X (.Subscript o i pos) (gSub to ti t) := by
  intro pins s σ H v u Q I r h
  rw [ha]
  refine wpAny_bind (wpAny_holding (thn (ho pins s σ H _ I h) fun ov s1 ⟨x, H1, I1, r1, q1⟩ => ?_))
  refine wpAny_bind (wpAny_holding (thn (hi pins s1 σ H1 _ I1 q1) fun iv s2 ⟨y, H2, I2, r2, q2⟩ => ?_))
  refine wpAny_bind (wpAny_standAt (wpAny_bind (wpAny_holding (thn (hs pins s2 σ H2 x y v ov iv u _ I2 r1 r2 r q2) fun _ s3 ⟨H3, I3, q3⟩ => ?_))))
  exact wpAny_release ⟨σ, H3, I3, q3⟩
/-- target = value -/
def tAsg (te : TE) (g : TG) : TS := fun D σ H => te σ H fun x H1 => g x σ H1 D.nx
theorem ps_asg {tg e : Expr} {te : TE} {g : TG} (he : PE X e te) (hg : PG X tg g) (hs : swapsWithSole [tg] e pos.line X.env = pure false := by rfl) (hw : swappedStores [tg] e X.env = pure none := by rfl)
    (h1 : (assignEach [tg] X.env).map (·.2) = [assign tg X.env] := by rfl) : PS X (.Assign [tg] e pos) (tAsg te g) := by
  intro pins s σ H D I h
  refine wpAny_Assign_stores (thn (he pins s σ H _ I h) fun v s1 ⟨x, H1, I1, r1, q1⟩ => ?_) hs hw
  rw [h1]
  exact thn (hg pins s1 σ H1 x v _ I1 r1 q1) fun _ s2 q => q
/-- name = value -/
theorem ps_set {i : Nat} {x : Str} {e : Expr} {te : TE} {pos' : Pos} (hN : X.N.Nodup) (hi : X.N[i]? = some x) (hx : Loc X.env.scope x) (he : PE X e te) (hs : swapsWith e (some (.Name x pos')) pos.line X.env = pure false := by rfl) (hf : X.fn x = true ∨ X.env.scope.names.lookup x = some .local := by first | exact .inl rfl | exact .inr rfl | assumption) :
    PS X (.Assign [.Name x pos'] e pos) (tAsg te (gName i)) := by
  intro pins s σ H D I h
  refine wpAny_Assign_Name (thn (he pins s σ H _ I h) fun v s1 ⟨y, H1, I1, r1, q1⟩ => ?_) hs
  exact store_ok I1 hN hi hx r1 (fun s2 I2 => ⟨_, H1, I2, q1⟩) hf
end

/-! ### while -/
section
variable {X : Cx} {pos : Pos}
/-- the invariant W with its measure -/
def tWhile (c : TT) (tb : TS) : TS := fun D σ H => ∃ W : Nat → St → Hp → Prop, (∃ m, W m σ H) ∧ ∀ m σ H, W m σ H →
  c σ H fun b H1 => if b = true then ∃ N : St → Hp → Prop, (∀ σ' H', N σ' H' → ∃ m', m' < m ∧ W m' σ' H') ∧ tb { D with nx := N, ct := N, bk := D.nx } σ H1 else D.nx σ H1
theorem ps_while {c : Expr} {body : List Stmt} {tc : TT} {tb : TS} (hp : PassesOwn (model X.prog X.w) X.A X.env X.xe) (hc : PT X c tc) (hb : PSs X body tb) : PS X (.While c body [] pos) (tWhile tc tb) := by
  intro pins s σ H D I h
  obtain ⟨W, ⟨m0, w0⟩, turn⟩ := h
  refine wpAny_While (codeAny_whileLoop (fun n s' => ∃ σ' H', Inv X pins σ' H' s' ∧ W n σ' H') ?_ m0 ⟨σ, H, I, w0⟩)
  rintro n s1 ⟨σ1, H1, I1, w1⟩
  refine wpAny_passesOwn hp (thn (hc pins s1 σ1 H1 _ I1 (turn n σ1 H1 w1)) fun b s2 ⟨H2, I2, q2⟩ => ?_)
  cases b with
  | true =>
    obtain ⟨N, hN, q2⟩ := q2
    rw [if_pos rfl]
    refine wpAny_passesOwn hp (thn (hb pins s2 σ1 H2 _ I2 q2) fun f s3 q3 => ?_)
    cases f with
    | next =>
      obtain ⟨σ3, H3, I3, n3⟩ := q3
      obtain ⟨m', hm, w3⟩ := hN σ3 H3 n3
      exact ⟨m', hm, σ3, H3, I3, w3⟩
    | cont =>
      obtain ⟨σ3, H3, I3, n3⟩ := q3
      obtain ⟨m', hm, w3⟩ := hN σ3 H3 n3
      exact ⟨m', hm, σ3, H3, I3, w3⟩
    | brk => exact q3
    | ret v => exact q3
  | false =>
    rw [if_neg Bool.false_ne_true]
    exact wpAny_execs_nil ⟨σ1, H2, I2, q2⟩
end

/-! ### what a loop or a comprehension walks -/
/-- at turn i: it yields x (the heap may grow), or it stops -/
structure It where
  go : Nat → Hp → Prop
  yld : Nat → Hp → V → Hp → Prop
  stop : Nat → Hp → Prop
/-- the iterator's own objects may turn: they are not the frame's, not pinned, younger than the entry (or a comprehension's own) -/
def FpOk (X : Cx) (pins : List (Addr × Obj)) (H : Hp) (b : Addr) : Prop :=
  H b = none ∧ b ≠ X.env.locals ∧ b ∉ X.fs ∧ (b ∈ X.ex ∨ X.s₀.heap.objs.size ≤ b) ∧ (∀ x c, X.env.cells.lookup x = some c → c ≠ b) ∧ ∀ p ∈ X.pn ++ pins, p.1 ≠ b
theorem Inv.fpOk {X : Cx} {pins : List (Addr × Obj)} {σ : St} {H H' : Hp} {s : Shared} {b : Addr} (I : Inv X pins σ H s) (hb : s.heap.objs.size ≤ b) (hn : H' b = none) : FpOk X pins H' b := by
  refine ⟨hn, Nat.ne_of_gt (Nat.lt_of_lt_of_le I.lt hb), I.nofs hb, .inr (Nat.le_trans I.sz hb), fun x c e z => ?_, fun p hp z => ?_⟩
  · obtain ⟨v, q⟩ := I.cell x c e
    exact absurd (Nat.lt_of_lt_of_le q.lt (by rw [z]; exact hb)) (Nat.lt_irrefl _)
  · exact absurd (Nat.lt_of_lt_of_le (Heap.lt_size (I.pin p hp).1) (by rw [z]; exact hb)) (Nat.lt_irrefl _)
structure Turn (P : Program) (w : World) (K : PySem.W.Frag) (tg : Expr) (J : It) (fp : List Addr) (it : Addr) (tn : Nat → Heap → Prop) : Prop where
  mem : it ∈ fp
  obj : ∀ i h, tn i h → ∀ b ∈ fp, ∃ o, h.get? b = some o ∧ ∀ v, o.data ≠ .cell v
  keep : ∀ i h h', tn i h → (∀ b ∈ fp, ∀ o, h.get? b = some o → h'.get? b = some o) → tn i h'
  item : ∀ (X : Cx), X.prog = P → X.w = w → X.K = K → X.calm = true → ∀ (i : Nat) (pins : List (Addr × Obj)) (s : Shared) (σ : St) (H : Hp) (E : Value → Shared → Prop), Inv X pins σ H s → (∀ b ∈ fp, FpOk X pins H b) → tn i s.heap → J.go i H →
    wpAny (model P w) X.A (pyNext (.ref it)) (fun r s1 => ∃ u, r = some u ∧
      wpAny (model P w) X.A (letOwnedTupleGo tg (.ref it) u) (fun _ s2 => ∃ x H', Inv X pins σ H' s2 ∧ RelV x u ∧ J.yld i H x H' ∧ tn (i + 1) s2.heap ∧ ∀ b ∈ fp, H' b = none) E s1) E s
  done : ∀ (X : Cx), X.prog = P → X.w = w → X.K = K → X.calm = true → ∀ (i : Nat) (pins : List (Addr × Obj)) (s : Shared) (σ : St) (H : Hp) (E : Value → Shared → Prop), Inv X pins σ H s → (∀ b ∈ fp, FpOk X pins H b) → tn i s.heap → J.stop i H →
    wpAny (model P w) X.A (pyNext (.ref it)) (fun r s1 => r = none ∧ Inv X pins σ H s1) E s
  self : ∀ (A : Around) (i : Nat) (s : Shared) (Q : Value → Shared → Prop) (E : Value → Shared → Prop), tn i s.heap → Q (.ref it) s → wpAny (model P w) A (pyIter (.ref it)) Q E s
abbrev TI := St → Hp → (It → Hp → Prop) → Prop
/-- an iterator has come -/
def PIE (X : Cx) (pins : List (Addr × Obj)) (σ : St) (tg : Expr) (R : It → Hp → Prop) (itv : Value) (s2 : Shared) : Prop :=
  ∃ (it : Addr) (fp : List Addr) (tn : Nat → Heap → Prop) (J : It) (H' : Hp), itv = .ref it ∧ Inv X pins σ H' s2 ∧ Turn X.prog X.w X.K tg J fp it tn ∧ tn 0 s2.heap ∧ (∀ b ∈ fp, FpOk X pins H' b) ∧ R J H'
def PI (X : Cx) (tg iter : Expr) (wi : TI) : Prop :=
  ∀ (pins : List (Addr × Obj)) (s : Shared) (σ : St) (H : Hp) (R : It → Hp → Prop), Inv X pins σ H s → wi σ H R →
    wpAny (model X.prog X.w) X.A (eval iter X.env) (fun v s1 => wpAny (model X.prog X.w) X.A (pyIter v) (PIE X pins σ tg R) X.xe s1) X.xe s

/-- the step ahead of the store is nothing for an iterator that keeps no tuple -/
theorem go_of {M : Model} {A : Around} {E : Value → Shared → Prop} {s : Shared} {tg : Expr} {it : Addr} {u : Value} {o : Obj} {n : String} {vs : Array Value} {Q : Unit → Shared → Prop} (ho : s.heap.get? it = some o) (hc : o.cls = .type n) (hd : o.data = .fields vs)
    (hn : ["enumerate", "zip", "dict_itemiterator", "dict_reverseitemiterator", "odict_iterator", "itertools.zip_longest", "itertools.pairwise"].contains n = false) (hQ : Q () s) : wpAny M A (letOwnedTupleGo tg (.ref it) u) Q E s := by
  unfold letOwnedTupleGo
  cases tg <;> first
    | exact wpAny_pure hQ
    | (cases u <;> first
        | exact wpAny_pure hQ
        | (refine wpAny_bind (wpAny_load ho ?_)
           rw [hc, hd]
           show wpAny M A (if (["enumerate", "zip", "dict_itemiterator", "dict_reverseitemiterator", "odict_iterator", "itertools.zip_longest", "itertools.pairwise"].contains n && vs[0]? == some (rawInt _)) = true then _ else _) Q E s
           rw [if_neg (by intro h; rw [hn, Bool.false_and] at h; cases h)]
           exact wpAny_pure hQ))

/-- the list at a, as it stands at each turn (a loop may append to it) -/
def Itl (K : PySem.W.Frag) (a : Addr) : It :=
  ⟨fun i H => ∃ xs x, SqL K H a xs ∧ xs[i]? = some x, fun i H x H' => H' = H ∧ ∀ xs, SqL K H a xs → xs[i]? = some x, fun i H => ∃ xs, SqL K H a xs ∧ xs.length ≤ i⟩
/-- lo, lo + 1, .. (n of them) -/
def Itr (lo : Int) (n : Nat) : It := ⟨fun i _ => i < n, fun i H x H' => H' = H ∧ x = .int (lo + i), fun i _ => n ≤ i⟩
theorem turn_list {P : Program} {w : World} {K : PySem.W.Frag} {tg : Expr} (a it : Addr) : Turn P w K tg (Itl K a) [it] it (fun i h => h.IsListIter it a i) where
  mem := by simp
  obj := fun i h st b hb => by
    have e : b = it := by simpa using hb
    subst e
    obtain ⟨o, e, c, d⟩ := st
    exact ⟨o, e, fun v z => by rw [d] at z; cases z⟩
  keep := fun i h h' st k => st.at fun o e => k it (by simp) o e
  item := by
    intro X hP hw hK hc i pins s σ H E I hf st hg
    subst hP hw hK
    obtain ⟨xs, x, hq, hx⟩ := hg
    obtain ⟨its, rv, p, hz⟩ := I.list hq
    obtain ⟨u, hu, ru⟩ := rv.get hx
    obtain ⟨f0, f1, f2, f3, f4, f5⟩ := hf it (by simp)
    refine wpAny_pyNext_list_item st p.isList (x := u) (by simpa using hu) fun h' st' sb => ?_
    have I1 : Inv X pins σ H { s with heap := h' } := I.turned (t' := s.toks) (fun b o hb e => (sb.2 b hb).trans e) f0 f1 f3 f4 f5
    obtain ⟨o, e, c, d⟩ := id st'
    exact ⟨u, rfl, go_of (s := { s with heap := h' }) e c d (by decide) ⟨x, H, I1, ru, ⟨rfl, fun ys hy => by rw [I.list_inj hy hq]; exact hx⟩, st', fun b hb => (hf b hb).1⟩⟩
  done := by
    intro X hP hw hK hc i pins s σ H E I hf st hg
    subst hP hw hK
    obtain ⟨xs, hq, hx⟩ := hg
    obtain ⟨its, rv, p, hz⟩ := I.list hq
    obtain ⟨f0, f1, f2, f3, f4, f5⟩ := hf it (by simp)
    have hl := rv.length
    exact wpAny_pyNext_list_end (I.ok.hd hc) st p.isList (by simp; omega) fun h' eb => ⟨rfl, I.turned (t' := s.toks) (fun b o hb e => eb b o hb e) f0 f1 f3 f4 f5⟩
  self := fun _ _ _ _ _ st h => wpAny_pyIter_listiter st h
theorem turn_range {P : Program} {w : World} {K : PySem.W.Frag} {tg : Expr} (it : Addr) (lo : Int) (n : Nat) : Turn P w K tg (Itr lo n) [it] it (fun i h => IsRangeIter h it (lo + (i : Nat) * 1) ((n : Int) - (i : Nat)) 1) where
  mem := by simp
  obj := fun i h st b hb => by
    have e : b = it := by simpa using hb
    subst e
    exact ⟨_, st, fun v z => by
      have z' : Data.fields _ = Data.cell v := z
      cases z'⟩
  keep := fun i h h' st k => k it (by simp) _ st
  item := by
    intro X hP hw hK hc i pins s σ H E I hf st hg
    subst hP hw hK
    obtain ⟨f0, f1, f2, f3, f4, f5⟩ := hf it (by simp)
    have W := Walks.range (prog := X.prog) (w := X.w) (I.ok.hd hc) it lo 1 n
    refine W.item i s _ _ hg st fun v h' tk hv st' kk => ?_
    obtain ⟨t, rfl⟩ := hv
    have I1 : Inv X pins σ H { s with heap := h', toks := tk } := I.turned (fun b o hb e => kk b o (by simpa using hb) e) f0 f1 f3 f4 f5
    refine ⟨_, rfl, go_of (s := { s with heap := h', toks := tk }) (n := "range_iterator") st' rfl rfl (by decide) ⟨.int (lo + i), H, I1, ⟨t, ?_⟩, ⟨rfl, rfl⟩, st', fun b hb => (hf b hb).1⟩⟩
    rw [Int.mul_one]
  done := by
    intro X hP hw hK hc i pins s σ H E I hf st hg
    subst hP hw hK
    obtain ⟨f0, f1, f2, f3, f4, f5⟩ := hf it (by simp)
    exact wpAny_pyNext_range_end (I.ok.hd hc) st (by have : n ≤ i := hg; omega) fun h' eb => ⟨rfl, I.turned (t' := s.toks) (fun b o hb e => eb b o hb e) f0 f1 f3 f4 f5⟩
  self := fun _ _ _ _ _ st h => wpAny_pyIter_rangeiter st h
end L2

namespace L2
open PySem PySem.Spec PyProof.Rows
section
variable {X : Cx} {tg : Expr}
def iList (K : PySem.W.Frag) (tl : TE) : TI := fun σ H R => tl σ H fun x H1 => ∃ a, x = .ref a ∧ (∃ xs, SqL K H1 a xs) ∧ R (Itl K a) H1
theorem pi_list {l : Expr} {tl : TE} (hl : PE X l tl) : PI X tg l (iList X.K tl) := by
  intro pins s σ H R I h
  refine thn (hl pins s σ H _ I h) fun v s1 ⟨x, H1, I1, r1, q1⟩ => ?_
  obtain ⟨a, e, ⟨xs, hq⟩, q⟩ := q1
  subst e
  cases r1
  obtain ⟨its, rv, p, hz⟩ := I1.list hq
  refine wpAny_pyIter_list p.isList ?_
  refine ⟨s1.heap.objs.size, [s1.heap.objs.size], _, _, H1, rfl, I1.kept (t' := s1.toks) fun b o e => Heap.get?_push_of_some _ e, turn_list a _, ⟨_, Heap.get?_push_size _ rfl, rfl, rfl⟩, fun b hb => ?_, q⟩
  have e : b = s1.heap.objs.size := by simpa using hb
  subst e
  exact I1.fpOk (Nat.le_refl _) (I1.hok.fresh (Nat.le_refl _))
/-- a range object just made, walked -/
theorem range_it {pins : List (Addr × Obj)} {σ : St} {H : Hp} {s : Shared} {R : It → Hp → Prop} {E : Value → Shared → Prop} {lo hi : Int} {t u v : Tok} {tk : Nat} (I : Inv X pins σ H s) (h1 : -(2 ^ 62) ≤ lo) (h2 : lo < 2 ^ 62) (h3 : -(2 ^ 62) ≤ hi) (h4 : hi < 2 ^ 62)
    (q : R (Itr lo (hi - lo).toNat) H) : wpAny (model X.prog X.w) X.A (pyIter (.ref s.heap.objs.size)) (PIE X pins σ tg R) E { s with heap := s.heap.push { cls := .type "range", data := .fields #[.int lo t, .int hi u, .int 1 v] }, toks := tk } := by
  refine wpAny_pyIter_range (IsRange.new ..) (small_one h1 h2 h3 h4) ?_
  have I1 : Inv X pins σ H { s with heap := s.heap.push { cls := .type "range", data := .fields #[.int lo t, .int hi u, .int 1 v] }, toks := tk } := I.kept fun b o e => Heap.get?_push_of_some _ e
  refine ⟨(s.heap.push { cls := .type "range", data := .fields #[.int lo t, .int hi u, .int 1 v] }).objs.size, [(s.heap.push { cls := .type "range", data := .fields #[.int lo t, .int hi u, .int 1 v] }).objs.size], _, _, H, rfl,
    I1.kept (t' := tk) fun b o e => Heap.get?_push_of_some _ e, turn_range _ lo (hi - lo).toNat, ?_, fun b hb => ?_, q⟩
  · have e1 : lo + ((0 : Nat) : Int) * 1 = lo := by simp
    have e2 : (((hi - lo).toNat : Nat) : Int) - ((0 : Nat) : Int) = Builtin.Range.rangeSize lo hi 1 := by rw [rangeSize_one]; split <;> omega
    show IsRangeIter _ _ (lo + ((0 : Nat) : Int) * 1) ((((hi - lo).toNat : Nat) : Int) - ((0 : Nat) : Int)) 1
    rw [e1, e2]
    exact Heap.get?_push_size _ rfl
  · have e : b = (s.heap.push { cls := .type "range", data := .fields #[.int lo t, .int hi u, .int 1 v] }).objs.size := by simpa using hb
    subst e
    exact I1.fpOk (Nat.le_refl _) (I1.hok.fresh (Nat.le_refl _))
def iRng1 (ta : TA) : TI := fun σ H R => ta σ H fun vs H1 => ∃ j : Int, vs = [.int j] ∧ -(2 ^ 62) ≤ j ∧ j < 2 ^ 62 ∧ R (Itr 0 j.toNat) H1
theorem pi_range1 {a : Expr} {ta : TA} {p pos : Pos} (hg : Gl X "range") (hm : X.mg "range" = none) (ha : PA X [a] ta) (hs : starEach [a] X.env = [(false, eval a X.env)] := by rfl) : PI X tg (.Call (.Name "range" p) [a] [] pos) (iRng1 ta) := by
  intro pins s σ H R I h
  refine Call_ (ld_blt I hg hm boot_range (PyProof.Rows.callWith_type1 (thn (ha pos pins s σ H _ I h) fun us s1 ⟨vs, H1, I1, r1, q1⟩ => ?_) hs rfl))
  obtain ⟨j, e, q1, q2, q⟩ := q1
  subst e
  cases r1 with
  | cons r rr =>
    cases rr
    obtain ⟨t, rfl⟩ := r
    exact call_range_1 (range_it I1 (by omega) (by omega) q1 q2 (by simpa using q))

/-! ### for -/
/-- W: the invariant by the turn and a measure; N: what the body is to reach -/
def tFor (wi : TI) (g : TG) (tb : TS) : TS := fun D σ H => wi σ H fun J H1 => ∃ W : Nat → Nat → St → Hp → Prop, (∃ m, W 0 m σ H1) ∧ ∀ i m σ H, W i m σ H →
  (J.stop i H ∧ D.nx σ H) ∨ (J.go i H ∧ ∃ N : St → Hp → Prop, (∀ σ' H', N σ' H' → ∃ m', m' < m ∧ W (i + 1) m' σ' H') ∧ ∀ x H', J.yld i H x H' → g x σ H' fun σ2 H2 => tb { D with nx := N, ct := N, bk := D.nx } σ2 H2)
/-- the records at fp as they stand -/
def pinsAt (fp : List Addr) (h : Heap) : List (Addr × Obj) := fp.filterMap fun b => (h.get? b).map fun o => (b, o)
theorem mem_pinsAt {fp : List Addr} {h : Heap} {b : Addr} {o : Obj} (hb : b ∈ fp) (e : h.get? b = some o) : (b, o) ∈ pinsAt fp h := List.mem_filterMap.mpr ⟨b, hb, by rw [e]; rfl⟩
theorem of_pinsAt {fp : List Addr} {h : Heap} {p : Addr × Obj} (hp : p ∈ pinsAt fp h) : p.1 ∈ fp ∧ h.get? p.1 = some p.2 := by
  obtain ⟨b, hb, e⟩ := List.mem_filterMap.mp hp
  cases q : h.get? b with
  | none => rw [q] at e; cases e
  | some o =>
    rw [q] at e
    have e' : (b, o) = p := Option.some.inj e
    subst e'
    exact ⟨hb, q⟩
theorem Inv.pinned {pins : List (Addr × Obj)} {σ : St} {H : Hp} {s : Shared} {fp : List Addr} (I : Inv X pins σ H s) (hf : ∀ b ∈ fp, FpOk X pins H b) (ho : ∀ b ∈ fp, ∃ o, s.heap.get? b = some o ∧ ∀ v, o.data ≠ .cell v) : Inv X (pins ++ pinsAt fp s.heap) σ H s :=
  I.pins_of fun p hp => (List.mem_append.mp hp).elim (fun z => I.pin p (List.mem_append_right _ z)) fun z => by
    obtain ⟨hb, e⟩ := of_pinsAt z
    obtain ⟨f0, f1, f2, _⟩ := hf p.1 hb
    obtain ⟨o, e', d⟩ := ho p.1 hb
    rw [e] at e'; cases e'
    exact ⟨e, f0, f1, f2, d⟩
theorem Inv.unpinned {pins pl : List (Addr × Obj)} {σ : St} {H : Hp} {s : Shared} (I : Inv X (pins ++ pl) σ H s) : Inv X pins σ H s := I.pins_of fun p hp => I.pin p (List.mem_append_right _ (List.mem_append_left _ hp))
theorem ps_for {iter : Expr} {body : List Stmt} {wi : TI} {g : TG} {tb : TS} {pos : Pos} (hp : PassesOwn (model X.prog X.w) X.A X.env X.xe) (hc : X.calm = true) (hi : PI X tg iter wi) (hg : PG X tg g) (hb : PSs X body tb)
    (hs : ∀ x, foldedSetIterable iter X.env x = pure x := by intro _; rfl) : PS X (.For tg iter body [] pos) (tFor wi g tb) := by
  intro pins s σ H D I h
  refine wpAny_For (thn (hi pins s σ H _ I h) fun v s1 h1 => thn h1 fun itv s2 h2 => ?_) hs
  obtain ⟨it, fp, tn, J, H2, e, I2, T, st2, f2, W, ⟨m0, w0⟩, turn⟩ := h2
  subst e
  -- what stays true of the iterator's objects through the loop
  have stat : ∀ {H' : Hp}, (∀ b ∈ fp, H' b = none) → ∀ b ∈ fp, FpOk X pins H' b := fun hn b hb => ⟨hn b hb, (f2 b hb).2⟩
  refine codeAny_forLoop_any (fun n s' => ∃ i σ' H', Inv X pins σ' H' s' ∧ tn i s'.heap ∧ (∀ b ∈ fp, H' b = none) ∧ W i n σ' H') ?_ m0 ⟨0, σ, H2, I2, st2, fun b hb => (f2 b hb).1, w0⟩
  rintro n s3 ⟨i, σ3, H3, I3, st3, fr3, w3⟩
  rcases turn i n σ3 H3 w3 with ⟨stop, qn⟩ | ⟨go, N, hN, step⟩
  · refine wpAny_passesOwn hp (thn (T.done X rfl rfl rfl hc i pins s3 σ3 H3 X.xe I3 (stat fr3) st3 stop) fun r s4 ⟨hr, I4⟩ => ?_)
    subst hr
    exact wpAny_execs_nil ⟨σ3, H3, I4, qn⟩
  · refine wpAny_passesOwn hp (thn (T.item X rfl rfl rfl hc i pins s3 σ3 H3 X.xe I3 (stat fr3) st3 go) fun r s4 ⟨u, hr, h4⟩ => ?_)
    subst hr
    refine wpAny_passesOwn hp (thn h4 fun _ s5 ⟨x, H5, I5, r5, y5, st5, fr5⟩ => ?_)
    have I5' := I5.pinned (stat fr5) (T.obj _ _ st5)
    refine wpAny_passesOwn hp (thn (hg _ s5 σ3 H5 x u _ I5' r5 (step x H5 y5)) fun _ s6 ⟨σ6, H6, I6, q6⟩ => ?_)
    refine wpAny_passesOwn hp (thn (hb _ s6 σ6 H6 _ I6 q6) fun f s7 q7 => ?_)
    have again : ∀ {σ7 : St} {H7 : Hp}, Inv X (pins ++ pinsAt fp s5.heap) σ7 H7 s7 → N σ7 H7 → ∃ m, m < n ∧ ∃ i σ' H', Inv X pins σ' H' s7 ∧ tn i s7.heap ∧ (∀ b ∈ fp, H' b = none) ∧ W i m σ' H' := fun {σ7 H7} I7 n7 => by
      obtain ⟨m', hm, w7⟩ := hN σ7 H7 n7
      refine ⟨m', hm, i + 1, σ7, H7, I7.unpinned, T.keep _ _ _ st5 fun b hb o e => (I7.pin (b, o) (List.mem_append_right _ (List.mem_append_right _ (mem_pinsAt hb e)))).1, fun b hb => ?_, w7⟩
      obtain ⟨o, e, d⟩ := T.obj _ _ st5 b hb
      exact (I7.pin (b, o) (List.mem_append_right _ (List.mem_append_right _ (mem_pinsAt hb e)))).2.1
    cases f with
    | next => obtain ⟨σ7, H7, I7, n7⟩ := q7; exact again I7 n7
    | cont => obtain ⟨σ7, H7, I7, n7⟩ := q7; exact again I7 n7
    | brk => obtain ⟨σ7, H7, I7, q7⟩ := q7; exact ⟨σ7, H7, I7.unpinned, q7⟩
    | ret v => obtain ⟨x7, σ7, H7, I7, r7, q7⟩ := q7; exact ⟨x7, σ7, H7, I7.unpinned, r7, q7⟩
end

/-! ### the forms one uses -/
theorem for_range {lo : Int} {n : Nat} {g : TG} {tb : TS} {D : Ends} {σ : St} {H : Hp} (Pv : Nat → St → Hp → Prop) (h0 : Pv 0 σ H)
    (hs : ∀ i σ H, i < n → Pv i σ H → g (.int (lo + i)) σ H fun σ2 H2 => tb { D with nx := Pv (i + 1), ct := Pv (i + 1), bk := D.nx } σ2 H2) (hd : ∀ σ H, Pv n σ H → D.nx σ H) :
    ∃ W : Nat → Nat → St → Hp → Prop, (∃ m, W 0 m σ H) ∧ ∀ i m σ H, W i m σ H →
      ((Itr lo n).stop i H ∧ D.nx σ H) ∨ ((Itr lo n).go i H ∧ ∃ N : St → Hp → Prop, (∀ σ' H', N σ' H' → ∃ m', m' < m ∧ W (i + 1) m' σ' H') ∧ ∀ x H', (Itr lo n).yld i H x H' → g x σ H' fun σ2 H2 => tb { D with nx := N, ct := N, bk := D.nx } σ2 H2) := by
  refine ⟨fun i m σ H => m = n - i ∧ i ≤ n ∧ Pv i σ H, ⟨n, by simp, Nat.zero_le _, h0⟩, ?_⟩
  rintro i m σ H ⟨rfl, hi, p⟩
  by_cases hlt : i < n
  · refine .inr ⟨hlt, Pv (i + 1), fun σ' H' p' => ⟨n - (i + 1), by omega, rfl, hlt, p'⟩, fun x H' y => ?_⟩
    obtain ⟨e, y⟩ := y
    subst e y
    exact hs i σ _ hlt p
  · have e : i = n := by omega
    subst e
    exact .inl ⟨Nat.le_refl _, hd σ H p⟩
end L2

namespace L2
open PySem PySem.Spec PyProof.Rows

abbrev R2 := V → V → Hp → VK → Prop
/-- a two-place operation on values: f is binaryOp op, inplaceOp op or compareOp op -/
def OpR (X : Cx) (f : Value → Value → Sem Value) (r : R2) : Prop :=
  ∀ (pins : List (Addr × Obj)) (s : Shared) (σ : St) (H : Hp) (x y : V) (v u : Value) (Q : VK), Inv X pins σ H s → RelV x v → RelV y u → r x y H Q →
    wpAny (model X.prog X.w) X.A (f v u) (EP X pins σ Q) X.xe s
/-- a one-place operation -/
def UnR (X : Cx) (f : Value → Sem Value) (r : V → Hp → VK → Prop) : Prop :=
  ∀ (pins : List (Addr × Obj)) (s : Shared) (σ : St) (H : Hp) (x : V) (v : Value) (Q : VK), Inv X pins σ H s → RelV x v → r x H Q →
    wpAny (model X.prog X.w) X.A (f v) (EP X pins σ Q) X.xe s
/-- a call of a value that is known (a builtin, a type) with values -/
def CallR (X : Cx) (f : Value) (r : List V → Hp → VK → Prop) : Prop :=
  ∀ (pins : List (Addr × Obj)) (s : Shared) (σ : St) (H : Hp) (xs : List V) (us : List Value) (Q : VK), Inv X pins σ H s → Vals xs us → r xs H Q →
    wpAny (model X.prog X.w) X.A (call f us) (EP X pins σ Q) X.xe s

def tOp (r : R2) (ta tb : TE) : TE := fun σ H Q => ta σ H fun x H1 => tb σ H1 fun y H2 => r x y H2 Q
def tUn (r : V → Hp → VK → Prop) (ta : TE) : TE := fun σ H Q => ta σ H fun x H1 => r x H1 Q
/-- ints in, under C, and a value out -/
def rI (C : Int → Int → Prop) (g : Int → Int → V) : R2 := fun x y H Q => ∃ i j, x = .int i ∧ y = .int j ∧ C i j ∧ Q (g i j) H
def rI0 (g : Int → Int → V) : R2 := fun x y H Q => ∃ i j, x = .int i ∧ y = .int j ∧ Q (g i j) H
def rU (g : Int → V) : V → Hp → VK → Prop := fun x H Q => ∃ i, x = .int i ∧ Q (g i) H

section
variable {X : Cx} {a b c : Expr} {ta tb tc : TE} {pos : Pos}

theorem binT (ha : PE X a ta) (hb : PE X b tb) {pins : List (Addr × Obj)} {s : Shared} {σ : St} {H : Hp} {R : V → V → Hp → Prop} (I : Inv X pins σ H s)
    (h : ta σ H fun x H1 => tb σ H1 fun y H2 => R x y H2) {Q : Value → Shared → Prop} {f : Value → Value → Sem Value}
    (hf : ∀ v u s2 x y H2, Inv X pins σ H2 s2 → RelV x v → RelV y u → R x y H2 → wpAny (model X.prog X.w) X.A (f v u) Q X.xe s2) :
    wpAny (model X.prog X.w) X.A (eval a X.env) (fun v s₁ => wpAny (model X.prog X.w) X.A (eval b X.env) (fun u s₂ => wpAny (model X.prog X.w) X.A (f v u) Q X.xe s₂) X.xe s₁) X.xe s := by
  refine thn (ha pins s σ H _ I h) fun v s1 ⟨x, H1, I1, r1, q1⟩ => ?_
  refine thn (hb pins s1 σ H1 _ I1 q1) fun u s2 ⟨y, H2, I2, r2, q2⟩ => ?_
  exact hf v u s2 x y H2 I2 r1 r2 q2

theorem pe_op {op : Operator} {r : R2} (ho : OpR X (binaryOp op) r) (ha : PE X a ta) (hb : PE X b tb) : PE X (.BinOp a op b pos) (tOp r ta tb) := by
  intro pins s σ H Q I h
  exact wpAny_BinOp (binT ha hb I h fun v u s2 x y H2 I2 rx ry q => ho pins s2 σ H2 x y v u Q I2 rx ry q)
theorem pe_un {op : UnaryOp} {r : V → Hp → VK → Prop} (ho : UnR X (unaryOp op) r) (ha : PE X a ta) : PE X (.UnaryOp op a pos) (tUn r ta) := by
  intro pins s σ H Q I h
  exact UnaryOp_ (thn (ha pins s σ H _ I h) fun v s1 ⟨x, H1, I1, r1, q1⟩ => ho pins s1 σ H1 x v Q I1 r1 q1)

/-! ### ints -/
theorem opI {f : Value → Value → Sem Value} {C : Int → Int → Prop} {g : Int → Int → Int}
    (rule : ∀ (i j : Int) (t u : Tok) (s : Shared) (Q : Value → Shared → Prop) (E : Value → Shared → Prop), C i j → Q (.int (g i j) s.toks) { s with toks := s.toks + 1 } → wpAny (model X.prog X.w) X.A (f (.int i t) (.int j u)) Q E s) :
    OpR X f (rI C fun i j => .int (g i j)) := by
  intro pins s σ H x y v u Q I rx ry h
  obtain ⟨i, j, rfl, rfl, hc, q⟩ := h
  obtain ⟨t, rfl⟩ := rx
  obtain ⟨t', rfl⟩ := ry
  exact rule i j t t' s _ _ hc ⟨.int (g i j), H, I.tok _, ⟨_, rfl⟩, q⟩
theorem opI0 {f : Value → Value → Sem Value} {g : Int → Int → Int}
    (rule : ∀ (i j : Int) (t u : Tok) (s : Shared) (Q : Value → Shared → Prop) (E : Value → Shared → Prop), Q (.int (g i j) s.toks) { s with toks := s.toks + 1 } → wpAny (model X.prog X.w) X.A (f (.int i t) (.int j u)) Q E s) :
    OpR X f (rI0 fun i j => .int (g i j)) := by
  intro pins s σ H x y v u Q I rx ry h
  obtain ⟨i, j, rfl, rfl, q⟩ := h
  obtain ⟨t, rfl⟩ := rx
  obtain ⟨t', rfl⟩ := ry
  exact rule i j t t' s _ _ ⟨.int (g i j), H, I.tok _, ⟨_, rfl⟩, q⟩
theorem opB0 {f : Value → Value → Sem Value} {g : Int → Int → Bool}
    (rule : ∀ (i j : Int) (t u : Tok) (s : Shared) (Q : Value → Shared → Prop) (E : Value → Shared → Prop), Q (.bool (g i j)) s → wpAny (model X.prog X.w) X.A (f (.int i t) (.int j u)) Q E s) :
    OpR X f (rI0 fun i j => .bl (g i j)) := by
  intro pins s σ H x y v u Q I rx ry h
  obtain ⟨i, j, rfl, rfl, q⟩ := h
  obtain ⟨t, rfl⟩ := rx
  obtain ⟨t', rfl⟩ := ry
  exact rule i j t t' s _ _ ⟨.bl (g i j), H, I, rfl, q⟩

def CDiv (i j : Int) : Prop := 0 < j ∧ j < 1073741824
def CPow (i j : Int) : Prop := 0 ≤ j ∧ j ≤ 1000000 ∧ i.natAbs < 2 ^ 64
def CMul (i j : Int) : Prop := (-(2 ^ 64) < i ∧ i < 2 ^ 64) ∨ (-(2 ^ 64) < j ∧ j < 2 ^ 64)
theorem CMul.ok {i j : Int} (h : CMul i j) : IntMulOk i j := by
  rcases h with ⟨h1, h2⟩ | ⟨h1, h2⟩
  · exact .of_left (intBits_le_64 h1 h2)
  · exact .of_right (intBits_le_64 h1 h2)

theorem op_add : OpR X (binaryOp .Add) (rI0 fun i j => .int (i + j)) := opI0 fun _ _ _ _ _ _ _ q => add_int q
theorem op_sub : OpR X (binaryOp .Sub) (rI0 fun i j => .int (i - j)) := opI0 fun _ _ _ _ _ _ _ q => sub_int q
theorem op_mul : OpR X (binaryOp .Mult) (rI CMul fun i j => .int (i * j)) := opI fun _ _ _ _ _ _ _ hc q => mul_int q hc.ok
/-- // by a positive divisor -/
theorem op_fdiv : OpR X (binaryOp .FloorDiv) (rI CDiv fun i j => .int (i / j)) := opI fun i j _ _ _ _ _ hc q => by
  have h1 : (0 : Int) < j := hc.1
  have h2 : j < 1073741824 := hc.2
  exact floordiv_int (by omega) (by rw [Int.fdiv_eq_ediv_of_nonneg i (by omega)]; exact q) (.inl (PyProof.noPylong_small (by omega)))
/-- % by a positive divisor of any size -/
theorem op_mod : OpR X (binaryOp .Mod) (rI (fun _ j => 0 < j) fun i j => .int (i % j)) := opI fun i j _ _ _ _ _ hc q => by
  have h1 : (0 : Int) < j := hc
  exact mod_int' (by omega) (by rw [Int.fmod_eq_emod_of_nonneg i (by omega)]; exact q)
theorem op_pow : OpR X (binaryOp .Pow) (rI CPow fun i j => .int (i ^ j.toNat)) := opI fun _ _ _ _ _ _ _ hc q => pow_int_small hc.1 hc.2.1 hc.2.2 q


theorem unI {f : Value → Sem Value} {g : Int → Int}
    (rule : ∀ (i : Int) (t : Tok) (s : Shared) (Q : Value → Shared → Prop) (E : Value → Shared → Prop), Q (.int (g i) s.toks) { s with toks := s.toks + 1 } → wpAny (model X.prog X.w) X.A (f (.int i t)) Q E s) :
    UnR X f (rU fun i => .int (g i)) := by
  intro pins s σ H x v Q I rx h
  obtain ⟨i, rfl, q⟩ := h
  obtain ⟨t, rfl⟩ := rx
  exact rule i t s _ _ ⟨.int (g i), H, I.tok _, ⟨_, rfl⟩, q⟩
theorem un_neg : UnR X (unaryOp .USub) (rU fun i => .int (-i)) := unI fun _ _ _ _ _ q => neg_int q

/-! ### bools among ints: n += (a < b) -/
end

/-! ### comparisons -/
/-- the scalars that == tells apart as data does -/
def scal : V → V → Bool
  | .non, .non => true | .non, .int _ => true | .int _, .non => true | .non, .bl _ => true | .bl _, .non => true | .non, .str _ => true | .str _, .non => true
  | .int _, .int _ => true | .bl _, .bl _ => true | .str _, .str _ => true | .byt _, .byt _ => true
  | .int _, .str _ => true | .str _, .int _ => true | .bl _, .str _ => true | .str _, .bl _ => true
  | _, _ => false
def rEq : R2 := fun x y H Q => scal x y = true ∧ Q (.bl (decide (x = y))) H
def rNe : R2 := fun x y H Q => scal x y = true ∧ Q (.bl (!decide (x = y))) H

theorem dec_int {i j : Int} : decide (V.int i = V.int j) = (i == j) := by
  rw [Bool.eq_iff_iff]
  simp
theorem dec_bl {i j : Bool} : decide (V.bl i = V.bl j) = (i == j) := by
  rw [Bool.eq_iff_iff]
  simp
theorem dec_str {i j : Str} : decide (V.str i = V.str j) = (i == j) := by
  rw [Bool.eq_iff_iff]
  simp
theorem dec_byt {i j : Array UInt8} : decide (V.byt i = V.byt j) = (i.toList == j.toList) := by
  rw [Bool.eq_iff_iff]
  cases i
  cases j
  simp

section
variable {X : Cx} {a b c : Expr} {ta tb tc : TE} {pos : Pos}
theorem fin_bl {pins : List (Addr × Obj)} {σ : St} {H : Hp} {s : Shared} {Q : VK} {k k' : Bool} (I : Inv X pins σ H s) (q : Q (.bl k) H) (e : k = k') : EP X pins σ Q (.bool k') s := by
  subst e
  exact ⟨.bl k, H, I, rfl, q⟩
theorem op_eq : OpR X (compareOp .Eq) rEq := by
  intro pins s σ H x y v u Q I rx ry h
  obtain ⟨hs, q⟩ := h
  cases x with
  | non =>
    cases rx
    cases y with
    | non => cases ry; exact PySem.EqNone.eq_none_none (fin_bl I q (by simp))
    | bl j => cases ry; exact PySem.EqNone.eq_none_bool (fin_bl I q (by simp))
    | int j => obtain ⟨t', rfl⟩ := ry; exact PySem.EqNone.eq_none_int (fin_bl I q (by simp))
    | str j => obtain ⟨t', rfl⟩ := ry; exact PySem.EqNone.eq_none_str (fin_bl I q (by simp))
    | _ => exact absurd (show false = true from hs) Bool.false_ne_true
  | bl i =>
    cases rx
    cases y with
    | non => cases ry; exact PySem.EqNone.eq_bool_none (fin_bl I q (by simp))
    | bl j => cases ry; exact eq_bool (fin_bl I q dec_bl)
    | str j => obtain ⟨t', rfl⟩ := ry; exact PySem.EqMixed.eq_bool_str (fin_bl I q (by simp))
    | _ => exact absurd (show false = true from hs) Bool.false_ne_true
  | int i =>
    obtain ⟨t, rfl⟩ := rx
    cases y with
    | non => cases ry; exact PySem.EqNone.eq_int_none (fin_bl I q (by simp))
    | int j => obtain ⟨t', rfl⟩ := ry; exact eq_int (fin_bl I q dec_int)
    | str j => obtain ⟨t', rfl⟩ := ry; exact PySem.EqMixed.eq_int_str (fin_bl I q (by simp))
    | _ => exact absurd (show false = true from hs) Bool.false_ne_true
  | str i =>
    obtain ⟨t, rfl⟩ := rx
    cases y with
    | non => cases ry; exact PySem.EqNone.eq_str_none (fin_bl I q (by simp))
    | bl j => cases ry; exact PySem.EqMixed.eq_str_bool (fin_bl I q (by simp))
    | int j => obtain ⟨t', rfl⟩ := ry; exact PySem.EqMixed.eq_str_int (fin_bl I q (by simp))
    | str j => obtain ⟨t', rfl⟩ := ry; exact eq_str (fin_bl I q dec_str)
    | _ => exact absurd (show false = true from hs) Bool.false_ne_true
  | byt i =>
    obtain ⟨t, rfl⟩ := rx
    cases y with
    | byt j => obtain ⟨t', rfl⟩ := ry; exact PySem.W.eq_bytes (fin_bl I q dec_byt)
    | _ => exact absurd (show false = true from hs) Bool.false_ne_true
  | _ => cases y <;> exact absurd (show false = true from hs) Bool.false_ne_true
theorem op_ne : OpR X (compareOp .NotEq) rNe := by
  intro pins s σ H x y v u Q I rx ry h
  obtain ⟨hs, q⟩ := h
  cases x with
  | non =>
    cases rx
    cases y with
    | non => cases ry; exact PySem.EqNone.ne_none_none (fin_bl I q (by simp))
    | bl j => cases ry; exact PySem.EqNone.ne_none_bool (fin_bl I q (by simp))
    | int j => obtain ⟨t', rfl⟩ := ry; exact PySem.EqNone.ne_none_int (fin_bl I q (by simp))
    | str j => obtain ⟨t', rfl⟩ := ry; exact PySem.EqNone.ne_none_str (fin_bl I q (by simp))
    | _ => exact absurd (show false = true from hs) Bool.false_ne_true
  | bl i =>
    cases rx
    cases y with
    | non => cases ry; exact PySem.EqNone.ne_bool_none (fin_bl I q (by simp))
    | bl j => cases ry; exact ne_bool (fin_bl I q (congrArg not dec_bl))
    | str j => obtain ⟨t', rfl⟩ := ry; exact PySem.EqMixed.ne_bool_str (fin_bl I q (by simp))
    | _ => exact absurd (show false = true from hs) Bool.false_ne_true
  | int i =>
    obtain ⟨t, rfl⟩ := rx
    cases y with
    | non => cases ry; exact PySem.EqNone.ne_int_none (fin_bl I q (by simp))
    | int j => obtain ⟨t', rfl⟩ := ry; exact ne_int (fin_bl I q (congrArg not dec_int))
    | str j => obtain ⟨t', rfl⟩ := ry; exact PySem.EqMixed.ne_int_str (fin_bl I q (by simp))
    | _ => exact absurd (show false = true from hs) Bool.false_ne_true
  | str i =>
    obtain ⟨t, rfl⟩ := rx
    cases y with
    | non => cases ry; exact PySem.EqNone.ne_str_none (fin_bl I q (by simp))
    | bl j => cases ry; exact PySem.EqMixed.ne_str_bool (fin_bl I q (by simp))
    | int j => obtain ⟨t', rfl⟩ := ry; exact PySem.EqMixed.ne_str_int (fin_bl I q (by simp))
    | str j => obtain ⟨t', rfl⟩ := ry; exact ne_str (fin_bl I q (congrArg not dec_str))
    | _ => exact absurd (show false = true from hs) Bool.false_ne_true
  | byt i =>
    obtain ⟨t, rfl⟩ := rx
    cases y with
    | byt j => obtain ⟨t', rfl⟩ := ry; exact PySem.W.ne_bytes (fin_bl I q (congrArg not dec_byt))
    | _ => exact absurd (show false = true from hs) Bool.false_ne_true
  | _ => cases y <;> exact absurd (show false = true from hs) Bool.false_ne_true

theorem op_lt : OpR X (compareOp .Lt) (rI0 fun i j => .bl (decide (i < j))) := opB0 fun _ _ _ _ _ _ _ q => lt_int q
theorem op_le : OpR X (compareOp .LtE) (rI0 fun i j => .bl (decide (i ≤ j))) := opB0 fun _ _ _ _ _ _ _ q => le_int q
theorem op_gt : OpR X (compareOp .Gt) (rI0 fun i j => .bl (decide (j < i))) := opB0 fun _ _ _ _ _ _ _ q => gt_int q

/-- is None, is not None: the right side a value none -/
theorem op_isN : OpR X (compareOp .Is) (fun x y H Q => y = .non ∧ Q (.bl (decide (x = .non))) H) := by
  intro pins s σ H x y v u Q I rx ry h
  obtain ⟨rfl, q⟩ := h
  cases ry
  refine is_none_gen (fin_bl I q ?_)
  cases x <;> first
    | (cases rx; rfl)
    | (obtain ⟨t, rfl⟩ := rx; rfl)
theorem op_notN : OpR X (compareOp .IsNot) (fun x y H Q => y = .non ∧ Q (.bl (!decide (x = .non))) H) := by
  intro pins s σ H x y v u Q I rx ry h
  obtain ⟨rfl, q⟩ := h
  cases ry
  refine isnot_none_gen (fin_bl I q ?_)
  cases x <;> first
    | (cases rx; rfl)
    | (obtain ⟨t, rfl⟩ := rx; rfl)



theorem nomark (b : Expr) {op : CmpOp} (h : op ≠ .In := by decide) (h2 : op ≠ .NotIn := by decide) : behindInMarks op b = false := by
  have e1 : (op == CmpOp.In) = false := by cases op <;> first | rfl | exact absurd rfl h
  have e2 : (op == CmpOp.NotIn) = false := by cases op <;> first | rfl | exact absurd rfl h2
  cases b <;> simp [behindInMarks, e1, e2]
/-- a comparison as a value; hm: nomark b, or (for in, not in) by with_unfolding_all rfl -/
theorem pe_cmpR {op : CmpOp} {r : R2} (ho : OpR X (compareOp op) r) (ha : PE X a ta) (hb : PE X b tb) (hm : behindInMarks op b = false) : PE X (.Compare a [op] [b] pos) (tOp r ta tb) := by
  intro pins s σ H Q I h
  exact wpAny_Compare1 (binT ha hb I h fun v u s2 x y H2 I2 rx ry q => ho pins s2 σ H2 x y v u Q I2 rx ry q) hm
/-- a reading of a value as a test -/
def tTest (t : TE) : TT := fun σ H Q => t σ H fun x H' => ∃ k, x = .bl k ∧ Q k H'
theorem pt_cmpR {op : CmpOp} {r : R2} (ho : OpR X (compareOp op) r) (ha : PE X a ta) (hb : PE X b tb) (hm : behindInMarks op b = false) : PT X (.Compare a [op] [b] pos) (tTest (tOp r ta tb)) := by
  intro pins s σ H Q I h
  refine wpAny_isTrue_Compare1 (thn (ha pins s σ H _ I h) fun v s1 ⟨x, H1, I1, r1, q1⟩ => thn (hb pins s1 σ H1 _ I1 q1) fun u s2 ⟨y, H2, I2, r2, q2⟩ =>
    thn (ho pins s2 σ H2 x y v u _ I2 r1 r2 q2) fun c s3 ⟨z, H3, I3, r3, k, e, q3⟩ => ?_) hm
  subst e
  cases r3
  exact wpAny_truthy_bool ⟨H3, I3, q3⟩
/-- a op1 b op2 c -/
def tChain (r r' : R2) (ta tb tc : TE) : TE := fun σ H Q => ta σ H fun x H1 => tb σ H1 fun y H2 => r x y H2 fun z H3 => ∃ k, z = .bl k ∧
  (if k = true then tc σ H3 fun w' H4 => r' y w' H4 Q else Q (.bl false) H3)
theorem pt_chain {op op' : CmpOp} {r r' : R2} (ho : OpR X (compareOp op) r) (ho' : OpR X (compareOp op') r') (ha : PE X a ta) (hb : PE X b tb) (hc : PE X c tc)
    (hm : lastMarks [op, op'] [b, c] = false := by with_unfolding_all rfl) : PT X (.Compare a [op, op'] [b, c] pos) (tTest (tChain r r' ta tb tc)) := by
  intro pins s σ H Q I h
  refine isTrue_chain (thn (ha pins s σ H _ I h) fun v s1 ⟨x, H1, I1, r1, q1⟩ => test_link (thn (hb pins s1 σ H1 _ I1 q1) fun u s2 ⟨y, H2, I2, r2, q2⟩ =>
    thn (ho pins s2 σ H2 x y v u _ I2 r1 r2 q2) fun d s3 ⟨z, H3, I3, r3, k, e, q3⟩ => ?_)) hm
  subst e
  cases r3
  refine wpAny_truthy_bool ?_
  cases k with
  | false =>
    obtain ⟨k', e', q'⟩ := q3
    cases e'
    exact ite_ff ⟨H3, I3, q'⟩
  | true =>
    refine ite_tt (test_last (thn (hc pins s3 σ H3 _ I3 q3) fun w' s4 ⟨z', H4, I4, r4, q4⟩ => thn (ho' pins s4 σ H4 y z' u w' _ I4 r2 r4 q4) fun d' s5 ⟨z2, H5, I5, r5, k2, e2, q5⟩ => ?_))
    subst e2
    cases r5
    exact wpAny_truthy_bool ⟨H5, I5, q5⟩

/-! ### truth -/
theorem line63 : (sizeLine : Nat) < 2 ^ 63 := by rw [sizeLine_eq]; decide

/-! ### strs and bytes -/


/-! ### scalar builtins, by CallR -/
theorem vals1 {x : V} {us : List Value} (r : Vals [x] us) : ∃ u, us = [u] ∧ RelV x u := by
  cases r with
  | cons r1 r2 => cases r2; exact ⟨_, rfl, r1⟩
end
end L2

namespace L2
open PySem PySem.Spec PyProof.Rows

/-! ### an instance, its attributes a map -/
structure ObjM (h : Heap) (x dx C : Addr) (mA : Str → Option Value) : Prop where
  obj : h.get? x = some (PySem.W.instObj C dx)
  ns : h.Ns1 dx mA
  ne : dx ≠ x

theorem lookIn_ns {h : Heap} {dx : Addr} {mA : Str → Option Value} (n : h.Ns1 dx mA) : ∃ od, h.get? dx = some od ∧ ∀ name, PySem.W.lookIn name od = some (mA name) := by
  obtain ⟨o, es, ep, ho, hd, hk, _, hm⟩ := n
  refine ⟨o, ho, fun name => ?_⟩
  have e := hm name
  unfold nsFind findBy at e
  rw [← Array.find?_toList] at e
  unfold PySem.W.lookIn
  rw [hd]
  dsimp only
  split
  · rename_i y q
    rw [q] at e
    exact congrArg some e
  · rename_i q
    rw [q] at e
    have a : es.toList.any (·.refKey) = false := by
      rw [List.any_eq_false]
      intro y hy
      obtain ⟨z, t, hkey⟩ := hk y (Array.mem_toList_iff.mp hy)
      simp [DictEntry.refKey, hkey]
    have a' : ¬ es.toList.any (·.refKey) = true := by rw [a]; exact Bool.false_ne_true
    rw [if_neg a']
    exact congrArg some e

theorem ObjM.look {h : Heap} {x dx C : Addr} {mA : Str → Option Value} (I : ObjM h x dx C mA) : ∃ od, PySem.W.InstAt h x (PySem.W.instObj C dx) C (some od) ∧ ∀ name, PySem.W.lookIn name od = some (mA name) :=
  let ⟨od, ho, hl⟩ := lookIn_ns I.ns
  ⟨od, ⟨I.obj, rfl, rfl, ho⟩, hl⟩

section
variable {prog : Program} {w : World} {A : Around} {E : Value → Shared → Prop} {s : Shared} {K : PySem.W.Frag} {x dx C f : Addr} {mA : Str → Option Value} {name : Str} {v : Value}





end

/-! ### the attributes as a list of pairs -/


section
variable {P : Program} {w : World} {H H' : Hp} {h h' : Heap} {a C dx : Addr} {fs fs' : List (Str × V)}
theorem ins_get (hok : HOk P w H h) (e : H a = some (.ins C dx fs)) : ∃ mA, ObjM h a dx C mA ∧ (∀ f, RelO (fs.lookup f) (mA f)) ∧ PySem.Within mA (fs.map (·.1)) ∧ fs.length ≤ 1000 ∧ H dx = some (.own a) := by
  obtain ⟨d, z, ne, ob, mA, n, r, q⟩ := (show ObjOk P w H h a (.ins C dx fs) from hok a _ e)
  exact ⟨mA, ⟨ob, n, ne⟩, r, q, z, d⟩
end

/-! ### what of the text a class must have -/
structure Cls (K : PySem.W.Frag) (C : Addr) : Prop where
  pg : PySem.W.plainGet K C Str.empty = true
  hd : PySem.W.hasDictIn K C = true
  po : PySem.W.plainOver K C = true
  sa : PySem.W.findIn K (.ref C) "__setattr__" = some (some (.builtin "object.__setattr__"))
theorem Cls.get {K : PySem.W.Frag} {C : Addr} (c : Cls K C) (f : Str) : PySem.W.plainGet K C f = true := c.pg

section
variable {X : Cx} {pins : List (Addr × Obj)} {σ : St} {H : Hp} {s : Shared} {a C dx : Addr} {fs : List (Str × V)} {f : Str} {v : V} {A : Around} {E : Value → Shared → Prop}






end

/-! ### readings and rules -/

section
variable {X : Cx} {o e value : Expr} {f : Str} {pos pos' tpos : Pos} {ta tv : TE}

end

/-! ### isinstance -/
section
variable {X : Cx} {pins : List (Addr × Obj)} {σ : St} {H : Hp} {s : Shared} {A : Around} {E : Value → Shared → Prop} {Q : Value → Shared → Prop} {c : Value} {b : Bool}
/-- the type of a value, as the fragment's deciders take it; for an instance its class -/
inductive TyOf (K : PySem.W.Frag) (H : Hp) : V → Value → Prop where
  | non : TyOf K H .non (.type "NoneType")
  | bl (x : Bool) : TyOf K H (.bl x) (.type "bool")
  | int (i : Int) : TyOf K H (.int i) (.type "int")
  | str (x : Str) : TyOf K H (.str x) (.type "str")
  | flt (x : UInt64) : TyOf K H (.flt x) (.type "float")
  | lst {a : Addr} {xs : List V} (e : H a = some (.lst xs)) : TyOf K H (.ref a) (.type "list")
  | frz {a : Addr} {o : Obj} {xs : List V} (e : H a = some (.frz o (.lst xs))) : TyOf K H (.ref a) (.type "list")
  | tup {a : Addr} {xs : List V} (e : H a = some (.tup xs)) : TyOf K H (.ref a) (.type "tuple")
  | dK {a : Addr} {kvs : List (Key × V)} (e : H a = some (.dK kvs)) : TyOf K H (.ref a) (.type "dict")
  | dT {a : Addr} {kvs : List (List Key × V)} (e : H a = some (.dT kvs)) : TyOf K H (.ref a) (.type "dict")
  | ins {a C dx : Addr} {fs : List (Str × V)} (e : H a = some (.ins C dx fs)) (cl : Cls K C) (ha : PySem.W.findIn K (.ref C) "__class__" = some (some (.builtin "object.__class__")))
      (hn : PySem.W.specialIn K (.builtin "object.__class__") "__get__" = some (some (.builtin "getset_descriptor.__get__"))) (htk : PySem.W.takesIn K (.builtin "object.__class__") = some true)
      (hm : PySem.W.mroIn K C (.type "object") = some true) : TyOf K H (.ref a) (.ref C)
/-- isinstance(x, c) for one class c, a built-in or an own one: kitOne's answer -/
theorem isinst_ok {x : V} {u t : Value} (I : Inv X pins σ H s) (rx : RelV x u) (ty : TyOf X.K H x t) (e : PySem.W.kitOne X.K t c = some b) (h : ∀ tk, Q (.bool b) { s with toks := tk }) :
    wpAny (model X.prog X.w) A (call (.builtin "isinstance") [u, c]) Q E s := by
  cases ty with
  | non => cases (show u = Value.none from rx); exact PySem.W.kia_one PySem.W.kitx_none I.kIn True.intro e (fun z => nomatch z) h
  | bl y => cases (show u = Value.bool y from rx); exact PySem.W.kia_one PySem.W.kitx_bool I.kIn True.intro e (fun z => nomatch z) h
  | int i => obtain ⟨t, q⟩ := (show ∃ t, u = Value.int i t from rx); cases q; exact PySem.W.kia_one PySem.W.kitx_int I.kIn True.intro e (fun z => nomatch z) h
  | str y => obtain ⟨t, q⟩ := (show ∃ t, u = Value.str y t from rx); cases q; exact PySem.W.kia_one PySem.W.kitx_str I.kIn True.intro e (fun z => nomatch z) h
  | flt y => obtain ⟨t, q⟩ := (show ∃ t, u = Value.float y t from rx); cases q; exact PySem.W.kia_one PySem.W.kitx_float I.kIn True.intro e (fun z => nomatch z) h
  | @lst a xs ea =>
    cases (show u = Value.ref a from rx)
    obtain ⟨_, _, n, _, h1⟩ := (show ObjOk X.prog X.w H s.heap a (.lst xs) from I.hok a _ ea)
    exact PySem.W.kia_one PySem.W.kitx_list I.kIn ⟨_, h1, rfl⟩ e (fun z => nomatch z) h
  | @frz a ob xs ea =>
    cases (show u = Value.ref a from rx)
    obtain ⟨_, _, _, n, _, h1⟩ := (show ObjOk X.prog X.w H s.heap a (.frz ob (.lst xs)) from I.hok a _ ea)
    exact PySem.W.kia_one PySem.W.kitx_list I.kIn ⟨_, h1, rfl⟩ e (fun z => nomatch z) h
  | @tup a xs ea =>
    cases (show u = Value.ref a from rx)
    obtain ⟨_, _, _, p⟩ := (show ObjOk X.prog X.w H s.heap a (.tup xs) from I.hok a _ ea)
    obtain ⟨o, h1, h2, _⟩ := p
    exact PySem.W.kia_one PySem.W.kitx_tuple I.kIn ⟨o, h1, h2⟩ e (fun z => nomatch z) h
  | @dK a kvs ea =>
    cases (show u = Value.ref a from rx)
    obtain ⟨_, _, vs, _, p⟩ := (show ObjOk X.prog X.w H s.heap a (.dK kvs) from I.hok a _ ea)
    obtain ⟨o, es, ep, h1, h2, _⟩ := p
    exact PySem.W.kia_one PySem.W.kitx_dict I.kIn ⟨o, h1, h2.1⟩ e (fun z => nomatch z) h
  | @dT a kvs ea =>
    cases (show u = Value.ref a from rx)
    obtain ⟨_, _, xs, _, o, es, ep, h1, h2, _⟩ := (show ObjOk X.prog X.w H s.heap a (.dT kvs) from I.hok a _ ea)
    exact PySem.W.kia_one PySem.W.kitx_dict I.kIn ⟨o, h1, h2.1⟩ e (fun z => nomatch z) h
  | @ins a C dx fs ea cl ha hn htk hm =>
    cases (show u = Value.ref a from rx)
    obtain ⟨mA, O, _⟩ := ins_get I.hok ea
    obtain ⟨od, J, _⟩ := O.look
    exact PySem.W.kia_one (PySem.W.kitx_own (cl.get _) cl.hd ha hn htk hm) I.kIn J e (fun z => nomatch z) h
end
end L2

namespace L2
open PySem PySem.Spec PyProof.Rows

/-! ### room -/
structure Room (k : Nat) (A : Around) : Prop where
  hd : A.handled = none
  dp : A.depth + 3 * k + 5 < recursionLimit
  un : A.units + 16 * k + 200 < cLine
theorem Room.mono {j k : Nat} {A : Around} (r : Room k A) (h : j ≤ k) : Room j A := ⟨r.hd, by have := r.dp; omega, by have := r.un; omega⟩
theorem Room.deeper {k : Nat} {A : Around} (r : Room (k + 1) A) (env : Env) : Room k (A.deeper env) :=
  ⟨r.hd, by have := r.dp; show A.depth + 1 + 3 * k + 5 < _; omega, by have := r.un; show A.units + 3 + 16 * k + 200 < _; omega⟩
theorem Room.depth {k : Nat} {A : Around} (r : Room k A) : A.depth < recursionLimit := by have := r.dp; omega
theorem Room.units {k : Nat} {A : Around} (r : Room k A) : A.units + 64 < cLine := by have := r.un; omega

/-! ### argument lists and displays -/
def tNil : TA := fun _ H Q => Q [] H
def tCons (ta : TE) (tr : TA) : TA := fun σ H Q => ta σ H fun x H1 => tr σ H1 fun xs H2 => Q (x :: xs) H2
section
variable {X : Cx} {e : Expr} {es : List Expr} {te : TE} {t : TA} {pos : Pos}
theorem pa_nil : PA X [] tNil := fun _ _ _ _ H Q I h => Calls.spliced_nil ⟨[], H, I, .nil, h⟩
theorem pa_cons (ha : PE X e te) (hr : PA X es t) (hs : starEach (e :: es) X.env = (false, eval e X.env) :: starEach es X.env := by rfl) : PA X (e :: es) (tCons te t) := by
  intro pos pins s σ H Q I h
  rw [hs]
  show wpAny _ _ (spliced ((false, eval e X.env) :: backTo pos (starEach es X.env))) _ _ s
  refine Calls.spliced_cons (thn (ha pins s σ H _ I h) fun u s1 ⟨x, H1, I1, r1, q1⟩ => ?_)
  exact thn (hr pos pins s1 σ H1 _ I1 q1) fun us s2 ⟨xs, H2, I2, r2, q2⟩ => ⟨x :: xs, H2, I2, .cons r1 r2, q2⟩

/-- a tuple, a list of written items -/
def tTup (t : TA) : TE := fun σ H Q => t σ H fun xs H1 => xs.length ≤ sizeLine ∧ ∀ p, H1 p = none → Q (.ref p) (upd H1 p (.tup xs))
def tLst (t : TA) : TE := fun σ H Q => t σ H fun xs H1 => xs.length ≤ sizeLine ∧ ∀ p, H1 p = none → Q (.ref p) (upd H1 p (.lst xs))
theorem pe_tup {x1} (h : PA X es t) : PE X (.Tuple es x1 pos) (tTup t) := by
  intro pins s σ H Q I hq
  refine wpAny_Tuple_spliced (thn (h pos pins s σ H _ I hq) fun us s1 ⟨xs, H1, I1, r, z, q⟩ => ⟨by rw [← r.length]; exact z, ?_⟩)
  have hf : H1 s1.heap.objs.size = none := I1.hok.fresh (Nat.le_refl _)
  refine ⟨.ref s1.heap.objs.size, upd H1 s1.heap.objs.size (.tup xs), I1.laid (t' := s1.toks) (fun b u e => Heap.get?_push_of_some _ e) (Nat.le_refl _) ?_, rfl, q _ hf⟩
  exact ⟨z, us, r, ⟨_, Heap.get?_push_size _ rfl, rfl, _, rfl⟩⟩
theorem pe_lst (h : PA X es t) : PE X (.List es pos) (tLst t) := by
  intro pins s σ H Q I hq
  refine wpAny_List_spliced (thn (h pos pins s σ H _ I hq) fun us s1 ⟨xs, H1, I1, r, z, q⟩ => ⟨by rw [← r.length]; exact z, ?_⟩)
  have hf : H1 s1.heap.objs.size = none := I1.hok.fresh (Nat.le_refl _)
  refine ⟨.ref s1.heap.objs.size, upd H1 s1.heap.objs.size (.lst xs), I1.laid (t' := s1.toks) (fun b u e => Heap.get?_push_of_some _ e) (Nat.le_refl _) ?_, rfl, q _ hf⟩
  exact ⟨z, us, 0, r, Heap.get?_push_size _ rfl⟩
end

/-! ### what a def promises -/
/-- a def's promise: the bound arguments in the parameters' order, the heap, the wanted end, the wanted exception -/
abbrev Sp := List V → Hp → VK → XK → Prop
/-- how an exception lies behind a call (file 08 gives it): the callers' frames, abstract heap and state ahead of the call, the wish, the exception, the state -/
abbrev CXT := List Env → Hp → Shared → XK → Value → Shared → Prop

/-- the state at a call -/
structure Env0 (P : Program) (w : World) (K : PySem.W.Frag) (mg : Str → Option Value) (base : Heap) (A : Around) (outer : List Env) (s : Shared) (H : Hp) : Prop where
  frames : A.frames = some outer
  mod : Mod K mg base
  bs : ∀ b o, base.get? b = some o → s.heap.get? b = some o ∧ H b = none
  bsz : base.objs.size ≤ s.heap.objs.size
  funs : s.heap.FunFrames base outer
  frf : ∀ b ∈ frs outer, H b = none
  hok : HOk P w H s.heap
  bare : AllBare s.gens
/-- a call's end -/
def CE (outer : List Env) (P : Program) (w : World) (H : Hp) (s : Shared) (Q : VK) (u : Value) (s' : Shared) : Prop :=
  ∃ v H', s'.os = s.os ∧ AllBare s'.gens ∧ Un (frs outer) [] H H' s.heap s'.heap ∧ HOk P w H' s'.heap ∧ RelV v u ∧ Q v H'
def CR (CX : CXT) (outer : List Env) (P : Program) (w : World) (H : Hp) (s : Shared) (Q : VK) (E : XK) (r : Result) (s' : Shared) : Prop :=
  match r with
  | .ok (.ret u) => CE outer P w H s Q u s'
  | .ok _ => False
  | .error e => CX outer H s E e s'
structure FnOk (P : Program) (w : World) (K : PySem.W.Frag) (mg : Str → Option Value) (base : Heap) (CX : CXT) (k : Nat) (f : Addr) (fd : FuncData) (ps : List Str) (sp : Sp) : Prop where
  len : ∀ vs H Q E, sp vs H Q E → vs.length = ps.length
  run : ∀ (A : Around) (outer : List Env) (s : Shared) (H : Hp) (args : Args) (us : List Value) (vs : List V) (Q : VK) (E : XK), Room k A → Env0 P w K mg base A outer s H → BindsTo s fd args (ps.zip us) → Vals vs us → sp vs H Q E →
    codeAny (model P w) A (.call (.ref f) args) (CR CX outer P w H s Q E) s
/-- a weaker promise -/
theorem FnOk.imp {P : Program} {w : World} {K : PySem.W.Frag} {mg : Str → Option Value} {base : Heap} {CX : CXT} {k : Nat} {f : Addr} {fd : FuncData} {ps : List Str} {sp sp' : Sp} (F : FnOk P w K mg base CX k f fd ps sp)
    (h : ∀ vs H Q E, sp' vs H Q E → sp vs H Q E) : FnOk P w K mg base CX k f fd ps sp' :=
  ⟨fun vs H Q E q => F.len vs H Q E (h _ _ _ _ q), fun A outer s H args us vs Q E hr he hb hv hs => F.run A outer s H args us vs Q E hr he hb hv (h _ _ _ _ hs)⟩


section
variable {X : Cx} {pins : List (Addr × Obj)} {σ : St} {H : Hp} {s s' : Shared}
/-- from a body: what a callee wants -/
theorem Inv.env0 (I : Inv X pins σ H s) : Env0 X.prog X.w X.K X.mg X.base X.A X.stack s H :=
  ⟨I.ok.frames, I.ok.mod, I.bs, Nat.le_trans I.ok.bsz I.sz, I.stack, I.stkFree, I.hok, I.bare⟩
/-- behind a call -/
theorem Inv.after {Q : VK} {u : Value} (I : Inv X pins σ H s) (h : CE X.stack X.prog X.w H s Q u s') : EP X pins σ Q u s' := by
  obtain ⟨v, H', os, bare, un, hok, r, q⟩ := h
  obtain ⟨hh, g, d, t, os'⟩ := s'
  obtain rfl : os' = s.os := os
  exact ⟨v, H', I.call (h' := hh) (g' := g) (d' := d) (t' := t) (ch := []) un hok bare (fun b z => absurd z (by simp)), r, q⟩
end

/-! ### calls -/
/-- f(..): the written arguments, then the defaults dvs; E: what is wanted of an exception -/
def tCall (sp : Sp) (dvs : List V) (E : XK) (t : TA) : TE := fun σ H Q => t σ H fun vs H1 => sp (vs ++ dvs) H1 Q E

/-- how the parameters are bound: us the positional arguments, kw the keywords' values by name, ds the defaults that fill up -/
def Binds (K : PySem.W.Frag) (fd : FuncData) (ps : List Str) (ds : List Value) : Prop :=
  ∀ (s : Shared) (us : List Value), K.In s.heap → (us ++ ds).length = ps.length → BindsTo s fd ⟨us, []⟩ (ps.zip (us ++ ds))
/-- every parameter is given -/
theorem Binds.all {K : PySem.W.Frag} {fd : FuncData} {ps : List Str} (h : ∀ us : List Value, us.length = ps.length → bindArgs fd ⟨us, []⟩ = pure (ps.zip us)) : Binds K fd ps [] := fun s us _ hl => by
  rw [List.append_nil] at hl ⊢
  exact .of_eq (h us hl)

/-- an exception of a callee reaches what this body wants of exceptions -/
def Passes (CX : CXT) (X : Cx) (E : XK) : Prop := ∀ (pins : List (Addr × Obj)) (σ : St) (H : Hp) (s : Shared) (e : Value) (s' : Shared), Inv X pins σ H s → CX X.stack H s E e s' → X.xe e s'

section
variable {X : Cx} {CX : CXT} {k : Nat} {f C : Addr} {fd : FuncData} {ps : List Str} {sp : Sp} {dvs : List V} {ds : List Value} {E : XK} {x m : Str} {p pos apos : Pos} {e o : Expr} {es : List Expr} {ta : TE} {t : TA}

/-- the callee runs -/
theorem run_fn {pins : List (Addr × Obj)} {σ : St} {H : Hp} {s : Shared} {Q : VK} {us : List Value} {vs : List V} (F : FnOk X.prog X.w X.K X.mg X.base CX k f fd ps sp) (hr : Room k X.A) (hb : Binds X.K fd ps ds) (hd : Vals dvs ds) (hx : Passes CX X E)
    (I : Inv X pins σ H s) (r : Vals vs us) (h : sp (vs ++ dvs) H Q E) : wpAny (model X.prog X.w) X.A (call (.ref f) us) (EP X pins σ Q) X.xe s := by
  have r2 : Vals (vs ++ dvs) (us ++ ds) := r.append hd
  have hl : (us ++ ds).length = ps.length := by rw [← r2.length]; exact F.len _ _ _ _ h
  refine wpAny_call (codeAny_mono (F.run X.A X.stack s H ⟨us, []⟩ (us ++ ds) (vs ++ dvs) Q E hr I.env0 (hb s us I.kIn hl) r2 h) fun r s' hq => ?_)
  cases r with
  | error e => exact hx pins σ H s e s' I hq
  | ok fl =>
    cases fl with
    | ret u => exact I.after hq
    | next => exact False.elim hq
    | brk => exact False.elim hq
    | cont => exact False.elim hq

theorem pe_call (F : FnOk X.prog X.w X.K X.mg X.base CX k f fd ps sp) (hr : Room k X.A) (hg : Gl X x) (hm : X.mg x = some (.ref f)) (hk : PySem.W.keepIn X.K (.ref f) = true) (hb : Binds X.K fd ps ds) (hd : Vals dvs ds) (hx : Passes CX X E)
    (ha : PA X (e :: es) t) (hdb : (x == ("__debug__" : Str)) = false := by decide) (he : starEach (e :: es) X.env = (false, eval e X.env) :: starEach es X.env := by rfl) (hpl : (backTo pos (starEach es X.env)).any (·.1) = false := by rfl) :
    PE X (.Call (.Name x p) (e :: es) [] pos) (tCall sp dvs E t) := by
  intro pins s σ H Q I h
  refine wpAny_Call_Name_kw (ld_glob I hg hm ?_ hdb)
  refine PySem.W.callWith_K (h₀ := X.base) I.ok.mod.kin hk (thn (ha pos pins s σ H _ I h) fun us s1 ⟨vs, H1, I1, r, q⟩ => ⟨I1.kIn, ?_⟩) he hpl
  exact run_fn F hr hb hd hx I1 r q



end

/-! ### keywords -/
section
variable {X : Cx} {CX : CXT} {k : Nat} {f C : Addr} {fd : FuncData} {ps ks : List Str} {sp : Sp} {E : XK} {x m : Str} {p pos apos kpos : Pos} {e o : Expr} {es : List Expr} {kws : List Keyword} {te ta : TE} {t tk : TA} {nm : Option Str}

variable {g : List Value → List Value → List Value} {gV : List V → List V → List V}
end

/-! ### a def's body keeps its promise -/
/-- names: the parameters first -/
structure FnScope (N P : List Str) (sc : Scope) : Prop where
  kind : sc.kind = .function
  co : sc.isCoroutine = false
  gen : sc.isGenerator = false
  nd : N.Nodup
  pre : N.take P.length = P
  par : ∀ x ∈ P, sc.names.lookup x = some .local ∨ sc.names.lookup x = some .cell
  nofree : ∀ y ∈ sc.names, y.2 ≠ .free

theorem bindL_out {kindOf : Str → Option NameKind} {x : Str} : ∀ {binds : List (Str × Value)} {m : Str → Option Value}, (∀ v, (x, v) ∉ binds) → bindL kindOf binds m x = m x
  | [], _, _ => rfl
  | (n, v) :: r, m, h => by
    unfold bindL
    rw [bindL_out fun w hw => h w (List.mem_cons_of_mem _ hw)]
    split
    · have : x ≠ n := by rintro rfl; exact h v List.mem_cons_self
      simp [this]
    · rfl
theorem bindC_out {kindOf : Str → Option NameKind} {x : Str} : ∀ {binds : List (Str × Value)} {m : Str → Option Value}, (∀ v, (x, v) ∉ binds) → bindC kindOf binds m x = m x
  | [], _, _ => rfl
  | (n, v) :: r, m, h => by
    unfold bindC
    rw [bindC_out fun w hw => h w (List.mem_cons_of_mem _ hw)]
    split
    · rfl
    · have : x ≠ n := by rintro rfl; exact h v List.mem_cons_self
      simp [this]
theorem bindL_get {kindOf : Str → Option NameKind} {x : Str} {v : Value} : ∀ {P : List Str} {vs : List Value} {i : Nat} {m : Str → Option Value}, P.Nodup → P[i]? = some x → vs[i]? = some v → kindOf x = some .local →
    bindL kindOf (P.zip vs) m x = some v
  | [], _, _, _, _, h, _, _ => by simp at h
  | _ :: _, [], _, _, _, _, h, _ => by simp at h
  | p :: P, w :: vs, 0, m, nd, h1, h2, hk => by
    simp at h1 h2; subst h1; subst h2
    show bindL kindOf ((p, w) :: P.zip vs) m p = _
    unfold bindL
    rw [bindL_out fun v hv => (List.nodup_cons.mp nd).1 (List.of_mem_zip hv).1, if_pos hk]
    simp
  | p :: P, w :: vs, i + 1, m, nd, h1, h2, hk => by
    show bindL kindOf ((p, w) :: P.zip vs) m x = _
    unfold bindL
    exact bindL_get (i := i) (List.nodup_cons.mp nd).2 (by simpa using h1) (by simpa using h2) hk
theorem bindC_get {kindOf : Str → Option NameKind} {x : Str} {v : Value} : ∀ {P : List Str} {vs : List Value} {i : Nat} {m : Str → Option Value}, P.Nodup → P[i]? = some x → vs[i]? = some v → kindOf x ≠ some .local →
    bindC kindOf (P.zip vs) m x = some v
  | [], _, _, _, _, h, _, _ => by simp at h
  | _ :: _, [], _, _, _, _, h, _ => by simp at h
  | p :: P, w :: vs, 0, m, nd, h1, h2, hk => by
    simp at h1 h2; subst h1; subst h2
    show bindC kindOf ((p, w) :: P.zip vs) m p = _
    unfold bindC
    rw [bindC_out fun v hv => (List.nodup_cons.mp nd).1 (List.of_mem_zip hv).1, if_neg hk]
    simp
  | p :: P, w :: vs, i + 1, m, nd, h1, h2, hk => by
    show bindC kindOf ((p, w) :: P.zip vs) m x = _
    unfold bindC
    exact bindC_get (i := i) (List.nodup_cons.mp nd).2 (by simpa using h1) (by simpa using h2) hk

/-- the names' values at the entry -/
def start (N : List Str) (vs : List V) : St := vs.map some ++ List.replicate (N.length - vs.length) none

/-- the context of a def's body, at its entry; an exception leaves the frame, then lies as CX says -/
def cxOf (CX : CXT) (P : Program) (w : World) (K : PySem.W.Frag) (mg : Str → Option Value) (base : Heap) (N : List Str) (qual : Str) (scope : Scope) (f : Addr) (cd : Value) (A : Around) (outer : List Env) (s : Shared) (H : Hp) (E : XK) : Cx where
  prog := P
  w := w
  K := K
  mg := mg
  base := base
  A := A.deeper (envOfC qual scope s.heap.objs.size f cd)
  N := N
  s₀ := s
  H₀ := H
  env := envOfC qual scope s.heap.objs.size f cd
  outer := outer
  stack := envOfC qual scope s.heap.objs.size f cd :: outer
  ex := []
  calm := true
  fn := fun _ => true
  pn := []
  xe := fun e s' => wpAny (model P w) (A.deeper (envOfC qual scope s.heap.objs.size f cd)) (leaving (envOfC qual scope s.heap.objs.size f cd) e) (fun _ s'' => CX outer H s E e s'') (fun e' s'' => CX outer H s E e' s'') s'

theorem cell_has {sc : Scope} {n : Nat} {x : Str} (h : sc.names.lookup x = some .cell) : ∃ c, (cellsFrom n sc.names []).lookup x = some c := by
  have q := PySem.W.cellsFrom_some sc.names n [] (.inl h)
  exact Option.isSome_iff_exists.mp q

theorem inv_start {CX : CXT} {P : Program} {w : World} {K : PySem.W.Frag} {mg : Str → Option Value} {base : Heap} {N ps : List Str} {qual : Str} {scope : Scope} {f : Addr} {cd : Value} {A : Around} {outer : List Env} {s s1 : Shared} {H : Hp} {E : XK} {us : List Value} {vs : List V}
    (S : FnScope N ps scope) (hd : A.handled = none) (e0 : Env0 P w K mg base A outer s H) (hl : vs.length = ps.length) (r : Vals vs us)
    (x : InCallC s s.heap.objs.size (bindL (envOfC qual scope s.heap.objs.size f cd).kindOf (ps.zip us) fun _ => none) (cellsFrom (s.heap.objs.size + 1) scope.names []) (bindC (envOfC qual scope s.heap.objs.size f cd).kindOf (ps.zip us) fun _ => none) s1) :
    Inv (cxOf CX P w K mg base N qual scope f cd A outer s H E) [] (start N vs) H s1 := by
  have hpl : ps.length ≤ N.length := by have := congrArg List.length S.pre; rw [List.length_take] at this; omega
  obtain ⟨h1, tk, rfl, hk⟩ := x.done
  have noA : ∀ b : Addr, b ∉ (cxOf CX P w K mg base N qual scope f cd A outer s H E).ex := fun b z => absurd (show b ∈ ([] : List Addr) from z) (by simp)
  refine ⟨⟨e0.mod, S.kind, rfl, rfl, Nat.le_refl _, fun y z c h1 h2 => ?_, fun y hy => ?_, fun y c _ h => ?_, fun _ => hd, Around.frames_deeper e0.frames, .inr ⟨rfl, rfl⟩, fun b z => absurd z (noA b), e0.bs, e0.bsz, fun b _ _ => noA b, fun b z => absurd z (noA b), e0.funs, e0.frf⟩,
    rfl, e0.bare, Un.kept hk, ⟨_, x.toInCall.ns, fun i y v h1 h2 h3 => ?_⟩, fun y c h => ⟨_, x.cell y c h⟩, e0.hok.fresh (Nat.le_refl _), fun y c h => ?_, fun p hp => absurd (show p ∈ ([] : List (Addr × Obj)) from hp) (by simp), e0.hok.kept hk, ?_⟩
  · exact name_of_addr x.apart (PySem.mem_of_lookup h1) (PySem.mem_of_lookup h2)
  · have hy : scope.names.lookup y = some .cell ∨ scope.names.lookup y = some .free := hy
    rcases hy with hy | hy
    · exact cell_has hy
    · exact absurd rfl (S.nofree _ (PySem.mem_of_lookup hy))
  · exact Nat.le_of_lt (x.above y c (PySem.mem_of_lookup h))
  · have hi : i < vs.length := by
      unfold start at h2
      by_cases hi : i < vs.length
      · exact hi
      · rw [List.getElem?_append_right (by simpa using hi)] at h2
        rw [List.getElem?_replicate] at h2
        split at h2 <;> cases h2
    have ha : vs[i]? = some v := by
      unfold start at h2
      rw [List.getElem?_append_left (by simpa using hi), List.getElem?_map] at h2
      cases e : vs[i]? with
      | none => rw [e] at h2; cases h2
      | some a => rw [e] at h2; cases h2; rfl
    obtain ⟨u, hu, rv⟩ := r.get ha
    have hp : ps[i]? = some y := by
      rw [← S.pre, List.getElem?_take_of_lt (by omega)]; exact h1
    have ndP : ps.Nodup := by rw [← S.pre]; exact S.nd.sublist (List.take_sublist _ _)
    refine ⟨u, rv, ?_⟩
    rcases S.par y (List.mem_of_getElem? hp) with k | k
    · exact .inl ⟨k, bindL_get ndP hp hu k⟩
    · obtain ⟨c, e⟩ := cell_has (n := s.heap.objs.size + 1) k
      refine .inr ⟨.inl k, c, e, ?_⟩
      have q := x.cell y c e
      rw [bindC_get ndP hp hu (by show scope.names.lookup y ≠ _; rw [k]; decide)] at q
      exact q
  · exact e0.hok.fresh (Nat.le_of_lt (x.above y c (PySem.mem_of_lookup h)))
  · unfold start
    show _ = N.length
    rw [List.length_append, List.length_map, List.length_replicate]
    omega

/-- THE RULE: a def (or a method) of the text, by its body. The body's reading t is chosen for each entry; it is run at the parameters' values -/
theorem fn_of {CX : CXT} {P : Program} {w : World} {K : PySem.W.Frag} {mg : Str → Option Value} {base : Heap} {k : Nat} {f : Addr} {name qual : Str} {params : Arguments} {body : List Stmt} {scope : Scope} {dV kV doc pm cdv ct oc : Value} {an od : Option Addr}
    {osl : Array (Option Value)} {N ps : List Str} {sp : Sp} (lk : K.lookup f = some ⟨oc, od, .func (PySem.W.fnOf name qual params body scope dV kV doc pm an cdv ct), osl⟩) (hcd : PySem.W.codeIn K cdv qual = true) (S : FnScope N ps scope)
    (len : ∀ vs H Q E, sp vs H Q E → vs.length = ps.length)
    (hbody : ∀ (A : Around) (outer : List Env) (s : Shared) (H : Hp) (vs : List V) (Q : VK) (E : XK), Room k (A.deeper (envOfC qual scope s.heap.objs.size f cdv)) → sp vs H Q E →
      ∃ t, PSs (cxOf CX P w K mg base N qual scope f cdv A outer s H E) body t ∧ t { nx := fun _ H' => Q .non H', rt := Q } (start N vs) H) :
    FnOk P w K mg base CX (k + 1) f (PySem.W.fnOf name qual params body scope dV kV doc pm an cdv ct) ps sp := by
  refine ⟨len, fun A outer s H args us vs Q E hr e0 hb r hsp => ?_⟩
  have hl := len _ _ _ _ hsp
  have KX : K.In s.heap := e0.mod.kin.keeps fun b o e => (e0.bs b o e).1
  have lim : s.heap.NoLimit := e0.mod.nolimit.keeps fun b o e => (e0.bs b o e).1
  have hkind : ∀ y ∈ ps.zip us, scope.names.lookup y.1 = some .local ∨ (scope.names.lookup y.1 = some .cell ∧ ((cellsFrom (s.heap.objs.size + 1) scope.names []).lookup y.1).isSome = true) := fun ⟨n, v⟩ hy => by
    rcases S.par n (List.of_mem_zip hy).1 with q | q
    · exact .inl q
    · exact .inr ⟨q, PySem.W.cellsFrom_some _ _ _ (.inl q)⟩
  refine codeAny_call_function hr.depth (KX _ _ lk) rfl S.co S.gen rfl (PySem.W.codeRec_of KX hcd) (hb _ _ _ _ ?_)
  refine wpAny_newFunctionEnv_cells S.kind hkind fun env he s1 x => ?_
  subst he
  refine ⟨lim.keeps x.toInCall.keep, codeAny_func ?_⟩
  obtain ⟨t, ht, hq⟩ := hbody A outer s H vs Q E (hr.deeper _) hsp
  have I : Inv (cxOf CX P w K mg base N qual scope f cdv A outer s H E) [] (start N vs) H s1 := inv_start S hr.hd e0 hl r x
  refine wpAny_mono (ht [] s1 (start N vs) H _ I hq) (fun fl s' hs => ?_) fun e s' hs => hs
  have fin : ∀ {σ' : St} {H' : Hp} {v : V} {u : Value}, Inv (cxOf CX P w K mg base N qual scope f cdv A outer s H E) [] σ' H' s' → RelV v u → Q v H' → CE outer P w H s Q u s' :=
    fun {σ' H' v u} J rv q => ⟨v, H', J.os, J.bare, J.base, J.hok, rv, q⟩
  cases fl with
  | ret u =>
    obtain ⟨v, σ', H', J, rv, q⟩ := hs
    exact fin J rv q
  | next =>
    obtain ⟨σ', H', J, q⟩ := hs
    exact fin (v := V.non) (u := Value.none) J rfl q
  | brk =>
    obtain ⟨_, _, _, q⟩ := hs
    exact False.elim q
  | cont =>
    obtain ⟨_, _, _, q⟩ := hs
    exact False.elim q
end L2

namespace L2
open PySem PySem.Spec PyProof.Rows
section
variable {X : Cx} {x : Str} {p pos : Pos} {e : Expr} {es : List Expr} {t : TA} {id T : String} {r : List V → Hp → VK → Prop}

def tCB (r : List V → Hp → VK → Prop) (t : TA) : TE := fun σ H Q => t σ H fun vs H1 => r vs H1 Q
/-- f(e, ..), f a built-in function -/
theorem pe_callB (hc : CallR X (.builtin id) r) (hg : Gl X x) (hm : X.mg x = none) (hv : bootBuiltins x = some (.builtin id)) (ha : PA X (e :: es) t) (hn : x ≠ "__name__" := by decide) (hdb : (x == ("__debug__" : Str)) = false := by decide)
    (he : starEach (e :: es) X.env = (false, eval e X.env) :: starEach es X.env := by rfl) (hpl : (backTo pos (starEach es X.env)).any (·.1) = false := by rfl) : PE X (.Call (.Name x p) (e :: es) [] pos) (tCB r t) := by
  intro pins s σ H Q I h
  refine wpAny_Call_Name_kw (ld_blt I hg hm hv ?_ hn hdb)
  exact PyProof.Rows.callWith_builtin1 (thn (ha pos pins s σ H _ I h) fun us s1 ⟨vs, H1, I1, r1, q1⟩ => hc pins s1 σ H1 vs us Q I1 r1 q1) he hpl
/-- T(e, ..), T a built-in type -/
theorem pe_callTy (hc : CallR X (.type T) r) (hg : Gl X x) (hm : X.mg x = none) (hv : bootBuiltins x = some (.type T)) (ha : PA X (e :: es) t) (hn : x ≠ "__name__" := by decide) (hdb : (x == ("__debug__" : Str)) = false := by decide)
    (he : starEach (e :: es) X.env = (false, eval e X.env) :: starEach es X.env := by rfl) (hpl : (backTo pos (starEach es X.env)).any (·.1) = false := by rfl) : PE X (.Call (.Name x p) (e :: es) [] pos) (tCB r t) := by
  intro pins s σ H Q I h
  refine wpAny_Call_Name_kw (ld_blt I hg hm hv ?_ hn hdb)
  exact PyProof.Rows.callWith_type1 (thn (ha pos pins s σ H _ I h) fun us s1 ⟨vs, H1, I1, r1, q1⟩ => hc pins s1 σ H1 vs us Q I1 r1 q1) he hpl
end
end L2

namespace HT
open PySem PyProof.Rows



section
open PySem.SeqAt
open PySem.AutoSeq1 (wpAny_loadPart')
open PySem.MeetsSeq PySem.MeetsSeq2 PySem.MeetsSeq3

end

section
variable {prog : Program} {w : World} {A : Around} {E : Value → Shared → Prop} {s : Shared}



/-! ### t[a:b], not the whole -/

end
end HT

namespace L2
open PySem PySem.Spec PyProof.Rows

/-! ### the parts of a slice -/


section
variable {X : Cx} {e : Expr} {te : TE} {lo hi : Option Expr} {tl th : TO} {pos p2 : Pos}




/-! ### t < u, t + u -/
end
end L2

namespace L2
open PySem PySem.Spec PyProof.Rows

/-! ### places -/
/-- the place that an index of any sign means -/
def ixN (n : Nat) (i : Int) : Option Nat := if 0 ≤ i then (if i < n then some i.toNat else none) else if -(n : Int) ≤ i then some (i + n).toNat else none
def atI {α : Type} (xs : List α) (i : Int) : Option α := (ixN xs.length i).bind fun j => xs[j]?
theorem ixN_seq {n : Nat} {i : Int} {j : Nat} (h : ixN n i = some j) : seqIndex? i n = some j ∧ j < n ∧ -(n : Int) ≤ i ∧ i < n := by
  unfold ixN at h
  by_cases h0 : 0 ≤ i
  · rw [if_pos h0] at h
    by_cases h1 : i < n
    · rw [if_pos h1] at h
      have e : i.toNat = j := Option.some.inj h
      exact ⟨by rw [seqIndex_of h0 h1, e], by omega, by omega, h1⟩
    · rw [if_neg h1] at h; cases h
  · rw [if_neg h0] at h
    by_cases h1 : -(n : Int) ≤ i
    · rw [if_pos h1] at h
      have e : (i + n).toNat = j := Option.some.inj h
      exact ⟨by rw [seqIndex_neg (by omega) h1, e], by omega, h1, by omega⟩
    · rw [if_neg h1] at h; cases h
theorem atI_get {α : Type} {xs : List α} {i : Int} {v : α} (h : atI xs i = some v) : ∃ j, seqIndex? i xs.length = some j ∧ xs[j]? = some v ∧ j < xs.length ∧ -(xs.length : Int) ≤ i ∧ i < xs.length := by
  unfold atI at h
  cases e : ixN xs.length i with
  | none => rw [e] at h; cases h
  | some j =>
    rw [e] at h
    obtain ⟨h1, h2, h3, h4⟩ := ixN_seq e
    exact ⟨j, h1, h, h2, h3, h4⟩
theorem atI_nat {α : Type} {xs : List α} {j : Nat} {v : α} (h : xs[j]? = some v) : atI xs (j : Int) = some v := by
  have hj : j < xs.length := (List.getElem?_eq_some_iff.mp h).1
  have e : ixN xs.length (j : Int) = some j := by
    unfold ixN
    rw [if_pos (by omega), if_pos (by omega)]; simp
  unfold atI; rw [e]; exact h

/-! ### what may be subscripted -/
/-- what stands as an index of a plain subscript -/
def PlainIx (b : Expr) : Prop := ∀ o i, subscripted b false o i = operate [o, i] (getItem o i)
/-- a subscript by values -/
def IxR (X : Cx) (r : R2) : Prop :=
  ∀ (value slice : Expr) (pins : List (Addr × Obj)) (s : Shared) (σ : St) (H : Hp) (x y : V) (v u : Value) (Q : VK), Inv X pins σ H s → RelV x v → RelV y u → r x y H Q →
    subscripted slice false v u = operate [v, u] (getItem v u) → wpAny (model X.prog X.w) X.A (subscriptTail value slice v u) (EP X pins σ Q) X.xe s
/-- a call of a builtin's method by values: the receiver, the arguments -/
def MtR (X : Cx) (id : String) (r : V → List V → Hp → VK → Prop) : Prop :=
  ∀ (pins : List (Addr × Obj)) (s : Shared) (σ : St) (H : Hp) (x : V) (xs : List V) (v : Value) (us : List Value) (Q : VK), Inv X pins σ H s → RelV x v → Vals xs us → r x xs H Q →
    wpAny (model X.prog X.w) X.A (call (.builtin id) (v :: us)) (EP X pins σ Q) X.xe s
section
variable {X : Cx} {a b : Expr} {ta tb : TE} {pos : Pos}
/-- a[b] -/
theorem pe_ix {r : R2} (hr : IxR X r) (ha : PE X a ta) (hb : PE X b tb) (hs : PlainIx b) : PE X (.Subscript a b pos) (tOp r ta tb) := by
  intro pins s σ H Q I h
  exact Subscript_ (binT ha hb I h fun v u s2 x y H2 I2 rx ry q => hr a b pins s2 σ H2 x y v u Q I2 rx ry q (hs _ _))

def rIxL (K : PySem.W.Frag) : R2 := fun x y H Q => ∃ p xs i v, x = .ref p ∧ y = .int i ∧ SqL K H p xs ∧ atI xs i = some v ∧ Q v H
def rIxT (K : PySem.W.Frag) : R2 := fun x y H Q => ∃ p xs i v, x = .ref p ∧ y = .int i ∧ SqT K H p xs ∧ atI xs i = some v ∧ Q v H
theorem ix_list : IxR X (rIxL X.K) := by
  intro value slice pins s σ H x y v u Q I rx ry h hs
  obtain ⟨p, xs, i, z, rfl, rfl, hq, he, q⟩ := h
  cases rx
  obtain ⟨t, rfl⟩ := ry
  obtain ⟨its, r, pl, hz⟩ := I.list hq
  obtain ⟨j, h1, h2, h3, h4, h5⟩ := atI_get he
  obtain ⟨w, ew, rw'⟩ := r.get h2
  have hl := r.length
  have hn := line63
  have fin : EP X pins σ Q w s := ⟨z, H, I, rw', q⟩
  by_cases h0 : 0 ≤ i
  · have hj : i.toNat = j := by
      rw [seqIndex_of h0 h5] at h1
      exact Option.some.inj h1
    exact item_listR pl.isList h0 (by omega) (by rw [hj]; simpa using ew) fin hs
  · have hj : (i + (its.toArray.size : Int)).toNat = j := by
      rw [seqIndex_neg (by omega) h4] at h1
      rw [List.size_toArray, ← hl]
      exact Option.some.inj h1
    exact subscriptTail_builtinR (x := w) pl.isList.typeIs slot_list_getitem.lookup
      (wpAny_getItem_list_neg (Q := fun r s' => r = w ∧ EP X pins σ Q r s') pl.isList (by omega) (by rw [List.size_toArray] <;> omega) (by omega) (by rw [hj]; simpa using ew) ⟨rfl, fin⟩) hs
theorem ix_tup : IxR X (rIxT X.K) := by
  intro value slice pins s σ H x y v u Q I rx ry h hs
  obtain ⟨p, xs, i, z, rfl, rfl, hq, he, q⟩ := h
  cases rx
  obtain ⟨t, rfl⟩ := ry
  obtain ⟨its, r, pl, hz⟩ := I.tuple hq
  obtain ⟨j, h1, h2, h3, h4, h5⟩ := atI_get he
  obtain ⟨w, ew, rw'⟩ := r.get h2
  have hl := r.length
  have hn := line63
  have fin : EP X pins σ Q w s := ⟨z, H, I, rw', q⟩
  exact subscriptTail_builtinR (x := w) pl.typeIs slot_tuple_getitem.lookup
    (getItem_tuple (j := j) (Q := fun r s' => r = w ∧ EP X pins σ Q r s') pl (by omega) (by omega) (by rw [List.size_toArray, ← hl]; exact h1) (by simpa using ew) ⟨rfl, fin⟩) hs

/-! ### xs[i] = v, any sign -/
/-- the list's object behind a store -/
theorem mapSeq_set (its : List Value) (n j : Nat) (u : Value) : Obj.mapSeq (·.setIfInBounds j u) { cls := .type "list", data := .seq its.toArray n } = { cls := .type "list", data := .seq (its.set j u).toArray n } := by
  simp [Obj.mapSeq]
theorem Inv.lst {pins : List (Addr × Obj)} {σ : St} {H : Hp} {s : Shared} {p : Addr} {xs : List V} (I : Inv X pins σ H s) (h : H p = some (.lst xs)) :
    ∃ (its : List Value) (n : Nat), Vals xs its ∧ s.heap.get? p = some { cls := .type "list", data := .seq its.toArray n } ∧ xs.length ≤ sizeLine := by
  obtain ⟨z, its, n, r, e⟩ := I.hok p _ h
  exact ⟨its, n, r, e, z⟩
/-- the list at p is written by an update of its object -/
theorem Inv.lstUpd {pins : List (Addr × Obj)} {σ : St} {H : Hp} {s : Shared} {p : Addr} {xs ys : List V} {its its' : List Value} {n n' : Nat} {f : Obj → Obj} (I : Inv X pins σ H s) (h : H p = some (.lst xs))
    (ho : s.heap.get? p = some { cls := .type "list", data := .seq its.toArray n }) (hf : f { cls := .type "list", data := .seq its.toArray n } = { cls := .type "list", data := .seq its'.toArray n' }) (r : Vals ys its') (hz : ys.length ≤ sizeLine) (t : Nat) :
    Inv X pins σ (upd H p (.lst ys)) { s with heap := s.heap.update p f, toks := t } := by
  have e : (s.heap.update p f).get? p = some { cls := .type "list", data := .seq its'.toArray n' } := by
    rw [Heap.get?_update_self f ho (by rw [hf] <;> rfl), hf]
  refine I.write (x := p) (e := p) (by rw [h]; trivial) (.inl rfl) (fun b u hb q => (Heap.get?_update_other _ _ (Ne.symm hb)).trans q) ⟨_, e⟩ ?_
  exact ⟨hz, its', n', r, e⟩
def rSetL : V → V → V → Hp → (Hp → Prop) → Prop := fun o i v H Q => ∃ p xs k j, o = .ref p ∧ i = .int k ∧ H p = some (.lst xs) ∧ ixN xs.length k = some j ∧ Q (upd H p (.lst (xs.set j v)))
theorem set_list : PSet X rSetL := by
  intro pins s σ H o i v ov iv u Q I ro ri rv h
  obtain ⟨p, xs, k, j, rfl, rfl, hp, hj, q⟩ := h
  cases ro
  obtain ⟨t, rfl⟩ := ri
  obtain ⟨its, n, r, ho, hz⟩ := I.lst hp
  obtain ⟨h1, h2, h3, h4⟩ := ixN_seq hj
  have hl := r.length
  have hn := line63
  have I' : Inv X pins σ (upd H p (.lst (xs.set j v))) { s with heap := s.heap.update p (Obj.mapSeq (·.setIfInBounds j u)) } :=
    I.lstUpd hp ho (mapSeq_set its n j u) (r.set rv j) (by rw [List.length_set]; exact hz) s.toks
  by_cases h0 : 0 ≤ k
  · have hk : k.toNat = j := by
      rw [seqIndex_of h0 h4] at h1
      exact Option.some.inj h1
    exact PySem.W.ki_setAt ho h0 (by omega) (by rw [List.size_toArray, ← hl]; exact h4) (by rw [hk]; exact ⟨_, I', q⟩)
  · have hk : (k + (its.toArray.size : Int)).toNat = j := by
      rw [seqIndex_neg (by omega) h3] at h1
      rw [List.size_toArray, ← hl]
      exact Option.some.inj h1
    exact PySem.W.ki_setBack ho (by omega) (by rw [List.size_toArray, ← hl]; exact h3) (by omega) (by rw [hk]; exact ⟨_, I', q⟩)

/-! ### slices -/

/-! ### in, not in: flat items -/

/-! ### len, list(x), tuple(x) of any list or tuple that is read -/
theorem call_len_seq : CallR X (.builtin "len") (fun xs H Q => ∃ p ys, xs = [.ref p] ∧ (SqL X.K H p ys ∨ SqT X.K H p ys) ∧ Q (.int ys.length) H) := by
  intro pins s σ H xs us Q I r h
  obtain ⟨p, ys, rfl, hq, q⟩ := h
  obtain ⟨u, rfl, rx⟩ := vals1 r
  cases rx
  have hn := line63
  rcases hq with hq | hq
  · obtain ⟨its, r', pl, hz⟩ := I.list hq
    have hlen := r'.length
    exact Calls.call_len_list pl.isList (by simp only [List.size_toArray] <;> omega) ⟨.int ys.length, H, I.tok _, ⟨s.toks + 1, by rw [List.size_toArray, hlen]⟩, q⟩
  · obtain ⟨its, r', pl, hz⟩ := I.tuple hq
    have hlen := r'.length
    exact len_tuple pl (by simp only [List.size_toArray] <;> omega) ⟨.int ys.length, H, I.tok _, ⟨s.toks + 1, by rw [List.size_toArray, hlen]⟩, q⟩
theorem call_list_of : CallR X (.type "list") (fun xs H Q => ∃ p ys, xs = [.ref p] ∧ (SqL X.K H p ys ∨ SqT X.K H p ys) ∧ ∀ l, H l = none → Q (.ref l) (upd H l (.lst ys))) := by
  intro pins s σ H xs us Q I r h
  obtain ⟨p, ys, rfl, hq, q⟩ := h
  obtain ⟨u, rfl, rx⟩ := vals1 r
  cases rx
  have fin : ∀ (its : List Value), Vals ys its → ys.length ≤ sizeLine → ∀ (h' : Heap) (c' : Nat), (∀ b o', s.heap.get? b = some o' → h'.get? b = some o') →
      h'.get? s.heap.objs.size = some { cls := .type "list", dict := none, data := .seq its.toArray c', slots := #[] } → EP X pins σ Q (.ref s.heap.objs.size) { s with heap := h' } := fun its r' hz h' c' kp e =>
    ⟨.ref s.heap.objs.size, _, I.laid (t' := s.toks) kp (Nat.le_refl _) (show ObjOk X.prog X.w _ h' _ (.lst ys) from ⟨hz, its, c', r', e⟩), rfl, q _ (I.hok.fresh (Nat.le_refl _))⟩
  rcases hq with hq | hq
  · obtain ⟨its, r', pl, hz⟩ := I.list hq
    have hlen := r'.length
    obtain ⟨o, ho, hc, n, hd⟩ := pl.isList
    exact call_list_seq p (.inl rfl) ho hc hd (fun h' c' kp e => fin its r' hz h' c' kp e) (by simp only [List.size_toArray] <;> omega)
  · obtain ⟨its, r', pl, hz⟩ := I.tuple hq
    have hlen := r'.length
    obtain ⟨o, ho, hc, n, hd⟩ := pl
    exact call_list_seq p (.inr rfl) ho hc hd (fun h' c' kp e => fin its r' hz h' c' kp e) (by simp only [List.size_toArray] <;> omega)

/-! ### the call of a builtin's method: o.m(..) -/
/-- the value is of that builtin type -/
def tyV (K : PySem.W.Frag) (T : String) (x : V) (H : Hp) : Prop := match x with
  | .str _ => T = "str"
  | .int _ => T = "int"
  | .ref p => (T = "list" ∧ ∃ xs, SqL K H p xs) ∨ (T = "tuple" ∧ ∃ o, K.lookup p = some o ∧ o.cls = .type "tuple" ∧ o.dict = none) ∨
      (T = "dict" ∧ ((∃ kvs, H p = some (.dK kvs)) ∨ ∃ kvs, H p = some (.dT kvs))) ∨ (T = "set" ∧ ∃ S n, H p = some (.set S n))
  | _ => False
theorem tyV_is {pins : List (Addr × Obj)} {σ : St} {H : Hp} {s : Shared} {T : String} {x : V} {v : Value} (I : Inv X pins σ H s) (r : RelV x v) (ty : tyV X.K T x H) :
    s.TypeIs v T ∧ ∀ a, v = .ref a → ∃ ob, s.heap.get? a = some ob ∧ ob.dict = none := by
  cases x with
  | str z =>
    obtain ⟨t, rfl⟩ := r
    cases (show T = "str" from ty)
    exact ⟨typeIs_str s z t, fun _ e => nomatch e⟩
  | int i =>
    obtain ⟨t, rfl⟩ := r
    cases (show T = "int" from ty)
    exact ⟨typeIs_int s i t, fun _ e => nomatch e⟩
  | ref p =>
    cases r
    rcases ty with ⟨rfl, xs, hq⟩ | ⟨rfl, o, hk, hc, hd⟩ | ⟨rfl, hk⟩ | ⟨rfl, S, n, hk⟩
    · obtain ⟨its, _, pl, _⟩ := I.list hq
      refine ⟨pl.isList.typeIs, fun a e => ?_⟩
      cases e
      obtain ⟨o, n, e, c, hd, _⟩ := pl
      exact ⟨o, e, hd⟩
    · refine ⟨⟨o, I.kIn p o hk, hc⟩, fun a e => ?_⟩
      cases e
      exact ⟨o, I.kIn _ o hk, hd⟩
    · have z : ∃ o, s.heap.get? p = some o ∧ o.ExactDict := by
        rcases hk with ⟨kvs, hk⟩ | ⟨kvs, hk⟩
        · obtain ⟨_, _, _, _, o, _, _, e, ex, _⟩ := I.hok p _ hk
          exact ⟨o, e, ex⟩
        · obtain ⟨_, _, _, _, o, _, _, e, ex, _⟩ := I.hok p _ hk
          exact ⟨o, e, ex⟩
      obtain ⟨o, e, ex⟩ := z
      refine ⟨⟨o, e, ex.1⟩, fun a e2 => ?_⟩
      cases e2
      exact ⟨o, e, ex.2.1⟩
    · obtain ⟨o, _, _, _, e, ex, _⟩ := I.hok p _ hk
      refine ⟨⟨o, e, ex.1⟩, fun a e2 => ?_⟩
      cases e2
      exact ⟨o, e, ex.2.1⟩
  | _ => exact False.elim ty
def tBM0 (K : PySem.W.Frag) (T : String) (r : V → List V → Hp → VK → Prop) (to : TE) : TE := fun σ H Q => to σ H fun x H1 => tyV K T x H1 ∧ r x [] H1 Q
def tBM (K : PySem.W.Frag) (T : String) (r : V → List V → Hp → VK → Prop) (to : TE) (t : TA) : TE := fun σ H Q => to σ H fun x H1 => tyV K T x H1 ∧ t σ H1 fun xs H2 => r x xs H2 Q
variable {o e : Expr} {es : List Expr} {to : TE} {t : TA} {name : Str} {apos cpos : Pos} {T id : String} {r : V → List V → Hp → VK → Prop}
theorem pe_bm0 (pa : PlainAttrs T) (slot : Slot T name id) (hty : typeOf (.builtin id) = pure (.type "method_descriptor")) (hm : MtR X id r) (ho : PE X o to)
    (hbase : attributeBase o name X.env (eval o X.env) = eval o X.env := by rfl) (hline : (apos.endLine == cpos.line) = true := by rfl) : PE X (.Call (.Attribute o name apos) [] [] cpos) (tBM0 X.K T r to) := by
  intro pins s σ H Q I h
  refine wpAny_Call_method0_late hbase hline (thn (ho pins s σ H _ I h) fun v s1 ⟨x, H1, I1, r1, ty, q1⟩ => ?_)
  obtain ⟨h1, h2⟩ := tyV_is I1 r1 ty
  exact ⟨T, id, pa, slot, hty, h1, h2, Calls.callWith_builtin rfl (PySem.evalArgs_none (hm pins s1 σ H1 x [] v [] Q I1 r1 .nil q1))⟩
theorem pe_bm (pa : PlainAttrs T) (slot : Slot T name id) (hty : typeOf (.builtin id) = pure (.type "method_descriptor")) (hm : MtR X id r) (ho : PE X o to) (ha : PA X (e :: es) t)
    (hbase : attributeBase o name X.env (eval o X.env) = eval o X.env := by rfl)
    (hfew : ((backTo cpos (starEach (e :: es) X.env)).all (fun x => !x.1) && (backToKw cpos (keywordEach [] X.env)).all (fun x => x.1.isSome)
      && decide ((e :: es).length + ([] : List Keyword).length + (if ([] : List Keyword).isEmpty then 0 else 1) < 30)) = true := by rfl)
    (hline : (apos.endLine == cpos.line) = true := by rfl) (hs : starEach (e :: es) X.env = (false, eval e X.env) :: starEach es X.env := by rfl) (hplain : (backTo cpos (starEach es X.env)).any (·.1) = false := by rfl) :
    PE X (.Call (.Attribute o name apos) (e :: es) [] cpos) (tBM X.K T r to t) := by
  intro pins s σ H Q I h
  refine wpAny_Call_method_late hbase hfew hline rfl (thn (ho pins s σ H _ I h) fun v s1 ⟨x, H1, I1, r1, ty, q1⟩ => ?_)
  obtain ⟨h1, h2⟩ := tyV_is I1 r1 ty
  refine ⟨T, id, pa, slot, hty, h1, h2, ?_⟩
  have hA := ha cpos pins s1 σ H1 _ I1 q1
  rw [hs] at hA ⊢
  refine Calls.callWith_builtin (by show (false || (backTo cpos (starEach es X.env)).any (·.1)) = false; rw [hplain] <;> rfl) (Calls.evalArgs_plain ?_)
  exact thn hA fun us s2 ⟨vs, H2, I2, r2, q2⟩ => hm pins s2 σ H2 x vs v us Q I2 r1 r2 q2
/- xs.append(e), list.index on a module's tuple .. are MtR facts of 06m -/
end
end L2

namespace L2
open PySem PySem.Spec PyProof.Rows

def MtM (X : Cx) (id : String) (r : V → List V → Hp → VK → Prop) : Prop :=
  ∀ (pins : List (Addr × Obj)) (s : Shared) (σ : St) (H : Hp) (x : V) (xs : List V) (v : Value) (us : List Value) (Q : VK), Inv X pins σ H s → RelV x v → Vals xs us → r x xs H Q →
    wpAny (model X.prog X.w) X.A (call (.builtin id) (v :: us)) (EP X pins σ Q) X.xe s

/-! ### lists of values -/
theorem Vals.one : ∀ {x : V} {us : List Value}, Vals [x] us → ∃ u, us = [u] ∧ RelV x u
  | _, _, .cons r .nil => ⟨_, rfl, r⟩
theorem Vals.two : ∀ {x y : V} {us : List Value}, Vals [x, y] us → ∃ u v, us = [u, v] ∧ RelV x u ∧ RelV y v
  | _, _, _, .cons r (.cons q .nil) => ⟨_, _, rfl, r, q⟩
theorem Vals.zero : ∀ {us : List Value}, Vals [] us → us = []
  | _, .nil => rfl
theorem Vals.dropLast {xs : List V} {us : List Value} (h : Vals xs us) : Vals xs.dropLast us.dropLast := by
  induction h with
  | nil => exact .nil
  | cons r t ih =>
    cases t with
    | nil => exact .nil
    | cons q t' => exact .cons r ih
theorem erase_last {α : Type} (l : List α) : l.eraseIdx (l.length - 1) = l.dropLast := by
  induction l with
  | nil => rfl
  | cons a r ih =>
    cases r with
    | nil => rfl
    | cons b r =>
      have e : (a :: b :: r).length - 1 = ((b :: r).length - 1) + 1 := by
        have h1 : (a :: b :: r).length = r.length + 2 := rfl
        have h2 : (b :: r).length = r.length + 1 := rfl
        omega
      rw [e, List.eraseIdx_cons_succ, ih]
      all_goals rfl

section
variable {X : Cx} {pins : List (Addr × Obj)} {σ : St} {H : Hp} {s : Shared} {l b : Addr} {xs ys zs : List V}

/-! ### the two steps: a tracked list is rewritten, a new list is laid -/
theorem Inv.lset {its its' : List Value} {n : Nat} {f : Array Value → Array Value} {t' : Nat} (I : Inv X pins σ H s) (hH : H l = some (.lst xs))
    (e : s.heap.get? l = some { cls := .type "list", data := .seq its.toArray n }) (hf : f its.toArray = its'.toArray) (hv : Vals ys its') (hz : ys.length ≤ sizeLine) :
    Inv X pins σ (upd H l (.lst ys)) { s with heap := s.heap.update l (Obj.mapSeq f), toks := t' } := by
  have q := PySem.IsL.update e f
  rw [hf] at q
  refine I.write (x := l) (e := l) (by rw [hH]; exact trivial) (.inl rfl) (fun b' u hb hu => (Heap.get?_update_other s.heap (Obj.mapSeq f) (Ne.symm hb)).trans hu) ⟨_, q⟩ ?_
  exact ⟨hz, its', _, hv, q⟩
theorem Inv.lnew {its : List Value} {t' : Nat} (I : Inv X pins σ H s) (hv : Vals ys its) (hz : ys.length ≤ sizeLine) :
    Inv X pins σ (upd H s.heap.objs.size (.lst ys)) { s with heap := s.heap.push { cls := .type "list", data := .seq its.toArray }, toks := t' } :=
  I.laid (fun _ _ q => Heap.get?_push_of_some _ q) (Nat.le_refl _) ⟨hz, its, 0, hv, Heap.get?_push_size _ rfl⟩
theorem Inv.fresh (I : Inv X pins σ H s) : H s.heap.objs.size = none := I.hok.fresh (Nat.le_refl _)
theorem Inv.lstM (I : Inv X pins σ H s) (hH : H l = some (.lst xs)) : xs.length ≤ sizeLine ∧ ∃ (its : List Value) (n : Nat), Vals xs its ∧ xs.length = its.length ∧ s.heap.get? l = some { cls := .type "list", data := .seq its.toArray n } := by
  obtain ⟨z, its, n, r, e⟩ := I.hok l _ hH
  exact ⟨z, its, n, r, r.length, e⟩

end

section
variable {X : Cx}

/-! ### methods -/
def rAppend : V → List V → Hp → VK → Prop := fun x vs H Q => ∃ l xs y, x = .ref l ∧ vs = [y] ∧ H l = some (.lst xs) ∧ xs.length < sizeLine ∧ Q .non (upd H l (.lst (xs ++ [y])))
theorem mt_append : MtM X "list.append" rAppend := by
  intro pins s σ H x vs v us Q I rx rv h
  obtain ⟨l, xs, y, rfl, rfl, hH, hz, q⟩ := h
  cases rx
  obtain ⟨u, rfl, ru⟩ := rv.one
  obtain ⟨z, its, n, r, hl, e⟩ := I.lstM hH
  refine call_meets F.slot_list_append ⟨_, e, rfl⟩ F.entry_list_append (F.args_list_append_2 _ _) (PySem.list_append l its.toArray n u (by rw [List.size_toArray]; omega)) ⟨e, ?_⟩
  refine ⟨.non, _, I.lset (its' := its ++ [u]) hH e (by simp) (r.append (.cons ru .nil)) ?_, rfl, q⟩
  rw [List.length_append, List.length_singleton]
  omega


def rPop : V → List V → Hp → VK → Prop := fun x vs H Q => ∃ l xs y, x = .ref l ∧ vs = [] ∧ H l = some (.lst xs) ∧ xs[xs.length - 1]? = some y ∧ Q y (upd H l (.lst xs.dropLast))
theorem mt_pop : MtM X "list.pop" rPop := by
  intro pins s σ H x vs v us Q I rx rv h
  obtain ⟨l, xs, y, rfl, rfl, hH, hy, q⟩ := h
  cases rx
  have hus := rv.zero
  subst hus
  obtain ⟨z, its, n, r, hl, e⟩ := I.lstM hH
  obtain ⟨u, hu, ru⟩ := r.get hy
  have hy' : its.toArray[its.toArray.size - 1]? = some u := by
    show its.toArray[its.length - 1]? = some u
    rw [← Array.getElem?_toList, ← hl]
    exact hu
  refine call_meets F.slot_list_pop ⟨_, e, rfl⟩ F.entry_list_pop (F.args_list_pop_1 _) (MeetsSeq.list_pop_last l its.toArray n u hy' (by rw [List.size_toArray]; omega)) ⟨e, ?_⟩
  refine ⟨y, _, I.lset (its' := its.dropLast) hH e ?_ r.dropLast ?_, ru, q⟩
  · show its.toArray.eraseIdxIfInBounds (its.toArray.size - 1) = its.dropLast.toArray
    rw [List.size_toArray, List.eraseIdxIfInBounds_toArray, erase_last]
  · rw [List.length_dropLast]
    omega




/-! ### list + list, list += list, list * int -/

/-! ### del xs[i] -/
end

/-! ### xs[a:b] = ys -/
section
variable {prog : Program} {w : World} {A : Around} {E : Value → Shared → Prop} {s : Shared}
end

section
variable {X : Cx}
end
end L2

namespace Att
open PySem PySem.W PySem.Calls PyProof.Rows

/-! ### the script -/
theorem ints_of_wellAll {P : Params} {h : Heap} : ∀ (ns : List Int) (vs : List Value), WellAll P h vs (ns.map WData.int) → IntsAre vs ns := by
  intro ns
  induction ns with
  | nil =>
    intro vs w
    rw [List.map_nil] at w
    cases w
    exact .nil
  | cons n ns ih =>
    intro vs w
    rw [List.map_cons] at w
    cases w with
    | cons a b =>
      cases a
      exact .cons _ _ (ih _ b)

theorem script_of {l : OpenLaw} {n : Nat} (hn : l.most = some n) {P : Params} {h : Heap} {args : List WData} {vals : List Value}
    (hpre : l.row.toRowW.claim.pre args = true) (hwl : WellAll P h vals args) :
    ∃ a vs ns, vals = [Value.ref a] ∧ args = [WData.list (ns.map WData.int)] ∧ h.get? a = some { cls := .type "list", data := .seq vs.toArray } ∧ IntsAre vs ns ∧ ns.length ≤ n := by
  have hsh : WShape.hasAll [] args [.list .int] = true := (pre_splitW hpre).1
  have hc : l.pre.holds [] { args := args } = true := (pre_splitW hpre).2
  obtain ⟨d, r, rfl, h1, h2⟩ := hasAllW_cons hsh
  obtain rfl := hasAllW_nil h2
  obtain ⟨xs, rfl, h3⟩ := hasW_list h1
  obtain ⟨ns, rfl⟩ := items_int h3
  have hlen : ns.length ≤ n := by
    unfold OpenLaw.pre at hc
    have h4 : (WTm.not (.lt (.lit (.int (n : Int))) (.len (.arg 0)))).holds [] { args := [.list (ns.map .int)] } = true := by
      have h4 := (holds_andW hc).1
      rw [hn] at h4
      exact h4
    have h5 := condW_of h4 (w_not (w_lt w_lit (w_len_list (w_arg rfl))))
    rw [List.length_map] at h5
    refine Nat.le_of_not_lt fun q => ?_
    have q' : (n : Int) < ((ns.length : Nat) : Int) := by omega
    first
      | (rw [decide_eq_true q'] at h5; exact absurd h5 (by decide))
      | (simp at h5; omega)
  cases hwl with
  | cons w1 w2 =>
    cases w2
    cases w1 with
    | list ho hall => exact ⟨_, _, ns, rfl, rfl, ho, ints_of_wellAll ns _ hall, hlen⟩

theorem post_true (l : OpenLaw) (args : List WData) : l.row.toRowW.claim.post args (.bool true) args = true :=
  postW_of (r := l.row.toRowW) (X := (true == true))
    (show WShape.has [] (.bool true) .bool = true by first | rfl | decide | simp [WShape.has, WShape.arms, WShape.armsAll])
    (show (WTm.eq .res (.lit (.bool true))).value [] { args := args, res := some (.bool true), after := args } = some (.bool (true == true)) from w_eq_bool (w_res rfl) w_lit) rfl

/-! ### the attachment: holds_open's last premise (the goal 'hc' behind k_head) from a wpAny of the law's body -/

/-- the same from a codeAny of the CALL (for a layer whose function contracts speak of calls) -/
theorem attach_call {l : OpenLaw} {n : Nat} {q : Program} {loose : List Str} {XP : (Str → Option Value) → Heap → Prop} {YP : World → Heap → Prop} {d : DefRec}
    (hn : l.most = some n) (hdf : d.params.defaults = [])
    (call : ∀ (w : World) (s₀ s₁ : Shared) (mg mb : Str → Option Value) (fa : Addr) (o : Obj) (pm cd doc : Value) (a : Addr) (vs : List Value) (ns : List Int),
      Ground q loose [] XP w s₀ mg mb s₁.heap → YP w s₁.heap →
      s₁.heap.get? fa = some o → o.data = .func (docDef d.name d.params d.body d.scope pm cd doc) → s₁.heap.CodeRec cd d.name → mg d.name = some (.ref fa) →
      s₁.heap.get? a = some { cls := .type "list", data := .seq vs.toArray } → IntsAre vs ns → ns.length ≤ n → s₁.gens = #[] →
      codeAny (model l.prog w) callerA (.call (.ref fa) ⟨[.ref a], []⟩) (fun r s' => r = .ok (.ret (.bool true)) ∧ OldK s₁.heap s'.heap ∧ s'.os = s₁.os ∧ AllBare s'.gens) s₁) :
    WalkO q loose XP YP l.row.toRowW d [] (fun f vs => PySem.call f vs) := by
  intro w s₀ s₁ mg mb G Y fa o pm cd doc dV kV ho hd hcd hD hmg hg args vals as hpre hlay hrd hwl hlo
  obtain rfl : dV = .none := Dflts.none hD hdf
  obtain rfl : kV = .none := Dflts.noKw hD
  obtain ⟨a, vs, ns, rfl, rfl, hobj, hints, hlen⟩ := script_of hn hpre hwl
  refine enter_call (codeAny_mono (call w s₀ s₁ mg mb fa o pm cd doc a vs ns G Y ho (fd_plain hd) hcd hmg hobj hints hlen hg) fun r s' hq => ?_)
  obtain ⟨rfl, h2, h3, h4⟩ := hq
  exact ⟨.inl ⟨.bool true, .bool true, [], rfl, fun _ => rfl, .bool true, post_true l _, fun _ => ⟨List.Pairwise.nil, fun _ hm => (nomatch hm)⟩⟩, h2, h3, h4⟩


/-! ### rules over ANY heap (no ledger) from facts about the written part K: the library's own take a ledger (News) for what they write -/
section
variable {prog : Program} {w : World} {A : Around} {E : Value → Shared → Prop} {s : Shared} {K : Frag}





/-! the whole heap as the ledger: makes every rule that writes through a ledger a rule over any heap -/

end
end Att

namespace L2
open PySem PySem.Spec PyProof.Rows

theorem vals_ints : ∀ {vs : List Value} {ns : List Int}, IntsAre vs ns → Vals (ns.map V.int) vs
  | _, _, .nil => .nil
  | _, _, .cons n t h => .cons ⟨t, rfl⟩ (vals_ints h)

/-- nothing is tracked but the script, known to the object (or it is an object of the module) -/
def Only (H : Hp) : Prop := ∀ b, H b = none ∨ ∃ o xs, H b = some (.frz o (.lst xs))

/-- THE HEAD: the law's promise, at the heap behind the top. F, the promise of the law's def, may use that base is part of the heap (so K.In base, base.Ns mainGlobals mg stand in Mod) -/
theorem law_call {P : Program} {w : World} {K : PySem.W.Frag} {mg mb : Str → Option Value} {CX : CXT} {k : Nat} {fa a : Addr} {fd : FuncData} {x : Str} {sp : Sp} {s₁ : Shared} {vs : List Value} {ns : List Int}
    (KX : K.In s₁.heap) (hns : s₁.heap.Ns mainGlobals mg) (hb : s₁.heap.Ns builtinsNs mb) (hbb : ∀ x : Str, x ≠ "__name__" → mb x = bootBuiltins x) (hlim : s₁.heap.NoLimit) (hg : s₁.gens = #[])
    (ha : s₁.heap.get? a = some { cls := .type "list", data := .seq vs.toArray }) (hi : IntsAre vs ns) (hl : ns.length ≤ sizeLine) (hr : Room k callerA)
    (F : ∀ base : Heap, K.In base → base.Ns mainGlobals mg → FnOk P w K mg base CX k fa fd [x] sp) (hbind : ∀ (s : Shared) (u : Value), BindsTo s fd ⟨[u], []⟩ [(x, u)])
    (hsp : ∀ H : Hp, Only H → SqL K H a (ns.map V.int) → sp [.ref a] H (fun v _ => v = .bl true) fun _ _ _ => False)
    (hCX : ∀ H e s', CX [] H s₁ (fun _ _ _ => False) e s' → False) :
    codeAny (model P w) callerA (.call (.ref fa) ⟨[.ref a], []⟩) (fun r s' => r = .ok (.ret (.bool true)) ∧ OldK s₁.heap s'.heap ∧ s'.os = s₁.os ∧ AllBare s'.gens) s₁ := by
  have rv := vals_ints hi
  have lenV := hi.length
  -- from an abstract heap in which nothing but the script may be tracked
  have core : ∀ H : Hp, Only H → SqL K H a (ns.map V.int) → HOk P w H s₁.heap → (∀ b, H b ≠ none → b = a) → (H a ≠ none → K.lookup a = none) →
      codeAny (model P w) callerA (.call (.ref fa) ⟨[.ref a], []⟩) (fun r s' => r = .ok (.ret (.bool true)) ∧ OldK s₁.heap s'.heap ∧ s'.os = s₁.os ∧ AllBare s'.gens) s₁ := by
    intro H hO hS hok hA hK
    have base_of : ∀ {b : Addr} {o : Obj}, s₁.heap.get? b = some o → H b = none → (hidT s₁.heap H).get? b = some o := fun e n => hidT_get e n
    have noA : ∀ {b : Addr} {o : Obj} {es : Array DictEntry} {ep : Nat}, s₁.heap.get? b = some o → o.data = .dict es ep → H b = none := fun {b o es ep} e d => by
      cases q : H b with
      | none => rfl
      | some u =>
        have e' : b = a := hA b (by rw [q]; simp)
        subst e'
        rw [ha] at e; cases e
        have d' : Data.seq vs.toArray _ = Data.dict es ep := d
        cases d'
    have nsK : ∀ {b : Addr} {m : Str → Option Value}, s₁.heap.Ns b m → (hidT s₁.heap H).Ns b m := fun {b m} ⟨o, es, ep, e, d, r⟩ => ⟨o, es, ep, base_of e (noA e d), d, r⟩
    have hKb : K.In (hidT s₁.heap H) := fun b o e => base_of (KX b o e) (by
      cases q : H b with
      | none => rfl
      | some u =>
        have e' : b = a := hA b (by rw [q]; simp)
        subst e'
        rw [hK (by rw [q]; simp)] at e; cases e)
    have hM : Mod K mg (hidT s₁.heap H) := ⟨hKb, nsK hns, ⟨mb, nsK hb, hbb⟩, let ⟨mc, h1, h2⟩ := hlim; ⟨mc, nsK h1, h2⟩⟩
    have e0 : Env0 P w K mg (hidT s₁.heap H) callerA [] s₁ H := ⟨rfl, hM, fun b o e => of_hidT e, Nat.le_of_eq (hidT_size _ _), trivial, fun b hb => absurd (show b ∈ ([] : List Addr) from hb) (by simp), hok, .of_eq hg⟩
    refine codeAny_mono ((F _ hKb (nsK hns)).run callerA [] s₁ H ⟨[.ref a], []⟩ [.ref a] [.ref a] _ _ hr e0 (hbind s₁ (.ref a)) (.cons rfl .nil) (hsp H hO hS)) fun r s' h => ?_
    cases r with
    | error e => exact (hCX H e s' h).elim
    | ok fl =>
      cases fl with
      | next => exact False.elim h
      | brk => exact False.elim h
      | cont => exact False.elim h
      | ret u =>
        obtain ⟨v, H', os, bare, un, hok', r', q⟩ := h
        have q' : v = .bl true := q
        subst q'
        obtain rfl : u = Value.bool true := r'
        refine ⟨rfl, OldK.of_keep fun b o e => ?_, os, bare⟩
        cases q : H b with
        | none => exact un.keep b o e q (by intro z; exact absurd (show b ∈ ([] : List Addr) from z) (by simp)) (by simp)
        | some u =>
          rcases hO b with z | ⟨ob, xs, z⟩
          · rw [q] at z; cases z
          · have z2 := un.frzs b ob _ z
            obtain ⟨e1, _⟩ := hok b _ z
            obtain ⟨e2, _⟩ := hok' b _ z2
            rw [e] at e1; cases e1
            exact e2
  cases hk : K.lookup a with
  | some o =>
    -- the script is one of the module's own objects
    have e := KX a o hk
    rw [ha] at e
    cases e
    refine core (fun _ => none) (fun _ => .inl rfl) (.inr ⟨_, vs.toArray, _, hk, rfl, rfl, rfl, by rw [List.size_toArray, lenV]; exact hl, by simpa using rv⟩) (fun b u z => by have z' : (none : Option HO) = some u := z; cases z') (fun b z => absurd rfl z) fun z => absurd rfl z
  | none =>
    refine core (fun b => if b = a then some (.frz { cls := .type "list", data := .seq vs.toArray } (.lst (ns.map V.int))) else none) (fun b => ?_) (.inl (.inr ⟨{ cls := .type "list", data := .seq vs.toArray }, if_pos rfl⟩)) (fun b u z => ?_) (fun b z => ?_) fun _ => hk
    · by_cases hb : b = a
      · exact .inr ⟨_, _, if_pos hb⟩
      · exact .inl (if_neg hb)
    · by_cases hb : b = a
      · have z' := (if_pos hb).symm.trans z
        cases z'
        subst hb
        exact ⟨ha, by rw [List.length_map]; exact hl, vs, _, rv, ha⟩
      · have z' := (if_neg hb).symm.trans z
        cases z'
    · by_cases hb : b = a
      · exact hb
      · exact absurd (if_neg hb) z
end L2

namespace L2
open PySem PySem.Spec PyProof.Rows

abbrev KOf {K : PySem.W.Frag} {h : Heap} (_ : K.In h) : PySem.W.Frag := K

/-- the goal that k_head leaves (case hc), from the law's promise. F gives the function object fd (K's own) once, then the promise over every base -/
theorem walk_of {l : PySem.W.OpenLaw} {n k : Nat} {q : Program} {loose : List Str} {XP : (Str → Option Value) → Heap → Prop} {YP : World → Heap → Prop} {d : DefRec} {K : Params → PySem.W.Frag} {CX : World → CXT} {sp : World → Sp} {x : Str}
    (hn : l.most = some n) (hn2 : n ≤ sizeLine) (hdf : d.params.defaults = []) (hr : Room k callerA)
    (hY : ∀ (w : World) (h : Heap), YP w h → (K w.params).In h)
    (F : ∀ (w : World) (mg : Str → Option Value) (fa : Addr) (h : Heap), (K w.params).In h → h.Ns mainGlobals mg → mg d.name = some (.ref fa) →
      ∃ fd : FuncData, (∀ (s : Shared) (u : Value), BindsTo s fd ⟨[u], []⟩ [(x, u)]) ∧
        ∀ base : Heap, (K w.params).In base → base.Ns mainGlobals mg → FnOk l.prog w (K w.params) mg base (CX w) k fa fd [x] (sp w))
    (hsp : ∀ (w : World) (H : Hp) (a : Addr) (ns : List Int), ns.length ≤ n → Only H → SqL (K w.params) H a (ns.map V.int) → sp w [.ref a] H (fun v _ => v = .bl true) fun _ _ _ => False)
    (hCX : ∀ (w : World) (H : Hp) (s : Shared) (e : Value) (s' : Shared), CX w [] H s (fun _ _ _ => False) e s' → False) :
    PySem.W.WalkO q loose XP YP l.row.toRowW d [] (fun f vs => PySem.call f vs) := by
  refine Att.attach_call hn hdf fun w s₀ s₁ mg mb fa o pm cd doc a vs ns G Y ho hd hcd hmg hobj hints hlen hg => ?_
  have KX := hY w _ Y
  obtain ⟨fd, hb, hF⟩ := F w mg fa _ KX G.T.g hmg
  exact law_call KX G.T.g G.T.b G.T.builtins G.T.nolimit hg hobj hints (Nat.le_trans hlen hn2) hr hF hb (fun H hO hS => hsp w H a ns hlen hO hS) fun H e s' => hCX w H s₁ e s'
end L2

/- THE LAST THEOREM (shape; LID, My.* are yours):
   My.Adr: a structure of the addresses that your layer names (classes, functions); My.Txt K t: a structure (Prop) of the equations over K;
   My.txt_mk : {K} {implicit addresses ..} (e1 : nsIn K mainGlobals "law" = some (some (.ref f))) (e2 : K.lookup f = some ⟨oc, od, .func (fnOf "law" "law" params body scope dV kV doc pm an cdv ct), sl⟩) (e3 : codeIn K cdv "law" = true) .. : ∃ t, My.Txt K t

set_option maxRecDepth 100000 in
set_option maxHeartbeats 0 in
theorem PySem.Challenge.cw_LID_holds : PySem.Challenge.rw_LID.Holds := by
  w_on; o_law; k_head; (case hw => w_witness2)
  k_fill
  refine L2.walk_of (l := PySem.Challenge.rw_LID) (n := 63) (k := 40) (x := "script") (CX := fun w => ..) (sp := fun _ => My.sp_law) rfl (by decide) rfl ⟨rfl, by decide, by decide⟩ (fun w h Y => PySem.W.kIn_of Y) ?F ?S ?C
  case F =>
    intro w mg fa h KX G hmg
    have T : ∃ t, My.Txt (L2.KOf KX) t := by
      dsimp only [L2.KOf]                          -- K must stand as «<heap const> w.params» for k_is
      refine' My.txt_mk ?e1 ?e2 ?e3 ..
      (case e1 => PySem.W.k_is)                    -- in the order: a name -> its address -> its object -> its parts
      (case e2 => PySem.W.k_is)
      ..
    obtain ⟨t, T⟩ := T
    have e0 := hmg.symm.trans (PySem.W.mg_of KX G T.law)
    cases e0                                       -- fa is the law's own address
    exact ⟨_, fun s u => .of_eq rfl, fun base kb nb => My.law_fn T kb nb⟩     -- if «.of_eq rfl» comes too early: refine' ⟨_, ?b, fun base kb nb => My.law_fn T kb nb⟩; exact fun s u => .of_eq rfl
  case S => exact fun w H a ns hl hO hS => ..
  case C => exact ..
(the tactic k_is has no namespace: write k_is) -/

/-! SHORT WORDS over the layer: a def of the text, its body, what a loop and a test want. -/
namespace L2
open PySem PySem.Spec PyProof.Rows

/-! ### the text by places -/
def defArgs (s : Stmt) : Arguments := match s with
  | .FunctionDef _ a _ _ _ _ _ _ _ _ => a
  | _ => { posonlyargs := [], args := [], vararg := none, kwonlyargs := [], kw_defaults := [], kwarg := none, defaults := [] }
def defBody (s : Stmt) : List Stmt := match s with
  | .FunctionDef _ _ b _ _ _ _ _ _ _ => b
  | _ => []
def defScope (s : Stmt) : Scope := match s with
  | .FunctionDef _ _ _ _ _ _ sc _ _ _ => sc
  | _ => { kind := .function, names := [], isGenerator := false, isCoroutine := false }

/-! ### no exception leaves a def -/
abbrev CX0 : CXT := fun _ _ _ _ _ _ => False
abbrev E0 : XK := fun _ _ _ => False
theorem pass0 {X : Cx} : Passes CX0 X E0 := fun _ _ _ _ _ _ _ h => h.elim

/-! ### a def (or method) of the text as it stands behind the top -/
structure Fun (K : PySem.W.Frag) (x qual : Str) (st : Stmt) (f : Addr) (fd : FuncData) : Prop where
  ex : ∃ (oc : Value) (od : Option Addr) (kV doc pm : Value) (an : Option Addr) (cdv ct : Value) (osl : Array (Option Value)),
    fd = PySem.W.fnOf x qual (defArgs st) (defBody st) (defScope st) .none kV doc pm an cdv ct ∧ K.lookup f = some ⟨oc, od, .func fd, osl⟩ ∧ PySem.W.codeIn K cdv qual = true
  kp : PySem.W.keepIn K (.ref f) = true
section
variable {P : Program} {w : World} {K : PySem.W.Frag} {mg : Str → Option Value} {base : Heap}
/-- THE RULE for a def: its body as a term of rules, and the reading of that term -/
theorem Fun.ok {x qual : Str} {st : Stmt} {f : Addr} {fd : FuncData} {N ps : List Str} {k : Nat} {sp : Sp} (F : Fun K x qual st f fd) (S : FnScope N ps (defScope st)) (len : ∀ vs H Q E, sp vs H Q E → vs.length = ps.length)
    (hbody : ∀ (cdv : Value) (A : Around) (outer : List Env) (s : Shared) (H : Hp) (vs : List V) (Q : VK) (E : XK), Room k (A.deeper (envOfC qual (defScope st) s.heap.objs.size f cdv)) → sp vs H Q E →
      ∃ t, PSs (cxOf CX0 P w K mg base N qual (defScope st) f cdv A outer s H E).nox (defBody st) t ∧ t { nx := fun _ H' => Q .non H', rt := Q } (start N vs) H) : FnOk P w K mg base CX0 (k + 1) f fd ps sp := by
  obtain ⟨oc, od, kV, doc, pm, an, cdv, ct, osl, rfl, lk, hcd⟩ := F.ex
  refine fn_of lk hcd S len fun A outer s H vs Q E hr hsp => ?_
  obtain ⟨t, h, q⟩ := hbody cdv A outer s H vs Q E hr hsp
  exact ⟨t, h.nox, q⟩
/-- how its arguments bind (no defaults): h is «fun _ _ _ _ _ _ us hl => match us, hl with | [_, _], _ => rfl», one _ a parameter -/
theorem Fun.binds {x qual : Str} {st : Stmt} {f : Addr} {fd : FuncData} {ps : List Str} (F : Fun K x qual st f fd)
    (h : ∀ (kV doc pm : Value) (an : Option Addr) (cdv ct : Value) (us : List Value), us.length = ps.length → bindArgs (PySem.W.fnOf x qual (defArgs st) (defBody st) (defScope st) .none kV doc pm an cdv ct) ⟨us, []⟩ = pure (ps.zip us)) : Binds K fd ps [] := by
  obtain ⟨oc, od, kV, doc, pm, an, cdv, ct, osl, rfl, lk, hcd⟩ := F.ex
  exact .all (h kV doc pm an cdv ct)
theorem fun_mk {x qual : Str} {st : Stmt} {f : Addr} {oc : Value} {od an : Option Addr} {osl : Array (Option Value)} {kV doc pm cdv ct : Value} (l : K.lookup f = some ⟨oc, od, .func (PySem.W.fnOf x qual (defArgs st) (defBody st) (defScope st) .none kV doc pm an cdv ct), osl⟩)
    (c : PySem.W.codeIn K cdv qual = true) (k : PySem.W.keepIn K (.ref f) = true) : Fun K x qual st f (PySem.W.fnOf x qual (defArgs st) (defBody st) (defScope st) .none kV doc pm an cdv ct) := ⟨⟨oc, od, kV, doc, pm, an, cdv, ct, osl, rfl, l, c⟩, k⟩
end
theorem small1000 {n : Nat} (h : n ≤ 1000) : n < sizeLine := Nat.lt_of_le_of_lt h (by decide)

/-! ### expressions in short: the name that stands in the i-th slot -/
section
variable {X : Cx}
theorem pv (i : Nat) {x : Str} {pos : Pos} (hN : X.N[i]? = some x := by rfl) (hv : Vis X.env.scope x := by first | exact Or.inl rfl | exact Or.inr (Or.inl rfl) | exact Or.inr (Or.inr rfl)) (hd : (x == ("__debug__" : Str)) = false := by decide)
    (hcd : (x == ("__classdict__" : Str)) = false := by decide) : PE X (.Name x pos) (tVar i) := pe_var hN hv hd hcd
end

/-! ### tests -/
theorem iteF {A B : Prop} (h : B) : if false = true then A else B := by
  rw [if_neg Bool.false_ne_true]
  exact h
theorem iteT {A B : Prop} (h : A) : if true = true then A else B := by
  rw [if_pos rfl]
  exact h
theorem ite2 {c A B : Prop} [Decidable c] (h1 : c → A) (h2 : ¬ c → B) : if c then A else B := by
  by_cases h : c
  · rw [if_pos h]
    exact h1 h
  · rw [if_neg h]
    exact h2 h

/-! ### heaps -/
/-- all that was tracked is as it was -/
def Same (H H' : Hp) : Prop := ∀ b o, H b = some o → H' b = some o
theorem Same.refl (H : Hp) : Same H H := fun _ _ h => h
theorem Same.trans {H H1 H2 : Hp} (a : Same H H1) (b : Same H1 H2) : Same H H2 := fun c o h => b c o (a c o h)
theorem Same.free {H H' : Hp} (e : Same H H') {l : Addr} (h : H' l = Option.none) : H l = Option.none := by
  cases q : H l with
  | none => rfl
  | some o =>
    rw [e l o q] at h
    cases h
theorem Same.seq {K : PySem.W.Frag} {H H' : Hp} {a : Addr} {xs : List V} (e : Same H H') (h : SqL K H a xs) : SqL K H' a xs := by
  rcases h with (h | ⟨o, h⟩) | h
  · exact .inl (.inl (e _ _ h))
  · exact .inl (.inr ⟨o, e _ _ h⟩)
  · exact .inr h

end L2

set_option Elab.async false
set_option linter.all false
set_option maxRecDepth 100000
set_option maxHeartbeats 4000000
/-! MORE RULES: a list comprehension (one clause, at most one test). -/
namespace L2
open PySem PySem.Spec PyProof.Rows


/-- the cells that a block draws from around it -/
def clGo (env : Env) : List (Str × NameKind) → List (Str × Addr) → List (Str × Addr)
  | [], cs => cs
  | (n, k) :: r, cs => clGo env r (if k == .free then (n, (env.cells.lookup n).getD 0) :: cs else cs)
def clOf (scope : Scope) (env : Env) : List (Str × Addr) := clGo env scope.names []

theorem clGo_forIn (env : Env) : ∀ (names : List (Str × NameKind)) (cs : List (Str × Addr)), (∀ y ∈ names, y.2 = .free → ∃ c, env.cells.lookup y.1 = some c) →
    (forIn names cs (fun (y : Str × NameKind) (r : List (Str × Addr)) => (if (y.2 == NameKind.free) = true then (do let a ← cellOf env y.1; pure (ForInStep.yield ((y.1, a) :: r))) else pure (ForInStep.yield r) : Sem (ForInStep (List (Str × Addr)))))) = (pure (clGo env names cs) : Sem (List (Str × Addr)))
  | [], cs, _ => rfl
  | (n, k) :: r, cs, h => by
    have ih := fun cs' => clGo_forIn env r cs' fun y hy => h y (List.mem_cons_of_mem _ hy)
    rw [List.forIn_cons]
    by_cases hk : (k == NameKind.free) = true
    · obtain ⟨c, hc⟩ := h (n, k) List.mem_cons_self (by simpa using hk)
      have hc' : env.cells.lookup n = some c := hc
      have e : cellOf env n = pure c := by unfold cellOf; rw [hc']
      show ((if (k == NameKind.free) = true then (do let a ← cellOf env n; pure (ForInStep.yield ((n, a) :: cs))) else pure (ForInStep.yield cs) : Sem (ForInStep (List (Str × Addr)))) >>= _) = _
      rw [if_pos hk, e]
      show (forIn r ((n, c) :: cs) _ : Sem (List (Str × Addr))) = pure (clGo env r (if (k == NameKind.free) = true then (n, (env.cells.lookup n).getD 0) :: cs else cs))
      rw [if_pos hk, hc']
      exact ih _
    · show ((if (k == NameKind.free) = true then (do let a ← cellOf env n; pure (ForInStep.yield ((n, a) :: cs))) else pure (ForInStep.yield cs) : Sem (ForInStep (List (Str × Addr)))) >>= _) = _
      rw [if_neg hk]
      show (forIn r cs _ : Sem (List (Str × Addr))) = pure (clGo env r (if (k == NameKind.free) = true then (n, (env.cells.lookup n).getD 0) :: cs else cs))
      rw [if_neg hk]
      exact ih _
theorem closure_is {scope : Scope} {env : Env} (h : ∀ y ∈ scope.names, y.2 = .free → ∃ c, env.cells.lookup y.1 = some c) : closureFor scope env = pure (clOf scope env) := by
  have q := clGo_forIn env scope.names [] h
  unfold closureFor
  show ((forIn scope.names ([] : List (Str × Addr)) _ : Sem (List (Str × Addr))) >>= fun r => pure r) = _
  have e : ∀ (m : Sem (List (Str × Addr))) , m = pure (clOf scope env) → (m >>= fun r => pure r) = pure (clOf scope env) := fun m hm => by rw [hm]; rfl
  apply e
  rw [← show (pure (clGo env scope.names []) : Sem (List (Str × Addr))) = pure (clOf scope env) from rfl, ← q]

theorem clGo_sub {env : Env} {y : Str} {c : Addr} : ∀ (names : List (Str × NameKind)) (cs : List (Str × Addr)), (∀ z ∈ names, z.2 = .free → ∃ c, env.cells.lookup z.1 = some c) → (∀ c, cs.lookup y = some c → env.cells.lookup y = some c) →
    (clGo env names cs).lookup y = some c → env.cells.lookup y = some c
  | [], cs, _, hc, e => hc c e
  | (n, k) :: r, cs, h, hc, e => by
    refine clGo_sub r _ (fun z hz => h z (List.mem_cons_of_mem _ hz)) ?_ e
    intro c' e'
    by_cases hk : (k == NameKind.free) = true
    · rw [if_pos hk] at e'
      obtain ⟨d, hd⟩ := h (n, k) List.mem_cons_self (by simpa using hk)
      have hd' : env.cells.lookup n = some d := hd
      rw [List.lookup_cons] at e'
      by_cases hy : (y == n) = true
      · rw [hy] at e'
        have : y = n := by simpa using hy
        subst this
        rw [hd'] at e' ⊢
        exact e'
      · have hy' : (y == n) = false := by simpa using hy
        rw [hy'] at e'
        exact hc c' e'
    · rw [if_neg hk] at e'
      exact hc c' e'
theorem clGo_has {env : Env} {y : Str} : ∀ (names : List (Str × NameKind)) (cs : List (Str × Addr)), ((∃ c, cs.lookup y = some c) ∨ (y, NameKind.free) ∈ names) → ∃ c, (clGo env names cs).lookup y = some c
  | [], cs, h => by
    rcases h with h | h
    · exact h
    · exact absurd h (by simp)
  | (n, k) :: r, cs, h => by
    refine clGo_has r _ ?_
    rcases h with ⟨c, h⟩ | h
    · refine .inl ?_
      by_cases hk : (k == NameKind.free) = true
      · rw [if_pos hk, List.lookup_cons]
        by_cases hy : (y == n) = true
        · rw [hy]; exact ⟨_, rfl⟩
        · have hy' : (y == n) = false := by simpa using hy
          rw [hy']; exact ⟨c, h⟩
      · rw [if_neg hk]; exact ⟨c, h⟩
    · rcases List.mem_cons.mp h with h | h
      · refine .inl ?_
        cases h
        rw [if_pos (by rfl), List.lookup_cons]
        rw [show (y == y) = true by simp]
        exact ⟨_, rfl⟩
      · exact .inr h

theorem lookup_relabel {scope : Scope} {env : Env} {y : Str} : (relabel scope env).names.lookup y = (scope.names.lookup y).map fun k => if (k == NameKind.free && env.scope.kind == .function && env.kindOf y == some .cell) then NameKind.cell else k := by
  show List.lookup y (scope.names.map _) = _
  induction scope.names with
  | nil => rfl
  | cons a r ih =>
    obtain ⟨n, k⟩ := a
    rw [List.map_cons]
    by_cases hy : (y == n) = true
    · have : y = n := by simpa using hy
      subst this
      by_cases hc : (k == NameKind.free && env.scope.kind == .function && env.kindOf y == some .cell) = true
      · dsimp only
        rw [if_pos hc, List.lookup_cons, List.lookup_cons, hy]
        dsimp only [Option.map]
        rw [if_pos hc]
      · dsimp only
        rw [if_neg hc, List.lookup_cons, List.lookup_cons, hy]
        dsimp only [Option.map]
        rw [if_neg hc]
    · have hy' : (y == n) = false := by simpa using hy
      by_cases hc : (k == NameKind.free && env.scope.kind == .function && env.kindOf n == some .cell) = true
      · dsimp only
        rw [if_pos hc, List.lookup_cons, List.lookup_cons, hy']
        exact ih
      · dsimp only
        rw [if_neg hc, List.lookup_cons, List.lookup_cons, hy']
        exact ih

/-- what a comprehension's scope must be beside the body's -/
structure CompScope (N : List Str) (osc : Scope) (x : Str) (sc : Scope) : Prop where
  kind : sc.kind = .function
  nocell : ∀ y ∈ sc.names, y.2 ≠ .cell
  names : ∀ y ∈ sc.names, y.2 = .local → sc.names.lookup y.1 = some .local
  here : sc.names.lookup x = some .local
  nd : (x :: N).Nodup
  free : ∀ y ∈ sc.names, y.2 = .free → osc.names.lookup y.1 = some .cell ∨ osc.names.lookup y.1 = some .free
  own : ∀ y ∈ sc.names, y.2 = .local → y.1 = x ∨ y.1 ∉ N

def cxComp (X : Cx) (x : Str) (sc : Scope) (fp : List Addr) (s3 : Shared) (H3 : Hp) : Cx where
  prog := X.prog
  w := X.w
  K := X.K
  mg := X.mg
  base := X.base
  A := X.A
  N := x :: X.N
  s₀ := s3
  H₀ := H3
  env := compEnvC sc (clOf sc X.env) s3.heap.objs.size X.env
  outer := X.stack
  stack := X.stack
  ex := fp
  calm := X.calm
  fn := fun _ => false
  pn := []
  xe := fun _ _ => False

section
variable {X : Cx} {x : Str} {sc : Scope} {fp : List Addr} {s3 : Shared} {H3 : Hp} {pins : List (Addr × Obj)} {σ : St}


theorem FpOk.nobase (ok : X.Ok) {b : Addr} {H : Hp} (f : FpOk X pins H b) {o : Obj} : X.base.get? b = some o → False := fun e => by
  rcases f.2.2.2.1 with z | z
  · exact ok.noex b o e z
  · exact absurd (Nat.lt_of_lt_of_le (Heap.lt_size e) (Nat.le_trans ok.bsz z)) (Nat.lt_irrefl _)


end
end L2

set_option Elab.async false
set_option linter.all false
set_option maxRecDepth 100000
set_option maxHeartbeats 4000000
namespace L2
open PySem PySem.Spec PyProof.Rows



section
variable {X : Cx} {x : Str} {sc : Scope} {px pos : Pos} {elt iter : Expr} {ifs : List Expr} {wi : TI} {tc : TT} {te : TE}





/-! ### the forms one uses: the block keeps all that was, the i-th item becomes some v with F i v -/
end
end L2

set_option Elab.async false
set_option linter.all false
set_option maxRecDepth 100000
set_option maxHeartbeats 4000000
namespace L2
open PySem PySem.Spec PyProof.Rows

/-! ### data, all the way down -/
mutual
def Dt (K : PySem.W.Frag) (H : Hp) : PyData → V → Prop
  | .none, v => v = .non
  | .bool b, v => v = .bl b
  | .int i, v => v = .int i
  | .str x, v => v = .str x ∧ PyData.strOk x = true
  | .list ds, v => ∃ a xs, v = .ref a ∧ SqL K H a xs ∧ DtAll K H ds xs
  | .tuple ds, v => ∃ a xs, v = .ref a ∧ SqT K H a xs ∧ DtAll K H ds xs
  | .dict _, _ => False
def DtAll (K : PySem.W.Frag) (H : Hp) : List PyData → List V → Prop
  | [], xs => xs = []
  | d :: ds, xs => ∃ v r, xs = v :: r ∧ Dt K H d v ∧ DtAll K H ds r
end
section
variable {K : PySem.W.Frag} {H H' : Hp}
mutual
theorem Dt.lay : ∀ {d : PyData} {v : V}, Dt K H d v → d.canLay0 = true
  | .none, _, _ => rfl
  | .bool _, _, _ => rfl
  | .int _, _, _ => rfl
  | .str x, _, h => by
    rw [Dt] at h
    exact h.2
  | .list ds, _, h => by
    rw [Dt] at h
    obtain ⟨a, xs, _, _, h⟩ := h
    rw [PyData.canLay0]
    exact DtAll.lay h
  | .tuple ds, _, h => by
    rw [Dt] at h
    obtain ⟨a, xs, _, _, h⟩ := h
    rw [PyData.canLay0]
    exact DtAll.lay h
  | .dict _, _, h => by
    rw [Dt] at h
    exact h.elim
theorem DtAll.lay : ∀ {ds : List PyData} {xs : List V}, DtAll K H ds xs → PyData.canLayAll0 ds = true
  | [], _, _ => by rw [PyData.canLayAll0]
  | d :: ds, _, h => by
    rw [DtAll] at h
    obtain ⟨v, r, _, h1, h2⟩ := h
    rw [PyData.canLayAll0, Dt.lay h1, DtAll.lay h2]
    rfl
end
theorem Same.sqL {a : Addr} {xs : List V} (e : Same H H') (h : SqL K H a xs) : SqL K H' a xs := e.seq h
theorem Same.sqT {a : Addr} {xs : List V} (e : Same H H') (h : SqT K H a xs) : SqT K H' a xs := by
  rcases h with (h | ⟨o, h⟩) | h
  · exact .inl (.inl (e _ _ h))
  · exact .inl (.inr ⟨o, e _ _ h⟩)
  · exact .inr h
mutual
theorem Dt.same (e : Same H H') : ∀ {d : PyData} {v : V}, Dt K H d v → Dt K H' d v
  | .none, _, h => by rw [Dt] at h ⊢; exact h
  | .bool _, _, h => by rw [Dt] at h ⊢; exact h
  | .int _, _, h => by rw [Dt] at h ⊢; exact h
  | .str x, _, h => by rw [Dt] at h ⊢; exact h
  | .list ds, _, h => by
    rw [Dt] at h ⊢
    obtain ⟨a, xs, h1, h2, h⟩ := h
    exact ⟨a, xs, h1, e.sqL h2, DtAll.same e h⟩
  | .tuple ds, _, h => by
    rw [Dt] at h ⊢
    obtain ⟨a, xs, h1, h2, h⟩ := h
    exact ⟨a, xs, h1, e.sqT h2, DtAll.same e h⟩
  | .dict _, _, h => by
    rw [Dt] at h
    exact h.elim
theorem DtAll.same (e : Same H H') : ∀ {ds : List PyData} {xs : List V}, DtAll K H ds xs → DtAll K H' ds xs
  | [], _, h => by rw [DtAll] at h ⊢; exact h
  | d :: ds, _, h => by
    rw [DtAll] at h ⊢
    obtain ⟨v, r, h0, h1, h2⟩ := h
    exact ⟨v, r, h0, Dt.same e h1, DtAll.same e h2⟩
end
theorem DtAll.nil : DtAll K H [] [] := by rw [DtAll]
theorem DtAll.cons {d : PyData} {ds : List PyData} {v : V} {r : List V} (h1 : Dt K H d v) (h2 : DtAll K H ds r) : DtAll K H (d :: ds) (v :: r) := by rw [DtAll]; exact ⟨v, r, rfl, h1, h2⟩
theorem Dt.int {i : Int} : Dt K H (.int i) (.int i) := by rw [Dt]
theorem Dt.non : Dt K H .none .non := by rw [Dt]
theorem Dt.str {x : Str} (h : PyData.strOk x = true) : Dt K H (.str x) (.str x) := by rw [Dt]; exact ⟨rfl, h⟩
theorem Dt.lst {a : Addr} {xs : List V} {ds : List PyData} (h : SqL K H a xs) (q : DtAll K H ds xs) : Dt K H (.list ds) (.ref a) := by rw [Dt]; exact ⟨a, xs, rfl, h, q⟩
theorem Dt.tup {a : Addr} {xs : List V} {ds : List PyData} (h : SqT K H a xs) (q : DtAll K H ds xs) : Dt K H (.tuple ds) (.ref a) := by rw [Dt]; exact ⟨a, xs, rfl, h, q⟩
theorem DtAll.length : ∀ {ds : List PyData} {xs : List V}, DtAll K H ds xs → xs.length = ds.length
  | [], xs, h => by rw [DtAll] at h; subst h; rfl
  | d :: ds, xs, h => by
    rw [DtAll] at h
    obtain ⟨v, r, rfl, h1, h2⟩ := h
    rw [List.length_cons, List.length_cons, DtAll.length h2]
end

section
variable {X : Cx} {pins : List (Addr × Obj)} {σ : St} {H : Hp} {s : Shared}
mutual
theorem Dt.reads (I : Inv X pins σ H s) : ∀ {d : PyData} {v : V} {u : Value}, Dt X.K H d v → RelV v u → ∃ as, Reads s.heap u d as
  | .none, _, _, h, r => by rw [Dt] at h; subst h; cases r; exact ⟨[], .none⟩
  | .bool b, _, _, h, r => by rw [Dt] at h; subst h; cases r; exact ⟨[], .bool b⟩
  | .int i, _, _, h, r => by rw [Dt] at h; subst h; obtain ⟨t, rfl⟩ := r; exact ⟨[], .int i t⟩
  | .str x, _, _, h, r => by
    rw [Dt] at h
    obtain ⟨h, _⟩ := h
    subst h
    obtain ⟨t, rfl⟩ := r
    exact ⟨[], .str x t⟩
  | .list ds, _, _, h, r => by
    rw [Dt] at h
    obtain ⟨a, xs, h1, h2, h⟩ := h
    subst h1
    cases r
    obtain ⟨its, rv, ⟨o, n, e, hc, _, hd⟩, _⟩ := I.list h2
    obtain ⟨as, q⟩ := DtAll.reads I h rv
    exact ⟨_, .list e hc hd (by simpa using q)⟩
  | .tuple ds, _, _, h, r => by
    rw [Dt] at h
    obtain ⟨a, xs, h1, h2, h⟩ := h
    subst h1
    cases r
    obtain ⟨its, rv, ⟨o, e, hc, n, hd⟩, _⟩ := I.tuple h2
    obtain ⟨as, q⟩ := DtAll.reads I h rv
    exact ⟨_, .tuple e hc hd (by simpa using q)⟩
  | .dict _, _, _, h, _ => by
    rw [Dt] at h
    exact h.elim
theorem DtAll.reads (I : Inv X pins σ H s) : ∀ {ds : List PyData} {xs : List V} {us : List Value}, DtAll X.K H ds xs → Vals xs us → ∃ as, ReadsAll s.heap us ds as
  | [], _, _, h, r => by rw [DtAll] at h; subst h; cases r; exact ⟨[], .nil⟩
  | d :: ds, _, _, h, r => by
    rw [DtAll] at h
    obtain ⟨v, r', h0, h1, h2⟩ := h
    subst h0
    cases r with
    | cons ra rb =>
      obtain ⟨as, q1⟩ := Dt.reads I h1 ra
      obtain ⟨bs, q2⟩ := DtAll.reads I h2 rb
      exact ⟨_, .cons q1 q2⟩
end
end

section
variable {X : Cx}
def rNeD (K : PySem.W.Frag) : R2 := fun x y H Q => ∃ d e, Dt K H d x ∧ Dt K H e y ∧ d.depth ≤ 60 ∧ Q (.bl (!PyData.eqv d e)) H
theorem op_neD {k : Nat} (hr : Room k X.A) : OpR X (compareOp .NotEq) (rNeD X.K) := by
  intro pins s σ H x y v u Q I rx ry h
  obtain ⟨d, e, h1, h2, hd, q⟩ := h
  obtain ⟨as, r1⟩ := Dt.reads I h1 rx
  obtain ⟨bs, r2⟩ := Dt.reads I h2 ry
  have hu := hr.units
  exact SeqAt.compareNe_reads r1 r2 h1.lay h2.lay (by have : min d.depth e.depth ≤ d.depth := Nat.min_le_left _ _; omega) ⟨.bl _, H, I, rfl, q⟩

/-- isinstance(x, T), T a built-in type -/
theorem call_isT : CallR X (.builtin "isinstance") (fun xs H Q => ∃ x n t b, xs = [x, .ty n] ∧ TyOf X.K H x t ∧ PySem.W.kitOne X.K t (.type n) = some b ∧ Q (.bl b) H) := by
  intro pins s σ H xs us Q I rv h
  obtain ⟨x, n, t, b, rfl, ht, hk, q⟩ := h
  obtain ⟨u, v, rfl, ru, rv'⟩ := rv.two
  cases rv'
  exact isinst_ok I ru ht hk fun tk => ⟨.bl b, H, I.tok tk, rfl, q⟩

end
end L2

set_option Elab.async false
set_option linter.all false
set_option maxRecDepth 100000
set_option maxHeartbeats 4000000
namespace L2
open PySem PySem.Spec PyProof.Rows

/-! ### a cut between two statements -/

/-! ### a comprehension's scope, by a look -/
def compCheck (N : List Str) (osc : Scope) (x : Str) (sc : Scope) : Bool :=
  (match sc.kind with | .function => true | _ => false) && sc.names.all (fun y => match y.2 with | .cell => false | _ => true)
  && sc.names.all (fun y => match y.2 with | .local => (match sc.names.lookup y.1 with | some .local => true | _ => false) | _ => true)
  && (match sc.names.lookup x with | some .local => true | _ => false) && N.all (fun y => !(y == x))
  && sc.names.all (fun y => match y.2 with | .free => (match osc.names.lookup y.1 with | some .cell => true | some .free => true | _ => false) | _ => true)
  && sc.names.all (fun y => match y.2 with | .local => (y.1 == x || N.all (fun z => !(z == y.1))) | _ => true)

/-! ### a def of the text, in one fact -/
structure Def (P : Program) (w : World) (K : PySem.W.Frag) (mg : Str → Option Value) (base : Heap) (CX : CXT) (x : Str) (k : Nat) (ps : List Str) (sp : Sp) : Prop where
  ex : ∃ f fd, FnOk P w K mg base CX k f fd ps sp ∧ Binds K fd ps [] ∧ PySem.W.keepIn K (.ref f) = true ∧ mg x = some (.ref f)
theorem Def.imp {P : Program} {w : World} {K : PySem.W.Frag} {mg : Str → Option Value} {base : Heap} {CX : CXT} {x : Str} {k : Nat} {ps : List Str} {sp sp' : Sp} (F : Def P w K mg base CX x k ps sp) (h : ∀ vs H Q E, sp' vs H Q E → sp vs H Q E) : Def P w K mg base CX x k ps sp' := by
  obtain ⟨f, fd, G, r⟩ := F.ex
  exact ⟨f, fd, G.imp h, r⟩
theorem pe_def {X : Cx} {CX : CXT} {k : Nat} {x : Str} {ps : List Str} {sp : Sp} {E : XK} {e : Expr} {es : List Expr} {t : TA} {p pos : Pos} (F : Def X.prog X.w X.K X.mg X.base CX x k ps sp) (hr : Room k X.A) (hg : Gl X x) (hx : Passes CX X E)
    (ha : PA X (e :: es) t) (hdb : (x == ("__debug__" : Str)) = false := by decide) (he : starEach (e :: es) X.env = (false, eval e X.env) :: starEach es X.env := by rfl) (hpl : (backTo pos (starEach es X.env)).any (·.1) = false := by rfl) :
    PE X (.Call (.Name x p) (e :: es) [] pos) (tCall sp [] E t) := by
  obtain ⟨f, fd, G, b, kp, m⟩ := F.ex
  exact pe_call G hr hg m kp b .nil hx ha hdb he hpl

/-! ### is, between bools -/

/-! ### isinstance, for the readings -/
def IsT (K : PySem.W.Frag) (H : Hp) (xs : List V) (b : Bool) : Prop := ∃ x n t, xs = [x, .ty n] ∧ TyOf K H x t ∧ PySem.W.kitOne K t (.type n) = some b
theorem call_isTy {X : Cx} : CallR X (.builtin "isinstance") (fun xs H Q => ∃ b, IsT X.K H xs b ∧ Q (.bl b) H) := by
  intro pins s σ H xs us Q I rv h
  obtain ⟨b, ⟨x, n, t, e, ht, hk⟩, q⟩ := h
  exact call_isT pins s σ H xs us Q I rv ⟨x, n, t, b, e, ht, hk, q⟩
section
variable {K : PySem.W.Frag} {H : Hp}
theorem isT_int_int {i : Int} : IsT K H [.int i, .ty "int"] true := ⟨_, _, _, rfl, .int i, rfl⟩
theorem isT_int_bool {i : Int} : IsT K H [.int i, .ty "bool"] false := ⟨_, _, _, rfl, .int i, rfl⟩
theorem isT_lst {a : Addr} {xs : List V} (h : H a = some (.lst xs)) : IsT K H [.ref a, .ty "list"] true := ⟨_, _, _, rfl, .lst h, rfl⟩
end
/-! ### one statement at a time -/
theorem seq_step {t u : TS} {D : Ends} {σ : St} {H : Hp} (h : ∀ U, U = u D → t { D with nx := U } σ H) : tSeq t u D σ H := h _ rfl
/-! ### small facts for the readings -/
@[simp] theorem cxComp_K {X : Cx} {x : Str} {sc : Scope} {fp : List Addr} {s3 : Shared} {H3 : Hp} : (cxComp X x sc fp s3 H3).K = X.K := rfl
theorem sz (n : Nat) (h : n ≤ 1000 := by omega) : n ≤ sizeLine := Nat.le_of_lt (small1000 h)
theorem again {n i : Nat} {P : Prop} (h : i < n) (p : P) : ∃ m', m' < n - i ∧ m' = n - (i + 1) ∧ i + 1 ≤ n ∧ P := ⟨_, by omega, rfl, h, p⟩
theorem same_new {H : Hp} {p : Addr} (h : H p = none) (o : HO) : Same H (upd H p o) := fun b u q => by rw [upd_ne (ne_of_none q h)]; exact q
theorem atI_int {ns : List Int} {k : Int} (h0 : 0 ≤ k) (h1 : k < ns.length) : atI (ns.map V.int) k = some (.int (ns.getD k.toNat 0)) := by
  have hk : k.toNat < ns.length := by omega
  have e : k = ((k.toNat : Nat) : Int) := by omega
  have q : atI (ns.map V.int) ((k.toNat : Nat) : Int) = some (.int (ns.getD k.toNat 0)) := atI_nat (by rw [List.getElem?_map, List.getElem?_eq_getElem hk, List.getD_eq_getElem?_getD, List.getElem?_eq_getElem hk]; rfl)
  rw [← e] at q
  exact q

/-! ### comprehensions: the forms one uses -/
end L2

set_option Elab.async false
set_option linter.all false
set_option maxRecDepth 100000
set_option maxHeartbeats 4000000
namespace L2
open PySem PySem.Spec PyProof.Rows

/-! ### range(i, j, k) as a value, and list of it -/
section
variable {X : Cx}
end
/-! ### the same rules with K named (within a comprehension) -/
section
variable {X : Cx} {K : PySem.W.Frag} {tg : Expr}
theorem ix_listK (h : X.K = K) : IxR X (rIxL K) := by subst h; exact ix_list
theorem ix_tupK (h : X.K = K) : IxR X (rIxT K) := by subst h; exact ix_tup
theorem op_neDK {k : Nat} (hr : Room k X.A) (h : X.K = K) : OpR X (compareOp .NotEq) (rNeD K) := by subst h; exact op_neD hr
theorem call_lenK (h : X.K = K) : CallR X (.builtin "len") (fun xs H Q => ∃ p ys, xs = [.ref p] ∧ (SqL K H p ys ∨ SqT K H p ys) ∧ Q (.int ys.length) H) := by subst h; exact call_len_seq
theorem call_isTyK (h : X.K = K) : CallR X (.builtin "isinstance") (fun xs H Q => ∃ b, IsT K H xs b ∧ Q (.bl b) H) := by subst h; exact call_isTy
theorem call_list_ofK (h : X.K = K) : CallR X (.type "list") (fun xs H Q => ∃ p ys, xs = [.ref p] ∧ (SqL K H p ys ∨ SqT K H p ys) ∧ ∀ l, H l = none → Q (.ref l) (upd H l (.lst ys))) := by subst h; exact call_list_of
theorem pi_listK {l : Expr} {tl : TE} (h : X.K = K) (hl : PE X l tl) : PI X tg l (iList K tl) := by subst h; exact pi_list hl
end
end L2

set_option Elab.async false
set_option linter.all false
set_option maxRecDepth 100000
set_option maxHeartbeats 4000000
/-! MORE RULES: an own error class raised in a def, passed on by a def, caught. -/
namespace L2
open PySem PySem.Spec PyProof.Rows



section
variable {P : Program} {w : World} {outer : List Env} {H H' : Hp} {s : Shared} {x C t : Addr} {B h h' : Heap}
end

section
variable {CX : CXT} {P : Program} {w : World} {K : PySem.W.Frag} {mg : Str → Option Value} {base : Heap} {N : List Str} {qual : Str} {scope : Scope} {f : Addr} {cd : Value} {A : Around} {outer : List Env} {s₀ : Shared} {H₀ : Hp} {E : XK}


end
end L2

set_option Elab.async false
set_option linter.all false
set_option maxRecDepth 100000
set_option maxHeartbeats 4000000
namespace L2
open PySem PySem.Spec PyProof.Rows



section
variable {X : Cx} {x : Str} {np cpos pos : Pos} {e : Expr} {te : TE} {C : Addr} {E : XK}
end

/-! ### a def that may raise -/
section
variable {P : Program} {w : World} {K : PySem.W.Frag} {mg : Str → Option Value} {base : Heap}
end

/-! ### try: f(..) except C: suite -/
section
variable {X : Cx}


end
end L2

set_option Elab.async false
set_option linter.all false
set_option maxRecDepth 100000
set_option maxHeartbeats 4000000
namespace L2
open PySem PySem.Spec PyProof.Rows

/-! ### __class__ of an error of an own class, and isinstance -/
/-- what the fragment says of an own error class whose attributes are looked up in the built-in way -/
structure ExcL (K : PySem.W.Frag) (C : Addr) : Prop where
  ga : PySem.W.findIn K (.ref C) "__getattribute__" = some (some (.builtin "BaseException.__getattribute__"))
  hk : PySem.W.findIn K (.ref C) "__getattr__" = some none
  ca : PySem.W.findIn K (.ref C) "__class__" = some (some (.builtin "object.__class__"))
  gt : PySem.W.specialIn K (.builtin "object.__class__") "__get__" = some (some (.builtin "getset_descriptor.__get__"))
  tk : PySem.W.takesIn K (.builtin "object.__class__") = some true
  ob : PySem.W.mroIn K C (.type "object") = some true
  be : PySem.W.mroIn K C (.type "BaseException") = some true


section
variable {prog : Program} {w : World} {A : Around} {E : Value → Shared → Prop} {K : PySem.W.Frag} {x C : Addr}
end


/-! ### except C as e -/
section
variable {X : Cx} {pins : List (Addr × Obj)} {σ : St} {H : Hp} {s : Shared}

end
end L2

set_option Elab.async false
set_option linter.all false
set_option maxRecDepth 100000
set_option maxHeartbeats 4000000
/-! TABLES: a list of lists of numbers and None, each line an object of its own. -/
namespace L2
open PySem PySem.Spec PyProof.Rows
abbrev Ent := Option Int
def eV : Ent → V
  | none => .non
  | some i => .int i
abbrev Tbl := List (List Ent)
def LineAt (H : Hp) (b : Addr) (r : List Ent) : Prop := H b = some (.lst (r.map eV))
/-- the table t at a, its lines at bs -/
structure TabAt (H : Hp) (a : Addr) (bs : List Addr) (t : Tbl) : Prop where
  at_ : H a = some (.lst (bs.map V.ref))
  nd : bs.Nodup
  ne : a ∉ bs
  lines : Paired (LineAt H) bs t
theorem paired_len {α β : Type} {R : α → β → Prop} : ∀ {xs : List α} {ys : List β}, Paired R xs ys → xs.length = ys.length
  | _, _, .nil => rfl
  | _, _, .cons _ t => by simp [paired_len t]
theorem paired_get {α β : Type} {R : α → β → Prop} : ∀ {xs : List α} {ys : List β} {i : Nat} {y : β}, Paired R xs ys → ys[i]? = some y → ∃ x, xs[i]? = some x ∧ R x y
  | _, _, _, _, .nil, e => by simp at e
  | _, _, 0, _, .cons r _, e => by cases e; exact ⟨_, rfl, r⟩
  | _, _, i + 1, _, .cons _ t, e => by
    obtain ⟨x, e1, r⟩ := paired_get t (by simpa using e)
    exact ⟨x, by simpa using e1, r⟩
section
variable {H H' : Hp} {a b : Addr} {bs : List Addr} {t : Tbl} {r : List Ent} {f g : Nat} {e : Ent}
theorem TabAt.len (T : TabAt H a bs t) : bs.length = t.length := paired_len T.lines
end
/-! ### as data: == of tables -/
section
variable {K : PySem.W.Frag} {H : Hp}
end
end L2

/-! Tables over forms, whatever the program: numbers or none (none: no bound). Linking through the forms one by one, halving, the last step: a closed table. No kit needed. -/
set_option linter.all false
namespace Oct
abbrev E := Option Int
def leE : E → E → Prop
  | _, none => True
  | none, some _ => False
  | some a, some b => a ≤ b
abbrev Tb := Nat → Nat → E
theorem leE_trans {a b c : E} (h : leE a b) (k : leE b c) : leE a c := by cases a <;> cases b <;> cases c <;> simp_all [leE] <;> omega



/-! ### halving, and the last step -/

/-! ### the greatest: what the closing comes to, told without its steps -/
def Le (c t : Tb) (N : Nat) : Prop := ∀ f g, f < N → g < N → leE (c f g) (t f g)
theorem Le.trans {a b c : Tb} {N : Nat} (h : Le a b N) (k : Le b c N) : Le a c N := fun f g hf hg => leE_trans (h f g hf hg) (k f g hf hg)
/-! ### points -/

/-! ### a point is made name by name: no lower end that the names so far leave is above an upper one -/
/-! ### the same for any set of names -/
/-! ### each entry is met -/
/-! ### a name held at a number; three forms -/
/-! ### the whole of it: the shape of a table that is alike either way, 0 at each [f][flip f] -/

/-! ### the shape of a list of sides, as a function of tables -/
def neg0 : E → Bool
  | some z => decide (z < 0)
  | none => false
def Agree (a b : Tb) (N : Nat) : Prop := ∀ f g, f < N → g < N → a f g = b f g
/-- two tables under which the same good tables lie have the same shape -/
inductive SameO (N : Nat) : Option Tb → Option Tb → Prop
  | none : SameO N none none
  | some {a b : Tb} : Agree a b N → SameO N (some a) (some b)
theorem Agree.symm {a b : Tb} {N : Nat} (h : Agree a b N) : Agree b a N := fun f g hf hg => (h f g hf hg).symm
/-! ### tables as lists -/
def ln (N : Nat) (r : Nat → E) : List E := (List.range N).map r
def rows (i N : Nat) (c : Tb) : List (List E) := (List.range i).map fun f => ln N (c f)
abbrev toT (N : Nat) (c : Tb) : List (List E) := rows N N c
/-! ### a name held at a number; a point name by name -/
/-! ### one side more; other sides of the same shape -/
end Oct

set_option Elab.async false
set_option linter.all false
set_option maxRecDepth 100000
set_option maxHeartbeats 4000000
/-! enumerate and zip of lists; a pair of names as a comprehension's target. -/
namespace L2
open PySem PySem.Spec PyProof.Rows
section
variable {X : Cx} {pins : List (Addr × Obj)} {σ : St} {H : Hp} {s : Shared} {h' : Heap}
/-- several records of ours have turned -/
theorem Inv.turnedL {t' : Nat} {ch : List Addr} (I : Inv X pins σ H s) (hf : ∀ b ∈ ch, FpOk X pins H b) (k : ∀ b o, b ∉ ch → s.heap.get? b = some o → h'.get? b = some o) : Inv X pins σ H { s with heap := h', toks := t' } := by
  have nch : ∀ b u, H b = some u → b ∉ ch := fun b u e z => by rw [(hf b z).1] at e; cases e
  refine I.step (g' := s.gens) (d' := s.drawn) (ch := ch) (fun b hb => ⟨(hf b hb).2.2.2.1, (hf b hb).2.1, (hf b hb).2.2.2.2.1, (hf b hb).2.2.2.2.2⟩) (fun b o _ _ hc e _ => k b o hc e) (fun b o _ _ hc e _ => ⟨o.slots, k b o hc e⟩)
    (fun b o hc e n => n) (fun b o hc e => ⟨o, k b o hc e⟩) (fun b ys e => e) (fun b o u e => e) (fun b ps e => ⟨#[], by rw [e]; simp⟩) (fun m hm => ?_) (fun b u e => ?_) I.bare
  · obtain ⟨o, es, ep, ho, r⟩ := hm
    exact ⟨o, es, ep, k _ o (fun z => (hf _ z).2.1 rfl) ho, r⟩
  · refine (I.hok b u e).stay (fun c v hc q => k c v ?_ q) (fun c q => q) fun c ys q => q
    rcases hc with z | z
    · rw [z]; exact nch b u e
    · exact nch c _ z
/-- .. and a tuple was laid -/
theorem Inv.turnedT {t' : Nat} {ch : List Addr} {T : Addr} {xs : List V} {us : List Value} (I : Inv X pins σ H s) (hf : ∀ b ∈ ch, FpOk X pins H b)
    (k : ∀ b o, b ∉ ch → s.heap.get? b = some o → h'.get? b = some o) (hp : s.heap.objs.size ≤ T) (new : IsTup h' T us.toArray) (r : Vals xs us) (hz : xs.length ≤ sizeLine) :
    Inv X pins σ (upd H T (.tup xs)) { s with heap := h', toks := t' } := by
  have hT : H T = none := I.hok.fresh hp
  have nch : ∀ b u, H b = some u → b ∉ ch := fun b u e z => by rw [(hf b z).1] at e; cases e
  refine I.step (g' := s.gens) (d' := s.drawn) (ch := ch) (fun b hb => ⟨(hf b hb).2.2.2.1, (hf b hb).2.1, (hf b hb).2.2.2.2.1, (hf b hb).2.2.2.2.2⟩) (fun b o _ _ hc e _ => k b o hc e) (fun b o _ _ hc e _ => ⟨o.slots, k b o hc e⟩)
    (fun b o hc e n => by rw [upd_ne (Nat.ne_of_lt (Nat.lt_of_lt_of_le (Heap.lt_size e) hp))]; exact n)
    (fun b o hc e => ⟨o, k b o hc e⟩) (fun b ys e => by rw [upd_ne (ne_of_none e hT)]; exact e) (fun b o u e => by rw [upd_ne (ne_of_none e hT)]; exact e) (fun b ps e => ⟨#[], by rw [upd_ne (ne_of_none e hT), e]; simp⟩) (fun m hm => ?_) (fun b u e => ?_) I.bare
  · obtain ⟨o, es, ep, ho, r⟩ := hm
    exact ⟨o, es, ep, k _ o (fun z => (hf _ z).2.1 rfl) ho, r⟩
  · by_cases hb : b = T
    · subst hb
      rw [upd_same] at e
      cases e
      exact ⟨hz, us, r, new⟩
    · rw [upd_ne hb] at e
      refine (I.hok b u e).stay (fun c v hc q => k c v ?_ q) (fun c q => by rw [upd_ne (ne_of_none q hT)]; exact q) fun c ys q => by rw [upd_ne (ne_of_none q hT)]; exact q
      rcases hc with z | z
      · rw [z]; exact nch b u e
      · exact nch c _ z
end

/-! ### enumerate(xs) -/
def Itn (K : PySem.W.Frag) (a : Addr) : It :=
  ⟨fun i H => ∃ xs x, SqL K H a xs ∧ xs[i]? = some x, fun i H v H' => ∃ T x, v = .ref T ∧ H T = none ∧ H' = upd H T (.tup [.int i, x]) ∧ ∀ xs, SqL K H a xs → xs[i]? = some x, fun i H => ∃ xs, SqL K H a xs ∧ xs.length ≤ i⟩
theorem turn_enum {P : Program} {w : World} {K : PySem.W.Frag} {elts : List Expr} {k : Nat} {tp : Pos} (a e it : Addr) (hne : e ≠ it) : Turn P w K (.Tuple elts k tp) (Itn K a) [e, it] e (fun i h => (∃ old, IsEnum h e it i old) ∧ h.IsListIter it a i) where
  mem := by simp
  obj := fun i h st b hb => by
    obtain ⟨⟨old, he⟩, o, eo, c, d⟩ := st
    have hb' : b = e ∨ b = it := by simpa using hb
    rcases hb' with z | z
    · subst z
      exact ⟨_, he, fun v z => by
        have z' : Data.fields _ = Data.cell v := z
        cases z'⟩
    · subst z
      exact ⟨o, eo, fun v z => by rw [d] at z; cases z⟩
  keep := fun i h h' st k => ⟨⟨st.1.choose, k e (by simp) _ st.1.choose_spec⟩, st.2.at fun o eo => k it (by simp) o eo⟩
  item := by
    intro X hP hw hK hc i pins s σ H E I hf st hg
    subst hP hw hK
    obtain ⟨⟨old, he⟩, st⟩ := st
    obtain ⟨xs, x, hq, hx⟩ := hg
    obtain ⟨its, rv, p, hz⟩ := I.list hq
    obtain ⟨u, hu, ru⟩ := rv.get hx
    refine wpAny_pyNext_enum_item he st p.isList (x := u) (by simpa using hu) hne fun h' ho hit' hT hsz hk => ?_
    refine ⟨_, rfl, wpAny_letOwnedTupleGo_enum ho fun h2 he2 hs2 => ?_⟩
    have helt : e < s.heap.objs.size := Heap.lt_size he
    have kk : ∀ b o, b ∉ [e, it] → s.heap.get? b = some o → h2.get? b = some o := fun b o hb q => by
      have hb' : b ≠ e ∧ b ≠ it := by simpa using hb
      exact (hs2.2 b hb'.1).trans (hk b o hb'.1 hb'.2 q)
    have I2 : Inv X pins σ (upd H s.heap.objs.size (.tup [.int i, x])) { s with heap := h2, toks := s.toks + 1 } := I.turnedT (xs := [.int i, x]) (us := [.int i s.toks, u]) hf kk (Nat.le_refl _) ⟨_, (hs2.2 _ (Nat.ne_of_gt helt)).trans hT, rfl, _, rfl⟩ (.cons ⟨_, rfl⟩ (.cons ru .nil)) (sz 2)
    refine ⟨.ref s.heap.objs.size, _, I2, rfl, ⟨_, x, rfl, I.hok.fresh (Nat.le_refl _), rfl, fun ys hy => by rw [I.list_inj hy hq]; exact hx⟩, ?_, fun b hb => ?_⟩
    · exact ⟨⟨u, by simpa using he2⟩, hit'.at fun o y => (hs2.2 it hne.symm).trans y⟩
    · have : b < s.heap.objs.size := by
        have hb' : b = e ∨ b = it := by simpa using hb
        rcases hb' with z | z
        · rw [z]; exact helt
        · obtain ⟨o, eo, _⟩ := st
          rw [z]; exact Heap.lt_size eo
      rw [upd_ne (Nat.ne_of_lt this)]
      exact (hf b hb).1
  done := by
    intro X hP hw hK hc i pins s σ H E I hf st hg
    subst hP hw hK
    obtain ⟨⟨old, he⟩, st⟩ := st
    obtain ⟨xs, hq, hx⟩ := hg
    obtain ⟨its, rv, p, hz⟩ := I.list hq
    have hl := rv.length
    exact wpAny_pyNext_enum_end (I.ok.hd hc) he st p.isList (by simp; omega) fun h' eb => ⟨rfl, I.turnedL (t' := s.toks) hf fun b o hb q => eb b o (fun z => hb (by simp [z])) q⟩
  self := fun _ _ _ _ _ st h => by
    obtain ⟨⟨old, he⟩, _⟩ := st
    exact wpAny_pyIter_enum he h
def iEnum (K : PySem.W.Frag) (ta : TA) : TI := fun σ H R => ta σ H fun vs H1 => ∃ a, vs = [.ref a] ∧ (∃ xs, SqL K H1 a xs) ∧ R (Itn K a) H1
theorem pi_enum {X : Cx} {elts : List Expr} {k : Nat} {tp : Pos} {a : Expr} {ta : TA} {p pos : Pos} (hg : Gl X "enumerate") (hm : X.mg "enumerate" = none) (ha : PA X [a] ta) (hs : starEach [a] X.env = [(false, eval a X.env)] := by rfl) :
    PI X (.Tuple elts k tp) (.Call (.Name "enumerate" p) [a] [] pos) (iEnum X.K ta) := by
  intro pins s σ H R I h
  refine Call_ (ld_blt I hg hm boot_enumerate (PyProof.Rows.callWith_type1 (thn (ha pos pins s σ H _ I h) fun us s1 ⟨vs, H1, I1, r1, q1⟩ => ?_) hs rfl))
  obtain ⟨l, e, ⟨xs, hq⟩, q⟩ := q1
  subst e
  obtain ⟨u, rfl, ru⟩ := r1.one
  cases ru
  obtain ⟨its, rv, pl, hz⟩ := I1.list hq
  refine call_enumerate_list pl.isList fun h' he hit hsz hk => wpAny_pyIter_enum he ?_
  refine ⟨s1.heap.objs.size + 1, [s1.heap.objs.size + 1, s1.heap.objs.size], _, _, H1, rfl, I1.kept (t' := s1.toks) hk, turn_enum l _ _ (Nat.succ_ne_self _), ⟨⟨_, he⟩, hit⟩, fun b hb => ?_, q⟩
  have hb' : b = s1.heap.objs.size + 1 ∨ b = s1.heap.objs.size := by simpa using hb
  have hle : s1.heap.objs.size ≤ b := by rcases hb' with z | z <;> rw [z]; exact Nat.le_succ _; exact Nat.le_refl _
  exact I1.fpOk hle (I1.hok.fresh hle)

/-! ### zip(xs, ys) -/

/-! ### the forms one uses -/
def gPair (K : PySem.W.Frag) (i j : Nat) : TG := gTup K 2 (gCons (gName i) (gCons (gName j) gNil))
theorem pg_pair {X : Cx} {x y : Str} {i j k : Nat} {p q pos : Pos} (hc : X.calm = true) (h1 : PG X (.Name x p) (gName i)) (h2 : PG X (.Name y q) (gName j)) : PG X (.Tuple [.Name x p, .Name y q] k pos) (gPair X.K i j) := pg_tup hc (pgs_cons h1 (pgs_cons h2 pgs_nil))
theorem for_enum {K : PySem.W.Frag} {a : Addr} {xs : List V} {u v : Nat} {tb : TS} {D : Ends} {σ : St} {H : Hp} (Pv : Nat → St → Hp → Prop) (h0 : Pv 0 σ H) (hl : ∀ i σ H, i ≤ xs.length → Pv i σ H → SqL K H a xs)
    (hs : ∀ i x σ H H', xs[i]? = some x → Pv i σ H → Same H H' → tb { D with nx := Pv (i + 1), ct := Pv (i + 1), bk := D.nx } ((σ.set u (some (.int i))).set v (some x)) H') (hd : ∀ σ H, Pv xs.length σ H → D.nx σ H) :
    ∃ W : Nat → Nat → St → Hp → Prop, (∃ m, W 0 m σ H) ∧ ∀ i m σ H, W i m σ H →
      ((Itn K a).stop i H ∧ D.nx σ H) ∨ ((Itn K a).go i H ∧ ∃ N : St → Hp → Prop, (∀ σ' H', N σ' H' → ∃ m', m' < m ∧ W (i + 1) m' σ' H') ∧ ∀ x H', (Itn K a).yld i H x H' → gPair K u v x σ H' fun σ2 H2 => tb { D with nx := N, ct := N, bk := D.nx } σ2 H2) := by
  refine ⟨fun i m σ H => m = xs.length - i ∧ i ≤ xs.length ∧ Pv i σ H, ⟨xs.length, by simp, Nat.zero_le _, h0⟩, ?_⟩
  rintro i m σ H ⟨rfl, hi, p⟩
  have q := hl i σ H hi p
  by_cases hlt : i < xs.length
  · refine .inr ⟨⟨xs, xs[i], q, by simp [hlt]⟩, Pv (i + 1), fun σ' H' p' => ⟨xs.length - (i + 1), by omega, rfl, hlt, p'⟩, fun x H' y => ?_⟩
    obtain ⟨T, x, rfl, hT, rfl, y⟩ := y
    exact ⟨T, [.int i, x], rfl, SqT.of upd_same, rfl, _, _, rfl, _, _, rfl, rfl, hs i x σ H _ (y xs q) p (same_new hT _)⟩
  · have e : i = xs.length := by omega
    subst e
    exact .inl ⟨⟨xs, q, Nat.le_refl _⟩, hd σ H p⟩

/-! ### the turn of a comprehension's loop, whatever the target -/
theorem compLoop_any {prog : Program} {w : World} {A : Around} {s : Shared} {elt iter target : Expr} {scope : Scope} {pos : Pos} {it acc : Value} {env : Env} {R : Result → Shared → Prop} (I : Nat → Shared → Prop)
    (turn : ∀ n s, I n s → wpAny (model prog w) A (pyNext it) (fun r s₁ => match r with
      | none => R (.ok .next) s₁
      | some v => wpAny (model prog w) A (letOwnedTupleGo target it v) (fun _ s₁' => wpAny (model prog w) A (assign target env v) (fun _ s₂ =>
          wpAny (model prog w) A (eval elt env) (fun x s₄ =>
              wpAny (model prog w) A (call (.builtin "list.append") [acc, x]) (fun _ s₅ => ∃ m, m < n ∧ I m s₅) (notedBy (model prog w) A env fun e s' => R (.error e) s') s₄) (notedBy (model prog w) A env fun e s' => R (.error e) s') s₂)
          (notedBy (model prog w) A env fun e s' => R (.error e) s') s₁') (notedBy (model prog w) A env fun e s' => R (.error e) s') s₁) (notedBy (model prog w) A env fun e s' => R (.error e) s') s)
    (n : Nat) (h : I n s) : codeAny (model prog w) A (.compLoop (.ListComp elt [⟨target, iter, [], 0⟩] scope pos) 0 it acc env) R s := by
  refine codeAny_loop rfl I (fun n s hI => ?_) n h
  show wpAny _ A ((compTurn (.ListComp elt [⟨target, iter, [], 0⟩] scope pos) 0 it acc env).onRaise (fun x => do noteFrame x env; theTreesLotGoes x)) _ _ s
  refine wpAny_noted ?_
  rw [compTurn_list]
  refine wpAny_bind (wpAny_standAt (wpAny_bind (wpAny_mono (turn n s hI) (fun r s₁ h₁ => ?_) fun _ _ h' => h')))
  cases r with
  | none => exact wpAny_pure h₁
  | some v =>
    refine wpAny_bind (wpAny_mono h₁ (fun _ s₁' h₁' => ?_) fun _ _ h' => h')
    refine wpAny_bind (wpAny_mono h₁' (fun _ s₂ h₂ => wpAny_bind (wpAny_mono (wpAny_tests_nil (Q := fun ok s₃ => ok = true ∧ s₃ = s₂) ⟨rfl, rfl⟩) (fun ok s₃ h₃ => ?_) fun _ _ h' => h')) fun _ _ h' => h')
    obtain ⟨rfl, rfl⟩ := h₃
    exact wpAny_bind (wpAny_bind (wpAny_mono h₂ (fun x s₄ h₄ => wpAny_bind (wpAny_mono h₄ (fun _ s₅ h₅ => wpAny_pure (wpAny_pure ⟨rfl, h₅⟩)) fun _ _ h' => h')) fun _ _ h' => h'))
/-! ### a comprehension with a pair of names; M: the names around it as the block sees them (one that it hides goes by another name) -/
structure CompScope2 (N M : List Str) (osc : Scope) (x y : Str) (sc : Scope) : Prop where
  kind : sc.kind = .function
  nocell : ∀ z ∈ sc.names, z.2 ≠ .cell
  names : ∀ z ∈ sc.names, z.2 = .local → sc.names.lookup z.1 = some .local
  here : sc.names.lookup x = some .local
  here2 : sc.names.lookup y = some .local
  nd : (x :: y :: M).Nodup
  len : M.length = N.length
  hide : ∀ (i : Nat) z, M[i]? = some z → N[i]? = some z ∨ sc.names.lookup z = none
  free : ∀ z ∈ sc.names, z.2 = .free → osc.names.lookup z.1 = some .cell ∨ osc.names.lookup z.1 = some .free
  own : ∀ z ∈ sc.names, z.2 = .local → z.1 = x ∨ z.1 = y ∨ z.1 ∉ M
section
variable {X : Cx} {M : List Str} {x y : Str} {sc : Scope} {fp : List Addr} {s3 : Shared} {H3 : Hp} {pins : List (Addr × Obj)} {σ : St}
end

section
variable {X : Cx} {M : List Str} {x y : Str} {sc : Scope} {px py tp pos : Pos} {k : Nat} {elt iter : Expr} {wi : TI} {te : TE}
end
/-! ### a comprehension with one name; M: the names around it as the block sees them (one that it hides goes by another name) -/
structure CompScope1 (N M : List Str) (osc : Scope) (x : Str) (sc : Scope) : Prop where
  kind : sc.kind = .function
  nocell : ∀ z ∈ sc.names, z.2 ≠ .cell
  names : ∀ z ∈ sc.names, z.2 = .local → sc.names.lookup z.1 = some .local
  here : sc.names.lookup x = some .local
  nd : (x :: M).Nodup
  len : M.length = N.length
  hide : ∀ (i : Nat) z, M[i]? = some z → N[i]? = some z ∨ sc.names.lookup z = none
  free : ∀ z ∈ sc.names, z.2 = .free → osc.names.lookup z.1 = some .cell ∨ osc.names.lookup z.1 = some .free
  own : ∀ z ∈ sc.names, z.2 = .local → z.1 = x ∨ z.1 ∉ M
def cxComp1 (X : Cx) (M : List Str) (x : Str) (sc : Scope) (fp : List Addr) (s3 : Shared) (H3 : Hp) : Cx where
  prog := X.prog
  w := X.w
  K := X.K
  mg := X.mg
  base := X.base
  A := X.A
  N := x :: M
  s₀ := s3
  H₀ := H3
  env := compEnvC sc (clOf sc X.env) s3.heap.objs.size X.env
  outer := X.stack
  stack := X.stack
  ex := fp
  calm := X.calm
  fn := fun _ => false
  pn := []
  xe := fun _ _ => False
section
variable {X : Cx} {M : List Str} {x : Str} {sc : Scope} {fp : List Addr} {s3 : Shared} {H3 : Hp} {pins : List (Addr × Obj)} {σ : St}
theorem CompScope1.cells (S : CompScope1 X.N M X.env.scope x sc) (ok : X.Ok) : ∀ z ∈ sc.names, z.2 = .free → ∃ c, X.env.cells.lookup z.1 = some c := fun z hz hk => ok.has z.1 (S.free z hz hk)
theorem CompScope1.sub (S : CompScope1 X.N M X.env.scope x sc) (ok : X.Ok) {z : Str} {c : Addr} (e : (clOf sc X.env).lookup z = some c) : X.env.cells.lookup z = some c :=
  clGo_sub sc.names [] (S.cells ok) (fun c h => by cases h) e
theorem CompScope1.isFree (S : CompScope1 X.N M X.env.scope x sc) {z : Str} (h : (relabel sc X.env).names.lookup z = some .cell ∨ (relabel sc X.env).names.lookup z = some .free) : (z, NameKind.free) ∈ sc.names := by
  rw [lookup_relabel] at h
  cases e : sc.names.lookup z with
  | none => rw [e] at h; rcases h with h | h <;> cases h
  | some k =>
    rw [e] at h
    have hm := PySem.mem_of_lookup e
    cases k with
    | free => exact hm
    | cell => exact absurd rfl (S.nocell _ hm)
    | _ =>
      exfalso
      rcases h with h | h
      all_goals (simp at h)
theorem CompScope1.noLocal (S : CompScope1 X.N M X.env.scope x sc) {z : Str} (hz : z ∈ M) (h : (relabel sc X.env).names.lookup z = some .local) : False := by
  rw [lookup_relabel] at h
  cases e : sc.names.lookup z with
  | none => rw [e] at h; cases h
  | some k =>
    rw [e] at h
    have hm := PySem.mem_of_lookup e
    cases k with
    | «local» =>
      have nd := List.nodup_cons.mp S.nd
      rcases S.own _ hm rfl with q | q
      · have q' : z = x := q
        exact nd.1 (q' ▸ hz)
      · exact q hz
    | _ =>
      revert h
      simp
      try (split <;> simp)
theorem ok_comp1 (S : CompScope1 X.N M X.env.scope x sc) (I : Inv X pins σ H3 s3) (hf : ∀ b ∈ fp, FpOk X pins H3 b) (hl : ∀ b ∈ fp, b < s3.heap.objs.size) : (cxComp1 X M x sc fp s3 H3).Ok where
  mod := I.ok.mod
  kind := S.kind
  glob := I.ok.glob
  blt := I.ok.blt
  above := Nat.le_refl _
  inj := fun y z c h1 h2 => I.ok.inj y z c (S.sub I.ok h1) (S.sub I.ok h2)
  has := fun y h => clGo_has sc.names [] (.inr (S.isFree h))
  cab := fun y c h => by cases h
  hd := I.ok.hd
  frames := I.ok.frames
  stk := .inl rfl
  exf := fun b hb => ⟨Nat.ne_of_lt (hl b hb), fun y c e => (hf b hb).2.2.2.2.1 y c (S.sub I.ok e)⟩
  bs := I.bs
  bsz := Nat.le_trans I.ok.bsz I.sz
  noex := fun b o e hb => FpOk.nobase I.ok (hf b hb) e
  exfs := fun b hb hs => by
    rcases List.mem_cons.mp (I.stkSub b hs) with z | z
    · exact (hf b hb).2.1 z
    · exact (hf b hb).2.2.1 z
  funs := I.stack
  frf := I.stkFree
theorem inv_comp1 {h4 : Heap} {tk : Nat} (S : CompScope1 X.N M X.env.scope x sc) (I : Inv X pins σ H3 s3) (hf : ∀ b ∈ fp, FpOk X pins H3 b) (hl : ∀ b ∈ fp, b < s3.heap.objs.size)
    (hk : ∀ b o, s3.heap.get? b = some o → h4.get? b = some o) {m : Str → Option Value} (hn : h4.Ns s3.heap.objs.size m) :
    Inv (cxComp1 X M x sc fp s3 H3) [] (none :: σ) H3 { s3 with heap := h4, toks := tk } := by
  refine ⟨ok_comp1 S I hf hl, rfl, I.bare, Un.kept hk, ⟨m, hn, fun i z v h1 h2 h3 => ?_⟩, fun z c e => ?_, I.fresh, fun z c e => I.freeC z c (S.sub I.ok e), fun p hp => absurd (show p ∈ ([] : List (Addr × Obj)) from hp) (by simp), I.hok.kept hk, by show σ.length + 1 = M.length + 1; rw [I.len, S.len]⟩
  · match i, h1, h2 with
    | 0, h1, h2 => exact absurd (Option.some.inj h2) (by simp)
    | i + 1, h1, h2 =>
      have h1m : M[i]? = some z := h1
      have h2' : σ[i]? = some (some v) := h2
      have hyN : z ∈ M := List.mem_of_getElem? h1m
      have hfree : (z, NameKind.free) ∈ sc.names := by
        rcases h3 with h3 | h3 | h3
        · exact (S.noLocal hyN h3).elim
        · exact S.isFree (.inl h3)
        · exact S.isFree (.inr h3)
      have h1' : X.N[i]? = some z := by
        rcases S.hide i z h1m with q | q
        · exact q
        · exfalso
          obtain ⟨k, hk⟩ : ∃ k, sc.names.lookup z = some k := by
            cases e : sc.names.lookup z with
            | some k => exact ⟨k, rfl⟩
            | none =>
              rw [List.lookup_eq_none_iff] at e
              exact absurd (e _ hfree) (by simp)
          rw [hk] at q; cases q
      have hk0 := S.free _ hfree rfl
      obtain ⟨m0, hn0, hl0⟩ := I.loc
      obtain ⟨u, r, l⟩ := hl0 i z v h1' h2' (hk0.elim (fun q => .inr (.inl q)) (fun q => .inr (.inr q)))
      refine ⟨u, r, .inr ?_⟩
      have hv : (cxComp1 X M x sc fp s3 H3).env.kindOf z = some .cell ∨ (cxComp1 X M x sc fp s3 H3).env.kindOf z = some .free := by
        rcases h3 with h3 | h3 | h3
        · exact (S.noLocal hyN h3).elim
        · exact .inl h3
        · exact .inr h3
      refine ⟨hv, ?_⟩
      obtain ⟨c, hc⟩ := clGo_has (env := X.env) (y := z) sc.names [] (.inr hfree)
      refine ⟨c, hc, ?_⟩
      have hc' := S.sub I.ok hc
      rcases l with ⟨hk1, _⟩ | ⟨_, c2, e2, z2⟩
      · exfalso
        have hk1' : X.env.scope.names.lookup z = some .local := hk1
        have hk0' : X.env.scope.names.lookup z = some .cell ∨ X.env.scope.names.lookup z = some .free := hk0
        rw [hk1'] at hk0'
        rcases hk0' with q | q <;> cases q
      · rw [hc'] at e2; cases e2
        exact z2.keeps hk
  · obtain ⟨v, q⟩ := I.cell z c (S.sub I.ok e)
    exact ⟨v, q.keeps hk⟩
end

def tComp1 (wi : TI) (te : TE) : TE := fun σ H Q => wi σ H fun J H1 => ∀ p, H1 p = none →
  ∃ W : Nat → Nat → List V → Hp → Prop, (∃ m, W 0 m [] (upd H1 p (.lst []))) ∧ ∀ i m ys H, W i m ys H →
    (J.stop i H ∧ Q (.ref p) H) ∨ (J.go i H ∧ ∀ u H', J.yld i H u H' → 
      te (some u :: σ) H' fun v H3 => H3 p = some (.lst ys) ∧ ys.length < sizeLine ∧ ∃ m', m' < m ∧ W (i + 1) m' (ys ++ [v]) (upd H3 p (.lst (ys ++ [v]))))
section
variable {X : Cx} {M : List Str} {x : Str} {sc : Scope} {px pos : Pos} {k : Nat} {elt iter : Expr} {wi : TI} {te : TE}
theorem comp_core1 {pins : List (Addr × Obj)} {σ : St} {s2 : Shared} {H2 : Hp} {it : Addr} {fp : List Addr} {tn : Nat → Heap → Prop} {J : It} {Q : VK} {E : Value → Shared → Prop} {RR : Value → Addr → Result → Shared → Prop}
    (S : CompScope1 X.N M X.env.scope x sc) (hc : X.calm = true) (he : ∀ fp s3 H3, PE (cxComp1 X M x sc fp s3 H3) elt te)
    (I2 : Inv X pins σ H2 s2) (T : Turn X.prog X.w X.K (.Name x px) J fp it tn) (st2 : tn 0 s2.heap) (f2 : ∀ b ∈ fp, FpOk X pins H2 b)
    (h : ∀ p, H2 p = none → ∃ W : Nat → Nat → List V → Hp → Prop, (∃ m, W 0 m [] (upd H2 p (.lst []))) ∧ ∀ i m ys H, W i m ys H →
      (J.stop i H ∧ Q (.ref p) H) ∨ (J.go i H ∧ ∀ u H', J.yld i H u H' → 
        te (some u :: σ) H' fun v H3 => H3 p = some (.lst ys) ∧ ys.length < sizeLine ∧ ∃ m', m' < m ∧ W (i + 1) m' (ys ++ [v]) (upd H3 p (.lst (ys ++ [v])))))
    (hRR : ∀ (s3 : Shared) (H3 : Hp) (s' : Shared) (σ' : St) (H' : Hp), Inv X pins σ H3 s3 → (∀ b ∈ fp, FpOk X pins H3 b) → Inv (cxComp1 X M x sc fp s3 H3) [] σ' H' s' → Q (.ref s2.heap.objs.size) H' → RR (.ref s2.heap.objs.size) s3.heap.objs.size (.ok .next) s') :
    wpAny (model X.prog X.w) X.A (newList []) (fun acc s₃ => wpAny (model X.prog X.w) X.A (newFunctionEnv sc X.env.globals (clOf sc X.env) [] X.env.qual none .none (some X.env)) (fun cenv s₄ =>
      codeAny (model X.prog X.w) X.A (.compStart (.ListComp elt [⟨(.Name x px), iter, [], 0⟩] sc pos) 0 (.ref it) acc { cenv with scope := relabel sc X.env }) (RR acc cenv.locals) s₄) E s₃) E s2 := by
  obtain ⟨W, ⟨m0, w0⟩, turn⟩ := h s2.heap.objs.size I2.fresh
  refine wpAny_newList ?_
  have I3 : Inv X pins σ (upd H2 s2.heap.objs.size (.lst [])) { s2 with heap := s2.heap.push { cls := .type "list", data := .seq ([] : List Value).toArray } } := I2.lnew (ys := []) (t' := s2.toks) .nil (Nat.zero_le _)
  have fpl : ∀ b ∈ fp, b < s2.heap.objs.size := fun b hb => by
    obtain ⟨o, e, _⟩ := T.obj _ _ st2 b hb
    exact Heap.lt_size e
  have f3 : ∀ b ∈ fp, FpOk X pins (upd H2 s2.heap.objs.size (.lst [])) b := fun b hb => ⟨by rw [upd_ne (Nat.ne_of_lt (fpl b hb))]; exact (f2 b hb).1, (f2 b hb).2⟩
  have st3 : tn 0 (s2.heap.push { cls := .type "list", data := .seq ([] : List Value).toArray }) := T.keep _ _ _ st2 fun b _ o e => Heap.get?_push_of_some _ e
  generalize hs3 : ({ s2 with heap := s2.heap.push { cls := .type "list", data := .seq ([] : List Value).toArray } } : Shared) = s3 at *
  have st3' : tn 0 s3.heap := by rw [← hs3]; exact st3
  have fpl3 : ∀ b ∈ fp, b < s3.heap.objs.size := fun b hb => by
    obtain ⟨o, e, _⟩ := T.obj _ _ st3' b hb
    exact Heap.lt_size e
  refine wpAny_newFunctionEnv S.nocell (by intro y hy; simp at hy) (fun h₁ hns₁ hsb₁ => ?_) S.kind
  have keep4 : ∀ b o, s3.heap.get? b = some o → h₁.get? b = some o := fun b o e => (hsb₁.2 b (Nat.ne_of_lt (Heap.lt_size e))).trans (Heap.get?_push_of_some _ e)
  have I4 := inv_comp1 (fp := fp) (tk := s3.toks + ([] : List (Str × Value)).length) S I3 f3 fpl3 keep4 hns₁
  have st4 : tn 0 h₁ := T.keep _ _ _ st3' fun b _ o e => keep4 b o e
  generalize hs4 : ({ s3 with heap := h₁, toks := s3.toks + ([] : List (Str × Value)).length } : Shared) = s4 at *
  have st4' : tn 0 s4.heap := by rw [← hs4]; exact st4
  generalize hH3 : upd H2 s2.heap.objs.size (.lst []) = H3 at *
  have stat : ∀ {H' : Hp}, (∀ b ∈ fp, H' b = none) → ∀ b ∈ fp, FpOk (cxComp1 X M x sc fp s3 H3) [] H' b := fun hn b hb =>
    ⟨hn b hb, Nat.ne_of_lt (fpl3 b hb), I4.ok.exfs b hb, .inl hb, fun y c e => (f3 b hb).2.2.2.2.1 y c (S.sub I3.ok e), fun p hp => absurd (show p ∈ ([] : List (Addr × Obj)) from hp) (by simp)⟩
  have loop : codeAny (model X.prog X.w) X.A (.compLoop (.ListComp elt [⟨(.Name x px), iter, [], 0⟩] sc pos) 0 (.ref it) (.ref s2.heap.objs.size) (cxComp1 X M x sc fp s3 H3).env) (RR (.ref s2.heap.objs.size) s3.heap.objs.size) s4 := by
    refine compLoop_any (fun n s' => ∃ i o ys H', Inv (cxComp1 X M x sc fp s3 H3) [] (o :: σ) H' s' ∧ tn i s'.heap ∧ (∀ b ∈ fp, H' b = none) ∧ W i n ys H') ?_ m0 ⟨0, none, [], H3, I4, st4', fun b hb => (f3 b hb).1, w0⟩
    rintro n s5 ⟨i, o, ys, H5, I5, st5, fr5, w5⟩
    rcases turn i n ys H5 w5 with ⟨stop, q⟩ | ⟨go, step⟩
    · refine wpAny_mono (T.done (cxComp1 X M x sc fp s3 H3) rfl rfl rfl hc i [] s5 (o :: σ) H5 (fun _ _ => False) I5 (stat fr5) st5 stop) (fun r s6 ⟨hr, I6⟩ => ?_) fun _ _ z => z.elim
      subst hr
      exact hRR s3 H3 s6 _ H5 I3 f3 I6 q
    · refine wpAny_mono (T.item (cxComp1 X M x sc fp s3 H3) rfl rfl rfl hc i [] s5 (o :: σ) H5 (fun _ _ => False) I5 (stat fr5) st5 go) (fun r s6 ⟨u, hr, h6⟩ => ?_) fun _ _ z => z.elim
      subst hr
      refine wpAny_mono h6 (fun _ s6' ⟨tv, H6, I6, r6, y6, st6, fr6⟩ => ?_) fun _ _ z => z.elim
      have I6' := I6.pinned (stat fr6) (T.obj _ _ st6)
      have hx : (relabel sc X.env).names.lookup x = some .local := lookup_relabel_local S.here
      have nd' : (cxComp1 X M x sc fp s3 H3).N.Nodup := S.nd
      have q6 := step tv H6 y6
      refine wpAny_mono (pg_name (X := cxComp1 X M x sc fp s3 H3) (i := 0) (pos := px) nd' rfl (.inl hx) (.inr hx) _ s6' (o :: σ) H6 tv u (fun σ' H' => σ' = some tv :: σ ∧ H' = H6) I6' r6 ⟨rfl, rfl⟩) (fun _ s7 ⟨σ7, H7, I7, e7, e7'⟩ => ?_) fun _ _ z => z.elim
      subst e7 e7'
      have again : ∀ {H' : Hp} {s' : Shared} {ys' : List V}, Inv (cxComp1 X M x sc fp s3 H3) ([] ++ pinsAt fp s6'.heap) (some tv :: σ) H' s' → (∃ m', m' < n ∧ W (i + 1) m' ys' H') →
          ∃ m, m < n ∧ ∃ i o ys H', Inv (cxComp1 X M x sc fp s3 H3) [] (o :: σ) H' s' ∧ tn i s'.heap ∧ (∀ b ∈ fp, H' b = none) ∧ W i m ys H' := fun {H' s' ys'} I' ⟨m', hm, w'⟩ => by
        refine ⟨m', hm, i + 1, some tv, ys', H', I'.unpinned, T.keep _ _ _ st6 fun b hb ob e => (I'.pin (b, ob) (List.mem_append_right _ (List.mem_append_right _ (mem_pinsAt hb e)))).1, fun b hb => ?_, w'⟩
        obtain ⟨ob, e, d⟩ := T.obj _ _ st6 b hb
        exact (I'.pin (b, ob) (List.mem_append_right _ (List.mem_append_right _ (mem_pinsAt hb e)))).2.1
      refine wpAny_mono (he fp s3 H3 _ s7 _ H7 _ I7 q6) (fun v s9 ⟨yy, H9, I9, r9, hp, hz, q9⟩ => ?_) fun _ _ z => z.elim
      refine wpAny_mono (mt_append (X := cxComp1 X M x sc fp s3 H3) _ s9 _ H9 (.ref s2.heap.objs.size) [yy] (.ref s2.heap.objs.size) [v] (fun _ H' => H' = upd H9 s2.heap.objs.size (.lst (ys ++ [yy]))) I9 rfl (.cons r9 .nil) ⟨_, ys, yy, rfl, rfl, hp, hz, rfl⟩) (fun _ s10 ⟨_, H10, I10, _, e10⟩ => ?_) fun _ _ z => z.elim
      subst e10
      exact again I10 q9
  exact codeAny_compStart_list loop (T.self _ 0 _ _ _ st4' loop)
end
def compCheck1 (N M : List Str) (osc : Scope) (x : Str) (sc : Scope) : Bool :=
  (match sc.kind with | .function => true | _ => false) && sc.names.all (fun y => match y.2 with | .cell => false | _ => true)
  && sc.names.all (fun y => match y.2 with | .local => (match sc.names.lookup y.1 with | some .local => true | _ => false) | _ => true)
  && (match sc.names.lookup x with | some .local => true | _ => false) && M.all (fun y => !(y == x))
  && sc.names.all (fun y => match y.2 with | .free => (match osc.names.lookup y.1 with | some .cell => true | some .free => true | _ => false) | _ => true)
  && sc.names.all (fun y => match y.2 with | .local => (y.1 == x || (M.all (fun z => !(z == y.1))))| _ => true)
  && decide (M.length = N.length) && (List.range M.length).all (fun i => match M[i]?, N[i]? with | some a, some b => a == b || (match sc.names.lookup a with | none => true | _ => false) | _, _ => false)
theorem CompScope1.of {N M : List Str} {osc : Scope} {x : Str} {sc : Scope} (hN : M.Nodup) (h : compCheck1 N M osc x sc = true) : CompScope1 N M osc x sc := by
  unfold compCheck1 at h
  simp only [Bool.and_eq_true, List.all_eq_true, decide_eq_true_eq] at h
  obtain ⟨⟨⟨⟨⟨⟨⟨⟨h1, h2⟩, h3⟩, h4⟩, h5⟩, h6⟩, h7⟩, h8⟩, h9⟩ := h
  refine ⟨?_, fun y hy e => ?_, fun y hy e => ?_, ?_, List.nodup_cons.mpr ⟨fun hx => by have := h5 x hx; simp at this, hN⟩, h8, fun i z hz => ?_, fun y hy e => ?_, fun y hy e => ?_⟩
  · revert h1; cases sc.kind <;> simp
  · have := h2 y hy; rw [e] at this; exact absurd this (by simp)
  · have := h3 y hy; rw [e] at this
    revert this
    cases sc.names.lookup y.1 with
    | none => simp
    | some k => cases k <;> simp
  · revert h4
    cases sc.names.lookup x with
    | none => simp
    | some k => cases k <;> simp
  · have hl := (List.getElem?_eq_some_iff.mp hz).1
    have q := h9 i (List.mem_range.mpr hl)
    have hl' : i < N.length := by rw [← h8]; exact hl
    rw [hz, List.getElem?_eq_getElem hl'] at q
    rw [List.getElem?_eq_getElem hl']
    simp only [Bool.or_eq_true, beq_iff_eq] at q
    rcases q with q | q
    · exact .inl (by rw [q])
    · refine .inr ?_
      revert q
      cases sc.names.lookup z with
      | none => simp
      | some k => simp
  · have := h6 y hy; rw [e] at this
    revert this
    cases osc.names.lookup y.1 with
    | none => simp
    | some k => cases k <;> simp
  · have := h7 y hy; rw [e] at this
    simp only [Bool.or_eq_true, List.all_eq_true] at this
    rcases this with z | z
    · exact .inl (by simpa using z)
    · refine .inr fun q => ?_
      have := z _ q
      simp at this
theorem pi_enumK {X : Cx} {K : PySem.W.Frag} {elts : List Expr} {k : Nat} {tp : Pos} {a : Expr} {ta : TA} {p pos : Pos} (h : X.K = K) (hg : Gl X "enumerate") (hm : X.mg "enumerate" = none) (ha : PA X [a] ta) (hs : starEach [a] X.env = [(false, eval a X.env)] := by rfl) :
    PI X (.Tuple elts k tp) (.Call (.Name "enumerate" p) [a] [] pos) (iEnum K ta) := by subst h; exact pi_enum hg hm ha hs
theorem pg_pairK {X : Cx} {K : PySem.W.Frag} {x y : Str} {i j k : Nat} {p q pos : Pos} (h : X.K = K) (hc : X.calm = true) (h1 : PG X (.Name x p) (gName i)) (h2 : PG X (.Name y q) (gName j)) : PG X (.Tuple [.Name x p, .Name y q] k pos) (gPair K i j) := by subst h; exact pg_pair hc h1 h2
/-! ### t + u, t empty: u itself -/
end L2

set_option Elab.async false
set_option linter.all false
set_option maxRecDepth 100000
set_option maxHeartbeats 4000000
namespace L2
open PySem PySem.Spec PyProof.Rows
/-! ### 1. the mirror: what each def is worth, over plain ints and lists -/
def hashI (k seed : Int) : Int := (seed * 48271 % 65537) * (seed * 48271 % 65537 + 2 * k + 1) / 7 % 65521
def cellI (ns : List Int) (k : Int) : Int :=
  if k < ns.length then ns.getD k.toNat 0 else hashI k (if 0 < ns.length then k * 7919 + ns.getD (k % ns.length).toNat 0 % 65537 else k * 7919)
/-! ### 2. the promises -/
structure Bl (mg : Str → Option Value) : Prop where
  len : mg "len" = none
  isinstance : mg "isinstance" = none
  int : mg "int" = none
  bool : mg "bool" = none
  tuple : mg "tuple" = none
  range : mg "range" = none
  list : mg "list" = none
  sum : mg "sum" = none
  str : mg "str" = none
  enumerate : mg "enumerate" = none
  zip : mg "zip" = none
  min : mg "min" = none
  max : mg "max" = none
def sp__law_cell (K : PySem.W.Frag) : Sp := fun vs H Q _ => ∃ (a : Addr) (ns : List Int) (k : Int), vs = [.ref a, .int k] ∧ SqL K H a (ns.map V.int) ∧ 0 ≤ k ∧ Q (.int (cellI ns k)) H
def sp__law_whole (K : PySem.W.Frag) : Sp := fun vs H Q _ => ∃ i, vs = [.int i] ∧ Q (.bl true) H
def sp_law (K : PySem.W.Frag) : Sp := fun vs H Q _ => ∃ (a : Addr) (ns : List Int), vs = [.ref a] ∧ SqL K H a (ns.map V.int) ∧ ns.length ≤ 63 ∧ ∀ H', Q (.bl true) H'
def cellAt (K : PySem.W.Frag) (a : Addr) (ns : List Int) : Sp := fun vs H Q _ => ∃ k, vs = [.ref a, .int k] ∧ 0 ≤ k ∧ SqL K H a (ns.map V.int) ∧ Q (.int (cellI ns k)) H
theorem cellAt_of {K : PySem.W.Frag} {a : Addr} {ns : List Int} : ∀ vs H Q E, cellAt K a ns vs H Q E → sp__law_cell K vs H Q E := fun vs H Q E ⟨k, e, h0, hS, q⟩ => ⟨a, ns, k, e, hS, h0, q⟩
/-! ### questions -/
/-! ### stage 2: tables, sides, points -/
abbrev Tb := Oct.Tb
theorem paired_snoc {α β : Type} {R : α → β → Prop} {a : α} {b : β} : ∀ {xs : List α} {ys : List β}, Paired R xs ys → R a b → Paired R (xs ++ [a]) (ys ++ [b])
  | _, _, .nil, r => .cons r .nil
  | _, _, .cons q t, r => .cons q (paired_snoc t r)
theorem same_over {H H' : Hp} {p : Addr} {o : HO} (h : H p = none) (s : Same H H') : Same H (upd H' p o) := fun b u q => by
  rw [upd_ne (ne_of_none q h)]; exact s b u q
structure TabNew (H H' : Hp) (p : Addr) (bs : List Addr) (t : Tbl) : Prop where
  tab : TabAt H' p bs t
  newT : H p = none
  newL : ∀ b ∈ bs, H b = none
def ShapeAt (H : Hp) (v : V) (N : Nat) : Option Tb → Prop
  | none => v = .non
  | some c => ∃ a bs, v = .ref a ∧ TabAt H a bs (Oct.toT N c)
def ShapeNew (H H' : Hp) (v : V) (N : Nat) : Option Tb → Prop
  | none => v = .non
  | some c => ∃ a bs, v = .ref a ∧ TabNew H H' a bs (Oct.toT N c)
theorem ShapeNew.at {H H' : Hp} {v : V} {N : Nat} : ∀ {o : Option Tb}, ShapeNew H H' v N o → ShapeAt H' v N o
  | none, h => h
  | some _, ⟨a, bs, e, T⟩ => ⟨a, bs, e, T.tab⟩
def belowE (e : Ent) (z : Int) : Bool := match e with
  | some x => decide (x < z)
  | none => false
/-! ### the promises of stage 2 -/
/-! ### a table that grows line by line, all of it new -/
def Grow (H H' : Hp) (p : Addr) (ys : List V) (t : Tbl) : Prop := ∃ bs, ys = bs.map V.ref ∧ TabNew H H' p bs t ∧ Same H H'
theorem Grow.start {H : Hp} {p : Addr} (hp : H p = none) : Grow H (upd H p (.lst [])) p [] [] :=
  ⟨[], rfl, ⟨⟨upd_same, List.nodup_nil, by simp, .nil⟩, hp, by simp⟩, same_new hp _⟩
theorem Grow.len {H H' : Hp} {p : Addr} {ys : List V} {t : Tbl} (G : Grow H H' p ys t) : ys.length = t.length := by
  obtain ⟨bs, rfl, T, _⟩ := G
  rw [List.length_map, T.tab.len]
theorem belowE_neg0 (e : Ent) : belowE e 0 = Oct.neg0 e := by cases e <;> rfl
theorem at_nat {xs : List V} {j : Nat} {v : V} (h : xs[j]? = some v) : atI xs (j : Int) = some v := atI_nat h
theorem take_succ_of {α : Type} {l : List α} {i : Nat} {x : α} (h : l[i]? = some x) : l.take (i + 1) = l.take i ++ [x] := by rw [List.take_add_one, h]; rfl
end L2

set_option Elab.async false
set_option linter.all false
set_option maxRecDepth 100000
set_option maxHeartbeats 4000000
/-! for over range(i, j, k) -/
namespace L2
open PySem PySem.Spec PyProof.Rows
end L2

/-! Forms reached in a shape; still no kit. -/
set_option linter.all false
namespace Oct
/-! ### two forms reached -/
end Oct

set_option Elab.async false
set_option linter.all false
set_option maxRecDepth 100000
set_option maxHeartbeats 4000000
/-! x in xs, xs.remove(x), xs.count(x) of ints -/
namespace L2
open PySem PySem.Spec PyProof.Rows
section
variable {X : Cx}
end
/-! ### arguments by their kind: the look at each is made once -/
section
variable {X : Cx} {es : List Expr} {te : TE} {t : TA}
theorem pa_Constant {c : Const} {k : Nat} {p : Pos} (ha : PE X (.Constant c k p) te) (hr : PA X es t) : PA X (.Constant c k p :: es) (tCons te t) := pa_cons ha hr (by rfl)
theorem pa_Name {x : Str} {p : Pos} (ha : PE X (.Name x p) te) (hr : PA X es t) : PA X (.Name x p :: es) (tCons te t) := pa_cons ha hr (by rfl)
theorem pa_BinOp {a b : Expr} {o : Operator} {p : Pos} (ha : PE X (.BinOp a o b p) te) (hr : PA X es t) : PA X (.BinOp a o b p :: es) (tCons te t) := pa_cons ha hr (by rfl)
theorem pa_Call {f : Expr} {as : List Expr} {ks : List Keyword} {p : Pos} (ha : PE X (.Call f as ks p) te) (hr : PA X es t) : PA X (.Call f as ks p :: es) (tCons te t) := pa_cons ha hr (by rfl)
theorem pa_Subscript {a b : Expr} {p : Pos} (ha : PE X (.Subscript a b p) te) (hr : PA X es t) : PA X (.Subscript a b p :: es) (tCons te t) := pa_cons ha hr (by rfl)
end
/-! ### a list of written ints, at one look -/
end L2

/-! Three forms reached, with the very number at which the third one is held; still no kit. -/
set_option linter.all false
set_option maxHeartbeats 4000000
namespace Oct
/-! ### the greatest of three -/
end Oct

set_option Elab.async false
set_option linter.all false
set_option maxRecDepth 100000
set_option maxHeartbeats 4000000
/-! min(xs, default = d) of a list of ints -/
namespace L2
open PySem PySem.Spec PyProof.Rows
section
variable {P : Program} {w : World} {A : Around} {R : Result → Shared → Prop}
end
section
variable {P : Program} {w : World} {A : Around} {s : Shared} {E : Value → Shared → Prop} {Q : Value → Shared → Prop}
end
section
variable {P : Program} {w : World} {A : Around} {R : Result → Shared → Prop}
end
section
variable {P : Program} {w : World} {A : Around} {s : Shared} {E : Value → Shared → Prop} {Q : Value → Shared → Prop}
end
/-! ### as a call with its keyword -/
section
variable {X : Cx} {K : PySem.W.Frag} {e d : Expr} {ta tk : TA} {p kp pos : Pos}
end
/-! ### lists of entries without their Nones -/
end L2

set_option Elab.async false
set_option linter.all false
set_option maxRecDepth 100000
set_option maxHeartbeats 4000000
/-! enumerate of a tuple -/
namespace L2
open PySem PySem.Spec PyProof.Rows
open Sem (wp)
open Builtin Builtin.Str
section
variable {prog : Program} {w : World} {A : Around} {E : Value → Shared → Prop} {s : Shared}
open AutoSeq1 (wpAny_loadPart')
end
end L2

set_option Elab.async false
set_option linter.all false
set_option maxRecDepth 100000
set_option maxHeartbeats 4000000
/-! return [1, 2, .., e][i]; lists of a known length -/
namespace L2
open PySem PySem.Spec PyProof.Rows
end L2

set_option Elab.async false
set_option linter.all false
set_option maxRecDepth 100000
set_option maxHeartbeats 4000000
/-! x not in a list or a tuple -/
namespace L2
open PySem PySem.Spec PyProof.Rows
end L2

set_option Elab.async false
set_option linter.all false
set_option maxRecDepth 100000
set_option maxHeartbeats 4000000
/-! own classes: methods, instances; a comprehension over a tuple -/
namespace L2
open PySem PySem.Spec PyProof.Rows
section
variable {X : Cx} {CX : CXT} {k : Nat} {m x : Str} {ps : List Str} {sp : Sp} {E : XK} {e o : Expr} {es : List Expr} {t : TA} {ta : TE} {p pos apos : Pos} {f C : Addr} {K : PySem.W.Frag}
end
section
variable {X : Cx} {x : Str} {px pos : Pos} {sc : Scope} {M : List Str} {elt iter : Expr} {wi : TI} {te : TE}
theorem ps_setC1 {i : Nat} {y : Str} {py spos : Pos} (S : CompScope1 X.N M X.env.scope x sc) (hc : X.calm = true) (hi : PI X (.Name x px) iter wi) (he : ∀ fp s3 H3, PE (cxComp1 X M x sc fp s3 H3) elt te)
    (hN : X.N.Nodup) (hy : X.N[i]? = some y) (hl : Loc X.env.scope y) (hsw : swapsWith (.ListComp elt [⟨.Name x px, iter, [], 0⟩] sc pos) (some (.Name y py)) spos.line X.env = pure true)
    (hs : ∀ x, foldedSetIterable iter X.env x = pure x := by intro _; rfl) (hf : X.fn y = true ∨ X.env.scope.names.lookup y = some .local := by first | exact .inl rfl | exact .inr rfl | assumption) :
    PS X (.Assign [.Name y py] (.ListComp elt [⟨.Name x px, iter, [], 0⟩] sc pos) spos) (tAsg (tComp1 wi te) (gName i)) := by
  intro pins s σ H D I h
  rw [exec_Assign_Name_used _ _ _ _ hsw]
  refine wpAny_bind (wpAny_standAt (wpAny_bind ?_))
  show wpAny _ X.A (do let _ ← comprehension (.ListComp elt [⟨.Name x px, iter, [], 0⟩] sc pos) sc X.env _ (newList []) false (eval iter X.env) (some (assign (.Name y py) X.env))) _ _ s
  refine wpAny_bind (wpAny_mono (wpAny_comprehension_free (use := some (assign (.Name y py) X.env)) (cl := clOf sc X.env) (Q := fun _ s' => SP X pins D .next s') rfl hs (closure_is (S.cells I.ok)) S.kind S.names
    (thn (hi pins s σ H _ I h) fun v s1 h1 => thn h1 fun itv s2 h2 => ?_)) (fun _ s' hq => wpAny_pure (wpAny_pure hq)) fun _ _ e => e)
  obtain ⟨it, fp, tn, J, H2, e, I2, T, st2, f2, q2⟩ := h2
  subst e
  refine comp_core1 (RR := fun acc C => compPost (model X.prog X.w) X.A X.xe (some (assign (.Name y py) X.env)) (fun _ s' => SP X pins D .next s') acc C) (Q := fun v H' => D.nx (σ.set i (some v)) H') S hc he I2 T st2 f2 q2 ?_
  intro s3 H3 s' σ' H' I3 f3 J' q'
  obtain ⟨m, hn, _⟩ := J'.loc
  have I1 : Inv X pins σ H' s' := I3.call' (ch := fp) J'.os J'.base J'.hok J'.bare fun b hb => ⟨(f3 b hb).2.2.2.1, (f3 b hb).2.1, (f3 b hb).2.2.2.2.1, (f3 b hb).2.2.2.2.2⟩
  have cL : s3.heap.objs.size ≠ X.env.locals := Nat.ne_of_gt I3.lt
  have cC : ∀ z c, X.env.cells.lookup z = some c → c ≠ s3.heap.objs.size := fun z c e q => by
    obtain ⟨v, w⟩ := I3.cell z c e
    exact absurd w.lt (by rw [q]; exact Nat.lt_irrefl _)
  have cP : ∀ p ∈ X.pn ++ pins, p.1 ≠ s3.heap.objs.size := fun p hp z => absurd (Heap.lt_size (I3.pin p hp).1) (by rw [z]; exact Nat.lt_irrefl _)
  show wpAny _ X.A (assign (.Name y py) X.env (.ref s2.heap.objs.size)) _ _ s'
  refine wpAny_assign_Name (store_ok2 (v := .ref s2.heap.objs.size) I1 hN hy hl rfl (fun s4 I4 ⟨a, sb, ha⟩ => ?_) hf)
  have ne : s3.heap.objs.size ≠ a := by
    rcases ha with z | z
    · rw [z]; exact cL
    · exact (cC _ _ z).symm
  refine ⟨m, hn.sameBut sb ne, fun h' hs' => ⟨_, H', ?_, q'⟩⟩
  exact I4.turned (t' := s4.toks) (it := s3.heap.objs.size) (fun b o hb e => (hs'.2 b hb).trans e) J'.free cL (.inr I3.sz) cC cP
end
theorem comp_list1 {K : PySem.W.Frag} {a p : Addr} {xs : List V} {te : TE} {σ : St} {H : Hp} {Z : Hp → Prop} (Pv : Nat → List V → Hp → Prop) (h0 : Pv 0 [] (upd H p (.lst []))) (hl : ∀ i ys H, i ≤ xs.length → Pv i ys H → SqL K H a xs)
    (hs : ∀ i x ys H, xs[i]? = some x → Pv i ys H → te (some x :: σ) H fun v H3 => H3 p = some (.lst ys) ∧ ys.length < sizeLine ∧ ∃ m', m' < xs.length - i ∧ m' = xs.length - (i + 1) ∧ i + 1 ≤ xs.length ∧ Pv (i + 1) (ys ++ [v]) (upd H3 p (.lst (ys ++ [v]))))
    (hd : ∀ ys H, Pv xs.length ys H → Z H) :
    ∃ W : Nat → Nat → List V → Hp → Prop, (∃ m, W 0 m [] (upd H p (.lst []))) ∧ ∀ i m ys H, W i m ys H →
      ((Itl K a).stop i H ∧ Z H) ∨ ((Itl K a).go i H ∧ ∀ x H', (Itl K a).yld i H x H' → te (some x :: σ) H' fun v H3 => H3 p = some (.lst ys) ∧ ys.length < sizeLine ∧ ∃ m', m' < m ∧ W (i + 1) m' (ys ++ [v]) (upd H3 p (.lst (ys ++ [v])))) := by
  refine ⟨fun i m ys H => m = xs.length - i ∧ i ≤ xs.length ∧ Pv i ys H, ⟨xs.length, by simp, Nat.zero_le _, h0⟩, ?_⟩
  rintro i m ys H ⟨rfl, hi, pv⟩
  have q := hl i ys H hi pv
  by_cases hlt : i < xs.length
  · refine .inr ⟨⟨xs, xs[i], q, by simp [hlt]⟩, fun x H' y => ?_⟩
    obtain ⟨e, y⟩ := y
    subst e
    exact hs i x ys _ (y xs q) pv
  · have e : i = xs.length := by omega
    subst e
    exact .inl ⟨⟨xs, q, Nat.le_refl _⟩, hd ys H pv⟩
end L2

set_option Elab.async false
set_option linter.all false
set_option maxRecDepth 100000
set_option maxHeartbeats 4000000
/-! min(xs) and max(xs) of a list of ints that has some -/
namespace L2
open PySem PySem.Spec PyProof.Rows
section
variable {P : Program} {w : World} {A : Around} {s : Shared} {E : Value → Shared → Prop} {Q : Value → Shared → Prop}
end
variable {X : Cx}
end L2

set_option Elab.async false
set_option linter.all false
set_option maxRecDepth 100000
set_option maxHeartbeats 4000000
namespace T
open PySem L2
def top (i : Nat) : Stmt := PySem.Challenge.pw_eightsides_k34_partners.main.body.getD i (.Pass ⟨0, 0, 0, 0⟩)
abbrev s_partners : Stmt := top 4
abbrev s_may_have_else : Stmt := top 5
abbrev s_close : Stmt := top 6
abbrev s__law_cell : Stmt := top 8
abbrev s__law_whole : Stmt := top 9
abbrev s__law_word : Stmt := top 10
abbrev s__law_question : Stmt := top 11
abbrev s__law_row : Stmt := top 12
abbrev s__law_program : Stmt := top 13
abbrev s__law_good : Stmt := top 14
abbrev s__law_size : Stmt := top 15
abbrev s_law : Stmt := top 16

/-! ### blocks: words, partners so far, what is open -/
abbrev sIf : Str := Str.ofString "if"
abbrev sWh : Str := Str.ofString "while"
abbrev sEl : Str := Str.ofString "else"
abbrev sEn : Str := Str.ofString "end"
theorem el_if : sEl ≠ sIf := by decide +kernel
theorem el_wh : sEl ≠ sWh := by decide +kernel
theorem en_if : sEn ≠ sIf := by decide +kernel
theorem en_wh : sEn ≠ sWh := by decide +kernel
theorem en_el : sEn ≠ sEl := by decide +kernel
structure Bs where
  ws : List Str
  f : List (Option Nat)
  o : List Nat
def gN : Option Nat → V
  | none => .non
  | some x => .int (x : Nat)
def clo (f : List (Option Nat)) (t e : Nat) : List (Option Nat) := match (f.set e (some t))[t]? with
  | some (some x) => (f.set e (some t)).set x (some e)
  | _ => (f.set e (some t)).set t (some e)
def stepB (s : Bs) (w : Str) : Option Bs :=
  if w = sIf ∨ w = sWh then some ⟨s.ws ++ [w], s.f ++ [none], s.o ++ [s.ws.length]⟩
  else if w = sEl then match s.o.getLast? with
    | some t => if s.ws[t]? = some sIf ∧ s.f[t]? = some none then some ⟨s.ws ++ [w], (s.f ++ [none]).set t (some s.ws.length), s.o⟩ else none
    | none => none
  else if w = sEn then match s.o.getLast? with
    | some t => some ⟨s.ws ++ [w], clo (s.f ++ [none]) t s.ws.length, s.o.dropLast⟩
    | none => none
  else some ⟨s.ws ++ [w], s.f ++ [none], s.o⟩
/-- the four ways of a step -/
inductive StepB (s : Bs) (w : Str) : Bs → Prop
  | opn (h : w = sIf ∨ w = sWh) : StepB s w ⟨s.ws ++ [w], s.f ++ [none], s.o ++ [s.ws.length]⟩
  | els (h : w = sEl) (o : List Nat) (t : Nat) (eo : s.o = o ++ [t]) (h1 : s.ws[t]? = some sIf) (h2 : s.f[t]? = some none) : StepB s w ⟨s.ws ++ [w], (s.f ++ [none]).set t (some s.ws.length), s.o⟩
  | fin (h : w = sEn) (o : List Nat) (t : Nat) (eo : s.o = o ++ [t]) : StepB s w ⟨s.ws ++ [w], clo (s.f ++ [none]) t s.ws.length, o⟩
  | oth (h1 : w ≠ sIf) (h2 : w ≠ sWh) (h3 : w ≠ sEl) (h4 : w ≠ sEn) : StepB s w ⟨s.ws ++ [w], s.f ++ [none], s.o⟩
theorem last_split {o : List Nat} {t : Nat} (h : o.getLast? = some t) : ∃ o', o = o' ++ [t] := by
  obtain ⟨ys, rfl⟩ := List.getLast?_eq_some_iff.mp h
  exact ⟨ys, rfl⟩
theorem stepB_ways {s s' : Bs} {w : Str} (h : stepB s w = some s') : StepB s w s' := by
  unfold stepB at h
  by_cases h1 : w = sIf ∨ w = sWh
  · rw [if_pos h1] at h
    cases h
    exact .opn h1
  rw [if_neg h1] at h
  by_cases h2 : w = sEl
  · rw [if_pos h2] at h
    cases e : s.o.getLast? with
    | none => rw [e] at h; cases h
    | some t =>
      rw [e] at h
      obtain ⟨o, eo⟩ := last_split e
      dsimp only at h
      by_cases h3 : s.ws[t]? = some sIf ∧ s.f[t]? = some none
      · rw [if_pos h3] at h
        cases h
        exact .els h2 o t eo h3.1 h3.2
      · rw [if_neg h3] at h; cases h
  rw [if_neg h2] at h
  by_cases h3 : w = sEn
  · rw [if_pos h3] at h
    cases e : s.o.getLast? with
    | none => rw [e] at h; cases h
    | some t =>
      rw [e] at h
      obtain ⟨o, eo⟩ := last_split e
      cases h
      have := StepB.fin (s := s) h3 o t eo
      rw [eo, List.dropLast_concat]
      exact this
  · rw [if_neg h3] at h
    cases h
    exact .oth (fun z => h1 (.inl z)) (fun z => h1 (.inr z)) h2 h3
theorem ways_step {s s' : Bs} {w : Str} (h : StepB s w s') : stepB s w = some s' := by
  cases h with
  | opn h => unfold stepB; rw [if_pos h]
  | els h o t eo h1 h2 =>
    subst h
    unfold stepB
    rw [if_neg (fun z => z.elim el_if el_wh), if_pos rfl, eo, List.getLast?_concat]
    dsimp only
    rw [if_pos ⟨h1, h2⟩]
  | fin h o t eo =>
    subst h
    unfold stepB
    rw [if_neg (fun z => z.elim en_if en_wh), if_neg en_el, if_pos rfl, eo, List.getLast?_concat]
    dsimp only
    rw [List.dropLast_concat]
  | oth h1 h2 h3 h4 => unfold stepB; rw [if_neg (fun z => z.elim h1 h2), if_neg h3, if_neg h4]
structure BOk (s : Bs) : Prop where
  len : s.f.length = s.ws.length
  o_lt : ∀ t ∈ s.o, t < s.ws.length
  o_len : s.o.length ≤ s.ws.length
  f_lt : ∀ (i x : Nat), s.f[i]? = some (some x) → x < s.ws.length
theorem set_lt {f : List (Option Nat)} {j y n : Nat} (h : ∀ (i x : Nat), f[i]? = some (some x) → x < n) (hy : y < n) : ∀ (i x : Nat), (f.set j (some y))[i]? = some (some x) → x < n := by
  intro i x e
  rw [List.getElem?_set] at e
  by_cases hj : j = i
  · rw [if_pos hj] at e
    by_cases hl : j < f.length
    · rw [if_pos hl] at e; cases e; exact hy
    · rw [if_neg hl] at e; cases e
  · rw [if_neg hj] at e; exact h i x e
theorem snoc_lt {f : List (Option Nat)} {n : Nat} (h : ∀ (i x : Nat), f[i]? = some (some x) → x < n) : ∀ (i x : Nat), (f ++ [none])[i]? = some (some x) → x < n + 1 := by
  intro i x e
  rw [List.getElem?_append] at e
  by_cases hi : i < f.length
  · rw [if_pos hi] at e; have := h i x e; omega
  · rw [if_neg hi] at e
    cases hk : i - f.length with
    | zero => rw [hk] at e; cases e
    | succ k => rw [hk] at e; simp at e
theorem clo_len (f : List (Option Nat)) (t e : Nat) : (clo f t e).length = f.length := by
  unfold clo; split <;> simp
theorem clo_lt {f : List (Option Nat)} {t e n : Nat} (h : ∀ (i x : Nat), f[i]? = some (some x) → x < n) (ht : t < n) (he : e < n) : ∀ (i x : Nat), (clo f t e)[i]? = some (some x) → x < n := by
  unfold clo
  split
  · exact set_lt (set_lt h ht) he
  · exact set_lt (set_lt h ht) he
theorem step_ok {s s' : Bs} {w : Str} (B : BOk s) (h : StepB s w s') : BOk s' ∧ s'.ws = s.ws ++ [w] := by
  have l1 : (s.ws ++ [w]).length = s.ws.length + 1 := by simp
  cases h with
  | opn h =>
    refine ⟨⟨by simp [B.len], fun t ht => ?_, by have := B.o_len; simp; omega, ?_⟩, rfl⟩
    · rw [l1]
      rcases List.mem_append.mp ht with z | z
      · have := B.o_lt t z; omega
      · rw [List.mem_singleton.mp z]; omega
    · rw [l1]; exact snoc_lt B.f_lt
  | els h o t eo h1 h2 =>
    refine ⟨⟨by simp [B.len], fun t ht => ?_, by have := B.o_len; simp; omega, ?_⟩, rfl⟩
    · rw [l1]; have := B.o_lt t ht; omega
    · rw [l1]; exact set_lt (snoc_lt B.f_lt) (by omega)
  | fin h o t eo =>
    have ht : t < s.ws.length := B.o_lt t (by rw [eo]; simp)
    refine ⟨⟨by rw [clo_len]; simp [B.len], fun t ht => ?_, by have := B.o_len; rw [eo] at this; simp at this ⊢; omega, ?_⟩, rfl⟩
    · rw [l1]; have := B.o_lt t (by rw [eo]; exact List.mem_append.mpr (.inl ht)); omega
    · rw [l1]; exact clo_lt (snoc_lt B.f_lt) (by omega) (by omega)
  | oth h1 h2 h3 h4 =>
    refine ⟨⟨by simp [B.len], fun t ht => ?_, by have := B.o_len; simp; omega, ?_⟩, rfl⟩
    · rw [l1]; have := B.o_lt t ht; omega
    · rw [l1]; exact snoc_lt B.f_lt
def b0 : Bs := ⟨[], [], []⟩
theorem b0_ok : BOk b0 := ⟨rfl, fun t h => (by cases h), Nat.le_refl _, fun i x h => (by simp [b0] at h)⟩
def runB (ws : List Str) : Option Bs := ws.foldlM stepB b0
theorem runB_snoc (ws : List Str) (w : Str) : runB (ws ++ [w]) = (runB ws).bind fun s => stepB s w := by
  unfold runB
  rw [List.foldlM_append]
  cases ws.foldlM stepB b0 with
  | none => rfl
  | some s => show (stepB s w).bind some = stepB s w; cases stepB s w <;> rfl
theorem runB_step {ws : List Str} {w : Str} {s s' : Bs} (h : runB ws = some s) (e : StepB s w s') : runB (ws ++ [w]) = some s' := by
  rw [runB_snoc, h]
  exact ways_step e
theorem runB_ok : ∀ (n : Nat) {ws : List Str} {s : Bs}, ws.length = n → runB ws = some s → BOk s ∧ s.ws = ws := by
  intro n
  induction n with
  | zero =>
    intro ws s l h
    have : ws = [] := List.length_eq_zero_iff.mp l
    subst this
    have : s = b0 := (Option.some.inj h).symm
    subst this
    exact ⟨b0_ok, rfl⟩
  | succ n ih =>
    intro ws s l h
    have e : ws = ws.dropLast ++ [ws.getLast (by intro z; subst z; cases l)] := (List.dropLast_concat_getLast _).symm
    rw [e, runB_snoc] at h
    cases e1 : runB ws.dropLast with
    | none => rw [e1] at h; cases h
    | some s1 =>
      rw [e1] at h
      obtain ⟨B1, e2⟩ := ih (by rw [List.length_dropLast]; omega) e1
      obtain ⟨B, e3⟩ := step_ok B1 (stepB_ways h)
      refine ⟨B, ?_⟩
      rw [e3, e2]
      exact e.symm
theorem runB_pre {ws : List Str} {s : Bs} (h : runB ws = some s) : ∀ i, i < ws.length → ∃ s1 s2 w, runB (ws.take i) = some s1 ∧ ws[i]? = some w ∧ StepB s1 w s2 ∧ runB (ws.take (i + 1)) = some s2 := by
  have all : ∀ k, ∃ s1, runB (ws.take k) = some s1 := by
    intro k
    have : ∀ (us vs : List Str) (s : Bs), runB (us ++ vs) = some s → ∃ s1, runB us = some s1 := fun us vs s h => by
      unfold runB at h ⊢
      rw [List.foldlM_append] at h
      cases e : us.foldlM stepB b0 with
      | none => rw [e] at h; cases h
      | some s1 => exact ⟨s1, rfl⟩
    exact this (ws.take k) (ws.drop k) s (by rw [List.take_append_drop]; exact h)
  intro i hi
  obtain ⟨s1, e1⟩ := all i
  obtain ⟨s2, e2⟩ := all (i + 1)
  have ew : ws[i]? = some ws[i] := List.getElem?_eq_getElem hi
  refine ⟨s1, s2, ws[i], e1, ew, ?_, e2⟩
  rw [take_succ_of ew, runB_snoc, e1] at e2
  exact stepB_ways e2
theorem clo_app {f r : List (Option Nat)} {t e n : Nat} (hn : f.length = n) (h : ∀ (i x : Nat), f[i]? = some (some x) → x < n) (ht : t < n) (he : e < n) : clo (f ++ r) t e = clo f t e ++ r := by
  have l1 : e < f.length := by omega
  have s1 : (f ++ r).set e (some t) = f.set e (some t) ++ r := List.set_append_left _ _ l1
  have h' := set_lt (j := e) h ht
  have l2 : (f.set e (some t)).length = n := by rw [List.length_set, hn]
  unfold clo
  rw [s1]
  generalize f.set e (some t) = g at *
  rw [List.getElem?_append_left (by omega)]
  cases e1 : g[t]? with
  | none => exact List.set_append_left _ _ (by omega)
  | some z =>
    cases z with
    | none => exact List.set_append_left _ _ (by omega)
    | some x => exact List.set_append_left _ _ (by have := h' t x e1; omega)
theorem at_nat' {α : Type} {xs : List α} {j : Nat} {v : α} (h : xs[j]? = some v) : atI xs (j : Int) = some v := atI_nat h
theorem at_last {α : Type} (xs : List α) (x : α) : atI (xs ++ [x]) (-1) = some x := by
  unfold atI ixN
  rw [if_neg (by decide), if_pos (by simp; omega)]
  show (xs ++ [x])[(-1 + ((xs ++ [x]).length : Int)).toNat]? = some x
  rw [show (-1 + ((xs ++ [x]).length : Int)).toNat = xs.length by simp; omega]
  simp
theorem at0 {α : Type} (x : α) (xs : List α) : atI (x :: xs) 0 = some x := at_nat' (j := 0) rfl
theorem gN_get {f : List (Option Nat)} {t : Nat} {x : Option Nat} (h : f[t]? = some x) : atI (f.map gN) (t : Int) = some (gN x) := at_nat (by rw [List.getElem?_map, h]; rfl)
theorem map_set {f : List (Option Nat)} {t : Nat} {x : Option Nat} : (f.map gN).set t (gN x) = (f.set t x).map gN := by rw [List.map_set]
theorem ix_nat {n t : Nat} (h : t < n) : ixN n (t : Int) = some t := by
  unfold ixN
  rw [if_pos (by omega), if_pos (by omega), Int.toNat_natCast]
/-! ### rows -/
def Sc (v : V) (d : PyData) : Prop := (∃ i, d = .int i ∧ v = .int i) ∨ (d = .none ∧ v = .non) ∨ ∃ x, d = .str x ∧ v = .str x ∧ PyData.strOk x = true
def It (H : Hp) (v : V) (d : PyData) : Prop := Sc v d ∨ ∃ (b : Addr) (ys : List V) (ds : List PyData), d = .tuple ds ∧ v = .ref b ∧ H b = some (.tup ys) ∧ Paired Sc ys ds
abbrev Row := Str × List PyData
def RowAt (H : Hp) (v : V) (r : Row) : Prop := ∃ a xs, v = .ref a ∧ H a = some (.tup (.str r.1 :: xs)) ∧ PyData.strOk r.1 = true ∧ Paired (It H) xs r.2
def TKeep (H H' : Hp) : Prop := ∀ b t, H b = some (.tup t) → H' b = some (.tup t)
theorem TKeep.of {H H' : Hp} (s : Same H H') : TKeep H H' := fun b t h => s b _ h
theorem TKeep.trans {H H1 H2 : Hp} (s : TKeep H H1) (t : TKeep H1 H2) : TKeep H H2 := fun b u h => t b u (s b u h)
theorem TKeep.put {H : Hp} {p : Addr} {zs ws : List V} (hp : H p = some (.lst zs)) : TKeep H (upd H p (.lst ws)) := fun b t h => by rw [upd_ne (ne_of h hp (by intro z; cases z))]; exact h
theorem It.keep {H H' : Hp} (k : TKeep H H') {v : V} {d : PyData} : It H v d → It H' v d
  | .inl h => .inl h
  | .inr ⟨b, ys, ds, h1, h2, h3, h4⟩ => .inr ⟨b, ys, ds, h1, h2, k _ _ h3, h4⟩
theorem RowAt.keep {H H' : Hp} (k : TKeep H H') {v : V} {r : Row} : RowAt H v r → RowAt H' v r := fun ⟨a, xs, h1, h2, h3, h4⟩ => ⟨a, xs, h1, k _ _ h2, h3, Paired.mapP h4 fun _ _ z => z.keep k⟩
theorem rows_keep {H H' : Hp} (k : TKeep H H') {vs : List V} {rs : List Row} (h : Paired (RowAt H) vs rs) : Paired (RowAt H') vs rs := Paired.mapP h fun _ _ z => z.keep k
def rowD (r : Row) : PyData := .tuple (.str r.1 :: r.2)
theorem dt_sc {K : PySem.W.Frag} {H : Hp} {v : V} {d : PyData} (h : Sc v d) : Dt K H d v := by
  rcases h with ⟨i, rfl, rfl⟩ | ⟨rfl, rfl⟩ | ⟨x, rfl, rfl, h⟩
  · exact .int
  · exact .non
  · exact .str h
theorem dt_scs {K : PySem.W.Frag} {H : Hp} : ∀ {vs : List V} {ds : List PyData}, Paired Sc vs ds → DtAll K H ds vs
  | _, _, .nil => .nil
  | _, _, .cons h t => .cons (dt_sc h) (dt_scs t)
theorem dt_its {K : PySem.W.Frag} {H : Hp} : ∀ {vs : List V} {ds : List PyData}, Paired (It H) vs ds → DtAll K H ds vs
  | _, _, .nil => .nil
  | _, _, .cons (.inl h) t => .cons (dt_sc h) (dt_its t)
  | _, _, .cons (.inr ⟨b, ys, ds, h1, h2, h3, h4⟩) t => by
    subst h1 h2
    exact .cons (.tup (SqT.of h3) (dt_scs h4)) (dt_its t)
theorem dt_rows {K : PySem.W.Frag} {H : Hp} : ∀ {vs : List V} {rs : List Row}, Paired (RowAt H) vs rs → DtAll K H (rs.map rowD) vs
  | _, _, .nil => .nil
  | _, _, .cons ⟨a, xs, h1, h2, h3, h4⟩ t => by
    subst h1
    exact .cons (.tup (SqT.of h2) (.cons (.str h3) (dt_its h4))) (dt_rows t)
theorem depth_sc {v : V} {d : PyData} (h : Sc v d) : d.depth ≤ 2 := by
  rcases h with ⟨i, rfl, rfl⟩ | ⟨rfl, rfl⟩ | ⟨x, rfl, rfl, h⟩ <;> simp [PyData.depth]
theorem depth_scs : ∀ {vs : List V} {ds : List PyData}, Paired Sc vs ds → PyData.depthAll ds ≤ 2
  | _, _, .nil => by simp [PyData.depthAll]
  | _, _, .cons h t => by have := depth_sc h; have := depth_scs t; simp only [PyData.depthAll]; omega
theorem depth_its {H : Hp} : ∀ {vs : List V} {ds : List PyData}, Paired (It H) vs ds → PyData.depthAll ds ≤ 4
  | _, _, .nil => by simp [PyData.depthAll]
  | _, _, .cons (.inl h) t => by have := depth_sc h; have := depth_its t; simp only [PyData.depthAll]; omega
  | _, _, .cons (.inr ⟨b, ys, ds, h1, h2, h3, h4⟩) t => by subst h1; have := depth_scs h4; have := depth_its t; simp only [PyData.depthAll, PyData.depth]; omega
theorem depth_rows {H : Hp} : ∀ {vs : List V} {rs : List Row}, Paired (RowAt H) vs rs → PyData.depthAll (rs.map rowD) ≤ 8
  | _, _, .nil => by simp [PyData.depthAll]
  | _, _, .cons ⟨a, xs, h1, h2, h3, h4⟩ t => by
    have := depth_its h4
    have := depth_rows t
    simp only [List.map_cons, rowD, PyData.depthAll, PyData.depth] at this ⊢
    omega
theorem depth_rowsL {H : Hp} {vs : List V} {rs : List Row} (h : Paired (RowAt H) vs rs) : (PyData.list (rs.map rowD)).depth ≤ 60 := by
  have := depth_rows h
  simp only [PyData.depth]
  omega
theorem dt_rowsL {K : PySem.W.Frag} {H : Hp} {a : Addr} {vs : List V} {rs : List Row} (e : H a = some (.lst vs)) (h : Paired (RowAt H) vs rs) : Dt K H (.list (rs.map rowD)) (.ref a) := .lst (SqL.of e) (dt_rows h)
theorem rows_word {H : Hp} {vs : List V} {rs : List Row} {i : Nat} {w : Str} (h : Paired (RowAt H) vs rs) (e : (rs.map Prod.fst)[i]? = some w) : ∃ a xs, vs[i]? = some (.ref a) ∧ H a = some (.tup (.str w :: xs)) := by
  rw [List.getElem?_map] at e
  cases er : rs[i]? with
  | none => rw [er] at e; cases e
  | some r =>
    rw [er] at e
    obtain ⟨x, ex, a, xs, rfl, h2, _⟩ := paired_get h er
    have : r.1 = w := Option.some.inj e
    subst this
    exact ⟨a, xs, ex, h2⟩
def Only (p : Addr) (H H' : Hp) : Prop := ∀ b, b ≠ p → H' b = H b
theorem Only.same {H0 H H' : Hp} {p : Addr} (o : Only p H H') (n : H0 p = none) (s : Same H0 H) : Same H0 H' := fun b u h => by rw [o b (ne_of_none h n)]; exact s b u h
theorem Only.keep {H H' : Hp} {p : Addr} {zs : List V} (o : Only p H H') (e : H p = some (.lst zs)) : TKeep H H' := fun b t h => by rw [o b (ne_of h e (by intro z; cases z))]; exact h
theorem Only.put {H : Hp} {p : Addr} {u : HO} : Only p H (upd H p u) := fun b h => upd_ne h
def fV (f : List (Option Nat)) : List V := f.map gN
def nV (o : List Nat) : List V := o.map fun t => .int (t : Nat)
def sp_close (K : PySem.W.Frag) : Sp := fun vs H Q _ => ∃ (p : Addr) (f : List (Option Nat)) (t e : Nat), vs = [.ref p, .int t, .int e] ∧ H p = some (.lst (fV f)) ∧ (∀ (i x : Nat), f[i]? = some (some x) → x < f.length) ∧ t < f.length ∧ e < f.length ∧
  ∀ H', Only p H H' → H' p = some (.lst (fV (clo f t e))) → Q .non H'
def sp_may_have_else (K : PySem.W.Frag) : Sp := fun vs H Q _ => ∃ (a p q1 : Addr) (xs : List V) (f : List (Option Nat)) (o : List Nat) (t : Nat) (rs : List Row), vs = [.ref a, .ref p, .ref q1] ∧ SqL K H a xs ∧ Paired (RowAt H) xs rs ∧ H p = some (.lst (fV f)) ∧ H q1 = some (.lst (nV (o ++ [t]))) ∧
  (rs.map Prod.fst)[t]? = some sIf ∧ f[t]? = some none ∧ Q (.bl true) H
def sp_partners (K : PySem.W.Frag) : Sp := fun vs H Q _ => ∃ (a : Addr) (xs : List V) (rs : List Row) (s : Bs), vs = [.ref a] ∧ H a = some (.lst xs) ∧ Paired (RowAt H) xs rs ∧ runB (rs.map Prod.fst) = some s ∧ s.o = [] ∧ rs.length ≤ 100 ∧
  ∀ p H', Same H H' → H p = none → H' p = some (.lst (fV s.f)) → Q (.ref p) H'

theorem pickW {l : List Str} {c : Int} (h0 : 0 ≤ c) (h1 : c < l.length) : ∃ w, w ∈ l ∧ atI (l.map V.str) c = some (.str w) := by
  obtain ⟨j, rfl⟩ := Int.eq_ofNat_of_zero_le h0
  have hj : j < l.length := by omega
  exact ⟨l[j], List.getElem_mem hj, at_nat (by rw [List.getElem?_map, List.getElem?_eq_getElem hj]; rfl)⟩
theorem w_open : ∀ w ∈ [sIf, sWh, sIf], (w = sIf ∨ w = sWh) ∧ PyData.strOk w = true := by decide +kernel
theorem w_oth : ∀ w ∈ [Str.ofString "set", Str.ofString "ask", Str.ofString "need", Str.ofString "claim", Str.ofString "set"], w ≠ sIf ∧ w ≠ sWh ∧ w ≠ sEl ∧ w ≠ sEn ∧ PyData.strOk w = true := by decide +kernel
theorem w_quest : ∀ w ∈ [Str.ofString "most", Str.ofString "least", Str.ofString "same", Str.ofString "unlike"], PyData.strOk w = true := by decide +kernel
theorem ok_En : PyData.strOk sEn = true := by decide +kernel
theorem ok_El : PyData.strOk sEl = true := by decide +kernel
theorem snoc_of {o : List Nat} (h : 0 < o.length) : ∃ o' t, o = o' ++ [t] := ⟨o.dropLast, o.getLast (List.length_pos_iff.mp h), (List.dropLast_concat_getLast _).symm⟩
def sp__law_word (K : PySem.W.Frag) : Sp := fun vs H Q _ => ∃ (kd : Int) (z : Nat) (r op fo : Addr) (rv : List V) (rs : List Row) (s : Bs), vs = [.int kd, .int z, .ref r, .ref op, .ref fo] ∧ H r = some (.lst rv) ∧ Paired (RowAt H) rv rs ∧ rs.map Prod.fst = s.ws ∧ H fo = some (.lst (fV s.f)) ∧ H op = some (.lst (nV s.o)) ∧ BOk s ∧
  0 ≤ kd ∧ s.ws.length < z ∧ s.ws.length + s.o.length ≤ z ∧ ∀ w s' H', Same H H' → StepB s w s' → s'.ws.length + s'.o.length ≤ z → PyData.strOk w = true → Q (.str w) H'
def sp__law_question (K : PySem.W.Frag) : Sp := fun vs H Q _ => ∃ (c : Int), vs = [.int c] ∧ ∀ p ys ds H', Same H H' → H' p = some (.tup ys) → Paired Sc ys ds → Q (.ref p) H'
def sp__law_row (K : PySem.W.Frag) : Sp := fun vs H Q _ => ∃ (w : Str) (c : Int), vs = [.str w, .int c] ∧ PyData.strOk w = true ∧ ∀ v ds H', Same H H' → RowAt H' v (w, ds) → Q v H'
def sp__law_program (K : PySem.W.Frag) : Sp := fun vs H Q _ => ∃ (a : Addr) (ns : List Int) (k : Int) (z : Nat), vs = [.ref a, .int k, .int z] ∧ SqL K H a (ns.map V.int) ∧ 0 ≤ k ∧ z ≤ 60 ∧
  ∀ p r fo H' rv rs s, Same H H' → H' p = some (.tup [.ref r, .ref fo]) → H' r = some (.lst rv) → Paired (RowAt H') rv rs → H' fo = some (.lst (fV s.f)) → runB (rs.map Prod.fst) = some s → s.o = [] → rs.length ≤ 60 → Q (.ref p) H'
def sp__law_good (K : PySem.W.Frag) : Sp := fun vs H Q _ => ∃ (r fo : Addr) (rv : List V) (rs : List Row) (s : Bs), vs = [.ref r, .ref fo] ∧ H r = some (.lst rv) ∧ Paired (RowAt H) rv rs ∧ H fo = some (.lst (fV s.f)) ∧ runB (rs.map Prod.fst) = some s ∧ s.o = [] ∧ rs.length ≤ 60 ∧ ∀ H', Same H H' → Q (.bl true) H'
def sp__law_size (K : PySem.W.Frag) : Sp := fun vs H Q _ => ∃ (c : Int), vs = [.int c] ∧ ∀ z : Nat, z ≤ 60 → Q (.int z) H
theorem us1 {α : Type} : ∀ {us : List α}, us.length = 1 → ∃ b0, us = [b0]
  | [b0], _ => ⟨b0, rfl⟩
theorem us2 {α : Type} : ∀ {us : List α}, us.length = 2 → ∃ b0 b1, us = [b0, b1]
  | [b0, b1], _ => ⟨b0, b1, rfl⟩
theorem us3 {α : Type} : ∀ {us : List α}, us.length = 3 → ∃ b0 b1 b2, us = [b0, b1, b2]
  | [b0, b1, b2], _ => ⟨b0, b1, b2, rfl⟩
theorem us5 {α : Type} : ∀ {us : List α}, us.length = 5 → ∃ b0 b1 b2 b3 b4, us = [b0, b1, b2, b3, b4]
  | [b0, b1, b2, b3, b4], _ => ⟨b0, b1, b2, b3, b4, rfl⟩
section
variable {P : Program} {w : World} {K : PySem.W.Frag} {mg : Str → Option Value} {base : Heap}
theorem sc_partners : FnScope ["rows", "found", "opened", "at", "row", "word"] ["rows"] (defScope s_partners) := ⟨rfl, rfl, rfl, by decide +kernel, rfl, by decide +kernel, by decide +kernel⟩
theorem ok_partners {f : Addr} {fd : FuncData} (F : Fun K "partners" "partners" s_partners f fd) (m : mg "partners" = some (.ref f)) (B : Bl mg) (D_may_have_else : Def P w K mg base CX0 "may_have_else" 1 ["rows", "found", "opened"] (sp_may_have_else K)) (D_close : Def P w K mg base CX0 "close" 1 ["found", "start", "end"] (sp_close K)) : Def P w K mg base CX0 "partners" 2 ["rows"] (sp_partners K) := by
  refine ⟨f, fd, F.ok sc_partners (fun vs H Q E h => ?_) (fun cdv A outer s H vs Q E hr h => ?_), F.binds (ps := ["rows"]) fun _ _ _ _ _ _ us hl => (by obtain ⟨b0, rfl⟩ := us1 hl; rfl), F.kp, m⟩
  · obtain ⟨a, xs, rs, s1, rfl, _⟩ := h
    rfl
  obtain ⟨a, xs, rs, s1, rfl, ea, hR, hrun, ho, hn, q⟩ := h
  refine ⟨_, (@pss_cons _ _ _ _ _ (ps_setC1 (i := 1) (CompScope1.of (M := ["rows", "found", "opened", "at", "?row", "word"]) (by decide +kernel) (by rfl)) rfl (pi_listK (K := K) rfl (pv 0)) (fun _ _ _ => pe_non) sc_partners.nd rfl (by first | exact Or.inl rfl | exact Or.inr rfl) rfl)
    (@pss_cons _ _ _ _ _ (ps_set (i := 2) sc_partners.nd rfl (by first | exact Or.inl rfl | exact Or.inr rfl) (pe_lst pa_nil))
    (@pss_cons _ _ _ _ _ (ps_for PassesOwn.never rfl (pi_enumK (K := K) rfl (by rfl) B.enumerate (pa_Name (pv 0) pa_nil)) (pg_pairK (K := K) rfl rfl (pg_name (i := 3) sc_partners.nd rfl (by first | exact Or.inl rfl | exact Or.inr rfl)) (pg_name (i := 4) sc_partners.nd rfl (by first | exact Or.inl rfl | exact Or.inr rfl))) (@pss_cons _ _ _ _ _ (ps_set (i := 5) sc_partners.nd rfl (by first | exact Or.inl rfl | exact Or.inr rfl) (pe_ix (ix_tupK (K := K) rfl) (pv 4) pe_int (fun _ _ => rfl)))
    (pss_one (ps_if (pw_or (pt_cmpR op_eq (pv 5) pe_str (nomark _)) (pw_or1 (pt_cmpR op_eq (pv 5) pe_str (nomark _)))).pt (pss_one (ps_expr (pe_bm PySem.F.plainAttrs_list PySem.F.slot_list_append PySem.F.type_list_append mt_append (pv 2) (pa_Name (pv 3) pa_nil)))) (pss_one (ps_if (pt_cmpR op_eq (pv 5) pe_str (nomark _)) (@pss_cons _ _ _ _ _ (ps_if (pt_not (pt_val (pe_def D_may_have_else (hr.mono (by decide)) (by rfl) pass0 (pa_Name (pv 0) (pa_Name (pv 1) (pa_Name (pv 2) pa_nil)))))) pss_never pss_nil)
    (pss_one (ps_asg (pv 3) (pg_sub (pv 1) (pe_ix (ix_listK (K := K) rfl) (pv 2) (pe_un un_neg pe_int) (fun _ _ => rfl)) set_list)))) (pss_one (ps_if (pt_cmpR op_eq (pv 5) pe_str (nomark _)) (@pss_cons _ _ _ _ _ (ps_if (pt_cmpR op_eq (pe_callB (call_lenK (K := K) rfl) (by rfl) B.len (by decide +kernel) (pa_Name (pv 2) pa_nil)) pe_int (nomark _)) pss_never pss_nil)
    (pss_one (ps_expr (pe_def D_close (hr.mono (by decide)) (by rfl) pass0 (pa_Name (pv 1) (pa_Call (pe_bm0 PySem.F.plainAttrs_list PySem.F.slot_list_pop PySem.F.type_list_pop mt_pop (pv 2)) (pa_Name (pv 3) pa_nil))))))) pss_nil))))))))
    (@pss_cons _ _ _ _ _ (ps_if (pt_cmpR op_gt (pe_callB (call_lenK (K := K) rfl) (by rfl) B.len (by decide +kernel) (pa_Name (pv 2) pa_nil)) pe_int (nomark _)) pss_never pss_nil)
    (pss_one (ps_ret (pv 1))))))), ?_⟩
  have lx : xs.length = rs.length := paired_len hR
  generalize ews : rs.map Prod.fst = ws at *
  have lw : ws.length = rs.length := by rw [← ews]; simp
  refine seq_step fun U hU => ?_
  refine ⟨_, rfl, a, rfl, ⟨_, SqL.of ea⟩, fun p hp => comp_list1 (K := K) (a := a) (xs := xs) (fun i ys H' => ys = fV (List.replicate i none) ∧ H' p = some (.lst ys) ∧ Same H H') ⟨rfl, upd_same, same_new hp _⟩ (fun i ys H' _ ⟨_, _, sm⟩ => SqL.of (sm _ _ ea)) ?_ ?_⟩
  · rintro i y ys H' hy ⟨rfl, hp', sm⟩
    have hi : i < xs.length := (List.getElem?_eq_some_iff.mp hy).1
    exact ⟨hp', by simp [fV]; exact small1000 (by omega), again hi ⟨by rw [List.replicate_succ']; simp [fV, gN], upd_same, same_over hp sm⟩⟩
  · rintro ys H1 ⟨rfl, ep, sm1⟩
    show U _ _
    subst hU
    refine seq_step fun U hU => ?_
    refine ⟨sz 0, fun o1 ho1 => ?_⟩
    show U _ _
    subst hU
    have nop : o1 ≠ p := Ne.symm (ne_of_none ep ho1)
    have n1 : H o1 = none := sm1.free ho1
    have s2 := same_over n1 (o := .lst []) sm1
    have ep2 : upd H1 o1 (.lst []) p = some (.lst (fV (List.replicate xs.length none))) := by rw [upd_ne (Ne.symm nop)]; exact ep
    have eo2 : upd H1 o1 (.lst []) o1 = some (.lst (nV [])) := upd_same
    generalize upd H1 o1 (.lst []) = H2 at *
    refine seq_step fun U hU => ?_
    refine ⟨_, rfl, a, rfl, ⟨_, SqL.of (s2 _ _ ea)⟩, for_enum (K := K) (a := a) (xs := xs) (fun i σ H' => ∃ (x y z : Option V) (s : Bs), σ = [some (.ref a), some (.ref p), some (.ref o1), x, y, z] ∧ Same H H' ∧ runB (ws.take i) = some s ∧ H' p = some (.lst (fV (s.f ++ List.replicate (xs.length - i) none))) ∧ H' o1 = some (.lst (nV s.o))) ⟨none, none, none, b0, rfl, s2, rfl, ep2, eo2⟩ (fun i σ H' _ ⟨_, _, _, _, _, sm, _⟩ => SqL.of (sm _ _ ea)) ?_ ?_⟩
    · rintro i v σ H3 H4 hv ⟨x, y, z, s, rfl, sm3, hs, ep3, eo3⟩ sm4
      have hi : i < xs.length := (List.getElem?_eq_some_iff.mp hv).1
      obtain ⟨s', s2', w, es', ew, st, run'⟩ := runB_pre hrun i (by omega)
      have : s' = s := Option.some.inj (es'.symm.trans hs)
      subst this
      obtain ⟨B, ewt⟩ := runB_ok i (by rw [List.length_take]; omega) hs
      have lws : s'.ws.length = i := by rw [ewt, List.length_take]; omega
      have s34 := sm3.trans sm4
      have ep4 := sm4 _ _ ep3
      have eo4 := sm4 _ _ eo3
      have hR4 := rows_keep (TKeep.of s34) hR
      rw [← ews] at ew
      obtain ⟨ra, rx, er, hra⟩ := rows_word hR4 ew
      rw [ews] at ew
      have : v = .ref ra := Option.some.inj (hv.symm.trans er)
      subst this
      have er2 : List.replicate (xs.length - i) (none : Option Nat) = [none] ++ List.replicate (xs.length - (i + 1)) none := by rw [show xs.length - i = (xs.length - (i + 1)) + 1 by omega, List.replicate_succ]; rfl
      rw [er2, ← List.append_assoc] at ep4
      have lo4 : (nV s'.o).length < sizeLine := by unfold nV; rw [List.length_map]; exact small1000 (by have := B.o_len; omega)
      refine seq_step fun U hU => ?_
      refine ⟨_, rfl, ra, _, (0 : Int), _, rfl, rfl, SqT.of hra, at0 _ _, ?_⟩
      show U _ _
      subst hU
      cases st with
      | opn h =>
        have done : Same H (upd H4 o1 (.lst (nV s'.o ++ [.int (i : Nat)]))) := same_over n1 s34
        have fin : ∀ z, ∃ x y z' s, [some (V.ref a), some (.ref p), some (.ref o1), some (.int (i : Nat)), some (.ref ra), z] = [some (.ref a), some (.ref p), some (.ref o1), x, y, z'] ∧ Same H (upd H4 o1 (.lst (nV s'.o ++ [.int (i : Nat)]))) ∧ runB (ws.take (i + 1)) = some s ∧ upd H4 o1 (.lst (nV s'.o ++ [.int (i : Nat)])) p = some (.lst (fV (s.f ++ List.replicate (xs.length - (i + 1)) none))) ∧ upd H4 o1 (.lst (nV s'.o ++ [.int (i : Nat)])) o1 = some (.lst (nV s.o)) :=
          fun z => ⟨_, _, _, _, rfl, done, run', by rw [upd_ne (Ne.symm nop)]; exact ep4, by rw [upd_same, lws]; simp [nV]⟩
        refine ⟨_, rfl, rfl, _, rfl, ?_⟩
        rcases h with h | h
        · rw [decide_eq_true (show V.str w = V.str sIf by rw [h])]
          refine iteT ?_
          refine iteT ?_
          exact ⟨_, rfl, .inl ⟨rfl, _, SqL.of eo4⟩, _, rfl, o1, _, _, rfl, rfl, eo4, lo4, fin _⟩
        · rw [decide_eq_false (show ¬ V.str w = V.str sIf from fun e => (show sWh ≠ sIf by decide +kernel) (h.symm.trans (V.str.inj e)))]
          refine iteF ?_
          refine ⟨_, rfl, rfl, _, rfl, ?_⟩
          rw [decide_eq_true (show V.str w = V.str sWh by rw [h])]
          refine iteT ?_
          exact ⟨_, rfl, .inl ⟨rfl, _, SqL.of eo4⟩, _, rfl, o1, _, _, rfl, rfl, eo4, lo4, fin _⟩
      | els h o t eo h1 h2 =>
        subst h
        refine ⟨_, rfl, rfl, _, rfl, ?_⟩
        rw [decide_eq_false (show ¬ V.str sEl = V.str sIf from fun e => el_if (V.str.inj e))]
        refine iteF ?_
        refine ⟨_, rfl, rfl, _, rfl, ?_⟩
        rw [decide_eq_false (show ¬ V.str sEl = V.str sWh from fun e => el_wh (V.str.inj e))]
        refine iteF ?_
        refine ⟨_, rfl, rfl, _, rfl, ?_⟩
        rw [decide_eq_true (show V.str sEl = V.str sEl from rfl)]
        refine iteT ?_
        rw [eo] at eo4
        have ht : t < i := by have := B.o_lt t (by rw [eo]; simp); omega
        have lf : s'.f.length = i := by rw [B.len, lws]
        have g2 : (s'.f ++ [none] ++ List.replicate (xs.length - (i + 1)) none)[t]? = some none := by rw [List.append_assoc, List.getElem?_append_left (by omega)]; exact h2
        refine seq_step fun U hU => ?_
        refine ⟨_, rfl, _, rfl, _, rfl, a, p, o1, xs, _, o, t, rs, rfl, SqL.of (s34 _ _ ea), hR4, ep4, eo4, ?_, g2, ?_⟩
        · rw [ews]
          rw [ewt, List.getElem?_take, if_pos ht] at h1
          exact h1
        refine ⟨true, rfl, ?_⟩
        refine iteF ?_
        show U _ _
        subst hU
        have el : nV (o ++ [t]) = nV o ++ [.int (t : Nat)] := by simp [nV]
        have at1 : atI (nV (o ++ [t])) (-1) = some (.int (t : Nat)) := by rw [el]; exact at_last _ _
        refine ⟨_, rfl, _, rfl, _, rfl, (1 : Int), rfl, o1, _, _, _, rfl, rfl, SqL.of eo4, at1, p, _, _, t, rfl, rfl, ep4, ix_nat (by simp [fV]; omega), ?_⟩
        refine ⟨_, _, _, _, rfl, same_over hp s34, run', ?_, by rw [upd_ne nop]; rw [eo]; exact eo4⟩
        rw [upd_same]
        show some (HO.lst ((List.map gN _).set t (gN (some i)))) = _
        rw [map_set, List.set_append_left _ _ (by simp; omega), lws]
        rfl
      | fin h o t eo =>
        subst h
        refine ⟨_, rfl, rfl, _, rfl, ?_⟩
        rw [decide_eq_false (show ¬ V.str sEn = V.str sIf from fun e => en_if (V.str.inj e))]
        refine iteF ?_
        refine ⟨_, rfl, rfl, _, rfl, ?_⟩
        rw [decide_eq_false (show ¬ V.str sEn = V.str sWh from fun e => en_wh (V.str.inj e))]
        refine iteF ?_
        refine ⟨_, rfl, rfl, _, rfl, ?_⟩
        rw [decide_eq_false (show ¬ V.str sEn = V.str sEl from fun e => en_el (V.str.inj e))]
        refine iteF ?_
        refine ⟨_, rfl, rfl, _, rfl, ?_⟩
        rw [decide_eq_true (show V.str sEn = V.str sEn from rfl)]
        refine iteT ?_
        rw [eo] at eo4
        have ht : t < i := by have := B.o_lt t (by rw [eo]; simp); omega
        have lf : s'.f.length = i := by rw [B.len, lws]
        have el : nV (o ++ [t]) = nV o ++ [.int (t : Nat)] := by simp [nV]
        rw [el] at eo4
        refine seq_step fun U hU => ?_
        refine ⟨_, rfl, o1, _, rfl, .inl (SqL.of eo4), rfl, _, rfl, ?_⟩
        rw [decide_eq_false (show ¬ V.int ((nV o ++ [V.int (t : Nat)]).length : Nat) = V.int 0 from fun e => (by have := V.int.inj e; simp at this; omega))]
        refine iteF ?_
        show U _ _
        subst hU
        refine ⟨_, rfl, _, rfl, .inl ⟨rfl, _, SqL.of eo4⟩, o1, _, _, rfl, rfl, eo4, (by simp : (nV o ++ [V.int (t : Nat)])[(nV o ++ [V.int (t : Nat)]).length - 1]? = some (.int (t : Nat))), ?_⟩
        rw [List.dropLast_concat]
        refine ⟨_, rfl, p, s'.f ++ [none] ++ List.replicate (xs.length - (i + 1)) none, t, i, rfl, by rw [upd_ne (Ne.symm nop)]; exact ep4, ?_, by simp; omega, by simp; omega, fun H5 o5 e5 => ?_⟩
        · intro j x e
          have : x < i + 1 := by
            by_cases hj : j < (s'.f ++ [none]).length
            · rw [List.getElem?_append_left hj] at e
              have := snoc_lt B.f_lt j x e
              omega
            · rw [List.getElem?_append_right (by omega), List.getElem?_replicate] at e
              split at e <;> cases e
          simp
          omega
        refine ⟨_, _, _, _, rfl, o5.same hp (same_over n1 s34), run', ?_, by rw [o5 _ nop, upd_same]⟩
        rw [e5, clo_app (n := i + 1) (by simp [lf]) (by have := snoc_lt B.f_lt; rw [lws] at this; exact this) (by omega) (by omega), lws]
      | oth h1 h2 h3 h4 =>
        refine ⟨_, rfl, rfl, _, rfl, ?_⟩
        rw [decide_eq_false (show ¬ V.str w = V.str sIf from fun e => h1 (V.str.inj e))]
        refine iteF ?_
        refine ⟨_, rfl, rfl, _, rfl, ?_⟩
        rw [decide_eq_false (show ¬ V.str w = V.str sWh from fun e => h2 (V.str.inj e))]
        refine iteF ?_
        refine ⟨_, rfl, rfl, _, rfl, ?_⟩
        rw [decide_eq_false (show ¬ V.str w = V.str sEl from fun e => h3 (V.str.inj e))]
        refine iteF ?_
        refine ⟨_, rfl, rfl, _, rfl, ?_⟩
        rw [decide_eq_false (show ¬ V.str w = V.str sEn from fun e => h4 (V.str.inj e))]
        refine iteF ?_
        exact ⟨_, _, _, _, rfl, s34, run', ep4, eo4⟩
    · rintro σ H3 ⟨x, y, z, s, rfl, sm3, hs, ep3, eo3⟩
      show U _ _
      subst hU
      have et : ws.take xs.length = ws := List.take_of_length_le (by omega)
      rw [et, hrun] at hs
      have : s1 = s := Option.some.inj hs
      subst this
      rw [ho] at eo3
      refine seq_step fun U hU => ?_
      refine ⟨_, rfl, o1, _, rfl, .inl (SqL.of eo3), _, _, rfl, rfl, _, rfl, ?_⟩
      refine iteF ?_
      show U _ _
      subst hU
      refine ⟨_, rfl, q p H3 sm3 hp ?_⟩
      rw [ep3, Nat.sub_self]
      simp
theorem sc_may_have_else : FnScope ["rows", "found", "opened"] ["rows", "found", "opened"] (defScope s_may_have_else) := ⟨rfl, rfl, rfl, by decide +kernel, rfl, by decide +kernel, by decide +kernel⟩
theorem ok_may_have_else {f : Addr} {fd : FuncData} (F : Fun K "may_have_else" "may_have_else" s_may_have_else f fd) (m : mg "may_have_else" = some (.ref f)) (B : Bl mg)  : Def P w K mg base CX0 "may_have_else" 1 ["rows", "found", "opened"] (sp_may_have_else K) := by
  refine ⟨f, fd, F.ok sc_may_have_else (fun vs H Q E h => ?_) (fun cdv A outer s H vs Q E hr h => ?_), F.binds (ps := ["rows", "found", "opened"]) fun _ _ _ _ _ _ us hl => (by obtain ⟨b0, b1, b2, rfl⟩ := us3 hl; rfl), F.kp, m⟩
  · obtain ⟨a, p, q1, xs, f1, o1, t1, rs, rfl, _⟩ := h
    rfl
  obtain ⟨a, p, q1, xs, f1, o1, t1, rs, rfl, hA, hR, ep, eq1, h1, h2, q⟩ := h
  refine ⟨_, (pss_one (ps_ret (pe_and (pe_cmpR op_gt (pe_callB (call_lenK (K := K) rfl) (by rfl) B.len (by decide +kernel) (pa_Name (pv 2) pa_nil)) pe_int (nomark _)) (pe_and (pe_cmpR op_eq (pe_ix (ix_tupK (K := K) rfl) (pe_ix (ix_listK (K := K) rfl) (pv 0) (pe_ix (ix_listK (K := K) rfl) (pv 2) (pe_un un_neg pe_int) (fun _ _ => rfl)) (fun _ _ => rfl)) pe_int (fun _ _ => rfl)) pe_str (nomark _)) (pe_one (pe_cmpR op_isN (pe_ix (ix_listK (K := K) rfl) (pv 1) (pe_ix (ix_listK (K := K) rfl) (pv 2) (pe_un un_neg pe_int) (fun _ _ => rfl)) (fun _ _ => rfl)) pe_non (nomark _))))))), ?_⟩
  have el : nV (o1 ++ [t1]) = nV o1 ++ [.int (t1 : Nat)] := by simp [nV]
  obtain ⟨ra, rx, er, hra⟩ := rows_word hR h1
  have lq : (nV (o1 ++ [t1])).length = o1.length + 1 := by rw [el]; simp [nV]
  have at1 : atI (nV (o1 ++ [t1])) (-1) = some (.int (t1 : Nat)) := by rw [el]; exact at_last _ _
  refine ⟨_, rfl, q1, _, rfl, .inl (SqL.of eq1), _, _, rfl, rfl, _, rfl, ?_⟩
  rw [decide_eq_true (show (0 : Int) < ((nV (o1 ++ [t1])).length : Int) by rw [lq]; omega)]
  refine iteT ?_
  refine ⟨_, rfl, _, rfl, (1 : Int), rfl, q1, _, _, _, rfl, rfl, SqL.of eq1, at1, a, _, _, _, rfl, rfl, hA, at_nat er, ra, _, (0 : Int), _, rfl, rfl, SqT.of hra, at0 _ _, rfl, _, rfl, ?_⟩
  rw [decide_eq_true (show V.str sIf = V.str sIf from rfl)]
  refine iteT ?_
  refine ⟨_, rfl, _, rfl, (1 : Int), rfl, q1, _, _, _, rfl, rfl, SqL.of eq1, at1, p, _, _, _, rfl, rfl, SqL.of ep, gN_get h2, rfl, q⟩
theorem sc_close : FnScope ["found", "start", "end"] ["found", "start", "end"] (defScope s_close) := ⟨rfl, rfl, rfl, by decide +kernel, rfl, by decide +kernel, by decide +kernel⟩
theorem ok_close {f : Addr} {fd : FuncData} (F : Fun K "close" "close" s_close f fd) (m : mg "close" = some (.ref f)) (B : Bl mg)  : Def P w K mg base CX0 "close" 1 ["found", "start", "end"] (sp_close K) := by
  refine ⟨f, fd, F.ok sc_close (fun vs H Q E h => ?_) (fun cdv A outer s H vs Q E hr h => ?_), F.binds (ps := ["found", "start", "end"]) fun _ _ _ _ _ _ us hl => (by obtain ⟨b0, b1, b2, rfl⟩ := us3 hl; rfl), F.kp, m⟩
  · obtain ⟨p, f1, t1, e1, rfl, _⟩ := h
    rfl
  obtain ⟨p, f1, t1, e1, rfl, ep, hf, ht, he, q⟩ := h
  refine ⟨_, (@pss_cons _ _ _ _ _ (ps_asg (pv 1) (pg_sub (pv 0) (pv 2) set_list))
    (pss_one (ps_if (pt_cmpR op_isN (pe_ix (ix_listK (K := K) rfl) (pv 0) (pv 1) (fun _ _ => rfl)) pe_non (nomark _)) (pss_one (ps_asg (pv 2) (pg_sub (pv 0) (pv 1) set_list))) (pss_one (ps_asg (pv 2) (pg_sub (pv 0) (pe_ix (ix_listK (K := K) rfl) (pv 0) (pv 1) (fun _ _ => rfl)) set_list)))))), ?_⟩
  have lf : (fV f1).length = f1.length := List.length_map _
  refine seq_step fun U hU => ?_
  refine ⟨_, rfl, _, rfl, _, rfl, p, _, _, e1, rfl, rfl, ep, (by rw [lf]; exact ix_nat he), ?_⟩
  show U _ _
  subst hU
  have e2 : upd H p (.lst ((fV f1).set e1 (.int (t1 : Nat)))) p = some (.lst (fV (f1.set e1 (some t1)))) := by rw [upd_same]; show some (HO.lst ((f1.map gN).set e1 (gN (some t1)))) = _; rw [map_set]; rfl
  have o2 : Only p H (upd H p (.lst ((fV f1).set e1 (.int (t1 : Nat))))) := Only.put
  generalize upd H p (.lst ((fV f1).set e1 (.int (t1 : Nat)))) = H2 at *
  have l2 : (f1.set e1 (some t1)).length = f1.length := List.length_set
  have h2 := set_lt (j := e1) hf ht
  unfold clo at q
  generalize f1.set e1 (some t1) = f2 at *
  have lf2 : (fV f2).length = f2.length := List.length_map _
  have et : f2[t1]? = some f2[t1] := List.getElem?_eq_getElem (by omega)
  generalize f2[t1] = z at et
  refine ⟨_, rfl, _, rfl, p, _, _, _, rfl, rfl, SqL.of e2, gN_get et, rfl, _, rfl, ?_⟩
  rw [et] at q
  cases z with
  | none =>
    refine iteT ?_
    refine ⟨_, rfl, _, rfl, _, rfl, p, _, _, t1, rfl, rfl, e2, (by rw [lf2]; exact ix_nat (by omega)), ?_⟩
    refine q _ (fun b h => (upd_ne h).trans (o2 b h)) ?_
    rw [upd_same]
    show some (HO.lst ((f2.map gN).set t1 (gN (some e1)))) = _
    rw [map_set]
    rfl
  | some x =>
    refine iteF ?_
    have hx := h2 t1 x et
    refine ⟨_, rfl, _, rfl, _, rfl, _, rfl, p, _, _, _, rfl, rfl, SqL.of e2, gN_get et, p, _, _, x, rfl, rfl, e2, (by rw [lf2]; exact ix_nat (by omega)), ?_⟩
    refine q _ (fun b h => (upd_ne h).trans (o2 b h)) ?_
    rw [upd_same]
    show some (HO.lst ((f2.map gN).set x (gN (some e1)))) = _
    rw [map_set]
    rfl
theorem sc__law_cell : FnScope ["_law_script", "_law_k", "_law_seed", "_law_some"] ["_law_script", "_law_k"] (defScope s__law_cell) := ⟨rfl, rfl, rfl, by decide +kernel, rfl, by decide +kernel, by decide +kernel⟩
theorem ok__law_cell {f : Addr} {fd : FuncData} (F : Fun K "_law_cell" "_law_cell" s__law_cell f fd) (m : mg "_law_cell" = some (.ref f)) (B : Bl mg)  : Def P w K mg base CX0 "_law_cell" 1 ["_law_script", "_law_k"] (sp__law_cell K) := by
  refine ⟨f, fd, F.ok sc__law_cell (fun vs H Q E h => ?_) (fun cdv A outer s H vs Q E hr h => ?_), F.binds (ps := ["_law_script", "_law_k"]) fun _ _ _ _ _ _ us hl => (by obtain ⟨b0, b1, rfl⟩ := us2 hl; rfl), F.kp, m⟩
  · obtain ⟨a, ns, k, rfl, _⟩ := h
    rfl
  obtain ⟨a, ns, k, rfl, hS, h0, q⟩ := h
  refine ⟨_, (@pss_cons _ _ _ _ _ (ps_if (pt_cmpR op_lt (pv 1) (pe_callB (call_lenK (K := K) rfl) (by rfl) B.len (by decide +kernel) (pa_Name (pv 0) pa_nil)) (nomark _)) (pss_one (ps_ret (pe_ix (ix_listK (K := K) rfl) (pv 0) (pv 1) (fun _ _ => rfl)))) pss_nil)
    (@pss_cons _ _ _ _ _ (ps_set (i := 2) sc__law_cell.nd rfl (by first | exact Or.inl rfl | exact Or.inr rfl) (pe_op op_mul (pv 1) pe_int))
    (@pss_cons _ _ _ _ _ (ps_if (pt_cmpR op_gt (pe_callB (call_lenK (K := K) rfl) (by rfl) B.len (by decide +kernel) (pa_Name (pv 0) pa_nil)) pe_int (nomark _)) (pss_one (ps_set (i := 2) sc__law_cell.nd rfl (by first | exact Or.inl rfl | exact Or.inr rfl) (pe_op op_add (pv 2) (pe_op op_mod (pe_ix (ix_listK (K := K) rfl) (pv 0) (pe_op op_mod (pv 1) (pe_callB (call_lenK (K := K) rfl) (by rfl) B.len (by decide +kernel) (pa_Name (pv 0) pa_nil))) (fun _ _ => rfl)) pe_int)))) pss_nil)
    (@pss_cons _ _ _ _ _ (ps_set (i := 3) sc__law_cell.nd rfl (by first | exact Or.inl rfl | exact Or.inr rfl) (pe_op op_mod (pe_op op_mul (pv 2) pe_int) pe_int))
    (pss_one (ps_ret (pe_op op_mod (pe_op op_fdiv (pe_op op_mul (pv 3) (pe_op op_add (pe_op op_add (pv 3) (pe_op op_mul pe_int (pv 1))) pe_int)) pe_int) pe_int))))))), ?_⟩
  have hl : (ns.map V.int).length = ns.length := List.length_map _
  refine seq_step fun U hU => ?_
  refine ⟨_, rfl, _, rfl, a, _, rfl, .inl hS, _, _, rfl, rfl, _, rfl, ?_⟩
  rw [hl]
  unfold cellI at q
  refine ite2 (fun h => ?_) (fun h => ?_)
  · have c := of_decide_eq_true h
    rw [if_pos c] at q
    exact ⟨_, rfl, _, rfl, a, _, k, _, rfl, rfl, hS, atI_int h0 c, q⟩
  have c := fun z => h (decide_eq_true z)
  rw [if_neg c] at q
  show U _ _
  subst hU
  refine seq_step fun U hU => ?_
  refine ⟨_, rfl, _, _, rfl, rfl, .inr ⟨by decide, by decide⟩, ?_⟩
  show U _ _
  subst hU
  refine seq_step fun U hU => ?_
  have last : ∀ sd : Int, Q (.int (hashI k sd)) H → U [some (V.ref a), some (.int k), some (.int sd), none] H := fun sd q => by
    subst hU
    refine seq_step fun U hU => ?_
    refine ⟨_, rfl, _, _, rfl, rfl, .inr ⟨by decide, by decide⟩, _, _, rfl, rfl, (by show (0 : Int) < 65537; decide), ?_⟩
    show U _ _
    dsimp only
    subst hU
    have m1 := Int.emod_nonneg (sd * 48271) (b := 65537) (by decide)
    have m2 := Int.emod_lt_of_pos (sd * 48271) (b := 65537) (by decide)
    unfold hashI at q
    generalize sd * 48271 % 65537 = t at *
    exact ⟨_, rfl, _, rfl, _, rfl, _, _, rfl, rfl, .inl ⟨by decide, by decide⟩, _, _, rfl, rfl, _, _, rfl, rfl, _, _, rfl, rfl, .inl ⟨by show -(2 ^ 64) < t; omega, by show t < 2 ^ 64; omega⟩, _, _, rfl, rfl, ⟨by decide, by decide⟩, _, _, rfl, rfl, (by show (0 : Int) < 65521; decide), q⟩
  refine ⟨_, rfl, a, _, rfl, .inl hS, _, _, rfl, rfl, _, rfl, ?_⟩
  rw [hl]
  refine ite2 (fun d => ?_) (fun d => ?_)
  · have d' : 0 < ns.length := by have := of_decide_eq_true d; omega
    rw [if_pos d'] at q
    have m1 := Int.emod_nonneg k (b := (ns.length : Int)) (by omega)
    have m2 := Int.emod_lt_of_pos k (b := (ns.length : Int)) (by omega)
    refine ⟨_, rfl, _, rfl, _, rfl, _, rfl, a, _, rfl, .inl hS, _, _, rfl, rfl, (by show (0 : Int) < ((ns.map V.int).length : Int); rw [hl]; omega), a, _, _, _, rfl, rfl, hS, (by show atI _ (k % ((ns.map V.int).length : Int)) = _; rw [hl]; exact atI_int m1 m2), _, _, rfl, rfl, (by show (0 : Int) < 65537; decide), _, _, rfl, rfl, ?_⟩
    exact last _ q
  · have d' : ¬ 0 < ns.length := fun z => d (decide_eq_true (by omega))
    rw [if_neg d'] at q
    exact last _ q
theorem sc__law_whole : FnScope ["_law_found"] ["_law_found"] (defScope s__law_whole) := ⟨rfl, rfl, rfl, by decide +kernel, rfl, by decide +kernel, by decide +kernel⟩
theorem ok__law_whole {f : Addr} {fd : FuncData} (F : Fun K "_law_whole" "_law_whole" s__law_whole f fd) (m : mg "_law_whole" = some (.ref f)) (B : Bl mg)  : Def P w K mg base CX0 "_law_whole" 1 ["_law_found"] (sp__law_whole K) := by
  refine ⟨f, fd, F.ok sc__law_whole (fun vs H Q E h => ?_) (fun cdv A outer s H vs Q E hr h => ?_), F.binds (ps := ["_law_found"]) fun _ _ _ _ _ _ us hl => (by obtain ⟨b0, rfl⟩ := us1 hl; rfl), F.kp, m⟩
  · obtain ⟨i, rfl, _⟩ := h
    rfl
  obtain ⟨i, rfl, q⟩ := h
  refine ⟨_, (pss_one (ps_ret (pe_and (pe_callB (call_isTyK (K := K) rfl) (by rfl) B.isinstance (by decide +kernel) (pa_Name (pv 0) (pa_Name (pe_bltn (v := .ty "int") (u := .type "int") (by rfl) B.int (by decide +kernel) rfl) pa_nil))) (pe_one (pe_not (pe_callB (call_isTyK (K := K) rfl) (by rfl) B.isinstance (by decide +kernel) (pa_Name (pv 0) (pa_Name (pe_bltn (v := .ty "bool") (u := .type "bool") (by rfl) B.bool (by decide +kernel) rfl) pa_nil)))))))), ?_⟩
  refine ⟨_, rfl, true, isT_int_int, true, rfl, ?_⟩
  refine iteT ?_
  exact ⟨_, rfl, false, isT_int_bool, false, rfl, q⟩
theorem sc__law_word : FnScope ["_law_kind", "_law_size_here", "_law_rows", "_law_opened", "_law_found", "_law_room", "_law_head"] ["_law_kind", "_law_size_here", "_law_rows", "_law_opened", "_law_found"] (defScope s__law_word) := ⟨rfl, rfl, rfl, by decide +kernel, rfl, by decide +kernel, by decide +kernel⟩
theorem ok__law_word {f : Addr} {fd : FuncData} (F : Fun K "_law_word" "_law_word" s__law_word f fd) (m : mg "_law_word" = some (.ref f)) (B : Bl mg)  : Def P w K mg base CX0 "_law_word" 1 ["_law_kind", "_law_size_here", "_law_rows", "_law_opened", "_law_found"] (sp__law_word K) := by
  refine ⟨f, fd, F.ok sc__law_word (fun vs H Q E h => ?_) (fun cdv A outer s H vs Q E hr h => ?_), F.binds (ps := ["_law_kind", "_law_size_here", "_law_rows", "_law_opened", "_law_found"]) fun _ _ _ _ _ _ us hl => (by obtain ⟨b0, b1, b2, b3, b4, rfl⟩ := us5 hl; rfl), F.kp, m⟩
  · obtain ⟨kd, z, r, op, fo, rv, rs, s1, rfl, _⟩ := h
    rfl
  obtain ⟨kd, z, r, op, fo, rv, rs, s1, rfl, er, hR, ews, ef, eo, Bk, k0, lz, lo, q⟩ := h
  refine ⟨_, (@pss_cons _ _ _ _ _ (ps_set (i := 5) sc__law_word.nd rfl (by first | exact Or.inl rfl | exact Or.inr rfl) (pe_op op_sub (pe_op op_sub (pv 1) (pe_callB (call_lenK (K := K) rfl) (by rfl) B.len (by decide +kernel) (pa_Name (pv 2) pa_nil))) (pe_callB (call_lenK (K := K) rfl) (by rfl) B.len (by decide +kernel) (pa_Name (pv 3) pa_nil))))
    (@pss_cons _ _ _ _ _ (ps_if (pt_cmpR op_le (pv 5) pe_int (nomark _)) (pss_one (ps_ret pe_str)) pss_nil)
    (@pss_cons _ _ _ _ _ (ps_if (pw_and (pt_cmpR op_lt (pv 0) pe_int (nomark _)) (pw_and1 (pt_cmpR op_gt (pv 5) pe_int (nomark _)))).pt (pss_one (ps_ret (pe_ix (ix_listK (K := K) rfl) (pe_lst (pa_Constant pe_str (pa_Constant pe_str (pa_Constant pe_str pa_nil)))) (pv 0) (fun _ _ => rfl)))) pss_nil)
    (@pss_cons _ _ _ _ _ (ps_if (pw_and (pt_cmpR op_eq (pv 0) pe_int (nomark _)) (pw_and1 (pt_cmpR op_gt (pe_callB (call_lenK (K := K) rfl) (by rfl) B.len (by decide +kernel) (pa_Name (pv 3) pa_nil)) pe_int (nomark _)))).pt (@pss_cons _ _ _ _ _ (ps_set (i := 6) sc__law_word.nd rfl (by first | exact Or.inl rfl | exact Or.inr rfl) (pe_ix (ix_listK (K := K) rfl) (pv 3) (pe_un un_neg pe_int) (fun _ _ => rfl)))
    (pss_one (ps_if (pw_and (pt_cmpR op_eq (pe_ix (ix_tupK (K := K) rfl) (pe_ix (ix_listK (K := K) rfl) (pv 2) (pv 6) (fun _ _ => rfl)) pe_int (fun _ _ => rfl)) pe_str (nomark _)) (pw_and1 (pt_cmpR op_isN (pe_ix (ix_listK (K := K) rfl) (pv 4) (pv 6) (fun _ _ => rfl)) pe_non (nomark _)))).pt (pss_one (ps_ret pe_str)) pss_nil))) pss_nil)
    (@pss_cons _ _ _ _ _ (ps_if (pw_and (pt_chain op_lt op_lt pe_int (pv 0) pe_int) (pw_and1 (pt_cmpR op_gt (pe_callB (call_lenK (K := K) rfl) (by rfl) B.len (by decide +kernel) (pa_Name (pv 3) pa_nil)) pe_int (nomark _)))).pt (pss_one (ps_ret pe_str)) pss_nil)
    (pss_one (ps_ret (pe_ix (ix_listK (K := K) rfl) (pe_lst (pa_Constant pe_str (pa_Constant pe_str (pa_Constant pe_str (pa_Constant pe_str (pa_Constant pe_str pa_nil)))))) (pe_op op_mod (pv 0) pe_int) (fun _ _ => rfl))))))))), ?_⟩
  have lr : rv.length = s1.ws.length := by rw [paired_len hR, ← ews, List.length_map]
  have lo' : (nV s1.o).length = s1.o.length := List.length_map _
  refine seq_step fun U hU => ?_
  refine ⟨_, rfl, _, rfl, r, _, rfl, .inl (SqL.of er), _, _, rfl, rfl, _, rfl, op, _, rfl, .inl (SqL.of eo), _, _, rfl, rfl, ?_⟩
  show U _ _
  dsimp only
  rw [lr, lo']
  subst hU
  generalize erm : (z : Int) - (s1.ws.length : Int) - (s1.o.length : Int) = room
  refine seq_step fun U hU => ?_
  refine ⟨_, rfl, _, _, rfl, rfl, _, rfl, ?_⟩
  refine ite2 (fun h => ?_) (fun h => ?_)
  · have h' := of_decide_eq_true h
    obtain ⟨o, t, eo'⟩ := snoc_of (o := s1.o) (by omega)
    exact q sEn _ H (Same.refl _) (.fin rfl o t eo') (by have := congrArg List.length eo'; simp at this ⊢; omega) ok_En
  have r1 : 1 ≤ room := by have hn : ¬ room ≤ 0 := fun e => h (decide_eq_true e); omega
  show U _ _
  subst hU
  refine seq_step fun U hU => ?_
  have key : U [some (.int kd), some (.int z), some (.ref r), some (.ref op), some (.ref fo), some (.int room), none] H := by
    subst hU
    refine seq_step fun U hU => ?_
    have key : ∀ x, U [some (.int kd), some (.int z), some (.ref r), some (.ref op), some (.ref fo), some (.int room), x] H := by
      intro x
      subst hU
      refine seq_step fun U hU => ?_
      have key : U [some (.int kd), some (.int z), some (.ref r), some (.ref op), some (.ref fo), some (.int room), x] H := by
        subst hU
        have m1 := Int.emod_nonneg kd (b := 5) (by decide)
        have m2 := Int.emod_lt_of_pos kd (b := 5) (by decide)
        obtain ⟨w, hw, aw⟩ := pickW (l := [Str.ofString "set", Str.ofString "ask", Str.ofString "need", Str.ofString "claim", Str.ofString "set"]) m1 (by show kd % 5 < 5; exact m2)
        obtain ⟨w1, w2, w3, w4, w5⟩ := w_oth w hw
        refine ⟨sz 5, fun l hl => ⟨_, rfl, _, _, rfl, rfl, (by show (0 : Int) < 5; decide), l, _, _, _, rfl, rfl, SqL.of upd_same, aw, ?_⟩⟩
        exact q w _ _ (same_new hl _) (.oth w1 w2 w3 w4) (by simp; omega) w5
      refine ⟨_, rfl, _, _, rfl, rfl, _, rfl, ?_⟩
      refine ite2 (fun h => ?_) (fun h => ?_)
      · refine ⟨_, _, rfl, rfl, _, rfl, ?_⟩
        refine ite2 (fun h => ?_) (fun h => ?_)
        · refine ⟨_, rfl, op, _, rfl, .inl (SqL.of eo), _, _, rfl, rfl, _, rfl, ?_⟩
          refine ite2 (fun h => ?_) (fun h => ?_)
          · have h' := of_decide_eq_true h
            rw [lo'] at h'
            obtain ⟨o, t, eo'⟩ := snoc_of (o := s1.o) (by omega)
            exact q sEn _ H (Same.refl _) (.fin rfl o t eo') (by have := congrArg List.length eo'; simp at this ⊢; omega) ok_En
          · exact key
        · refine iteF ?_
          exact key
      · refine ⟨_, rfl, ?_⟩
        refine iteF ?_
        refine iteF ?_
        exact key
    refine ⟨_, rfl, rfl, _, rfl, ?_⟩
    refine ite2 (fun h => ?_) (fun h => ?_)
    · refine ⟨_, rfl, op, _, rfl, .inl (SqL.of eo), _, _, rfl, rfl, _, rfl, ?_⟩
      refine ite2 (fun h => ?_) (fun h => ?_)
      · have h' := of_decide_eq_true h
        rw [lo'] at h'
        obtain ⟨o, t, eo'⟩ := snoc_of (o := s1.o) (by omega)
        have ht : t < s1.ws.length := Bk.o_lt t (by rw [eo']; simp)
        have el : nV s1.o = nV o ++ [.int (t : Nat)] := by rw [eo']; simp [nV]
        have at1 : atI (nV s1.o) (-1) = some (.int (t : Nat)) := by rw [el]; exact at_last _ _
        refine seq_step fun U' hU' => ?_
        refine ⟨_, rfl, (1 : Int), rfl, op, _, _, _, rfl, rfl, SqL.of eo, at1, ?_⟩
        show U' _ _
        subst hU'
        have ewt : (rs.map Prod.fst)[t]? = some s1.ws[t] := by rw [ews]; exact List.getElem?_eq_getElem ht
        obtain ⟨ra, rx, era, hra⟩ := rows_word hR ewt
        refine ⟨_, rfl, _, rfl, r, _, _, _, rfl, rfl, SqL.of er, at_nat era, ra, _, (0 : Int), _, rfl, rfl, SqT.of hra, at0 _ _, rfl, _, rfl, ?_⟩
        refine ite2 (fun h1 => ?_) (fun h1 => ?_)
        · have w1 : s1.ws[t]? = some sIf := by rw [← ews, ewt]; exact congrArg some (V.str.inj (of_decide_eq_true h1))
          have eft : s1.f[t]? = some (s1.f[t]'(by rw [Bk.len]; exact ht)) := List.getElem?_eq_getElem _
          generalize s1.f[t]'(by rw [Bk.len]; exact ht) = fz at eft
          refine ⟨_, rfl, _, rfl, fo, _, _, _, rfl, rfl, SqL.of ef, gN_get eft, rfl, _, rfl, ?_⟩
          cases fz with
          | none =>
            refine iteT ?_
            exact q sEl _ H (Same.refl _) (.els rfl o t eo' w1 eft) (by simp; omega) ok_El
          | some x =>
            refine iteF ?_
            exact key _
        · refine iteF ?_
          exact key _
      · exact key _
    · refine iteF ?_
      exact key _
  refine ⟨_, rfl, _, _, rfl, rfl, _, rfl, ?_⟩
  refine ite2 (fun h => ?_) (fun h => ?_)
  · refine ⟨_, rfl, _, _, rfl, rfl, _, rfl, ?_⟩
    refine ite2 (fun h2 => ?_) (fun h2 => ?_)
    · have h' := of_decide_eq_true h
      have h2' := of_decide_eq_true h2
      obtain ⟨w, hw, aw⟩ := pickW (l := [sIf, sWh, sIf]) k0 (by show kd < 3; exact h')
      obtain ⟨w1, w2⟩ := w_open w hw
      refine ⟨sz 3, fun l hl => ⟨_, rfl, l, _, _, _, rfl, rfl, SqL.of upd_same, aw, ?_⟩⟩
      exact q w _ _ (same_new hl _) (.opn w1) (by simp; omega) w2
    · exact key
  · refine iteF ?_
    exact key
theorem sc__law_question : FnScope ["_law_cell_here", "_law_word_here", "_law_other"] ["_law_cell_here"] (defScope s__law_question) := ⟨rfl, rfl, rfl, by decide +kernel, rfl, by decide +kernel, by decide +kernel⟩
theorem ok__law_question {f : Addr} {fd : FuncData} (F : Fun K "_law_question" "_law_question" s__law_question f fd) (m : mg "_law_question" = some (.ref f)) (B : Bl mg)  : Def P w K mg base CX0 "_law_question" 1 ["_law_cell_here"] (sp__law_question K) := by
  refine ⟨f, fd, F.ok sc__law_question (fun vs H Q E h => ?_) (fun cdv A outer s H vs Q E hr h => ?_), F.binds (ps := ["_law_cell_here"]) fun _ _ _ _ _ _ us hl => (by obtain ⟨b0, rfl⟩ := us1 hl; rfl), F.kp, m⟩
  · obtain ⟨c, rfl, _⟩ := h
    rfl
  obtain ⟨c, rfl, q⟩ := h
  refine ⟨_, (@pss_cons _ _ _ _ _ (ps_set (i := 1) sc__law_question.nd rfl (by first | exact Or.inl rfl | exact Or.inr rfl) (pe_ix (ix_listK (K := K) rfl) (pe_lst (pa_Constant pe_str (pa_Constant pe_str (pa_Constant pe_str (pa_Constant pe_str pa_nil))))) (pe_op op_mod (pv 0) pe_int) (fun _ _ => rfl)))
    (@pss_cons _ _ _ _ _ (ps_set (i := 2) sc__law_question.nd rfl (by first | exact Or.inl rfl | exact Or.inr rfl) pe_non)
    (@pss_cons _ _ _ _ _ (ps_if (pt_cmpR op_gt (pe_op op_mod (pe_op op_fdiv (pv 0) pe_int) pe_int) pe_int (nomark _)) (pss_one (ps_set (i := 2) sc__law_question.nd rfl (by first | exact Or.inl rfl | exact Or.inr rfl) (pe_op op_mod (pe_op op_fdiv (pv 0) pe_int) pe_int))) pss_nil)
    (pss_one (ps_ret (pe_tup (pa_BinOp (pe_op op_mod (pe_op op_fdiv (pv 0) pe_int) pe_int) (pa_Name (pv 2) (pa_Name (pv 1) (pa_BinOp (pe_op op_mod (pe_op op_fdiv (pv 0) pe_int) (pe_op op_pow pe_int pe_int)) pa_nil)))))))))), ?_⟩
  have m1 := Int.emod_nonneg c (b := 4) (by decide)
  have m2 := Int.emod_lt_of_pos c (b := 4) (by decide)
  obtain ⟨w, hw, aw⟩ := pickW (l := [Str.ofString "most", Str.ofString "least", Str.ofString "same", Str.ofString "unlike"]) m1 (by show c % 4 < 4; exact m2)
  have ok := w_quest w hw
  refine seq_step fun U hU => ?_
  refine ⟨sz 4, fun l hl => ⟨_, rfl, _, _, rfl, rfl, (by show (0 : Int) < 4; decide), l, _, _, _, rfl, rfl, SqL.of upd_same, aw, ?_⟩⟩
  show U _ _
  subst hU
  have s1 := same_new hl (.lst [.str (Str.ofString "most"), .str (Str.ofString "least"), .str (Str.ofString "same"), .str (Str.ofString "unlike")])
  generalize upd H l (.lst [.str (Str.ofString "most"), .str (Str.ofString "least"), .str (Str.ofString "same"), .str (Str.ofString "unlike")]) = H1 at *
  refine seq_step fun U hU => ?_
  show U _ _
  subst hU
  refine seq_step fun U hU => ?_
  have key : ∀ v : V, (v = .non ∨ ∃ i, v = .int i) → U [some (.int c), some (.str w), some v] H1 := by
    intro v hv
    subst hU
    refine ⟨_, rfl, _, _, rfl, rfl, ⟨by decide, by decide⟩, _, _, rfl, rfl, (by show (0 : Int) < 4; decide), _, rfl, _, rfl, _, rfl, _, _, rfl, rfl, ⟨by decide, by decide⟩, _, _, rfl, rfl, ⟨by decide, by decide, by decide⟩, _, _, rfl, rfl, (by show (0 : Int) < 10 ^ (30 : Int).toNat; decide), sz 4, fun p hp => ?_⟩
    refine q p _ [.int (c / 48 % 4), (match v with | .int i => .int i | _ => .none), .str w, .int (c / 192 % 10 ^ (30 : Int).toNat)] _ (s1.trans (same_new hp _)) upd_same (.cons (.inl ⟨_, rfl, rfl⟩) (.cons ?_ (.cons (.inr (.inr ⟨w, rfl, rfl, ok⟩)) (.cons (.inl ⟨_, rfl, rfl⟩) .nil))))
    rcases hv with rfl | ⟨i, rfl⟩
    · exact .inr (.inl ⟨rfl, rfl⟩)
    · exact .inl ⟨i, rfl, rfl⟩
  refine ⟨_, rfl, _, _, rfl, rfl, ⟨by decide, by decide⟩, _, _, rfl, rfl, (by show (0 : Int) < 3; decide), _, _, rfl, rfl, _, rfl, ?_⟩
  refine ite2 (fun h => ?_) (fun h => ?_)
  · refine ⟨_, rfl, _, _, rfl, rfl, ⟨by decide, by decide⟩, _, _, rfl, rfl, (by show (0 : Int) < 4; decide), ?_⟩
    exact key _ (.inr ⟨_, rfl⟩)
  · exact key _ (.inl rfl)
theorem sc__law_row : FnScope ["_law_word_here", "_law_cell_here"] ["_law_word_here", "_law_cell_here"] (defScope s__law_row) := ⟨rfl, rfl, rfl, by decide +kernel, rfl, by decide +kernel, by decide +kernel⟩
theorem ok__law_row {f : Addr} {fd : FuncData} (F : Fun K "_law_row" "_law_row" s__law_row f fd) (m : mg "_law_row" = some (.ref f)) (B : Bl mg) (D__law_question : Def P w K mg base CX0 "_law_question" 1 ["_law_cell_here"] (sp__law_question K)) : Def P w K mg base CX0 "_law_row" 2 ["_law_word_here", "_law_cell_here"] (sp__law_row K) := by
  refine ⟨f, fd, F.ok sc__law_row (fun vs H Q E h => ?_) (fun cdv A outer s H vs Q E hr h => ?_), F.binds (ps := ["_law_word_here", "_law_cell_here"]) fun _ _ _ _ _ _ us hl => (by obtain ⟨b0, b1, rfl⟩ := us2 hl; rfl), F.kp, m⟩
  · obtain ⟨w1, c, rfl, _⟩ := h
    rfl
  obtain ⟨w1, c, rfl, ok, q⟩ := h
  refine ⟨_, (@pss_cons _ _ _ _ _ (ps_if (pw_or (pt_cmpR op_eq (pv 0) pe_str (nomark _)) (pw_or1 (pt_cmpR op_eq (pv 0) pe_str (nomark _)))).pt (pss_one (ps_ret (pe_tup (pa_Name (pv 0) pa_nil)))) pss_nil)
    (@pss_cons _ _ _ _ _ (ps_if (pt_cmpR op_eq (pv 0) pe_str (nomark _)) (pss_one (ps_ret (pe_tup (pa_Constant pe_str (pa_BinOp (pe_op op_mod (pv 1) pe_int) (pa_BinOp (pe_op op_mod (pe_op op_fdiv (pv 1) pe_int) pe_int) (pa_BinOp (pe_op op_mod (pe_op op_fdiv (pv 1) pe_int) pe_int) (pa_BinOp (pe_op op_mod (pe_op op_fdiv (pv 1) pe_int) (pe_op op_pow pe_int pe_int)) pa_nil)))))))) pss_nil)
    (@pss_cons _ _ _ _ _ (ps_if (pt_cmpR op_eq (pv 0) pe_str (nomark _)) (pss_one (ps_ret (pe_tup (pa_Constant pe_str (pa_BinOp (pe_op op_mod (pv 1) pe_int) (pa_Constant pe_non (pa_BinOp (pe_op op_mod (pe_op op_fdiv (pv 1) pe_int) (pe_op op_pow pe_int pe_int)) pa_nil))))))) pss_nil)
    (pss_one (ps_ret (pe_tup (pa_Name (pv 0) (pa_Call (pe_def D__law_question (hr.mono (by decide)) (by rfl) pass0 (pa_Name (pv 1) pa_nil)) pa_nil)))))))), ?_⟩
  refine seq_step fun U hU => ?_
  have one : ∀ p, H p = none → Q (.ref p) (upd H p (.tup [.str w1])) := fun p hp => q _ [] _ (same_new hp _) ⟨p, [], rfl, upd_same, ok, .nil⟩
  refine ⟨_, rfl, rfl, _, rfl, ?_⟩
  refine ite2 (fun h => ?_) (fun h => ?_)
  · refine iteT ?_
    exact ⟨_, rfl, sz 1, fun p hp => one p hp⟩
  refine ⟨_, rfl, rfl, _, rfl, ?_⟩
  refine ite2 (fun h => ?_) (fun h => ?_)
  · exact ⟨_, rfl, sz 1, fun p hp => one p hp⟩
  show U _ _
  subst hU
  refine seq_step fun U hU => ?_
  refine ⟨_, rfl, rfl, _, rfl, ?_⟩
  refine ite2 (fun h => ?_) (fun h => ?_)
  · have ew : w1 = Str.ofString "set" := V.str.inj (of_decide_eq_true h)
    subst ew
    refine ⟨_, rfl, _, _, rfl, rfl, (by show (0 : Int) < 2; decide), _, rfl, _, _, rfl, rfl, ⟨by decide, by decide⟩, _, _, rfl, rfl, (by show (0 : Int) < 4; decide), _, rfl, _, _, rfl, rfl, ⟨by decide, by decide⟩, _, _, rfl, rfl, (by show (0 : Int) < 4; decide), _, rfl, _, _, rfl, rfl, ⟨by decide, by decide⟩, _, _, rfl, rfl, ⟨by decide, by decide, by decide⟩, _, _, rfl, rfl, (by show (0 : Int) < 10 ^ (30 : Int).toNat; decide), sz 5, fun p hp => ?_⟩
    exact q _ [.int _, .int _, .int _, .int _] _ (same_new hp _) ⟨p, _, rfl, upd_same, ok, .cons (.inl (.inl ⟨_, rfl, rfl⟩)) (.cons (.inl (.inl ⟨_, rfl, rfl⟩)) (.cons (.inl (.inl ⟨_, rfl, rfl⟩)) (.cons (.inl (.inl ⟨_, rfl, rfl⟩)) .nil)))⟩
  show U _ _
  subst hU
  refine seq_step fun U hU => ?_
  refine ⟨_, rfl, rfl, _, rfl, ?_⟩
  refine ite2 (fun h => ?_) (fun h => ?_)
  · have ew : w1 = Str.ofString "ask" := V.str.inj (of_decide_eq_true h)
    subst ew
    refine ⟨_, rfl, _, _, rfl, rfl, (by show (0 : Int) < 2; decide), _, rfl, _, _, rfl, rfl, ⟨by decide, by decide⟩, _, _, rfl, rfl, ⟨by decide, by decide, by decide⟩, _, _, rfl, rfl, (by show (0 : Int) < 10 ^ (30 : Int).toNat; decide), sz 4, fun p hp => ?_⟩
    exact q _ [.int _, .none, .int _] _ (same_new hp _) ⟨p, _, rfl, upd_same, ok, .cons (.inl (.inl ⟨_, rfl, rfl⟩)) (.cons (.inl (.inr (.inl ⟨rfl, rfl⟩))) (.cons (.inl (.inl ⟨_, rfl, rfl⟩)) .nil))⟩
  show U _ _
  subst hU
  refine ⟨_, rfl, _, rfl, c, rfl, fun b ys ds H1 sm1 eb hb => ?_⟩
  refine ⟨sz 2, fun p hp => ?_⟩
  have s2 := same_new hp (.tup [.str w1, .ref b])
  exact q _ [.tuple ds] _ (sm1.trans s2) ⟨p, _, rfl, upd_same, ok, .cons (.inr ⟨b, ys, ds, rfl, rfl, s2 _ _ eb, hb⟩) .nil⟩
theorem sc__law_program : FnScope ["_law_script", "_law_at", "_law_size_here", "_law_rows", "_law_found", "_law_opened", "_law_cell_here", "_law_place", "_law_word_here", "_law_head"] ["_law_script", "_law_at", "_law_size_here"] (defScope s__law_program) := ⟨rfl, rfl, rfl, by decide +kernel, rfl, by decide +kernel, by decide +kernel⟩
theorem ok__law_program {f : Addr} {fd : FuncData} (F : Fun K "_law_program" "_law_program" s__law_program f fd) (m : mg "_law_program" = some (.ref f)) (B : Bl mg) (D__law_cell : Def P w K mg base CX0 "_law_cell" 1 ["_law_script", "_law_k"] (sp__law_cell K)) (D__law_word : Def P w K mg base CX0 "_law_word" 1 ["_law_kind", "_law_size_here", "_law_rows", "_law_opened", "_law_found"] (sp__law_word K)) (D__law_row : Def P w K mg base CX0 "_law_row" 2 ["_law_word_here", "_law_cell_here"] (sp__law_row K)) : Def P w K mg base CX0 "_law_program" 3 ["_law_script", "_law_at", "_law_size_here"] (sp__law_program K) := by
  refine ⟨f, fd, F.ok sc__law_program (fun vs H Q E h => ?_) (fun cdv A outer s H vs Q E hr h => ?_), F.binds (ps := ["_law_script", "_law_at", "_law_size_here"]) fun _ _ _ _ _ _ us hl => (by obtain ⟨b0, b1, b2, rfl⟩ := us3 hl; rfl), F.kp, m⟩
  · obtain ⟨a, ns, k, z, rfl, _⟩ := h
    rfl
  obtain ⟨a, ns, k, z, rfl, hS, k0, hz, q⟩ := h
  have D__law_cell := D__law_cell.imp (cellAt_of (a := a) (ns := ns))
  refine ⟨_, (@pss_cons _ _ _ _ _ (ps_set (i := 3) sc__law_program.nd rfl (by first | exact Or.inl rfl | exact Or.inr rfl) (pe_lst pa_nil))
    (@pss_cons _ _ _ _ _ (ps_set (i := 4) sc__law_program.nd rfl (by first | exact Or.inl rfl | exact Or.inr rfl) (pe_lst pa_nil))
    (@pss_cons _ _ _ _ _ (ps_set (i := 5) sc__law_program.nd rfl (by first | exact Or.inl rfl | exact Or.inr rfl) (pe_lst pa_nil))
    (@pss_cons _ _ _ _ _ (ps_while PassesOwn.never (pt_cmpR op_lt (pe_callB (call_lenK (K := K) rfl) (by rfl) B.len (by decide +kernel) (pa_Name (pv 3) pa_nil)) (pv 2) (nomark _)) (@pss_cons _ _ _ _ _ (ps_set (i := 6) sc__law_program.nd rfl (by first | exact Or.inl rfl | exact Or.inr rfl) (pe_def D__law_cell (hr.mono (by decide)) (by rfl) pass0 (pa_Name (pv 0) (pa_BinOp (pe_op op_add (pv 1) (pe_callB (call_lenK (K := K) rfl) (by rfl) B.len (by decide +kernel) (pa_Name (pv 3) pa_nil))) pa_nil))))
    (@pss_cons _ _ _ _ _ (ps_set (i := 7) sc__law_program.nd rfl (by first | exact Or.inl rfl | exact Or.inr rfl) (pe_callB (call_lenK (K := K) rfl) (by rfl) B.len (by decide +kernel) (pa_Name (pv 3) pa_nil)))
    (@pss_cons _ _ _ _ _ (ps_set (i := 8) sc__law_program.nd rfl (by first | exact Or.inl rfl | exact Or.inr rfl) (pe_def D__law_word (hr.mono (by decide)) (by rfl) pass0 (pa_BinOp (pe_op op_mod (pv 6) pe_int) (pa_Name (pv 2) (pa_Name (pv 3) (pa_Name (pv 5) (pa_Name (pv 4) pa_nil)))))))
    (@pss_cons _ _ _ _ _ (ps_expr (pe_bm PySem.F.plainAttrs_list PySem.F.slot_list_append PySem.F.type_list_append mt_append (pv 4) (pa_Constant pe_non pa_nil)))
    (@pss_cons _ _ _ _ _ (ps_if (pw_or (pt_cmpR op_eq (pv 8) pe_str (nomark _)) (pw_or1 (pt_cmpR op_eq (pv 8) pe_str (nomark _)))).pt (pss_one (ps_expr (pe_bm PySem.F.plainAttrs_list PySem.F.slot_list_append PySem.F.type_list_append mt_append (pv 5) (pa_Name (pv 7) pa_nil)))) pss_nil)
    (@pss_cons _ _ _ _ _ (ps_if (pt_cmpR op_eq (pv 8) pe_str (nomark _)) (pss_one (ps_asg (pv 7) (pg_sub (pv 4) (pe_ix (ix_listK (K := K) rfl) (pv 5) (pe_un un_neg pe_int) (fun _ _ => rfl)) set_list))) pss_nil)
    (@pss_cons _ _ _ _ _ (ps_if (pt_cmpR op_eq (pv 8) pe_str (nomark _)) (@pss_cons _ _ _ _ _ (ps_set (i := 9) sc__law_program.nd rfl (by first | exact Or.inl rfl | exact Or.inr rfl) (pe_bm0 PySem.F.plainAttrs_list PySem.F.slot_list_pop PySem.F.type_list_pop mt_pop (pv 5)))
    (@pss_cons _ _ _ _ _ (ps_asg (pv 9) (pg_sub (pv 4) (pv 7) set_list))
    (pss_one (ps_if (pt_cmpR op_isN (pe_ix (ix_listK (K := K) rfl) (pv 4) (pv 9) (fun _ _ => rfl)) pe_non (nomark _)) (pss_one (ps_asg (pv 7) (pg_sub (pv 4) (pv 9) set_list))) (pss_one (ps_asg (pv 7) (pg_sub (pv 4) (pe_ix (ix_listK (K := K) rfl) (pv 4) (pv 9) (fun _ _ => rfl)) set_list))))))) pss_nil)
    (pss_one (ps_expr (pe_bm PySem.F.plainAttrs_list PySem.F.slot_list_append PySem.F.type_list_append mt_append (pv 3) (pa_Call (pe_def D__law_row (hr.mono (by decide)) (by rfl) pass0 (pa_Name (pv 8) (pa_BinOp (pe_op op_fdiv (pv 6) pe_int) pa_nil))) pa_nil))))))))))))
    (pss_one (ps_ret (pe_tup (pa_Name (pv 3) (pa_Name (pv 4) pa_nil))))))))), ?_⟩
  refine seq_step fun U hU => ?_
  refine ⟨sz 0, fun r hr => ?_⟩
  show U _ _
  subst hU
  have s1 := same_new hr (.lst [])
  have er1 : upd H r (.lst []) r = some (.lst []) := upd_same
  generalize upd H r (.lst []) = H1 at *
  refine seq_step fun U hU => ?_
  refine ⟨sz 0, fun fo hfo => ?_⟩
  show U _ _
  subst hU
  have nrf : r ≠ fo := ne_of_none er1 hfo
  have s2 := same_new hfo (.lst [])
  have er2 := s2 _ _ er1
  have ef2 : upd H1 fo (.lst []) fo = some (.lst []) := upd_same
  generalize upd H1 fo (.lst []) = H2 at *
  refine seq_step fun U hU => ?_
  refine ⟨sz 0, fun op hop => ?_⟩
  show U _ _
  subst hU
  have nro : r ≠ op := ne_of_none er2 hop
  have nfo : fo ≠ op := ne_of_none ef2 hop
  have s3 := same_new hop (.lst [])
  have er3 := s3 _ _ er2
  have ef3 := s3 _ _ ef2
  have eo3 : upd H2 op (.lst []) op = some (.lst []) := upd_same
  generalize upd H2 op (.lst []) = H3 at *
  have n1 : H fo = none := s1.free hfo
  have n2 : H op = none := (s1.trans s2).free hop
  have sA := (s1.trans s2).trans s3
  refine seq_step fun U hU => ?_
  refine ⟨fun m σ H' => ∃ (x1 x2 x3 x4 : Option V) (rv : List V) (rs : List Row) (s : Bs), m = z - rs.length ∧ σ = [some (.ref a), some (.int k), some (.int z), some (.ref r), some (.ref fo), some (.ref op), x1, x2, x3, x4] ∧ Same H H' ∧ H' r = some (.lst rv) ∧ Paired (RowAt H') rv rs ∧ rs.map Prod.fst = s.ws ∧ H' fo = some (.lst (fV s.f)) ∧ H' op = some (.lst (nV s.o)) ∧ runB s.ws = some s ∧ s.ws.length + s.o.length ≤ z, ⟨z, none, none, none, none, [], [], b0, by simp, rfl, sA, er3, .nil, rfl, ef3, eo3, rfl, by simp [b0]⟩, ?_⟩
  rintro m σ H4 ⟨x1, x2, x3, x4, rv, rs, s, rfl, rfl, sm, er, hR, ews, ef, eo, run, lz⟩
  have lr : rv.length = rs.length := paired_len hR
  have lrw : rs.length = s.ws.length := by rw [← ews, List.length_map]
  obtain ⟨Bk, _⟩ := runB_ok _ rfl run
  refine ⟨_, rfl, r, _, rfl, .inl (SqL.of er), _, rfl, _, _, rfl, rfl, _, rfl, ?_⟩
  rw [lr]
  refine ite2 (fun h => ?_) (fun h => ?_)
  · have hlt : rs.length < z := by have := of_decide_eq_true h; omega
    refine ⟨fun σ' H' => ∃ m', m' < z - rs.length ∧ ∃ (x1 x2 x3 x4 : Option V) (rv : List V) (rs : List Row) (s : Bs), m' = z - rs.length ∧ σ' = [some (.ref a), some (.int k), some (.int z), some (.ref r), some (.ref fo), some (.ref op), x1, x2, x3, x4] ∧ Same H H' ∧ H' r = some (.lst rv) ∧ Paired (RowAt H') rv rs ∧ rs.map Prod.fst = s.ws ∧ H' fo = some (.lst (fV s.f)) ∧ H' op = some (.lst (nV s.o)) ∧ runB s.ws = some s ∧ s.ws.length + s.o.length ≤ z, fun _ _ h => h, ?_⟩
    refine seq_step fun U hU => ?_
    refine ⟨_, rfl, _, rfl, _, rfl, r, _, rfl, .inl (SqL.of er), _, _, rfl, rfl, (k + (rv.length : Int)), rfl, by omega, sm.seq hS, ?_⟩
    show U _ _
    subst hU
    generalize cellI ns (k + (rv.length : Int)) = cc
    refine seq_step fun U hU => ?_
    refine ⟨_, rfl, r, _, rfl, .inl (SqL.of er), ?_⟩
    show U _ _
    subst hU
    rw [lr]
    refine seq_step fun U hU => ?_
    refine ⟨_, rfl, _, _, rfl, rfl, (by show (0 : Int) < 12; decide), _, rfl, _, rfl, _, rfl, _, rfl, _, z, r, op, fo, rv, rs, s, rfl, er, hR, ews, ef, eo, Bk, Int.emod_nonneg _ (by decide), by omega, lz, fun w s' H5 sm5 st lz' ok => ?_⟩
    show U _ _
    subst hU
    have er5 := sm5 _ _ er
    have ef5 := sm5 _ _ ef
    have eo5 := sm5 _ _ eo
    have hR5 := rows_keep (TKeep.of sm5) hR
    have s5 := sm.trans sm5
    have lo5 : (nV s.o).length < sizeLine := by unfold nV; rw [List.length_map]; exact small1000 (by have := Bk.o_len; omega)
    have lf5 : (fV s.f).length = s.ws.length := by unfold fV; rw [List.length_map, Bk.len]
    refine seq_step fun U hU => ?_
    refine ⟨_, rfl, .inl ⟨rfl, _, SqL.of ef5⟩, fo, _, _, rfl, rfl, ef5, by rw [lf5]; exact small1000 (by omega), ?_⟩
    show U _ _
    subst hU
    have ef6 : upd H5 fo (.lst (fV s.f ++ [.non])) fo = some (.lst (fV (s.f ++ [none]))) := by rw [upd_same]; simp [fV, gN]
    have er6 : upd H5 fo (.lst (fV s.f ++ [.non])) r = some (.lst rv) := by rw [upd_ne nrf]; exact er5
    have eo6 : upd H5 fo (.lst (fV s.f ++ [.non])) op = some (.lst (nV s.o)) := by rw [upd_ne (Ne.symm nfo)]; exact eo5
    have s6 : Same H (upd H5 fo (.lst (fV s.f ++ [.non]))) := same_over n1 s5
    have k6 : TKeep H5 (upd H5 fo (.lst (fV s.f ++ [.non]))) := TKeep.put ef5
    have hR6 := rows_keep k6 hR5
    generalize upd H5 fo (.lst (fV s.f ++ [.non])) = H6 at *
    have run' := runB_step run st
    obtain ⟨Bk', ewt⟩ := step_ok Bk st
    cases st with
    | opn h =>
      have nel : w ≠ sEl := fun e => h.elim (fun z => el_if (e.symm.trans z)) (fun z => el_wh (e.symm.trans z))
      have nen : w ≠ sEn := fun e => h.elim (fun z => en_if (e.symm.trans z)) (fun z => en_wh (e.symm.trans z))
      refine seq_step fun U hU => ?_
      have rest : U [some (.ref a), some (.int k), some (.int z), some (.ref r), some (.ref fo), some (.ref op), some (.int cc), some (.int (rs.length : Nat)), some (.str w), x4] (upd H6 op (.lst (nV s.o ++ [.int (rs.length : Nat)]))) := by
        subst hU
        have er7 : upd H6 op (.lst (nV s.o ++ [.int (rs.length : Nat)])) r = some (.lst rv) := by rw [upd_ne nro]; exact er6
        have ef7 : upd H6 op (.lst (nV s.o ++ [.int (rs.length : Nat)])) fo = some (.lst (fV (s.f ++ [none]))) := by rw [upd_ne nfo]; exact ef6
        have eo7 : upd H6 op (.lst (nV s.o ++ [.int (rs.length : Nat)])) op = some (.lst (nV (s.o ++ [s.ws.length]))) := by rw [upd_same, lrw]; simp [nV]
        have s7 := same_over (o := .lst (nV s.o ++ [.int (rs.length : Nat)])) n2 s6
        have hR7 := rows_keep (TKeep.put (ws := nV s.o ++ [.int (rs.length : Nat)]) eo6) hR6
        generalize upd H6 op (.lst (nV s.o ++ [.int (rs.length : Nat)])) = H7 at *
        refine seq_step fun U hU => ?_
        refine ⟨_, rfl, rfl, _, rfl, ?_⟩
        rw [decide_eq_false (show ¬ V.str w = V.str sEl from fun e => nel (V.str.inj e))]
        refine iteF ?_
        show U _ _
        subst hU
        refine seq_step fun U hU => ?_
        refine ⟨_, rfl, rfl, _, rfl, ?_⟩
        rw [decide_eq_false (show ¬ V.str w = V.str sEn from fun e => nen (V.str.inj e))]
        refine iteF ?_
        show U _ _
        subst hU
        refine ⟨_, rfl, .inl ⟨rfl, _, SqL.of er7⟩, _, rfl, _, rfl, _, _, rfl, rfl, ⟨by decide, by decide⟩, w, _, rfl, ok, fun v ds H8 sm8 hv => ?_⟩
        have k8 : TKeep H8 (upd H8 r (.lst (rv ++ [v]))) := TKeep.put (sm8 _ _ er7)
        refine ⟨r, _, _, rfl, rfl, sm8 _ _ er7, small1000 (by omega), z - (rs.length + 1), by omega, _, _, _, _, rv ++ [v], rs ++ [(w, ds)], _, by simp, rfl, same_over hr (s7.trans sm8), upd_same, paired_snoc (rows_keep ((TKeep.of sm8).trans k8) hR7) (hv.keep k8), by rw [List.map_append, ews]; rfl, by rw [upd_ne (Ne.symm nrf)]; exact sm8 _ _ ef7, by rw [upd_ne (Ne.symm nro)]; exact sm8 _ _ eo7, run', lz'⟩
      refine ⟨_, rfl, rfl, _, rfl, ?_⟩
      rcases h with h | h
      · rw [decide_eq_true (show V.str w = V.str sIf by rw [h])]
        refine iteT ?_
        refine iteT ?_
        exact ⟨_, rfl, .inl ⟨rfl, _, SqL.of eo6⟩, _, rfl, op, _, _, rfl, rfl, eo6, lo5, rest⟩
      · rw [decide_eq_false (show ¬ V.str w = V.str sIf from fun e => (show sWh ≠ sIf by decide +kernel) (h.symm.trans (V.str.inj e)))]
        refine iteF ?_
        refine ⟨_, rfl, rfl, _, rfl, ?_⟩
        rw [decide_eq_true (show V.str w = V.str sWh by rw [h])]
        refine iteT ?_
        exact ⟨_, rfl, .inl ⟨rfl, _, SqL.of eo6⟩, _, rfl, op, _, _, rfl, rfl, eo6, lo5, rest⟩
    | els h o t eo' h1 h2 =>
      subst h
      have ht : t < s.ws.length := Bk.o_lt t (by rw [eo']; simp)
      have el : nV s.o = nV o ++ [.int (t : Nat)] := by rw [eo']; simp [nV]
      have at1 : atI (nV s.o) (-1) = some (.int (t : Nat)) := by rw [el]; exact at_last _ _
      have lf6 : (fV (s.f ++ [none])).length = s.ws.length + 1 := by simp [fV, Bk.len]
      refine seq_step fun U hU => ?_
      refine ⟨_, rfl, rfl, _, rfl, ?_⟩
      rw [decide_eq_false (show ¬ V.str sEl = V.str sIf from fun e => el_if (V.str.inj e))]
      refine iteF ?_
      refine ⟨_, rfl, rfl, _, rfl, ?_⟩
      rw [decide_eq_false (show ¬ V.str sEl = V.str sWh from fun e => el_wh (V.str.inj e))]
      refine iteF ?_
      show U _ _
      subst hU
      refine seq_step fun U hU => ?_
      refine ⟨_, rfl, rfl, _, rfl, ?_⟩
      rw [decide_eq_true (show V.str sEl = V.str sEl from rfl)]
      refine iteT ?_
      refine ⟨_, rfl, _, rfl, _, rfl, (1 : Int), rfl, op, _, _, _, rfl, rfl, SqL.of eo6, at1, fo, _, _, t, rfl, rfl, ef6, ix_nat (by omega), ?_⟩
      show U _ _
      subst hU
      have er7 : upd H6 fo (.lst ((fV (s.f ++ [none])).set t (.int (rs.length : Nat)))) r = some (.lst rv) := by rw [upd_ne nrf]; exact er6
      have ef7 : upd H6 fo (.lst ((fV (s.f ++ [none])).set t (.int (rs.length : Nat)))) fo = some (.lst (fV ((s.f ++ [none]).set t (some s.ws.length)))) := by
        rw [upd_same, lrw]
        show some (HO.lst ((List.map gN _).set t (gN (some s.ws.length)))) = _
        rw [map_set]
        rfl
      have eo7 : upd H6 fo (.lst ((fV (s.f ++ [none])).set t (.int (rs.length : Nat)))) op = some (.lst (nV s.o)) := by rw [upd_ne (Ne.symm nfo)]; exact eo6
      have s7 := same_over (o := .lst ((fV (s.f ++ [none])).set t (.int (rs.length : Nat)))) n1 s6
      have hR7 := rows_keep (TKeep.put (ws := (fV (s.f ++ [none])).set t (.int (rs.length : Nat))) ef6) hR6
      generalize upd H6 fo (.lst ((fV (s.f ++ [none])).set t (.int (rs.length : Nat)))) = H7 at *
      refine seq_step fun U hU => ?_
      refine ⟨_, rfl, rfl, _, rfl, ?_⟩
      rw [decide_eq_false (show ¬ V.str sEl = V.str sEn from fun e => en_el (V.str.inj e).symm)]
      refine iteF ?_
      show U _ _
      subst hU
      refine ⟨_, rfl, .inl ⟨rfl, _, SqL.of er7⟩, _, rfl, _, rfl, _, _, rfl, rfl, ⟨by decide, by decide⟩, sEl, _, rfl, ok, fun v ds H8 sm8 hv => ?_⟩
      have k8 : TKeep H8 (upd H8 r (.lst (rv ++ [v]))) := TKeep.put (sm8 _ _ er7)
      refine ⟨r, _, _, rfl, rfl, sm8 _ _ er7, small1000 (by omega), z - (rs.length + 1), by omega, _, _, _, _, rv ++ [v], rs ++ [(sEl, ds)], _, by simp, rfl, same_over hr (s7.trans sm8), upd_same, paired_snoc (rows_keep ((TKeep.of sm8).trans k8) hR7) (hv.keep k8), by rw [List.map_append, ews]; rfl, by rw [upd_ne (Ne.symm nrf)]; exact sm8 _ _ ef7, by rw [upd_ne (Ne.symm nro)]; exact sm8 _ _ eo7, run', lz'⟩
    | fin h o t eo' =>
      subst h
      have ht : t < s.ws.length := Bk.o_lt t (by rw [eo']; simp)
      have el : nV s.o = nV o ++ [.int (t : Nat)] := by rw [eo']; simp [nV]
      have at1 : atI (nV s.o) (-1) = some (.int (t : Nat)) := by rw [el]; exact at_last _ _
      have lf6 : (fV (s.f ++ [none])).length = s.ws.length + 1 := by simp [fV, Bk.len]
      refine seq_step fun U hU => ?_
      refine ⟨_, rfl, rfl, _, rfl, ?_⟩
      rw [decide_eq_false (show ¬ V.str sEn = V.str sIf from fun e => en_if (V.str.inj e))]
      refine iteF ?_
      refine ⟨_, rfl, rfl, _, rfl, ?_⟩
      rw [decide_eq_false (show ¬ V.str sEn = V.str sWh from fun e => en_wh (V.str.inj e))]
      refine iteF ?_
      show U _ _
      subst hU
      refine seq_step fun U hU => ?_
      refine ⟨_, rfl, rfl, _, rfl, ?_⟩
      rw [decide_eq_false (show ¬ V.str sEn = V.str sEl from fun e => en_el (V.str.inj e))]
      refine iteF ?_
      show U _ _
      subst hU
      refine seq_step fun U hU => ?_
      refine ⟨_, rfl, rfl, _, rfl, ?_⟩
      rw [decide_eq_true (show V.str sEn = V.str sEn from rfl)]
      refine iteT ?_
      rw [el] at eo6
      refine seq_step fun U' hU' => ?_
      refine ⟨_, rfl, .inl ⟨rfl, _, SqL.of eo6⟩, op, _, _, rfl, rfl, eo6, (by simp : (nV o ++ [V.int (t : Nat)])[(nV o ++ [V.int (t : Nat)]).length - 1]? = some (.int (t : Nat))), ?_⟩
      rw [List.dropLast_concat]
      show U' _ _
      subst hU'
      have er7 : upd H6 op (.lst (nV o)) r = some (.lst rv) := by rw [upd_ne nro]; exact er6
      have ef7 : upd H6 op (.lst (nV o)) fo = some (.lst (fV (s.f ++ [none]))) := by rw [upd_ne nfo]; exact ef6
      have eo7 : upd H6 op (.lst (nV o)) op = some (.lst (nV o)) := upd_same
      have s7 := same_over (o := .lst (nV o)) n2 s6
      have hR7 := rows_keep (TKeep.put (ws := nV o) eo6) hR6
      generalize upd H6 op (.lst (nV o)) = H7 at *
      have hf7 : ∀ (i x : Nat), (s.f ++ [none])[i]? = some (some x) → x < s.ws.length + 1 := snoc_lt Bk.f_lt
      refine seq_step fun U' hU' => ?_
      refine ⟨_, rfl, _, rfl, _, rfl, fo, _, _, s.ws.length, rfl, rfl, ef7, by rw [lf6, lrw]; exact ix_nat (by omega), ?_⟩
      show U' _ _
      subst hU'
      have eg : (fV (s.f ++ [none])).set s.ws.length (.int (t : Nat)) = fV ((s.f ++ [none]).set s.ws.length (some t)) := by
        show (List.map gN _).set s.ws.length (gN (some t)) = _
        rw [map_set]
        rfl
      rw [eg]
      have er8 : upd H7 fo (.lst (fV ((s.f ++ [none]).set s.ws.length (some t)))) r = some (.lst rv) := by rw [upd_ne nrf]; exact er7
      have ef8 : upd H7 fo (.lst (fV ((s.f ++ [none]).set s.ws.length (some t)))) fo = some (.lst (fV ((s.f ++ [none]).set s.ws.length (some t)))) := upd_same
      have eo8 : upd H7 fo (.lst (fV ((s.f ++ [none]).set s.ws.length (some t)))) op = some (.lst (nV o)) := by rw [upd_ne (Ne.symm nfo)]; exact eo7
      have s8 := same_over (o := .lst (fV ((s.f ++ [none]).set s.ws.length (some t)))) n1 s7
      have hR8 := rows_keep (TKeep.put (ws := fV ((s.f ++ [none]).set s.ws.length (some t))) ef7) hR7
      generalize upd H7 fo (.lst (fV ((s.f ++ [none]).set s.ws.length (some t)))) = Hx at *
      have hf8 := set_lt (j := s.ws.length) hf7 (show t < s.ws.length + 1 by omega)
      have lg : ((s.f ++ [none]).set s.ws.length (some t)).length = s.ws.length + 1 := by simp [Bk.len]
      have ecl : clo (s.f ++ [none]) t s.ws.length = clo (s.f ++ [none]) t s.ws.length := rfl
      have rest : ∀ Hy, Only fo Hx Hy → Hy fo = some (.lst (fV (clo (s.f ++ [none]) t s.ws.length))) → U [some (.ref a), some (.int k), some (.int z), some (.ref r), some (.ref fo), some (.ref op), some (.int cc), some (.int (rs.length : Nat)), some (.str sEn), some (.int (t : Nat))] Hy := by
        intro Hy oy efy
        subst hU
        have ery := (oy r nrf).trans er8
        have eoy := (oy op (Ne.symm nfo)).trans eo8
        have sy := oy.same n1 s8
        have hRy := rows_keep (oy.keep ef8) hR8
        refine ⟨_, rfl, .inl ⟨rfl, _, SqL.of ery⟩, _, rfl, _, rfl, _, _, rfl, rfl, ⟨by decide, by decide⟩, sEn, _, rfl, ok, fun v ds H8 sm8 hv => ?_⟩
        have k8 : TKeep H8 (upd H8 r (.lst (rv ++ [v]))) := TKeep.put (sm8 _ _ ery)
        refine ⟨r, _, _, rfl, rfl, sm8 _ _ ery, small1000 (by omega), z - (rs.length + 1), by omega, _, _, _, _, rv ++ [v], rs ++ [(sEn, ds)], _, by simp, rfl, same_over hr (sy.trans sm8), upd_same, paired_snoc (rows_keep ((TKeep.of sm8).trans k8) hRy) (hv.keep k8), by rw [List.map_append, ews]; rfl, by rw [upd_ne (Ne.symm nrf)]; exact sm8 _ _ efy, by rw [upd_ne (Ne.symm nro)]; exact sm8 _ _ eoy, run', lz'⟩
      unfold clo at rest
      generalize (s.f ++ [none]).set s.ws.length (some t) = g at *
      have lfg : (fV g).length = s.ws.length + 1 := by unfold fV; rw [List.length_map, lg]
      have et : g[t]? = some (g[t]'(by omega)) := List.getElem?_eq_getElem _
      generalize g[t]'(by omega) = zz at et
      rw [et] at rest
      refine ⟨_, rfl, _, rfl, fo, _, _, _, rfl, rfl, SqL.of ef8, gN_get et, rfl, _, rfl, ?_⟩
      cases zz with
      | none =>
        refine iteT ?_
        refine ⟨_, rfl, _, rfl, _, rfl, fo, _, _, t, rfl, rfl, ef8, by rw [lfg]; exact ix_nat (by omega), rest _ Only.put ?_⟩
        rw [upd_same, lrw]
        show some (HO.lst ((List.map gN _).set t (gN (some s.ws.length)))) = _
        rw [map_set]
        rfl
      | some x =>
        refine iteF ?_
        have hx := hf8 t x et
        refine ⟨_, rfl, _, rfl, _, rfl, _, rfl, fo, _, _, _, rfl, rfl, SqL.of ef8, gN_get et, fo, _, _, x, rfl, rfl, ef8, by rw [lfg]; exact ix_nat (by omega), rest _ Only.put ?_⟩
        rw [upd_same, lrw]
        show some (HO.lst ((List.map gN _).set x (gN (some s.ws.length)))) = _
        rw [map_set]
        rfl
    | oth h1 h2 h3 h4 =>
      refine seq_step fun U hU => ?_
      refine ⟨_, rfl, rfl, _, rfl, ?_⟩
      rw [decide_eq_false (show ¬ V.str w = V.str sIf from fun e => h1 (V.str.inj e))]
      refine iteF ?_
      refine ⟨_, rfl, rfl, _, rfl, ?_⟩
      rw [decide_eq_false (show ¬ V.str w = V.str sWh from fun e => h2 (V.str.inj e))]
      refine iteF ?_
      show U _ _
      subst hU
      refine seq_step fun U hU => ?_
      refine ⟨_, rfl, rfl, _, rfl, ?_⟩
      rw [decide_eq_false (show ¬ V.str w = V.str sEl from fun e => h3 (V.str.inj e))]
      refine iteF ?_
      show U _ _
      subst hU
      refine seq_step fun U hU => ?_
      refine ⟨_, rfl, rfl, _, rfl, ?_⟩
      rw [decide_eq_false (show ¬ V.str w = V.str sEn from fun e => h4 (V.str.inj e))]
      refine iteF ?_
      show U _ _
      subst hU
      refine ⟨_, rfl, .inl ⟨rfl, _, SqL.of er6⟩, _, rfl, _, rfl, _, _, rfl, rfl, ⟨by decide, by decide⟩, w, _, rfl, ok, fun v ds H8 sm8 hv => ?_⟩
      have k8 : TKeep H8 (upd H8 r (.lst (rv ++ [v]))) := TKeep.put (sm8 _ _ er6)
      refine ⟨r, _, _, rfl, rfl, sm8 _ _ er6, small1000 (by omega), z - (rs.length + 1), by omega, _, _, _, _, rv ++ [v], rs ++ [(w, ds)], _, by simp, rfl, same_over hr (s6.trans sm8), upd_same, paired_snoc (rows_keep ((TKeep.of sm8).trans k8) hR6) (hv.keep k8), by rw [List.map_append, ews]; rfl, by rw [upd_ne (Ne.symm nrf)]; exact sm8 _ _ ef6, by rw [upd_ne (Ne.symm nro)]; exact sm8 _ _ eo6, run', lz'⟩
  · show U _ _
    subst hU
    have hge : z ≤ rs.length := by have hn : ¬ ((rs.length : Int) < (z : Int)) := fun e => h (decide_eq_true e); omega
    have ho : s.o = [] := List.length_eq_zero_iff.mp (by omega)
    refine ⟨_, rfl, _, rfl, sz 2, fun p hp => ?_⟩
    have sp := same_new hp (.tup [.ref r, .ref fo])
    exact q p r fo _ rv rs s (sm.trans sp) upd_same (sp _ _ er) (rows_keep (TKeep.of sp) hR) (sp _ _ ef) (by rw [ews]; exact run) ho (by omega)
theorem sc__law_good : FnScope ["_law_rows", "_law_due", "_law_handed", "_law_told", "_law_k"] ["_law_rows", "_law_due"] (defScope s__law_good) := ⟨rfl, rfl, rfl, by decide +kernel, rfl, by decide +kernel, by decide +kernel⟩
theorem ok__law_good {f : Addr} {fd : FuncData} (F : Fun K "_law_good" "_law_good" s__law_good f fd) (m : mg "_law_good" = some (.ref f)) (B : Bl mg) (D_partners : Def P w K mg base CX0 "partners" 2 ["rows"] (sp_partners K)) (D__law_whole : Def P w K mg base CX0 "_law_whole" 1 ["_law_found"] (sp__law_whole K)) : Def P w K mg base CX0 "_law_good" 3 ["_law_rows", "_law_due"] (sp__law_good K) := by
  refine ⟨f, fd, F.ok sc__law_good (fun vs H Q E h => ?_) (fun cdv A outer s H vs Q E hr h => ?_), F.binds (ps := ["_law_rows", "_law_due"]) fun _ _ _ _ _ _ us hl => (by obtain ⟨b0, b1, rfl⟩ := us2 hl; rfl), F.kp, m⟩
  · obtain ⟨r, fo, rv, rs, s1, rfl, _⟩ := h
    rfl
  obtain ⟨r, fo, rv, rs, s1, rfl, er, hR, ef, run, ho, hn, q⟩ := h
  refine ⟨_, (@pss_cons _ _ _ _ _ (ps_set (i := 2) sc__law_good.nd rfl (by first | exact Or.inl rfl | exact Or.inr rfl) (pe_callTy (call_list_ofK (K := K) rfl) (by rfl) B.list (by decide +kernel) (pa_Name (pv 0) pa_nil)))
    (@pss_cons _ _ _ _ _ (ps_set (i := 3) sc__law_good.nd rfl (by first | exact Or.inl rfl | exact Or.inr rfl) (pe_def D_partners (hr.mono (by decide)) (by rfl) pass0 (pa_Name (pv 2) pa_nil)))
    (@pss_cons _ _ _ _ _ (ps_if (pw_or (pt_not (pt_val (pe_callB (call_isTyK (K := K) rfl) (by rfl) B.isinstance (by decide +kernel) (pa_Name (pv 3) (pa_Name (pe_bltn (v := .ty "list") (u := .type "list") (by rfl) B.list (by decide +kernel) rfl) pa_nil))))) (pw_or (pt_cmpR op_ne (pe_callB (call_lenK (K := K) rfl) (by rfl) B.len (by decide +kernel) (pa_Name (pv 3) pa_nil)) (pe_callB (call_lenK (K := K) rfl) (by rfl) B.len (by decide +kernel) (pa_Name (pv 1) pa_nil)) (nomark _)) (pw_or1 (pt_cmpR (op_neDK (K := K) hr rfl) (pv 2) (pv 0) (nomark _))))).pt (pss_one (ps_ret pe_bl)) pss_nil)
    (@pss_cons _ _ _ _ _ (ps_for PassesOwn.never rfl (pi_range1 (by rfl) B.range (pa_Call (pe_callB (call_lenK (K := K) rfl) (by rfl) B.len (by decide +kernel) (pa_Name (pv 1) pa_nil)) pa_nil)) (pg_name (i := 4) sc__law_good.nd rfl (by first | exact Or.inl rfl | exact Or.inr rfl)) (@pss_cons _ _ _ _ _ (ps_if (pw_and (pt_cmpR op_isN (pe_ix (ix_listK (K := K) rfl) (pv 1) (pv 4) (fun _ _ => rfl)) pe_non (nomark _)) (pw_and1 (pt_cmpR op_notN (pe_ix (ix_listK (K := K) rfl) (pv 3) (pv 4) (fun _ _ => rfl)) pe_non (nomark _)))).pt (pss_one (ps_ret pe_bl)) pss_nil)
    (pss_one (ps_if (pw_and (pt_cmpR op_notN (pe_ix (ix_listK (K := K) rfl) (pv 1) (pv 4) (fun _ _ => rfl)) pe_non (nomark _)) (pw_and1 (pw_or (pt_not (pt_val (pe_def D__law_whole (hr.mono (by decide)) (by rfl) pass0 (pa_Subscript (pe_ix (ix_listK (K := K) rfl) (pv 3) (pv 4) (fun _ _ => rfl)) pa_nil)))) (pw_or1 (pt_cmpR (op_neDK (K := K) hr rfl) (pe_ix (ix_listK (K := K) rfl) (pv 3) (pv 4) (fun _ _ => rfl)) (pe_ix (ix_listK (K := K) rfl) (pv 1) (pv 4) (fun _ _ => rfl)) (nomark _)))).pt)).pt (pss_one (ps_ret pe_bl)) pss_nil))))
    (@pss_cons _ _ _ _ _ (ps_expr (pe_bm PySem.F.plainAttrs_list PySem.F.slot_list_append PySem.F.type_list_append mt_append (pv 3) (pa_Constant pe_int pa_nil)))
    (@pss_cons _ _ _ _ _ (ps_asg pe_int (pg_sub (pv 3) pe_int set_list))
    (pss_one (ps_ret pe_bl)))))))), ?_⟩
  obtain ⟨Bk, ewt⟩ := runB_ok _ rfl run
  have lrv : rv.length = rs.length := paired_len hR
  have lf : (fV s1.f).length = rs.length := by unfold fV; rw [List.length_map, Bk.len, ewt, List.length_map]
  refine seq_step fun U hU => ?_
  refine ⟨_, rfl, r, _, rfl, .inl (SqL.of er), fun hd hhd => ?_⟩
  show U _ _
  subst hU
  have s2 := same_new hhd (.lst rv)
  have ehd : upd H hd (.lst rv) hd = some (.lst rv) := upd_same
  generalize upd H hd (.lst rv) = H2 at *
  refine seq_step fun U hU => ?_
  refine ⟨_, rfl, hd, rv, rs, s1, rfl, ehd, rows_keep (TKeep.of s2) hR, run, ho, by omega, fun p H3 sm3 hp3 ep3 => ?_⟩
  show U _ _
  subst hU
  have s3 := s2.trans sm3
  have np : H p = none := s2.free hp3
  refine seq_step fun U hU => ?_
  refine ⟨_, rfl, true, isT_lst ep3, true, rfl, ?_⟩
  refine iteF ?_
  refine ⟨_, rfl, p, _, rfl, .inl (SqL.of ep3), _, rfl, fo, _, rfl, .inl (SqL.of (s3 _ _ ef)), rfl, _, rfl, ?_⟩
  rw [decide_eq_true rfl]
  refine iteF ?_
  have hR3 := rows_keep (TKeep.of s3) hR
  refine ⟨_, rfl, _, rfl, _, _, dt_rowsL (sm3 _ _ ehd) hR3, dt_rowsL (s3 _ _ er) hR3, depth_rowsL hR3, ?_⟩
  rw [SeqAt.eqv_refl _ (Dt.lay (dt_rowsL (K := K) (sm3 _ _ ehd) hR3))]
  refine ⟨_, rfl, ?_⟩
  refine iteF ?_
  show U _ _
  subst hU
  refine seq_step fun U hU => ?_
  refine ⟨_, rfl, fo, _, rfl, .inl (SqL.of (s3 _ _ ef)), ((fV s1.f).length : Int), rfl, by omega, by omega, for_range (lo := 0) (n := ((fV s1.f).length : Int).toNat) (fun i σ H' => ∃ x, σ = [some (.ref r), some (.ref fo), some (.ref hd), some (.ref p), x] ∧ H' = H3) ⟨none, rfl, rfl⟩ ?_ ?_⟩
  · rintro i σ H4 hi ⟨x, rfl, rfl⟩
    have hi' : i < (fV s1.f).length := by omega
    have e0 : (0 : Int) + (i : Int) = (i : Int) := Int.zero_add _
    have ei : s1.f[i]? = some (s1.f[i]'(by simpa [fV] using hi')) := List.getElem?_eq_getElem _
    generalize s1.f[i]'(by simpa [fV] using hi') = zz at ei
    have ga : atI (fV s1.f) (0 + (i : Int)) = some (gN zz) := by rw [e0]; exact gN_get ei
    refine seq_step fun U' hU' => ?_
    refine ⟨_, rfl, _, rfl, fo, _, _, _, rfl, rfl, SqL.of (s3 _ _ ef), ga, rfl, _, rfl, ?_⟩
    cases zz with
    | none =>
      refine iteT ?_
      refine ⟨_, rfl, _, rfl, p, _, _, _, rfl, rfl, SqL.of ep3, ga, rfl, _, rfl, ?_⟩
      refine iteF ?_
      show U' _ _
      subst hU'
      refine ⟨_, rfl, _, rfl, fo, _, _, _, rfl, rfl, SqL.of (s3 _ _ ef), ga, rfl, _, rfl, ?_⟩
      refine iteF ?_
      refine iteF ?_
      exact ⟨_, rfl, rfl⟩
    | some y =>
      refine iteF ?_
      refine iteF ?_
      show U' _ _
      subst hU'
      refine ⟨_, rfl, _, rfl, fo, _, _, _, rfl, rfl, SqL.of (s3 _ _ ef), ga, rfl, _, rfl, ?_⟩
      refine iteT ?_
      refine ⟨_, rfl, _, rfl, p, _, _, _, rfl, rfl, SqL.of ep3, ga, (y : Int), rfl, true, rfl, ?_⟩
      refine iteF ?_
      refine ⟨_, rfl, _, rfl, p, _, _, _, rfl, rfl, SqL.of ep3, ga, _, rfl, _, rfl, fo, _, _, _, rfl, rfl, SqL.of (s3 _ _ ef), ga, .int y, .int y, .int, .int, by simp [PyData.depth], ?_⟩
      rw [show PyData.eqv (.int (y : Int)) (.int (y : Int)) = true by simp [PyData.eqv]]
      refine ⟨_, rfl, ?_⟩
      refine iteF ?_
      exact ⟨_, rfl, rfl⟩
  · rintro σ H4 ⟨x, rfl, rfl⟩
    show U _ _
    subst hU
    refine seq_step fun U hU => ?_
    refine ⟨_, rfl, .inl ⟨rfl, _, SqL.of ep3⟩, p, _, _, rfl, rfl, ep3, by rw [lf]; exact small1000 (by omega), ?_⟩
    show U _ _
    subst hU
    have ep5 : upd H4 p (.lst (fV s1.f ++ [.int 0])) p = some (.lst (fV s1.f ++ [.int 0])) := upd_same
    have s5 := same_over (o := .lst (fV s1.f ++ [.int 0])) np s3
    generalize upd H4 p (.lst (fV s1.f ++ [.int 0])) = H5 at *
    refine seq_step fun U hU => ?_
    refine ⟨_, rfl, p, _, (0 : Int), 0, rfl, rfl, ep5, ix_nat (t := 0) (by simp), ?_⟩
    show U _ _
    subst hU
    exact q _ (same_over np s5)
theorem sc__law_size : FnScope ["_law_cell_here"] ["_law_cell_here"] (defScope s__law_size) := ⟨rfl, rfl, rfl, by decide +kernel, rfl, by decide +kernel, by decide +kernel⟩
theorem ok__law_size {f : Addr} {fd : FuncData} (F : Fun K "_law_size" "_law_size" s__law_size f fd) (m : mg "_law_size" = some (.ref f)) (B : Bl mg)  : Def P w K mg base CX0 "_law_size" 1 ["_law_cell_here"] (sp__law_size K) := by
  refine ⟨f, fd, F.ok sc__law_size (fun vs H Q E h => ?_) (fun cdv A outer s H vs Q E hr h => ?_), F.binds (ps := ["_law_cell_here"]) fun _ _ _ _ _ _ us hl => (by obtain ⟨b0, rfl⟩ := us1 hl; rfl), F.kp, m⟩
  · obtain ⟨c, rfl, _⟩ := h
    rfl
  obtain ⟨c, rfl, q⟩ := h
  refine ⟨_, (@pss_cons _ _ _ _ _ (ps_if (pt_cmpR op_eq (pe_op op_mod (pv 0) pe_int) pe_int (nomark _)) (pss_one (ps_ret (pe_op op_mod (pe_op op_fdiv (pv 0) pe_int) pe_int))) pss_nil)
    (pss_one (ps_ret (pe_op op_mod (pe_op op_fdiv (pv 0) pe_int) pe_int)))), ?_⟩
  refine seq_step fun U hU => ?_
  have a1 := Int.emod_nonneg (c / 3) (b := 61) (by decide)
  have a2 := Int.emod_lt_of_pos (c / 3) (b := 61) (by decide)
  have b1 := Int.emod_nonneg (c / 3) (b := 13) (by decide)
  have b2 := Int.emod_lt_of_pos (c / 3) (b := 13) (by decide)
  refine ⟨_, rfl, _, _, rfl, rfl, (by show (0 : Int) < 3; decide), rfl, _, rfl, ?_⟩
  refine ite2 (fun h => ?_) (fun h => ?_)
  · refine ⟨_, rfl, _, _, rfl, rfl, ⟨by decide, by decide⟩, _, _, rfl, rfl, (by show (0 : Int) < 61; decide), ?_⟩
    have := q (c / 3 % 61).toNat (by omega)
    rwa [Int.toNat_of_nonneg a1] at this
  · show U _ _
    subst hU
    refine ⟨_, rfl, _, _, rfl, rfl, ⟨by decide, by decide⟩, _, _, rfl, rfl, (by show (0 : Int) < 13; decide), ?_⟩
    have := q (c / 3 % 13).toNat (by omega)
    rwa [Int.toNat_of_nonneg b1] at this
theorem sc_law : FnScope ["_law_script", "_law_one", "_law_other", "_law_k"] ["_law_script"] (defScope s_law) := ⟨rfl, rfl, rfl, by decide +kernel, rfl, by decide +kernel, by decide +kernel⟩
theorem ok_law_fn {f : Addr} {fd : FuncData} (F : Fun K "law" "law" s_law f fd) (m : mg "law" = some (.ref f)) (B : Bl mg) (D__law_program : Def P w K mg base CX0 "_law_program" 3 ["_law_script", "_law_at", "_law_size_here"] (sp__law_program K)) (D__law_size : Def P w K mg base CX0 "_law_size" 1 ["_law_cell_here"] (sp__law_size K)) (D__law_cell : Def P w K mg base CX0 "_law_cell" 1 ["_law_script", "_law_k"] (sp__law_cell K)) (D__law_good : Def P w K mg base CX0 "_law_good" 3 ["_law_rows", "_law_due"] (sp__law_good K)) : FnOk P w K mg base CX0 4 f fd ["_law_script"] (sp_law K) := by
  refine F.ok sc_law (fun vs H Q E h => ?_) (fun cdv A outer s H vs Q E hr h => ?_)
  · obtain ⟨a, ns, rfl, _⟩ := h
    rfl
  obtain ⟨a, ns, rfl, hS, hlen, q⟩ := h
  have D__law_cell := D__law_cell.imp (cellAt_of (a := a) (ns := ns))
  refine ⟨_, (@pss_cons _ _ _ _ _ (ps_set (i := 1) sc_law.nd rfl (by first | exact Or.inl rfl | exact Or.inr rfl) (pe_def D__law_program (hr.mono (by decide)) (by rfl) pass0 (pa_Name (pv 0) (pa_Constant pe_int (pa_Call (pe_def D__law_size (hr.mono (by decide)) (by rfl) pass0 (pa_Call (pe_def D__law_cell (hr.mono (by decide)) (by rfl) pass0 (pa_Name (pv 0) (pa_Constant pe_int pa_nil))) pa_nil)) pa_nil)))))
    (@pss_cons _ _ _ _ _ (ps_set (i := 2) sc_law.nd rfl (by first | exact Or.inl rfl | exact Or.inr rfl) (pe_def D__law_program (hr.mono (by decide)) (by rfl) pass0 (pa_Name (pv 0) (pa_BinOp (pe_op op_add pe_int (pe_op op_fdiv (pe_callB (call_lenK (K := K) rfl) (by rfl) B.len (by decide +kernel) (pa_Name (pv 0) pa_nil)) pe_int)) (pa_Call (pe_def D__law_size (hr.mono (by decide)) (by rfl) pass0 (pa_Call (pe_def D__law_cell (hr.mono (by decide)) (by rfl) pass0 (pa_Name (pv 0) (pa_Constant pe_int pa_nil))) pa_nil)) pa_nil)))))
    (@pss_cons _ _ _ _ _ (ps_for PassesOwn.never rfl (pi_range1 (by rfl) B.range (pa_Constant pe_int pa_nil)) (pg_name (i := 3) sc_law.nd rfl (by first | exact Or.inl rfl | exact Or.inr rfl)) (pss_one (ps_if (pw_or (pt_not (pt_val (pe_def D__law_good (hr.mono (by decide)) (by rfl) pass0 (pa_Subscript (pe_ix (ix_tupK (K := K) rfl) (pv 1) pe_int (fun _ _ => rfl)) (pa_Subscript (pe_ix (ix_tupK (K := K) rfl) (pv 1) pe_int (fun _ _ => rfl)) pa_nil))))) (pw_or1 (pt_not (pt_val (pe_def D__law_good (hr.mono (by decide)) (by rfl) pass0 (pa_Subscript (pe_ix (ix_tupK (K := K) rfl) (pv 2) pe_int (fun _ _ => rfl)) (pa_Subscript (pe_ix (ix_tupK (K := K) rfl) (pv 2) pe_int (fun _ _ => rfl)) pa_nil))))))).pt (pss_one (ps_ret pe_bl)) pss_nil)))
    (pss_one (ps_ret pe_bl))))), ?_⟩
  have hl : (ns.map V.int).length = ns.length := List.length_map _
  refine seq_step fun U hU => ?_
  refine ⟨_, rfl, _, rfl, (0 : Int), rfl, by decide, hS, _, rfl, fun z1 hz1 => ?_⟩
  refine ⟨a, ns, 5, z1, rfl, hS, by decide, hz1, fun p1 r1 f1 H1 rv1 rs1 st1 sm1 ep1 er1 hR1 ef1 run1 ho1 hn1 => ?_⟩
  show U _ _
  subst hU
  have hS1 := sm1.seq hS
  refine seq_step fun U hU => ?_
  refine ⟨_, rfl, _, rfl, a, _, rfl, .inl hS1, _, _, rfl, rfl, ⟨by decide, by decide⟩, _, _, rfl, rfl, _, rfl, (1 : Int), rfl, by decide, hS1, _, rfl, fun z2 hz2 => ?_⟩
  refine ⟨a, ns, 5 + ((ns.map V.int).length : Int) / 2, z2, rfl, hS1, by omega, hz2, fun p2 r2 f2 H2 rv2 rs2 st2 sm2 ep2 er2 hR2 ef2 run2 ho2 hn2 => ?_⟩
  show U _ _
  subst hU
  have e1 := sm2 _ _ ep1
  have hR1' := rows_keep (TKeep.of sm2) hR1
  refine seq_step fun U hU => ?_
  refine ⟨(2 : Int), rfl, by decide, by decide, for_range (lo := 0) (n := (2 : Int).toNat) (fun i σ H' => ∃ x, σ = [some (.ref a), some (.ref p1), some (.ref p2), x] ∧ Same H2 H') ⟨none, rfl, Same.refl _⟩ ?_ ?_⟩
  · rintro i σ H3 hi ⟨x, rfl, sm3⟩
    refine ⟨_, rfl, p1, _, (0 : Int), _, rfl, rfl, SqT.of (sm3 _ _ e1), at0 _ _, _, rfl, p1, _, (1 : Int), _, rfl, rfl, SqT.of (sm3 _ _ e1), at_nat (j := 1) rfl, r1, f1, rv1, rs1, st1, rfl, sm3 _ _ (sm2 _ _ er1), rows_keep (TKeep.of sm3) hR1', sm3 _ _ (sm2 _ _ ef1), run1, ho1, hn1, fun H4 sm4 => ?_⟩
    refine ⟨true, rfl, ?_⟩
    refine iteF ?_
    have s4 := sm3.trans sm4
    refine ⟨_, rfl, p2, _, (0 : Int), _, rfl, rfl, SqT.of (s4 _ _ ep2), at0 _ _, _, rfl, p2, _, (1 : Int), _, rfl, rfl, SqT.of (s4 _ _ ep2), at_nat (j := 1) rfl, r2, f2, rv2, rs2, st2, rfl, s4 _ _ er2, rows_keep (TKeep.of s4) hR2, s4 _ _ ef2, run2, ho2, hn2, fun H5 sm5 => ?_⟩
    refine ⟨true, rfl, ?_⟩
    refine iteF ?_
    exact ⟨_, rfl, s4.trans sm5⟩
  · rintro σ H3 ⟨x, rfl, sm3⟩
    show U _ _
    subst hU
    exact q _
end
theorem all_mk {l : PySem.W.OpenLaw} {w : World} {K : PySem.W.Frag} {h : Heap} {mg : Str → Option Value} {fa : Addr} (X : K.In h) (G : h.Ns mainGlobals mg) (hfa : mg "law" = some (.ref fa))
    {f0 : Addr} {od0 an0 : Option Addr} {sl0 : Array (Option Value)} {oc0 kV0 dc0 pm0 cd0 ct0 : Value}
    (a0 : PySem.W.nsIn K mainGlobals "partners" = some (some (.ref f0))) (l0 : K.lookup f0 = some ⟨oc0, od0, .func (PySem.W.fnOf "partners" "partners" (defArgs s_partners) (defBody s_partners) (defScope s_partners) .none kV0 dc0 pm0 an0 cd0 ct0), sl0⟩) (c0 : PySem.W.codeIn K cd0 "partners" = true) (k0 : PySem.W.keepIn K (.ref f0) = true)
    {f1 : Addr} {od1 an1 : Option Addr} {sl1 : Array (Option Value)} {oc1 kV1 dc1 pm1 cd1 ct1 : Value}
    (a1 : PySem.W.nsIn K mainGlobals "may_have_else" = some (some (.ref f1))) (l1 : K.lookup f1 = some ⟨oc1, od1, .func (PySem.W.fnOf "may_have_else" "may_have_else" (defArgs s_may_have_else) (defBody s_may_have_else) (defScope s_may_have_else) .none kV1 dc1 pm1 an1 cd1 ct1), sl1⟩) (c1 : PySem.W.codeIn K cd1 "may_have_else" = true) (k1 : PySem.W.keepIn K (.ref f1) = true)
    {f2 : Addr} {od2 an2 : Option Addr} {sl2 : Array (Option Value)} {oc2 kV2 dc2 pm2 cd2 ct2 : Value}
    (a2 : PySem.W.nsIn K mainGlobals "close" = some (some (.ref f2))) (l2 : K.lookup f2 = some ⟨oc2, od2, .func (PySem.W.fnOf "close" "close" (defArgs s_close) (defBody s_close) (defScope s_close) .none kV2 dc2 pm2 an2 cd2 ct2), sl2⟩) (c2 : PySem.W.codeIn K cd2 "close" = true) (k2 : PySem.W.keepIn K (.ref f2) = true)
    {f3 : Addr} {od3 an3 : Option Addr} {sl3 : Array (Option Value)} {oc3 kV3 dc3 pm3 cd3 ct3 : Value}
    (a3 : PySem.W.nsIn K mainGlobals "_law_cell" = some (some (.ref f3))) (l3 : K.lookup f3 = some ⟨oc3, od3, .func (PySem.W.fnOf "_law_cell" "_law_cell" (defArgs s__law_cell) (defBody s__law_cell) (defScope s__law_cell) .none kV3 dc3 pm3 an3 cd3 ct3), sl3⟩) (c3 : PySem.W.codeIn K cd3 "_law_cell" = true) (k3 : PySem.W.keepIn K (.ref f3) = true)
    {f4 : Addr} {od4 an4 : Option Addr} {sl4 : Array (Option Value)} {oc4 kV4 dc4 pm4 cd4 ct4 : Value}
    (a4 : PySem.W.nsIn K mainGlobals "_law_whole" = some (some (.ref f4))) (l4 : K.lookup f4 = some ⟨oc4, od4, .func (PySem.W.fnOf "_law_whole" "_law_whole" (defArgs s__law_whole) (defBody s__law_whole) (defScope s__law_whole) .none kV4 dc4 pm4 an4 cd4 ct4), sl4⟩) (c4 : PySem.W.codeIn K cd4 "_law_whole" = true) (k4 : PySem.W.keepIn K (.ref f4) = true)
    {f5 : Addr} {od5 an5 : Option Addr} {sl5 : Array (Option Value)} {oc5 kV5 dc5 pm5 cd5 ct5 : Value}
    (a5 : PySem.W.nsIn K mainGlobals "_law_word" = some (some (.ref f5))) (l5 : K.lookup f5 = some ⟨oc5, od5, .func (PySem.W.fnOf "_law_word" "_law_word" (defArgs s__law_word) (defBody s__law_word) (defScope s__law_word) .none kV5 dc5 pm5 an5 cd5 ct5), sl5⟩) (c5 : PySem.W.codeIn K cd5 "_law_word" = true) (k5 : PySem.W.keepIn K (.ref f5) = true)
    {f6 : Addr} {od6 an6 : Option Addr} {sl6 : Array (Option Value)} {oc6 kV6 dc6 pm6 cd6 ct6 : Value}
    (a6 : PySem.W.nsIn K mainGlobals "_law_question" = some (some (.ref f6))) (l6 : K.lookup f6 = some ⟨oc6, od6, .func (PySem.W.fnOf "_law_question" "_law_question" (defArgs s__law_question) (defBody s__law_question) (defScope s__law_question) .none kV6 dc6 pm6 an6 cd6 ct6), sl6⟩) (c6 : PySem.W.codeIn K cd6 "_law_question" = true) (k6 : PySem.W.keepIn K (.ref f6) = true)
    {f7 : Addr} {od7 an7 : Option Addr} {sl7 : Array (Option Value)} {oc7 kV7 dc7 pm7 cd7 ct7 : Value}
    (a7 : PySem.W.nsIn K mainGlobals "_law_row" = some (some (.ref f7))) (l7 : K.lookup f7 = some ⟨oc7, od7, .func (PySem.W.fnOf "_law_row" "_law_row" (defArgs s__law_row) (defBody s__law_row) (defScope s__law_row) .none kV7 dc7 pm7 an7 cd7 ct7), sl7⟩) (c7 : PySem.W.codeIn K cd7 "_law_row" = true) (k7 : PySem.W.keepIn K (.ref f7) = true)
    {f8 : Addr} {od8 an8 : Option Addr} {sl8 : Array (Option Value)} {oc8 kV8 dc8 pm8 cd8 ct8 : Value}
    (a8 : PySem.W.nsIn K mainGlobals "_law_program" = some (some (.ref f8))) (l8 : K.lookup f8 = some ⟨oc8, od8, .func (PySem.W.fnOf "_law_program" "_law_program" (defArgs s__law_program) (defBody s__law_program) (defScope s__law_program) .none kV8 dc8 pm8 an8 cd8 ct8), sl8⟩) (c8 : PySem.W.codeIn K cd8 "_law_program" = true) (k8 : PySem.W.keepIn K (.ref f8) = true)
    {f9 : Addr} {od9 an9 : Option Addr} {sl9 : Array (Option Value)} {oc9 kV9 dc9 pm9 cd9 ct9 : Value}
    (a9 : PySem.W.nsIn K mainGlobals "_law_good" = some (some (.ref f9))) (l9 : K.lookup f9 = some ⟨oc9, od9, .func (PySem.W.fnOf "_law_good" "_law_good" (defArgs s__law_good) (defBody s__law_good) (defScope s__law_good) .none kV9 dc9 pm9 an9 cd9 ct9), sl9⟩) (c9 : PySem.W.codeIn K cd9 "_law_good" = true) (k9 : PySem.W.keepIn K (.ref f9) = true)
    {f10 : Addr} {od10 an10 : Option Addr} {sl10 : Array (Option Value)} {oc10 kV10 dc10 pm10 cd10 ct10 : Value}
    (a10 : PySem.W.nsIn K mainGlobals "_law_size" = some (some (.ref f10))) (l10 : K.lookup f10 = some ⟨oc10, od10, .func (PySem.W.fnOf "_law_size" "_law_size" (defArgs s__law_size) (defBody s__law_size) (defScope s__law_size) .none kV10 dc10 pm10 an10 cd10 ct10), sl10⟩) (c10 : PySem.W.codeIn K cd10 "_law_size" = true) (k10 : PySem.W.keepIn K (.ref f10) = true)
    {f11 : Addr} {od11 an11 : Option Addr} {sl11 : Array (Option Value)} {oc11 kV11 dc11 pm11 cd11 ct11 : Value}
    (a11 : PySem.W.nsIn K mainGlobals "law" = some (some (.ref f11))) (l11 : K.lookup f11 = some ⟨oc11, od11, .func (PySem.W.fnOf "law" "law" (defArgs s_law) (defBody s_law) (defScope s_law) .none kV11 dc11 pm11 an11 cd11 ct11), sl11⟩) (c11 : PySem.W.codeIn K cd11 "law" = true) (k11 : PySem.W.keepIn K (.ref f11) = true)
    (z_len : PySem.W.nsIn K mainGlobals "len" = some none)
    (z_isinstance : PySem.W.nsIn K mainGlobals "isinstance" = some none)
    (z_int : PySem.W.nsIn K mainGlobals "int" = some none)
    (z_bool : PySem.W.nsIn K mainGlobals "bool" = some none)
    (z_tuple : PySem.W.nsIn K mainGlobals "tuple" = some none)
    (z_range : PySem.W.nsIn K mainGlobals "range" = some none)
    (z_list : PySem.W.nsIn K mainGlobals "list" = some none)
    (z_sum : PySem.W.nsIn K mainGlobals "sum" = some none)
    (z_str : PySem.W.nsIn K mainGlobals "str" = some none)
    (z_enumerate : PySem.W.nsIn K mainGlobals "enumerate" = some none)
    (z_zip : PySem.W.nsIn K mainGlobals "zip" = some none)
    (z_min : PySem.W.nsIn K mainGlobals "min" = some none)
    (z_max : PySem.W.nsIn K mainGlobals "max" = some none)
    : ∃ fd : FuncData, (∀ (s : Shared) (v : Value), BindsTo s fd ⟨[v], []⟩ [("_law_script", v)]) ∧ ∀ base : Heap, K.In base → base.Ns mainGlobals mg → FnOk l.prog w K mg base CX0 4 fa fd ["_law_script"] (sp_law K) := by
  have e := hfa.symm.trans (PySem.W.mg_of X G a11)
  cases e
  have B : Bl mg := ⟨PySem.W.mg_none_of X G z_len, PySem.W.mg_none_of X G z_isinstance, PySem.W.mg_none_of X G z_int, PySem.W.mg_none_of X G z_bool, PySem.W.mg_none_of X G z_tuple, PySem.W.mg_none_of X G z_range, PySem.W.mg_none_of X G z_list, PySem.W.mg_none_of X G z_sum, PySem.W.mg_none_of X G z_str, PySem.W.mg_none_of X G z_enumerate, PySem.W.mg_none_of X G z_zip, PySem.W.mg_none_of X G z_min, PySem.W.mg_none_of X G z_max⟩
  refine ⟨PySem.W.fnOf "law" "law" (defArgs s_law) (defBody s_law) (defScope s_law) .none kV11 dc11 pm11 an11 cd11 ct11, fun s v => .of_eq rfl, fun base _ _ => ?_⟩
  have E_may_have_else := ok_may_have_else (P := l.prog) (w := w) (base := base) (fun_mk (st := s_may_have_else) l1 c1 k1) (PySem.W.mg_of X G a1) B 
  have E_close := ok_close (P := l.prog) (w := w) (base := base) (fun_mk (st := s_close) l2 c2 k2) (PySem.W.mg_of X G a2) B 
  have E__law_cell := ok__law_cell (P := l.prog) (w := w) (base := base) (fun_mk (st := s__law_cell) l3 c3 k3) (PySem.W.mg_of X G a3) B 
  have E__law_whole := ok__law_whole (P := l.prog) (w := w) (base := base) (fun_mk (st := s__law_whole) l4 c4 k4) (PySem.W.mg_of X G a4) B 
  have E__law_word := ok__law_word (P := l.prog) (w := w) (base := base) (fun_mk (st := s__law_word) l5 c5 k5) (PySem.W.mg_of X G a5) B 
  have E__law_question := ok__law_question (P := l.prog) (w := w) (base := base) (fun_mk (st := s__law_question) l6 c6 k6) (PySem.W.mg_of X G a6) B 
  have E__law_size := ok__law_size (P := l.prog) (w := w) (base := base) (fun_mk (st := s__law_size) l10 c10 k10) (PySem.W.mg_of X G a10) B 
  have E_partners := ok_partners (P := l.prog) (w := w) (base := base) (fun_mk (st := s_partners) l0 c0 k0) (PySem.W.mg_of X G a0) B E_may_have_else E_close
  have E__law_row := ok__law_row (P := l.prog) (w := w) (base := base) (fun_mk (st := s__law_row) l7 c7 k7) (PySem.W.mg_of X G a7) B E__law_question
  have E__law_program := ok__law_program (P := l.prog) (w := w) (base := base) (fun_mk (st := s__law_program) l8 c8 k8) (PySem.W.mg_of X G a8) B E__law_cell E__law_word E__law_row
  have E__law_good := ok__law_good (P := l.prog) (w := w) (base := base) (fun_mk (st := s__law_good) l9 c9 k9) (PySem.W.mg_of X G a9) B E_partners E__law_whole
  exact ok_law_fn (P := l.prog) (w := w) (base := base) (fun_mk (st := s_law) l11 c11 k11) (PySem.W.mg_of X G a11) B E__law_program E__law_size E__law_cell E__law_good
theorem walk {l : PySem.W.OpenLaw} {q : Program} {loose : List Str} {XP : (Str → Option Value) → Heap → Prop} {YP : World → Heap → Prop} {d : DefRec} {K : Params → PySem.W.Frag} (hn : l.most = some 63) (hdf : d.params.defaults = [])
    (hY : ∀ (w : World) (h : Heap), YP w h → (K w.params).In h)
    (F : ∀ (w : World) (mg : Str → Option Value) (fa : Addr) (h : Heap), (K w.params).In h → h.Ns mainGlobals mg → mg d.name = some (.ref fa) →
      ∃ fd : FuncData, (∀ (s : Shared) (u : Value), BindsTo s fd ⟨[u], []⟩ [("_law_script", u)]) ∧ ∀ base : Heap, (K w.params).In base → base.Ns mainGlobals mg → FnOk l.prog w (K w.params) mg base CX0 4 fa fd ["_law_script"] (sp_law (K w.params))) :
    PySem.W.WalkO q loose XP YP l.row.toRowW d [] (fun f vs => PySem.call f vs) :=
  L2.walk_of (n := 63) (k := 4) (x := "_law_script") (CX := fun _ => CX0) (sp := fun w => sp_law (K w.params)) hn (by decide) hdf ⟨rfl, by decide, by decide⟩ hY F (fun _ _ a ns hl _ hS => ⟨a, ns, rfl, hS, hl, fun _ => rfl⟩) fun _ _ _ _ _ z => z
end T
open PySem PySem.W PyProof.Rows
set_option maxRecDepth 100000 in
set_option maxHeartbeats 0 in
theorem PySem.Challenge.cw_eightsides_k34_partners_holds : PySem.Challenge.rw_eightsides_k34_partners.Holds := by
  w_on; o_law; k_head; (case hw => w_witness2)
  k_fill
  refine T.walk (l := PySem.Challenge.rw_eightsides_k34_partners) rfl rfl (fun w h Y => PySem.W.kIn_of Y) ?F
  case F =>
    intro w mg fa h KX G hmg
    refine' T.all_mk KX G hmg ?a0 ?l0 ?c0 ?k0 ?a1 ?l1 ?c1 ?k1 ?a2 ?l2 ?c2 ?k2 ?a3 ?l3 ?c3 ?k3 ?a4 ?l4 ?c4 ?k4 ?a5 ?l5 ?c5 ?k5 ?a6 ?l6 ?c6 ?k6 ?a7 ?l7 ?c7 ?k7 ?a8 ?l8 ?c8 ?k8 ?a9 ?l9 ?c9 ?k9 ?a10 ?l10 ?c10 ?k10 ?a11 ?l11 ?c11 ?k11 ?z_len ?z_isinstance ?z_int ?z_bool ?z_tuple ?z_range ?z_list ?z_sum ?z_str ?z_enumerate ?z_zip ?z_min ?z_max
    (case a0 => k_is); (case l0 => k_is); (case c0 => k_is); (case k0 => k_is)
    (case a1 => k_is); (case l1 => k_is); (case c1 => k_is); (case k1 => k_is)
    (case a2 => k_is); (case l2 => k_is); (case c2 => k_is); (case k2 => k_is)
    (case a3 => k_is); (case l3 => k_is); (case c3 => k_is); (case k3 => k_is)
    (case a4 => k_is); (case l4 => k_is); (case c4 => k_is); (case k4 => k_is)
    (case a5 => k_is); (case l5 => k_is); (case c5 => k_is); (case k5 => k_is)
    (case a6 => k_is); (case l6 => k_is); (case c6 => k_is); (case k6 => k_is)
    (case a7 => k_is); (case l7 => k_is); (case c7 => k_is); (case k7 => k_is)
    (case a8 => k_is); (case l8 => k_is); (case c8 => k_is); (case k8 => k_is)
    (case a9 => k_is); (case l9 => k_is); (case c9 => k_is); (case k9 => k_is)
    (case a10 => k_is); (case l10 => k_is); (case c10 => k_is); (case k10 => k_is)
    (case a11 => k_is); (case l11 => k_is); (case c11 => k_is); (case k11 => k_is)
    (case z_len => k_is); (case z_isinstance => k_is); (case z_int => k_is); (case z_bool => k_is); (case z_tuple => k_is); (case z_range => k_is); (case z_list => k_is); (case z_sum => k_is); (case z_str => k_is); (case z_enumerate => k_is); (case z_zip => k_is); (case z_min => k_is); (case z_max => k_is)
