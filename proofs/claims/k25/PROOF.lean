import PyProof.Rows.All
import Wide.All
import OpenK.AllK
import Wide.FinOn
import Lean
import PyProof.EqAt
import PyProof.EqKinds
import PyProof.TupleCall
import PyProof.NeData
import PyProof.Rows.SumAny
import PyProof.ListRange
import PyProof.Rows.Range3
import OpenK.KOwn
import KE.KTryMore
import PyProof.RulesAs
import PyProof.MinMaxWalk
import PyProof.WalkInts
import PyProof.Rows.CallKwBuiltin
import KE.KMinKey
import PyProof.Draws
import OpenK.KMake
import PySem.Challenge.RW_eightsides_k25_deeds_done
set_option Elab.async false
set_option linter.all false
set_option maxRecDepth 100000
/-! THE HAND LAYER, for ints, bools, texts, own classes, LISTS and tuples (index, slices, in, append, pop ..), calls, loops. Paste it whole ahead of your own text; what your proof does not reach may be deleted. -/
namespace L2
open PySem PySem.Spec PyProof.Rows

/-- a key: an int or a str -/
abbrev Key := Sum Int Str
def keyIs : Key → Value → Bool
  | .inl k, v => Value.isInt k v
  | .inr x, v => Value.isStrOf x v
def keyH (w : World) : Key → Int
  | .inl k => hashInt k
  | .inr x => hashStr w x
theorem keyIs_shape : ∀ {k : Key} {v : Value}, keyIs k v = true → (∃ i t, k = Sum.inl i ∧ v = Value.int i t) ∨ (∃ x t, k = Sum.inr x ∧ v = Value.str x t)
  | .inl i, v, h => by
    obtain ⟨t, e⟩ := Value.isInt_shape (k := i) (v := v) h
    exact .inl ⟨i, t, rfl, e⟩
  | .inr x, v, h => by
    obtain ⟨t, e⟩ := Value.isStrOf_shape (x := x) (v := v) h
    exact .inr ⟨x, t, rfl, e⟩
theorem key_ll (a b : Int) : decide ((Sum.inl a : Key) = Sum.inl b) = (a == b) := by
  by_cases e : a = b
  · subst e; simp
  · have h : ¬ (Sum.inl a : Key) = Sum.inl b := fun q => e (Sum.inl.inj q)
    rw [decide_eq_false h]
    exact (beq_eq_false_iff_ne.mpr e).symm
theorem key_rr (a b : Str) : decide ((Sum.inr a : Key) = Sum.inr b) = decide (a = b) := by
  by_cases e : a = b
  · subst e; simp
  · have h : ¬ (Sum.inr a : Key) = Sum.inr b := fun q => e (Sum.inr.inj q)
    rw [decide_eq_false h, decide_eq_false e]
theorem key_lr (a : Int) (b : Str) : decide ((Sum.inl a : Key) = Sum.inr b) = false := decide_eq_false (fun q => nomatch q)
theorem key_rl (a : Str) (b : Int) : decide ((Sum.inr a : Key) = Sum.inl b) = false := decide_eq_false (fun q => nomatch q)

def mixKind (prog : Program) (w : World) : PySem.KeyKind prog w Key where
  is := keyIs
  hash := keyH w
  inj := fun v a b ha hb => by
    rcases keyIs_shape ha with ⟨i, t, rfl, rfl⟩ | ⟨x, t, rfl, rfl⟩
    · rcases keyIs_shape hb with ⟨j, u, rfl, e⟩ | ⟨y, u, rfl, e⟩
      · injection e with e1 _; rw [e1]
      · exact nomatch e
    · rcases keyIs_shape hb with ⟨j, u, rfl, e⟩ | ⟨y, u, rfl, e⟩
      · exact nomatch e
      · injection e with e1 _; rw [e1]
  byValue := fun k v h => by
    rcases keyIs_shape h with ⟨i, t, rfl, rfl⟩ | ⟨x, t, rfl, rfl⟩ <;> rfl
  pyHash := fun hv h => by
    rcases keyIs_shape hv with ⟨i, t, rfl, rfl⟩ | ⟨x, t, rfl, rfl⟩
    · exact wpAny_pyHash_int h
    · exact wpAny_pyHash_str h
  eqBool := fun hu hv h => by
    rcases keyIs_shape hu with ⟨i, t, rfl, rfl⟩ | ⟨x, t, rfl, rfl⟩
    · rcases keyIs_shape hv with ⟨j, u, rfl, rfl⟩ | ⟨y, u, rfl, rfl⟩
      · rw [key_ll] at h; exact wpAny_eqBool_int h
      · rw [key_lr] at h; exact SeqAt.EqAt.int_str i t y u _ _ _ _ h
    · rcases keyIs_shape hv with ⟨j, u, rfl, rfl⟩ | ⟨y, u, rfl, rfl⟩
      · rw [key_rl] at h; exact SeqAt.EqAt.str_int x t j u _ _ _ _ h
      · rw [key_rr] at h; exact wpAny_eqBool_str h
  «strs» := fun k x t v h => by
    rcases keyIs_shape h with ⟨i, u, rfl, e⟩ | ⟨y, u, rfl, e⟩
    · exact nomatch e
    · injection e with e1 _
      subst e1
      cases v <;> rfl

end L2

namespace L2
open PySem PySem.Spec PyProof.Rows

/-- a value, without the heap -/
inductive V where
  | non | bl (b : Bool) | int (i : Int) | str (x : Str) | byt (b : Array UInt8) | flt (b : UInt64) | ref (a : Addr) | ty (n : String)
  deriving DecidableEq

def RelV : V → Value → Prop
  | .non, u => u = Value.none
  | .bl b, u => u = Value.bool b
  | .int i, u => ∃ t, u = Value.int i t
  | .str x, u => ∃ t, u = Value.str x t
  | .byt b, u => ∃ t, u = Value.bytes b t
  | .flt b, u => ∃ t, u = Value.float b t
  | .ref a, u => u = Value.ref a
  | .ty n, u => u = Value.type n

abbrev Vals : List V → List Value → Prop := Paired RelV
theorem Vals.length {xs : List V} {us : List Value} (r : Vals xs us) : xs.length = us.length := Paired.length r
theorem Vals.get : ∀ {xs : List V} {us : List Value} {i : Nat} {x : V}, Vals xs us → xs[i]? = some x → ∃ u, us[i]? = some u ∧ RelV x u
  | _, _, _, _, .nil, e => by simp at e
  | _, _, 0, _, .cons r _, e => by simp at e; subst e; exact ⟨_, rfl, r⟩
  | _, _, i + 1, x, .cons _ t, e => by
    obtain ⟨u, h1, h2⟩ := Vals.get (i := i) (x := x) t (by simpa using e)
    exact ⟨u, by simpa using h1, h2⟩
theorem Vals.append : ∀ {xs ys : List V} {us ws : List Value}, Vals xs us → Vals ys ws → Vals (xs ++ ys) (us ++ ws)
  | _, _, _, _, .nil, s => s
  | _, _, _, _, .cons r t, s => .cons r (Vals.append t s)
theorem Vals.take : ∀ {xs : List V} {us : List Value} (n : Nat), Vals xs us → Vals (xs.take n) (us.take n)
  | _, _, 0, _ => .nil
  | _, _, _ + 1, .nil => .nil
  | _, _, n + 1, .cons r t => .cons r (Vals.take n t)
theorem Vals.drop : ∀ {xs : List V} {us : List Value} (n : Nat), Vals xs us → Vals (xs.drop n) (us.drop n)
  | _, _, 0, r => r
  | _, _, _ + 1, .nil => .nil
  | _, _, n + 1, .cons _ t => Vals.drop n t

def RelO : Option V → Option Value → Prop
  | some v, some u => RelV v u
  | none, none => True
  | _, _ => False
def KV {κ : Type} : List (κ × V) → List (κ × Value) → Prop := Paired fun (p : κ × V) (q : κ × Value) => p.1 = q.1 ∧ RelV p.2 q.2

/-- a key of a dict (00_mix): an int or a text -/
def kV : Key → V
  | .inl i => .int i
  | .inr x => .str x

/-- what stands at a tracked address -/
inductive HO where
  /-- a list -/
  | lst (xs : List V)
  /-- a tuple (never changes) -/
  | tup (xs : List V)
  /-- a dict whose keys are ints and texts; one whose keys are tuples of ints and texts (the empty one is both) -/
  | dK (kvs : List (Key × V)) | dT (kvs : List (List Key × V))
  /-- a set of ints: its members, its size -/
  | set (S : Int → Bool) (n : Nat)
  /-- an instance of the class at C, its dict at dx, its attributes -/
  | ins (C dx : Addr) (fs : List (Str × V))
  /-- the dict of the instance at x -/
  | own (x : Addr)
  /-- the dict of an exception -/
  | xd (fs : List (Str × V))
  /-- a bound method, f of x -/
  | met (f x : Addr)
  /-- a range object lo, lo + 1, .. below hi -/
  | rng (lo hi : Int)
  /-- a thing that is known to the object (the script; a dict while a loop walks it): read, never written while it is so -/
  | frz (o : Obj) (u : HO)
  /-- a code object's table -/
  | tbl (ps : Array Value)
  /-- any other thing, by what is true of its one object (a def of one's own: SetO a S n := HO.ext fun h => ..) -/
  | ext (φ : Heap → Prop)

abbrev Hp := Addr → Option HO
def upd (H : Hp) (a : Addr) (o : HO) : Hp := fun b => if b = a then some o else H b
theorem upd_same {H : Hp} {a : Addr} {o : HO} : upd H a o a = some o := by unfold upd; rw [if_pos rfl]
theorem upd_ne {H : Hp} {a b : Addr} {o : HO} (h : b ≠ a) : upd H a o b = H b := by unfold upd; rw [if_neg h]
/-- two objects of different content stand apart -/
theorem ne_of {H : Hp} {a b : Addr} {o u : HO} (h : H a = some o) (h' : H b = some u) (d : o ≠ u) : a ≠ b := by
  intro e; subst e; rw [h] at h'; exact d (Option.some.inj h')
theorem ne_of_none {H : Hp} {a b : Addr} {o : HO} (h : H a = some o) (h' : H b = none) : a ≠ b := by
  intro e; subst e; rw [h] at h'; cases h'

section
variable (P : Program) (w : World)
def ObjOk (H : Hp) (h : Heap) (a : Addr) : HO → Prop
  | .lst xs => xs.length ≤ sizeLine ∧ ∃ (its : List Value) (n : Nat), Vals xs its ∧ h.get? a = some { cls := .type "list", data := .seq its.toArray n }
  | .tup xs => xs.length ≤ sizeLine ∧ ∃ its : List Value, Vals xs its ∧ IsTup h a its.toArray
  | .dK kvs => kvs.length ≤ sizeLine ∧ (a == sysModules) = false ∧ ∃ vs, KV kvs vs ∧ h.DictOf (mixKind P w) a vs
  | .dT kvs => kvs.length ≤ sizeLine ∧ (a == sysModules) = false ∧ ∃ xs : List (List Key × Addr × Value),
      Paired (fun (p : List Key × V) (q : List Key × Addr × Value) => p.1 = q.1 ∧ H q.2.1 = some (.tup (p.1.map kV)) ∧ RelV p.2 q.2.2) kvs xs ∧
      ∃ o es ep, h.get? a = some o ∧ o.ExactDict ∧ o.data = .dict es ep ∧ es.toList = xs.map (entryOfKey (tupleKind (mixKind P w))) ∧ (xs.map (·.1)).Nodup
  | .set S n => h.SetOf (intKind P w) a S n
  | .ins C dx fs => H dx = some (.own a) ∧ fs.length ≤ 1000 ∧ dx ≠ a ∧ h.get? a = some (PySem.W.instObj C dx) ∧
      ∃ mA, h.Ns1 dx mA ∧ (∀ f, RelO (fs.lookup f) (mA f)) ∧ PySem.Within mA (fs.map (·.1))
  | .own _ => ∃ o, h.get? a = some o
  | .xd fs => ∃ mA, h.Ns1 a mA ∧ ∀ f, RelO (fs.lookup f) (mA f)
  | .rng lo hi => ∃ t u v, h.get? a = some { cls := .type "range", data := .fields #[.int lo t, .int hi u, .int 1 v] }
  | .frz o u => h.get? a = some o ∧ ObjOk H h a u
  | .tbl ps => h.get? a = some { cls := .none, data := .fields ps }
  | .met f x => h.get? a = some (PySem.W.methodObj (.ref f) (.ref x))
  | .ext φ => φ h ∧ (∃ o, h.get? a = some o) ∧ ∀ h1 h2 : Heap, φ h1 → (∀ o, h1.get? a = some o → h2.get? a = some o) → φ h2
/-- the abstract heap is held -/
def HOk (H : Hp) (h : Heap) : Prop := ∀ a o, H a = some o → ObjOk P w H h a o
end

section
variable {P : Program} {w : World} {H H' : Hp} {h h' : Heap} {a : Addr} {o : HO}
theorem ObjOk.lt (x : ObjOk P w H h a o) : a < h.objs.size := by
  cases o with
  | lst xs => obtain ⟨_, _, _, _, e⟩ := x; exact Heap.lt_size e
  | tup xs => obtain ⟨_, _, _, p⟩ := x; exact p.lt
  | dK kvs => obtain ⟨_, _, _, _, o, _, _, e, _⟩ := x; exact Heap.lt_size e
  | dT kvs => obtain ⟨_, _, _, _, o, _, _, e, _⟩ := x; exact Heap.lt_size e
  | set S n => obtain ⟨o, _, _, _, e, _⟩ := x; exact Heap.lt_size e
  | ins C dx fs => obtain ⟨_, _, _, e, _⟩ := x; exact Heap.lt_size e
  | own y => obtain ⟨_, e⟩ := x; exact Heap.lt_size e
  | xd fs => obtain ⟨_, ⟨_, _, _, e, _⟩, _⟩ := x; exact Heap.lt_size e
  | rng lo hi => obtain ⟨_, _, _, e⟩ := x; exact Heap.lt_size e
  | frz ob u => obtain ⟨e, _⟩ := x; exact Heap.lt_size e
  | tbl ps => exact Heap.lt_size (show h.get? a = some _ from x)
  | met f y => exact Heap.lt_size (show h.get? a = some _ from x)
  | ext φ => obtain ⟨_, ⟨_, e⟩, _⟩ := x; exact Heap.lt_size e
theorem Paired.mapP {α β : Type} {F G : α → β → Prop} : ∀ {l₁ : List α} {l₂ : List β}, Paired F l₁ l₂ → (∀ a b, F a b → G a b) → Paired G l₁ l₂
  | _, _, .nil, _ => .nil
  | _, _, .cons r t, f => .cons (f _ _ r) (Paired.mapP t f)
/-- what an object's description leans on: its own object, its own dict, the tuples -/
theorem ObjOk.stay (x : ObjOk P w H h a o) (k : ∀ b u, (b = a ∨ H b = some (.own a)) → h.get? b = some u → h'.get? b = some u)
    (ho : ∀ b, H b = some (.own a) → H' b = some (.own a)) (ht : ∀ b xs, H b = some (.tup xs) → H' b = some (.tup xs)) : ObjOk P w H' h' a o := by
  induction o with
  | lst xs => obtain ⟨z, its, n, r, e⟩ := x; exact ⟨z, its, n, r, k _ _ (.inl rfl) e⟩
  | tup xs => obtain ⟨z, its, r, ob, e, c⟩ := x; exact ⟨z, its, r, ob, k _ _ (.inl rfl) e, c⟩
  | dK kvs => obtain ⟨z, y, vs, r, ob, es, ep, e, c⟩ := x; exact ⟨z, y, vs, r, ob, es, ep, k _ _ (.inl rfl) e, c⟩
  | dT kvs =>
    obtain ⟨z, y, xs, r, ob, es, ep, e, c⟩ := x
    exact ⟨z, y, xs, Paired.mapP r fun p q z => ⟨z.1, ht _ _ z.2.1, z.2.2⟩, ob, es, ep, k _ _ (.inl rfl) e, c⟩
  | set S n => obtain ⟨ob, es, ep, t, e, c⟩ := x; exact ⟨ob, es, ep, t, k _ _ (.inl rfl) e, c⟩
  | ins C dx fs =>
    obtain ⟨d, z, ne, e, mA, ⟨od, es, ep, e2, c⟩, r⟩ := x
    exact ⟨ho _ d, z, ne, k _ _ (.inl rfl) e, mA, ⟨od, es, ep, k _ _ (.inr d) e2, c⟩, r⟩
  | own y => obtain ⟨ob, e⟩ := x; exact ⟨ob, k _ _ (.inl rfl) e⟩
  | xd fs => obtain ⟨mA, ⟨od, es, ep, e, c⟩, r⟩ := x; exact ⟨mA, ⟨od, es, ep, k _ _ (.inl rfl) e, c⟩, r⟩
  | rng lo hi => obtain ⟨t, u, v, e⟩ := x; exact ⟨t, u, v, k _ _ (.inl rfl) e⟩
  | frz ob u ih => obtain ⟨e, q⟩ := x; exact ⟨k _ _ (.inl rfl) e, ih q⟩
  | tbl ps =>
    have e : h.get? a = some { cls := .none, data := .fields ps } := x
    show h'.get? a = some { cls := .none, data := .fields ps }
    exact k a _ (.inl rfl) e
  | met f y =>
    have e : h.get? a = some (PySem.W.methodObj (.ref f) (.ref y)) := x
    show h'.get? a = some (PySem.W.methodObj (.ref f) (.ref y))
    exact k a _ (.inl rfl) e
  | ext φ => obtain ⟨p, ⟨o, e⟩, st⟩ := x; exact ⟨st _ _ p fun o q => k _ _ (.inl rfl) q, ⟨o, k _ _ (.inl rfl) e⟩, st⟩
theorem HOk.lt (x : HOk P w H h) (e : H a = some o) : a < h.objs.size := (x a o e).lt
theorem HOk.fresh (x : HOk P w H h) (e : h.objs.size ≤ a) : H a = none := by
  cases q : H a with
  | none => rfl
  | some u => exact absurd (Nat.lt_of_lt_of_le (x.lt q) e) (Nat.lt_irrefl _)
/-- every object of the heap is kept -/
theorem HOk.kept (x : HOk P w H h) (k : ∀ b u, h.get? b = some u → h'.get? b = some u) : HOk P w H h' := fun a o e =>
  (x a o e).stay (fun b u _ q => k b u q) (fun _ q => q) fun _ _ q => q
/-- a new object is laid and tracked -/
theorem HOk.laid (x : HOk P w H h) (k : ∀ b u, h.get? b = some u → h'.get? b = some u) (hp : h.objs.size ≤ a) (new : ObjOk P w (upd H a o) h' a o) : HOk P w (upd H a o) h' := fun b u e => by
  have hn := x.fresh hp
  by_cases hb : b = a
  · subst hb; rw [upd_same] at e; cases e; exact new
  · rw [upd_ne hb] at e
    exact (x b u e).stay (fun c v _ q => k c v q) (fun c q => by rw [upd_ne (ne_of_none q hn)]; exact q) fun c xs q => by rw [upd_ne (ne_of_none q hn)]; exact q
end

/-- what may be read as u: it is u, or a known u -/
def Rd (H : Hp) (a : Addr) (u : HO) : Prop := H a = some u ∨ ∃ o, H a = some (.frz o u)
theorem Rd.ok {P : Program} {w : World} {H : Hp} {h : Heap} {a : Addr} {u : HO} (r : Rd H a u) (x : HOk P w H h) : ObjOk P w H h a u := by
  rcases r with r | ⟨o, r⟩
  · exact x a u r
  · obtain ⟨_, q⟩ := x a _ r
    exact q
/-- what may be written -/
def Mut : Option HO → Prop
  | some (.lst _) => True
  | some (.dK _) => True
  | some (.dT _) => True
  | some (.set _ _) => True
  | some (.ins _ _ _) => True
  | some (.ext _) => True
  | _ => False
section
variable {P : Program} {w : World} {H : Hp} {h h' : Heap} {x e : Addr} {o' : HO}
/-- the object at e is changed: x itself, or the dict of the instance x -/
theorem HOk.write (ok : HOk P w H h) (mu : Mut (H x)) (he : e = x ∨ H e = some (.own x)) (k : ∀ b u, b ≠ e → h.get? b = some u → h'.get? b = some u) (heo : ∃ u, h'.get? e = some u)
    (new : ObjOk P w (upd H x o') h' x o') : HOk P w (upd H x o') h' := fun b u q => by
  have nown : ∀ c y, H c = some (.own y) → c ≠ x := fun c y r z => by subst z; rw [r] at mu; exact mu
  have ntup : ∀ c xs, H c = some (.tup xs) → c ≠ x := fun c xs r z => by subst z; rw [r] at mu; exact mu
  by_cases hb : b = x
  · subst hb; rw [upd_same] at q; cases q; exact new
  · rw [upd_ne hb] at q
    by_cases hbe : b = e
    · have q' : H b = some (.own x) := by
        rcases he with z | z
        · exact absurd (hbe.trans z) hb
        · rw [hbe]; exact z
      rw [q] at q'; cases q'
      obtain ⟨v, hv⟩ := heo
      exact ⟨v, by rw [hbe]; exact hv⟩
    · refine (ok b u q).stay (fun c v hc r => k c v ?_ r) (fun c r => by rw [upd_ne (nown c b r)]; exact r) fun c xs r => by rw [upd_ne (ntup c xs r)]; exact r
      rcases hc with rfl | hc
      · exact hbe
      · rintro rfl
        rcases he with z | z
        · exact nown c b hc z
        · rw [hc] at z; cases z; exact hb rfl
end

/-! ### kept unless tracked; of the frames at fs (the callers') the slots may change (an exception that passes writes there); of the records at ex (iterators) nothing is said -/
structure Un (fs ex : List Addr) (H H' : Hp) (h h' : Heap) : Prop where
  keep : ∀ b o, h.get? b = some o → H b = none → b ∉ fs → b ∉ ex → h'.get? b = some o
  slot : ∀ b o, h.get? b = some o → H b = none → b ∈ fs → b ∉ ex → ∃ sl, h'.get? b = some { o with slots := sl }
  free : ∀ b o, h.get? b = some o → H b = none → b ∉ ex → H' b = none
  there : ∀ b o, h.get? b = some o → b ∉ ex → ∃ o', h'.get? b = some o'
  tups : ∀ b xs, H b = some (.tup xs) → H' b = some (.tup xs)
  frzs : ∀ b o u, H b = some (.frz o u) → H' b = some (.frz o u)
  tbls : ∀ b ps, H b = some (.tbl ps) → ∃ more, H' b = some (.tbl (ps ++ more))
section
variable {fs fs' ex ex' : List Addr} {H H1 H2 : Hp} {h h1 h2 h' : Heap} {a x e : Addr} {o : HO}
theorem Un.any (u : Un fs ex H H1 h h1) {b : Addr} {ob : Obj} (q : h.get? b = some ob) (n : H b = none) (hx : b ∉ ex) : ∃ sl, h1.get? b = some { ob with slots := sl } := by
  by_cases hb : b ∈ fs
  · exact u.slot b ob q n hb hx
  · exact ⟨ob.slots, u.keep b ob q n hb hx⟩
theorem Un.trans (a : Un fs ex H H1 h h1) (b : Un fs ex H1 H2 h1 h2) : Un fs ex H H2 h h2 where
  keep := fun c ob q n hc hx => b.keep c ob (a.keep c ob q n hc hx) (a.free c ob q n hx) hc hx
  slot := fun c ob q n hc hx => by
    obtain ⟨sl, e1⟩ := a.slot c ob q n hc hx
    obtain ⟨sl', e2⟩ := b.slot c _ e1 (a.free c ob q n hx) hc hx
    exact ⟨sl', e2⟩
  free := fun c ob q n hx => by
    obtain ⟨o', e1⟩ := a.there c ob q hx
    exact b.free c o' e1 (a.free c ob q n hx) hx
  there := fun c ob q hx => by
    obtain ⟨o', e1⟩ := a.there c ob q hx
    exact b.there c o' e1 hx
  tups := fun c xs q => b.tups c xs (a.tups c xs q)
  frzs := fun c ob xs q => b.frzs c ob xs (a.frzs c ob xs q)
  tbls := fun c ps q => by
    obtain ⟨m1, e1⟩ := a.tbls c ps q
    obtain ⟨m2, e2⟩ := b.tbls c _ e1
    exact ⟨m1 ++ m2, by rw [e2, Array.append_assoc]⟩
theorem Un.kept (k : ∀ b u, h.get? b = some u → h'.get? b = some u) : Un fs ex H H h h' :=
  ⟨fun b ob q _ _ _ => k b ob q, fun b ob q _ _ _ => ⟨ob.slots, k b ob q⟩, fun _ _ _ n _ => n, fun b ob q _ => ⟨ob, k b ob q⟩, fun _ _ q => q, fun _ _ _ q => q, fun _ ps q => ⟨#[], by rw [q]; simp⟩⟩
theorem Un.refl : Un fs ex H H h h := Un.kept fun _ _ q => q
theorem Un.laid (k : ∀ b u, h.get? b = some u → h'.get? b = some u) (hp : h.objs.size ≤ a) (hn : H a = none) : Un fs ex H (upd H a o) h h' where
  keep := fun b u q _ _ _ => k b u q
  slot := fun b u q _ _ _ => ⟨u.slots, k b u q⟩
  free := fun b u q n _ => by rw [upd_ne (Nat.ne_of_lt (Nat.lt_of_lt_of_le (Heap.lt_size q) hp))]; exact n
  there := fun b u q _ => ⟨u, k b u q⟩
  tups := fun b xs q => by rw [upd_ne (ne_of_none q hn)]; exact q
  frzs := fun b u xs q => by rw [upd_ne (ne_of_none q hn)]; exact q
  tbls := fun b ps q => ⟨#[], by rw [upd_ne (ne_of_none q hn), q]; simp⟩
theorem Un.write (mu : Mut (H x)) (he : e = x ∨ H e = some (.own x)) (k : ∀ b u, b ≠ e → h.get? b = some u → h'.get? b = some u) (heo : ∃ u, h'.get? e = some u) : Un fs ex H (upd H x o) h h' := by
  have hx : ∀ b, H b = none → b ≠ x := fun b n z => by subst z; rw [n] at mu; exact mu
  have hb : ∀ b, H b = none → b ≠ e := fun b n z => by
    subst z
    rcases he with r | r
    · exact hx b n r
    · rw [n] at r; cases r
  have hm : ∀ b u, H b = some u → ¬ Mut (some u) → b ≠ x := fun b u q nm z => by subst z; rw [q] at mu; exact nm mu
  refine ⟨fun b u q n _ _ => k b u (hb b n) q, fun b u q n _ _ => ⟨u.slots, k b u (hb b n) q⟩, fun b u q n _ => by rw [upd_ne (hx b n)]; exact n, fun b u q _ => ?_,
    fun b xs q => by rw [upd_ne (hm b _ q fun z => z)]; exact q, fun b u xs q => by rw [upd_ne (hm b _ q fun z => z)]; exact q, fun b ps q => ⟨#[], by rw [upd_ne (hm b _ q fun z => z), q]; simp⟩⟩
  by_cases hbe : b = e
  · subst hbe; exact heo
  · exact ⟨u, k b u hbe q⟩
end

/-! ### the heap without what is tracked -/
def trk (h : Heap) (H : Hp) : List Addr := (List.range h.objs.size).filter fun a => (H a).isSome
def hidT (h : Heap) (H : Hp) : Heap := PySem.W.hideAll h (trk h H)
theorem hidT_size (h : Heap) (H : Hp) : (hidT h H).objs.size = h.objs.size := PySem.W.hideAll_size _ _
theorem hidT_get {h : Heap} {H : Hp} {b : Addr} {o : Obj} (e : h.get? b = some o) (n : H b = none) : (hidT h H).get? b = some o :=
  PySem.W.hideAll_get _ e fun hm => by
    have q : (H b).isSome = true := (List.mem_filter.mp hm).2
    rw [n] at q; simp at q
theorem of_hidT {h : Heap} {H : Hp} {b : Addr} {o : Obj} (e : (hidT h H).get? b = some o) : h.get? b = some o ∧ H b = none := by
  have e' : h.get? b = some o := PySem.W.of_hideAll (trk h H) e
  refine ⟨e', ?_⟩
  cases q : H b with
  | none => rfl
  | some x =>
    have hm : b ∈ trk h H := List.mem_filter.mpr ⟨List.mem_range.mpr (Heap.lt_size e'), by simp [q]⟩
    have z : (hidT h H).get? b = none := PySem.W.hideAll_none (trk h H) hm
    rw [z] at e; cases e

/-! ### OpenK's ledger, filled with every new object but one -/
end L2

namespace L2
open PySem PySem.Spec PyProof.Rows

/-- the module's facts, over the base: the heap at the law's entry without what is tracked there -/
structure Mod (K : PySem.W.Frag) (mg : Str → Option Value) (base : Heap) : Prop where
  kin : K.In base
  glob : base.Ns mainGlobals mg
  blt : ∃ mb, base.Ns builtinsNs mb ∧ ∀ x : Str, x ≠ "__name__" → mb x = bootBuiltins x
  nolimit : base.NoLimit

/-- the context: a def's body (or a comprehension's block) running. base: fixed through the whole law; s₀, H₀: the entry; outer: the frames whose slots others may change (a def's callers); stack: all frames that run;
   ex: iterators that were made ahead of the entry and are walked here (a comprehension's); fn: the names whose cells were made at the entry (a def: all; a comprehension's block: its own); calm: not within an except suite; pn: pins that every state bears; xe: what is wanted of an exception that leaves the code -/
structure Cx where
  prog : Program
  w : World
  K : PySem.W.Frag
  mg : Str → Option Value
  base : Heap
  A : Around
  N : List Str
  s₀ : Shared
  H₀ : Hp
  env : Env
  outer : List Env
  stack : List Env
  ex : List Addr
  fn : Str → Bool
  calm : Bool
  pn : List (Addr × Obj)
  xe : Value → Shared → Prop
/-- the callers' frames -/
def frs (l : List Env) : List Addr := l.filterMap (·.frame)
abbrev Cx.fs (X : Cx) : List Addr := frs X.outer

def Vis (sc : Scope) (x : Str) : Prop := sc.names.lookup x = some .local ∨ sc.names.lookup x = some .cell ∨ sc.names.lookup x = some .free
def Loc (sc : Scope) (x : Str) : Prop := sc.names.lookup x = some .local ∨ sc.names.lookup x = some .cell
def Look (env : Env) (h : Heap) (m : Str → Option Value) (x : Str) (u : Value) : Prop :=
  (env.kindOf x = some .local ∧ m x = some u) ∨ ((env.kindOf x = some .cell ∨ env.kindOf x = some .free) ∧ ∃ c, env.cells.lookup x = some c ∧ h.IsCell c (some u))

structure Cx.Ok (X : Cx) : Prop where
  mod : Mod X.K X.mg X.base
  kind : X.env.scope.kind = .function
  glob : X.env.globals = mainGlobals
  blt : X.env.builtins = builtinsNs
  above : X.s₀.heap.objs.size ≤ X.env.locals
  inj : ∀ x y c, X.env.cells.lookup x = some c → X.env.cells.lookup y = some c → x = y
  has : ∀ x, (X.env.kindOf x = some .cell ∨ X.env.kindOf x = some .free) → ∃ c, X.env.cells.lookup x = some c
  cab : ∀ x c, X.fn x = true → X.env.cells.lookup x = some c → X.s₀.heap.objs.size ≤ c
  hd : X.calm = true → X.A.handled = none
  frames : X.A.frames = some X.stack
  stk : X.stack = X.outer ∨ (X.stack = X.env :: X.outer ∧ X.env.frame = some X.env.locals)
  exf : ∀ b ∈ X.ex, b ≠ X.env.locals ∧ ∀ x c, X.env.cells.lookup x = some c → c ≠ b
  bs : ∀ b o, X.base.get? b = some o → X.s₀.heap.get? b = some o ∧ X.H₀ b = none
  bsz : X.base.objs.size ≤ X.s₀.heap.objs.size
  noex : ∀ b o, X.base.get? b = some o → b ∉ X.ex
  exfs : ∀ b ∈ X.ex, b ∉ X.fs
  funs : X.s₀.heap.FunFrames X.base X.outer
  frf : ∀ b ∈ X.fs, X.H₀ b = none

structure Inv (X : Cx) (pins : List (Addr × Obj)) (σ : List (Option V)) (H : Hp) (s : Shared) : Prop where
  ok : X.Ok
  os : s.os = X.s₀.os
  bare : AllBare s.gens
  base : Un X.fs X.ex X.H₀ H X.s₀.heap s.heap
  loc : ∃ m, s.heap.Ns X.env.locals m ∧ ∀ (i : Nat) (x : Str) (v : V), X.N[i]? = some x → σ[i]? = some (some v) → Vis X.env.scope x → ∃ u, RelV v u ∧ Look X.env s.heap m x u
  cell : ∀ x c, X.env.cells.lookup x = some c → ∃ v, s.heap.IsCell c v
  free : H X.env.locals = none
  freeC : ∀ x c, X.env.cells.lookup x = some c → H c = none
  pin : ∀ p ∈ X.pn ++ pins, s.heap.get? p.1 = some p.2 ∧ H p.1 = none ∧ p.1 ≠ X.env.locals ∧ p.1 ∉ X.fs ∧ ∀ v, p.2.data ≠ .cell v
  hok : HOk X.prog X.w H s.heap
  len : σ.length = X.N.length

section
variable {X : Cx} {pins : List (Addr × Obj)} {σ : List (Option V)} {H H' : Hp} {s : Shared} {h' : Heap}

theorem Cx.Ok.nofr (ok : X.Ok) {b : Addr} {o : Obj} (e : X.base.get? b = some o) : b ∉ X.fs := fun hb => by
  have := (ok.funs.mem hb).1
  rw [e] at this; cases this
theorem Inv.bs (I : Inv X pins σ H s) : ∀ b o, X.base.get? b = some o → s.heap.get? b = some o ∧ H b = none := fun b o e =>
  ⟨I.base.keep b o (I.ok.bs b o e).1 (I.ok.bs b o e).2 (I.ok.nofr e) (I.ok.noex b o e), I.base.free b o (I.ok.bs b o e).1 (I.ok.bs b o e).2 (I.ok.noex b o e)⟩
theorem Inv.bk (I : Inv X pins σ H s) : ∀ b o, X.base.get? b = some o → s.heap.get? b = some o := fun b o e => (I.bs b o e).1
theorem Inv.mod (I : Inv X pins σ H s) : Mod X.K X.mg X.base := I.ok.mod
theorem Inv.kIn (I : Inv X pins σ H s) : X.K.In s.heap := I.ok.mod.kin.keeps I.bk
theorem Inv.lt (I : Inv X pins σ H s) : X.env.locals < s.heap.objs.size := let ⟨_, hn, _⟩ := I.loc; hn.lt
theorem Inv.sz (I : Inv X pins σ H s) : X.s₀.heap.objs.size ≤ s.heap.objs.size := Nat.le_trans I.ok.above (Nat.le_of_lt I.lt)
theorem Inv.nofs (I : Inv X pins σ H s) {a : Addr} (h : s.heap.objs.size ≤ a) : a ∉ X.fs := fun hb => by
  obtain ⟨_, o, ho, _⟩ := I.ok.funs.mem hb
  exact absurd (Nat.lt_of_lt_of_le (Heap.lt_size ho) (Nat.le_trans I.sz h)) (Nat.lt_irrefl _)
theorem Inv.cne (I : Inv X pins σ H s) : ∀ x c, X.env.cells.lookup x = some c → c ≠ X.env.locals := fun x c e z => by
  obtain ⟨v, o, ho, hd⟩ := I.cell x c e
  obtain ⟨m, ⟨o', es, ep, ho', hd', _⟩, _⟩ := I.loc
  rw [z, ho'] at ho; cases ho; rw [hd'] at hd; cases hd
theorem Inv.funs (I : Inv X pins σ H s) : s.heap.FunFrames X.base X.outer := by
  have all : ∀ (l : List Env), (∀ b ∈ frs l, b ∈ X.fs) → X.s₀.heap.FunFrames X.base l → s.heap.FunFrames X.base l := by
    intro l
    induction l with
    | nil => intro _ _; trivial
    | cons env r ih =>
      intro hs hl
      obtain ⟨hk, ⟨L, o, hf, hn, ho, hd⟩, hr⟩ := hl
      have hL : L ∈ X.fs := hs L (by unfold frs; rw [List.filterMap_cons, hf]; exact List.mem_cons_self)
      obtain ⟨sl, e⟩ := I.base.slot L o ho (I.ok.frf L hL) hL fun z => I.ok.exfs L z hL
      exact ⟨hk, ⟨L, _, hf, hn, e, hd⟩, ih (fun b hb => hs b (by unfold frs; rw [List.filterMap_cons, hf]; exact List.mem_cons_of_mem _ hb)) hr⟩
  exact all X.outer (fun _ hb => hb) I.ok.funs

/-- the frames that run, for a call -/
theorem Inv.stack (I : Inv X pins σ H s) : s.heap.FunFrames X.base X.stack := by
  rcases I.ok.stk with e | ⟨e, hf⟩
  · rw [e]; exact I.funs
  · rw [e]
    obtain ⟨m, hn, _⟩ := I.loc
    refine .cons (by rw [I.ok.kind]; decide) hf hn ?_ I.funs
    exact Heap.get?_none_of_le (Nat.le_trans I.ok.bsz I.ok.above)
theorem Inv.stkSub (I : Inv X pins σ H s) : ∀ b ∈ frs X.stack, b ∈ X.env.locals :: X.fs := fun b hb => by
  rcases I.ok.stk with e | ⟨e, hf⟩
  · rw [e] at hb; exact List.mem_cons_of_mem _ hb
  · rw [e] at hb
    unfold frs at hb
    rw [List.filterMap_cons, hf] at hb
    exact hb
theorem Inv.stkFree (I : Inv X pins σ H s) : ∀ b ∈ frs X.stack, H b = none := fun b hb => by
  rcases List.mem_cons.mp (I.stkSub b hb) with e | hb
  · rw [e]; exact I.free
  · obtain ⟨_, o, ho, _⟩ := I.ok.funs.mem hb
    exact I.base.free b o ho (I.ok.frf b hb) fun z => I.ok.exfs b z hb

/-- THE STEP: the untracked objects but the frame and the records at ch are kept (the callers' frames up to slots), the frame's map is kept, the new abstract heap is held -/
theorem Inv.step {g' : Array GenState} {t' : Nat} {d' : Drawn} {ch : List Addr} (I : Inv X pins σ H s)
    (hch : ∀ b ∈ ch, (b ∈ X.ex ∨ X.s₀.heap.objs.size ≤ b) ∧ b ≠ X.env.locals ∧ (∀ x c, X.env.cells.lookup x = some c → c ≠ b) ∧ ∀ p ∈ X.pn ++ pins, p.1 ≠ b)
    (keep : ∀ b o, b ≠ X.env.locals → b ∉ X.fs → b ∉ ch → s.heap.get? b = some o → H b = none → h'.get? b = some o)
    (slot : ∀ b o, b ≠ X.env.locals → b ∈ X.fs → b ∉ ch → s.heap.get? b = some o → H b = none → ∃ sl, h'.get? b = some { o with slots := sl }) (free : ∀ b o, b ∉ ch → s.heap.get? b = some o → H b = none → H' b = none)
    (there : ∀ b o, b ∉ ch → s.heap.get? b = some o → ∃ o', h'.get? b = some o')
    (tups : ∀ b xs, H b = some (.tup xs) → H' b = some (.tup xs)) (frzs : ∀ b o u, H b = some (.frz o u) → H' b = some (.frz o u)) (tbls : ∀ b ps, H b = some (.tbl ps) → ∃ more, H' b = some (.tbl (ps ++ more)))
    (ns : ∀ m, s.heap.Ns X.env.locals m → h'.Ns X.env.locals m) (hok : HOk X.prog X.w H' h') (hg : AllBare g') :
    Inv X pins σ H' { s with heap := h', gens := g', drawn := d', toks := t' } := by
  have neL : ∀ b o, X.s₀.heap.get? b = some o → b ≠ X.env.locals := fun b o e => Nat.ne_of_lt (Nat.lt_of_lt_of_le (Heap.lt_size e) I.ok.above)
  have neC : ∀ b o, X.s₀.heap.get? b = some o → b ∉ X.ex → b ∉ ch := fun b o e hx hb => by
    rcases (hch b hb).1 with z | z
    · exact hx z
    · exact absurd (Nat.lt_of_lt_of_le (Heap.lt_size e) z) (Nat.lt_irrefl _)
  have cellK : ∀ x c, X.env.cells.lookup x = some c → ∀ v, s.heap.IsCell c v → h'.IsCell c v := fun x c e v ⟨o, ho, hd⟩ => by
    have nch : c ∉ ch := fun z => (hch c z).2.2.1 x c e rfl
    by_cases hc : c ∈ X.fs
    · obtain ⟨sl, q⟩ := slot c o (I.cne x c e) hc nch ho (I.freeC x c e)
      exact ⟨_, q, hd⟩
    · exact ⟨o, keep c o (I.cne x c e) hc nch ho (I.freeC x c e), hd⟩
  refine ⟨I.ok, I.os, hg, ⟨fun b o e n hb hx => ?_, fun b o e n hb hx => ?_, fun b o e n hx => ?_, fun b o e hx => ?_, fun b xs e => tups b xs (I.base.tups b xs e), fun b o xs e => frzs b o xs (I.base.frzs b o xs e), fun b ps e => ?_⟩, ?_, fun x c e => ?_, ?_, fun x c e => ?_, fun p hp => ?_, hok, I.len⟩
  · exact keep b o (neL b o e) hb (neC b o e hx) (I.base.keep b o e n hb hx) (I.base.free b o e n hx)
  · obtain ⟨sl, e1⟩ := I.base.slot b o e n hb hx
    obtain ⟨sl', e2⟩ := slot b _ (neL b o e) hb (neC b o e hx) e1 (I.base.free b o e n hx)
    exact ⟨sl', e2⟩
  · obtain ⟨o', e1⟩ := I.base.there b o e hx
    exact free b o' (neC b o e hx) e1 (I.base.free b o e n hx)
  · obtain ⟨o', e1⟩ := I.base.there b o e hx
    exact there b o' (neC b o e hx) e1
  · obtain ⟨m1, e1⟩ := I.base.tbls b ps e
    obtain ⟨m2, e2⟩ := tbls b _ e1
    exact ⟨m1 ++ m2, by rw [e2, Array.append_assoc]⟩
  · obtain ⟨m, hn, hl⟩ := I.loc
    refine ⟨m, ns m hn, fun i x v e1 e2 e3 => ?_⟩
    obtain ⟨u, r, l⟩ := hl i x v e1 e2 e3
    refine ⟨u, r, ?_⟩
    rcases l with l | ⟨k, c, e, z⟩
    · exact .inl l
    · exact .inr ⟨k, c, e, cellK x c e _ z⟩
  · obtain ⟨v, z⟩ := I.cell x c e
    exact ⟨v, cellK x c e v z⟩
  · obtain ⟨m, ⟨o, _, _, ho, _⟩, _⟩ := I.loc
    exact free _ o (fun z => (hch _ z).2.1 rfl) ho I.free
  · obtain ⟨v, o, ho, hd⟩ := I.cell x c e
    exact free c o (fun z => (hch c z).2.2.1 x c e rfl) ho (I.freeC x c e)
  · obtain ⟨e, n, ne, nf, d⟩ := I.pin p hp
    have nch : p.1 ∉ ch := fun z => (hch p.1 z).2.2.2 p hp rfl
    exact ⟨keep p.1 p.2 ne nf nch e n, free p.1 p.2 nch e n, ne, nf, d⟩
/-- .. where the frame's own object is kept too -/
theorem Inv.un {t' : Nat} (I : Inv X pins σ H s) (u : Un X.fs [] H H' s.heap h') (hok : HOk X.prog X.w H' h') : Inv X pins σ H' { s with heap := h', toks := t' } := by
  obtain ⟨m, ⟨o, es, ep, ho, r⟩, _⟩ := id I.loc
  obtain ⟨sl, hL⟩ := u.any ho I.free (by simp)
  exact I.step (g' := s.gens) (d' := s.drawn) (ch := []) (fun _ z => nomatch z) (fun b o _ hb _ e n => u.keep b o e n hb (by simp)) (fun b o _ hb _ e n => u.slot b o e n hb (by simp)) (fun b o _ e n => u.free b o e n (by simp)) (fun b o _ e => u.there b o e (by simp)) u.tups u.frzs u.tbls (fun m' hm => by
    obtain ⟨o', es', ep', ho', r'⟩ := hm
    rw [ho] at ho'; cases ho'
    exact ⟨_, es', ep', hL, r'⟩) hok I.bare
/-- behind a call (or a comprehension's block): the slots of this frame may have changed too, the records at ch may have turned -/
theorem Inv.call {g' : Array GenState} {t' : Nat} {d' : Drawn} {ch : List Addr} (I : Inv X pins σ H s) (u : Un (frs X.stack) ch H H' s.heap h') (hok : HOk X.prog X.w H' h') (hg : AllBare g')
    (hch : ∀ b ∈ ch, (b ∈ X.ex ∨ X.s₀.heap.objs.size ≤ b) ∧ b ≠ X.env.locals ∧ (∀ x c, X.env.cells.lookup x = some c → c ≠ b) ∧ ∀ p ∈ X.pn ++ pins, p.1 ≠ b) :
    Inv X pins σ H' { s with heap := h', gens := g', drawn := d', toks := t' } := by
  obtain ⟨m, ⟨o, es, ep, ho, r⟩, _⟩ := id I.loc
  obtain ⟨sl, hL⟩ := u.any ho I.free fun z => (hch _ z).2.1 rfl
  exact I.step (ch := ch) hch (fun b o hL hb hc e n => u.keep b o e n (fun z => (List.mem_cons.mp (I.stkSub b z)).elim hL hb) hc) (fun b o _ _ hc e n => u.any e n hc) (fun b o hc e n => u.free b o e n hc) (fun b o hc e => u.there b o e hc) u.tups u.frzs u.tbls (fun m' hm => by
    obtain ⟨o', es', ep', ho', r'⟩ := hm
    rw [ho] at ho'; cases ho'
    exact ⟨_, es', ep', hL, r'⟩) hok hg
/-- an untracked record of ours (an iterator) has turned -/
theorem Inv.turned {t' : Nat} {it : Addr} (I : Inv X pins σ H s) (k : ∀ b o, b ≠ it → s.heap.get? b = some o → h'.get? b = some o) (hn : H it = none) (hL : it ≠ X.env.locals)
    (h1 : it ∈ X.ex ∨ X.s₀.heap.objs.size ≤ it) (h2 : ∀ x c, X.env.cells.lookup x = some c → c ≠ it) (h3 : ∀ p ∈ X.pn ++ pins, p.1 ≠ it) : Inv X pins σ H { s with heap := h', toks := t' } := by
  have nit : ∀ b u, H b = some u → b ≠ it := fun b u e z => by rw [z, hn] at e; cases e
  refine I.step (g' := s.gens) (d' := s.drawn) (ch := [it]) (fun b hb => ?_) (fun b o _ _ hc e _ => k b o (fun z => hc (by simp [z])) e) (fun b o _ _ hc e _ => ⟨o.slots, k b o (fun z => hc (by simp [z])) e⟩) (fun _ _ _ _ n => n)
    (fun b o hc e => ⟨o, k b o (fun z => hc (by simp [z])) e⟩) (fun _ _ e => e) (fun _ _ _ e => e) (fun b ps e => ⟨#[], by rw [e]; simp⟩) (fun m hm => ?_) (fun b u e => ?_) I.bare
  · have e : b = it := by simpa using hb
    subst e
    exact ⟨h1, hL, h2, h3⟩
  · obtain ⟨o, es, ep, ho, r⟩ := hm
    exact ⟨o, es, ep, k _ o (Ne.symm hL) ho, r⟩
  · refine (I.hok b u e).stay (fun c v hc q => k c v ?_ q) (fun _ q => q) fun _ _ q => q
    rcases hc with z | z
    · rw [z]; exact nit b u e
    · exact nit c _ z
theorem Inv.tok (I : Inv X pins σ H s) (t : Nat) : Inv X pins σ H { s with toks := t } := I.un (h' := s.heap) (t' := t) Un.refl I.hok
/-- all objects kept -/
theorem Inv.kept {t' : Nat} (I : Inv X pins σ H s) (k : ∀ b u, s.heap.get? b = some u → h'.get? b = some u) : Inv X pins σ H { s with heap := h', toks := t' } := I.un (Un.kept k) (I.hok.kept k)
/-- a new object laid and tracked -/
theorem Inv.laid {a : Addr} {o : HO} {t' : Nat} (I : Inv X pins σ H s) (k : ∀ b u, s.heap.get? b = some u → h'.get? b = some u) (hp : s.heap.objs.size ≤ a) (new : ObjOk X.prog X.w (upd H a o) h' a o) :
    Inv X pins σ (upd H a o) { s with heap := h', toks := t' } := I.un (Un.laid k hp (I.hok.fresh hp)) (I.hok.laid k hp new)
/-- an object written -/
theorem Inv.write {x e : Addr} {o : HO} {t' : Nat} (I : Inv X pins σ H s) (mu : Mut (H x)) (he : e = x ∨ H e = some (.own x)) (k : ∀ b u, b ≠ e → s.heap.get? b = some u → h'.get? b = some u) (heo : ∃ u, h'.get? e = some u)
    (new : ObjOk X.prog X.w (upd H x o) h' x o) : Inv X pins σ (upd H x o) { s with heap := h', toks := t' } := I.un (Un.write mu he k heo) (I.hok.write mu he k heo new)
theorem Inv.pins_of {pins' : List (Addr × Obj)} (I : Inv X pins σ H s) (h : ∀ p ∈ pins', s.heap.get? p.1 = some p.2 ∧ H p.1 = none ∧ p.1 ≠ X.env.locals ∧ p.1 ∉ X.fs ∧ ∀ v, p.2.data ≠ .cell v) : Inv X pins' σ H s :=
  ⟨I.ok, I.os, I.bare, I.base, I.loc, I.cell, I.free, I.freeC, fun p hp => (List.mem_append.mp hp).elim (fun z => I.pin p (List.mem_append_left _ z)) (h p), I.hok, I.len⟩

theorem nodup_ix {N : List Str} (hN : N.Nodup) {i j : Nat} {x : Str} (a : N[i]? = some x) (b : N[j]? = some x) : i = j := by
  obtain ⟨h1, e1⟩ := List.getElem?_eq_some_iff.mp a
  obtain ⟨h2, e2⟩ := List.getElem?_eq_some_iff.mp b
  exact (List.getElem_inj hN).mp (e1.trans e2.symm)

/-- a name is stored; what changed -/
theorem store_ok2 {M : Model} {A : Around} {E : Value → Shared → Prop} {i : Nat} {x : Str} {v : V} {u : Value} {Q : Unit → Shared → Prop} (I : Inv X pins σ H s) (hN : X.N.Nodup) (hi : X.N[i]? = some x) (hx : Loc X.env.scope x) (r : RelV v u)
    (h : ∀ s', Inv X pins (σ.set i (some v)) H s' → (∃ a, Heap.SameBut a s.heap s'.heap ∧ (a = X.env.locals ∨ X.env.cells.lookup x = some a)) → Q () s') (hf : X.fn x = true ∨ X.env.scope.names.lookup x = some .local := by first | exact .inl rfl | exact .inr rfl | assumption) : wpAny M A (storeName X.env x u) Q E s := by
  obtain ⟨m, hn, hl⟩ := id I.loc
  have hcls : (X.env.scope.kind == .class || (X.env.scope.kind == .module && X.env.locals != X.env.globals)) = false := by rw [I.ok.kind]; rfl
  have hiσ : i < σ.length := by rw [I.len]; exact (List.getElem?_eq_some_iff.mp hi).1
  have cne := I.cne
  have tracked : ∀ {a : Addr} {h' : Heap}, (∃ o, s.heap.get? a = some o ∧ H a = none) → Heap.SameBut a s.heap h' → HOk X.prog X.w H h' := fun {a h'} ha hs b ob e => by
    obtain ⟨_, _, hfree⟩ := ha
    refine (I.hok b ob e).stay (fun c w' hc q => (hs.2 c ?_).trans q) (fun _ q => q) fun _ _ q => q
    rintro rfl
    rcases hc with rfl | hc
    · rw [hfree] at e; cases e
    · rw [hfree] at hc; cases hc
  rcases hx with hk | hk
  · refine wpAny_storeName_local hk hn (fun h' hn' hs => ?_) hcls
    obtain ⟨oL, _, _, hoL, _⟩ := id hn
    refine h _ ⟨I.ok, I.os, I.bare, ⟨fun b o e n hb hx => ?_, fun b o e n hb hx => ?_, I.base.free, fun b o e hx => ?_, I.base.tups, I.base.frzs, I.base.tbls⟩, ⟨_, hn', fun j y v' e1 e2 e3 => ?_⟩, fun y c e => ?_, I.free, I.freeC, fun p hp => ?_, tracked ⟨oL, hoL, I.free⟩ hs, by simpa using I.len⟩ ⟨_, hs, .inl rfl⟩
    · exact (hs.2 b (Nat.ne_of_lt (Nat.lt_of_lt_of_le (Heap.lt_size e) I.ok.above))).trans (I.base.keep b o e n hb hx)
    · obtain ⟨sl, e1⟩ := I.base.slot b o e n hb hx
      exact ⟨sl, (hs.2 b (Nat.ne_of_lt (Nat.lt_of_lt_of_le (Heap.lt_size e) I.ok.above))).trans e1⟩
    · obtain ⟨o', e1⟩ := I.base.there b o e hx
      exact ⟨o', (hs.2 b (Nat.ne_of_lt (Nat.lt_of_lt_of_le (Heap.lt_size e) I.ok.above))).trans e1⟩
    · by_cases hj : j = i
      · subst hj
        rw [hi] at e1; cases e1
        rw [List.getElem?_set_self hiσ] at e2
        cases e2
        exact ⟨u, r, .inl ⟨hk, by simp⟩⟩
      · rw [List.getElem?_set_ne (Ne.symm hj)] at e2
        obtain ⟨u', r', q⟩ := hl j y v' e1 e2 e3
        refine ⟨u', r', ?_⟩
        rcases q with ⟨k, e⟩ | ⟨k, c, e, z⟩
        · refine .inl ⟨k, ?_⟩
          have : y ≠ x := fun e => hj (nodup_ix hN e1 (e ▸ hi))
          simp [this, e]
        · exact .inr ⟨k, c, e, z.sameBut hs (cne y c e)⟩
    · obtain ⟨w', z⟩ := I.cell y c e
      exact ⟨w', z.sameBut hs (cne y c e)⟩
    · obtain ⟨e, n, ne, nf, d⟩ := I.pin p hp
      exact ⟨(hs.2 p.1 ne).trans e, n, ne, nf, d⟩
  · have hfn : X.fn x = true := by
      rcases hf with z | z
      · exact z
      · rw [z] at hk; cases hk
    obtain ⟨c, hc⟩ := I.ok.has x (.inl hk)
    obtain ⟨w', z⟩ := I.cell x c hc
    refine wpAny_storeName_cell I.ok.kind hk hc z (fun h' hc' hs => ?_)
    obtain ⟨oc, hoc, hocd⟩ := id z
    refine h { s with heap := h' } ⟨I.ok, I.os, I.bare, ⟨fun b o e n hb hx => ?_, fun b o e n hb hx => ?_, I.base.free, fun b o e hx => ?_, I.base.tups, I.base.frzs, I.base.tbls⟩, ⟨m, hn.sameBut hs (Ne.symm (cne x c hc)), fun j y v' e1 e2 e3 => ?_⟩, fun y c' e => ?_, I.free, I.freeC, fun p hp => ?_, tracked ⟨oc, hoc, I.freeC x c hc⟩ hs, by simpa using I.len⟩ ⟨c, hs, .inr hc⟩
    · exact (hs.2 b (Nat.ne_of_lt (Nat.lt_of_lt_of_le (Heap.lt_size e) (I.ok.cab x c hfn hc)))).trans (I.base.keep b o e n hb hx)
    · obtain ⟨sl, e1⟩ := I.base.slot b o e n hb hx
      exact ⟨sl, (hs.2 b (Nat.ne_of_lt (Nat.lt_of_lt_of_le (Heap.lt_size e) (I.ok.cab x c hfn hc)))).trans e1⟩
    · obtain ⟨o', e1⟩ := I.base.there b o e hx
      exact ⟨o', (hs.2 b (Nat.ne_of_lt (Nat.lt_of_lt_of_le (Heap.lt_size e) (I.ok.cab x c hfn hc)))).trans e1⟩
    · by_cases hj : j = i
      · subst hj
        rw [hi] at e1; cases e1
        rw [List.getElem?_set_self hiσ] at e2
        cases e2
        exact ⟨u, r, .inr ⟨.inl hk, c, hc, hc'⟩⟩
      · rw [List.getElem?_set_ne (Ne.symm hj)] at e2
        obtain ⟨u', r', q⟩ := hl j y v' e1 e2 e3
        refine ⟨u', r', ?_⟩
        rcases q with q | ⟨k, c', e, z'⟩
        · exact .inl q
        · refine .inr ⟨k, c', e, z'.sameBut hs ?_⟩
          rintro rfl
          exact hj (nodup_ix hN e1 (I.ok.inj _ _ _ e hc ▸ hi))
    · by_cases hcc : c' = c
      · subst hcc; exact ⟨_, hc'⟩
      · obtain ⟨w2, z2⟩ := I.cell y c' e
        exact ⟨w2, z2.sameBut hs hcc⟩
    · obtain ⟨e, n, ne, nf, d⟩ := I.pin p hp
      refine ⟨(hs.2 p.1 ?_).trans e, n, ne, nf, d⟩
      intro q
      rw [q, hoc] at e
      have q' : oc = p.2 := Option.some.inj e
      exact d w' (by rw [← q']; exact hocd)
theorem store_ok {M : Model} {A : Around} {E : Value → Shared → Prop} {i : Nat} {x : Str} {v : V} {u : Value} {Q : Unit → Shared → Prop} (I : Inv X pins σ H s) (hN : X.N.Nodup) (hi : X.N[i]? = some x) (hx : Loc X.env.scope x) (r : RelV v u)
    (h : ∀ s', Inv X pins (σ.set i (some v)) H s' → Q () s') (hf : X.fn x = true ∨ X.env.scope.names.lookup x = some .local := by first | exact .inl rfl | exact .inr rfl | assumption) : wpAny M A (storeName X.env x u) Q E s :=
  store_ok2 I hN hi hx r (fun s' I' _ => h s' I') hf
/-- behind a call or a block, the state as it is -/
theorem Inv.call' {s' : Shared} {ch : List Addr} (I : Inv X pins σ H s) (ho : s'.os = s.os) (u : Un (frs X.stack) ch H H' s.heap s'.heap) (hok : HOk X.prog X.w H' s'.heap) (hg : AllBare s'.gens)
    (hch : ∀ b ∈ ch, (b ∈ X.ex ∨ X.s₀.heap.objs.size ≤ b) ∧ b ≠ X.env.locals ∧ (∀ x c, X.env.cells.lookup x = some c → c ≠ b) ∧ ∀ p ∈ X.pn ++ pins, p.1 ≠ b) : Inv X pins σ H' s' := by
  obtain ⟨h', g', d', t', o'⟩ := s'
  have e : o' = s.os := ho
  subst e
  exact I.call (g' := g') (t' := t') (d' := d') u hok hg hch
end

/-! ### the judgements -/
/-- an exception: its class, its own dict's address (where it has one), the abstract heap behind it -/
abbrev XK := Value → Option Addr → Hp → Prop
abbrev St := List (Option V)
abbrev VK := V → Hp → Prop
/-- an expression's reading; a test's; an argument list's -/
abbrev TE := St → Hp → VK → Prop
abbrev TT := St → Hp → (Bool → Hp → Prop) → Prop
abbrev TA := St → Hp → (List V → Hp → Prop) → Prop
/-- what is wanted behind a statement -/
structure Ends where
  nx : St → Hp → Prop
  rt : VK
  bk : St → Hp → Prop := fun _ _ => False
  ct : St → Hp → Prop := fun _ _ => False
abbrev TS := Ends → St → Hp → Prop

def EP (X : Cx) (pins : List (Addr × Obj)) (σ : St) (Q : VK) (u : Value) (s' : Shared) : Prop := ∃ v H', Inv X pins σ H' s' ∧ RelV v u ∧ Q v H'
def TP (X : Cx) (pins : List (Addr × Obj)) (σ : St) (Q : Bool → Hp → Prop) (b : Bool) (s' : Shared) : Prop := ∃ H', Inv X pins σ H' s' ∧ Q b H'
def AP (X : Cx) (pins : List (Addr × Obj)) (σ : St) (Q : List V → Hp → Prop) (us : List Value) (s' : Shared) : Prop := ∃ vs H', Inv X pins σ H' s' ∧ Vals vs us ∧ Q vs H'
def SP (X : Cx) (pins : List (Addr × Obj)) (D : Ends) (f : Flow) (s' : Shared) : Prop :=
  match f with
  | .next => ∃ σ' H', Inv X pins σ' H' s' ∧ D.nx σ' H'
  | .brk => ∃ σ' H', Inv X pins σ' H' s' ∧ D.bk σ' H'
  | .cont => ∃ σ' H', Inv X pins σ' H' s' ∧ D.ct σ' H'
  | .ret u => ∃ v σ' H', Inv X pins σ' H' s' ∧ RelV v u ∧ D.rt v H'

def PE (X : Cx) (e : Expr) (t : TE) : Prop :=
  ∀ (pins : List (Addr × Obj)) (s : Shared) (σ : St) (H : Hp) (Q : VK), Inv X pins σ H s → t σ H Q → wpAny (model X.prog X.w) X.A (eval e X.env) (EP X pins σ Q) X.xe s
def PT (X : Cx) (e : Expr) (t : TT) : Prop :=
  ∀ (pins : List (Addr × Obj)) (s : Shared) (σ : St) (H : Hp) (Q : Bool → Hp → Prop), Inv X pins σ H s → t σ H Q → wpAny (model X.prog X.w) X.A (isTrue e X.env (eval e X.env)) (TP X pins σ Q) X.xe s
/-- a test whatever its 'whole' is (and, or) -/
def PW (X : Cx) (e : Expr) (t : TT) : Prop :=
  ∀ (whole : Sem Value) (pins : List (Addr × Obj)) (s : Shared) (σ : St) (H : Hp) (Q : Bool → Hp → Prop), Inv X pins σ H s → t σ H Q → wpAny (model X.prog X.w) X.A (isTrue e X.env whole) (TP X pins σ Q) X.xe s
theorem PW.pt {X : Cx} {e : Expr} {t : TT} (h : PW X e t) : PT X e t := h _
/-- an argument list (no star), from the left -/
def PA (X : Cx) (es : List Expr) (t : TA) : Prop :=
  ∀ (pos : Pos) (pins : List (Addr × Obj)) (s : Shared) (σ : St) (H : Hp) (Q : List V → Hp → Prop), Inv X pins σ H s → t σ H Q → wpAny (model X.prog X.w) X.A (spliced (backTo pos (starEach es X.env))) (AP X pins σ Q) X.xe s
def PS (X : Cx) (st : Stmt) (t : TS) : Prop :=
  ∀ (pins : List (Addr × Obj)) (s : Shared) (σ : St) (H : Hp) (D : Ends), Inv X pins σ H s → t D σ H → wpAny (model X.prog X.w) X.A (exec st X.env) (SP X pins D) X.xe s
def PSs (X : Cx) (st : List Stmt) (t : TS) : Prop :=
  ∀ (pins : List (Addr × Obj)) (s : Shared) (σ : St) (H : Hp) (D : Ends), Inv X pins σ H s → t D σ H → wpAny (model X.prog X.w) X.A (execs st X.env) (SP X pins D) X.xe s
/-- weaken the end -/
theorem thn {α : Type} {t : Sem α} {Q Q' : α → Shared → Prop} {M : Model} {A : Around} {E : Value → Shared → Prop} {s : Shared} (h : wpAny M A t Q E s) (hQ : ∀ a s, Q a s → Q' a s) : wpAny M A t Q' E s := wpAny_mono h hQ fun _ _ x => x
end L2

namespace L2
open PySem PySem.Spec PyProof.Rows
section
variable {X : Cx}


/-! ### names and constants -/
def tVar (i : Nat) : TE := fun σ H Q => ∃ v, σ[i]? = some (some v) ∧ Q v H
def tC (v : V) : TE := fun _ H Q => Q v H
theorem pe_var {i : Nat} {x : Str} {pos : Pos} (hN : X.N[i]? = some x) (hv : Vis X.env.scope x) (hd : (x == ("__debug__" : Str)) = false := by decide) (hcd : (x == ("__classdict__" : Str)) = false := by decide) : PE X (.Name x pos) (tVar i) := by
  intro pins s σ H Q I h
  obtain ⟨v, e, h⟩ := h
  obtain ⟨m, hn, hl⟩ := I.loc
  obtain ⟨u, r, l⟩ := hl i x v hN e hv
  have fin : EP X pins σ Q u s := ⟨v, H, I, r, h⟩
  rcases l with ⟨hk, hm⟩ | ⟨hk, c, hc, hcell⟩
  · exact wpAny_Name (wpAny_loadName_local I.ok.kind hk hn hm fin) hd
  · rcases hk with hk | hk
    · exact wpAny_Name (wpAny_loadName_cell I.ok.kind hk hc hcell fin) hd
    · exact wpAny_Name (wpAny_loadName_free I.ok.kind hk hc hcell fin hcd) hd
theorem pe_int {i j pos} : PE X (.Constant (.int i) j pos) (tC (.int i)) := fun _ _ _ H _ I h => wpAny_Constant_int ⟨.int i, H, I.tok _, ⟨_, rfl⟩, h⟩
theorem pe_bl {b j pos} : PE X (.Constant (.bool b) j pos) (tC (.bl b)) := fun _ _ _ H _ I h => Constant_bool ⟨.bl b, H, I, rfl, h⟩
theorem pe_non {j pos} : PE X (.Constant .none j pos) (tC .non) := fun _ _ _ H _ I h => Constant_none ⟨.non, H, I, rfl, h⟩
theorem pe_str {x j pos} : PE X (.Constant (.str x) j pos) (tC (.str x)) := fun _ _ _ H _ I h => Calls.Constant_str ⟨.str x, H, I.tok _, ⟨_, rfl⟩, h⟩

/-- a global name of the def -/
def Gl (X : Cx) (x : Str) : Prop := X.env.kindOf x = some .globalImplicit
theorem ld_glob {E : Value → Shared → Prop} {pins : List (Addr × Obj)} {s : Shared} {σ : St} {H : Hp} {x : Str} {u : Value} {pos : Pos} {Q : Value → Shared → Prop} (I : Inv X pins σ H s) (hg : Gl X x) (hm : X.mg x = some u) (h : Q u s)
    (hd : (x == ("__debug__" : Str)) = false := by decide) : wpAny (model X.prog X.w) X.A (eval (.Name x pos) X.env) Q E s :=
  Calls.Name_function_global I.ok.kind hg (Calls.loadGlobal_global (by rw [I.ok.glob]; exact I.mod.glob.keeps I.bk) hm h) hd
theorem ld_blt {E : Value → Shared → Prop} {pins : List (Addr × Obj)} {s : Shared} {σ : St} {H : Hp} {x : Str} {u : Value} {pos : Pos} {Q : Value → Shared → Prop} (I : Inv X pins σ H s) (hg : Gl X x) (hm : X.mg x = none) (hv : bootBuiltins x = some u) (h : Q u s)
    (hn : x ≠ "__name__" := by decide) (hd : (x == ("__debug__" : Str)) = false := by decide) : wpAny (model X.prog X.w) X.A (eval (.Name x pos) X.env) Q E s := by
  obtain ⟨mb, h1, h2⟩ := I.mod.blt
  exact Calls.Name_function_global I.ok.kind hg (Calls.loadGlobal_builtin (by rw [I.ok.glob]; exact I.mod.glob.keeps I.bk) hm (by rw [I.ok.blt]; exact h1.keeps I.bk) ((h2 x hn).trans hv) h) hd
theorem pe_bltn {x : Str} {v : V} {u : Value} {pos : Pos} (hg : Gl X x) (hm : X.mg x = none) (hv : bootBuiltins x = some u) (r : RelV v u) (hn : x ≠ "__name__" := by decide) (hd : (x == ("__debug__" : Str)) = false := by decide) : PE X (.Name x pos) (tC v) :=
  fun _ _ _ H _ I h => ld_blt I hg hm hv ⟨v, H, I, r, h⟩ hn hd

/-! ### arithmetic -/
variable {a b : Expr} {ta tb : TE} {pos : Pos}

/-! ### comparisons -/
/-- a comparison as a value, as a test -/
def tB (t : TE) : TT := fun σ H Q => t σ H fun x H1 => ∃ c, x = .bl c ∧ Q c H1
/-- an expression whose value is a bool, as a test -/
theorem pt_val {e : Expr} {t : TE} (h : PE X e t) (he : ∀ whole, isTrue e X.env whole = (do let v ← whole; standAt e.pos; holding [v] (truthy v)) := by intro _; rfl) : PT X e (tB t) := by
  intro pins s σ H Q I hw
  refine isTrue_plain (thn (h pins s σ H _ I hw) fun v s1 ⟨x, H1, I1, r1, q1⟩ => ?_) (he _)
  obtain ⟨d, rfl, q⟩ := q1
  cases r1
  exact wpAny_truthy_bool ⟨H1, I1, q⟩

/-! ### and, or, not -/
variable {tA tB' : TT} {rest : List Expr}
def tAnd (t u : TT) : TT := fun σ H Q => t σ H fun c H1 => if c = true then u σ H1 Q else Q false H1
def tOr (t u : TT) : TT := fun σ H Q => t σ H fun c H1 => if c = true then Q true H1 else u σ H1 Q
def tNot (t : TT) : TT := fun σ H Q => t σ H fun c H1 => Q (!c) H1
theorem pw_and1 (ha : PT X a tA) : PW X (.BoolOp .And [a] pos) tA := by
  intro wh pins s σ H Q I h
  refine isTrue_and (thn (ha pins s σ H Q I h) fun c s1 e => ?_)
  cases c with
  | true => exact isTrue_and_nil e
  | false => exact e
theorem pw_or1 (ha : PT X a tA) : PW X (.BoolOp .Or [a] pos) tA := by
  intro wh pins s σ H Q I h
  refine isTrue_or (thn (ha pins s σ H Q I h) fun c s1 e => ?_)
  cases c with
  | false => exact isTrue_or_nil e
  | true => exact e
theorem pw_and (ha : PT X a tA) (hb : PW X (.BoolOp .And (b :: rest) pos) tB') : PW X (.BoolOp .And (a :: b :: rest) pos) (tAnd tA tB') := by
  intro wh pins s σ H Q I h
  refine isTrue_and (thn (ha pins s σ H _ I h) fun c s1 ⟨H1, I1, q1⟩ => ?_)
  cases c with
  | true => exact hb wh pins s1 σ H1 Q I1 q1
  | false => exact ⟨H1, I1, q1⟩
theorem pw_or (ha : PT X a tA) (hb : PW X (.BoolOp .Or (b :: rest) pos) tB') : PW X (.BoolOp .Or (a :: b :: rest) pos) (tOr tA tB') := by
  intro wh pins s σ H Q I h
  refine isTrue_or (thn (ha pins s σ H _ I h) fun c s1 ⟨H1, I1, q1⟩ => ?_)
  cases c with
  | true => exact ⟨H1, I1, q1⟩
  | false => exact hb wh pins s1 σ H1 Q I1 q1
theorem pt_not (ha : PT X a tA) : PT X (.UnaryOp .Not a pos) (tNot tA) := by
  intro pins s σ H Q I h
  exact isTrue_not (ha pins s σ H (fun c H1 => Q (!c) H1) I h)
/-- .. as values (bools) -/
def tAndV (ta tb : TE) : TE := fun σ H Q => ta σ H fun x H1 => ∃ c, x = .bl c ∧ if c = true then tb σ H1 Q else Q (.bl false) H1
def tOrV (ta tb : TE) : TE := fun σ H Q => ta σ H fun x H1 => ∃ c, x = .bl c ∧ if c = true then Q (.bl true) H1 else tb σ H1 Q
def tNotV (ta : TE) : TE := fun σ H Q => ta σ H fun x H1 => ∃ c, x = .bl c ∧ Q (.bl (!c)) H1
theorem pe_one {op} {t : TE} (h : PE X a t) : PE X (.BoolOp op [a] pos) t := fun pins s σ H Q I hw => BoolOp_one (h pins s σ H Q I hw)
theorem pe_and (ha : PE X a ta) (hb : PE X (.BoolOp .And (b :: rest) pos) tb) : PE X (.BoolOp .And (a :: b :: rest) pos) (tAndV ta tb) := by
  intro pins s σ H Q I h
  refine BoolOp_and (thn (ha pins s σ H _ I h) fun v s1 ⟨x, H1, I1, r1, q1⟩ => ?_)
  obtain ⟨c, rfl, q1⟩ := q1
  cases r1
  refine wpAny_truthy_bool ?_
  cases c with
  | true => exact hb pins s1 σ H1 Q I1 q1
  | false => exact ⟨.bl false, H1, I1, rfl, q1⟩
theorem pe_not (ha : PE X a ta) : PE X (.UnaryOp .Not a pos) (tNotV ta) := by
  intro pins s σ H Q I h
  refine UnaryOp_ (thn (ha pins s σ H _ I h) fun v s1 ⟨x, H1, I1, r1, q1⟩ => ?_)
  obtain ⟨c, rfl, q1⟩ := q1
  cases r1
  exact not_of (wpAny_truthy_bool ⟨.bl (!c), H1, I1, rfl, q1⟩)
/-- a if t else b -/
def tIf (t : TT) (ta tb : TE) : TE := fun σ H Q => t σ H fun c H1 => if c = true then ta σ H1 Q else tb σ H1 Q
end
end L2

namespace L2
open PySem PySem.Spec PyProof.Rows

/-! ### a list, a tuple that is read: tracked, frozen, or an object of the module -/
def SqL (K : PySem.W.Frag) (H : Hp) (a : Addr) (xs : List V) : Prop :=
  Rd H a (.lst xs) ∨
    ∃ (o : Obj) (its : Array Value) (n : Nat), K.lookup a = some o ∧ o.cls = .type "list" ∧ o.dict = none ∧ o.data = .seq its n ∧ its.size ≤ sizeLine ∧ Vals xs its.toList
def SqT (K : PySem.W.Frag) (H : Hp) (a : Addr) (xs : List V) : Prop :=
  Rd H a (.tup xs) ∨
    ∃ (o : Obj) (its : Array Value) (n : Nat), K.lookup a = some o ∧ o.cls = .type "tuple" ∧ o.data = .seq its n ∧ its.size ≤ sizeLine ∧ Vals xs its.toList
def absV : Value → Option V
  | .none => some .non
  | .bool b => some (.bl b)
  | .int i _ => some (.int i)
  | .str x _ => some (.str x)
  | .bytes b _ => some (.byt b)
  | .float b _ => some (.flt b)
  | .ref a => some (.ref a)
  | .type n => some (.ty n)
  | _ => none
theorem RelV.abs {x : V} {u : Value} (r : RelV x u) : absV u = some x := by
  cases x with
  | non => cases r; rfl
  | bl _ => cases r; rfl
  | int _ => obtain ⟨t, rfl⟩ := r; rfl
  | str _ => obtain ⟨t, rfl⟩ := r; rfl
  | byt _ => obtain ⟨t, rfl⟩ := r; rfl
  | flt _ => obtain ⟨t, rfl⟩ := r; rfl
  | ref _ => cases r; rfl
  | ty _ => cases r; rfl
theorem RelV.inj {x y : V} {u : Value} (r : RelV x u) (q : RelV y u) : x = y := Option.some.inj (r.abs.symm.trans q.abs)
theorem Vals.inj : ∀ {xs ys : List V} {us : List Value}, Vals xs us → Vals ys us → xs = ys
  | _, _, _, .nil, .nil => rfl
  | _, _, _, .cons r t, .cons r' t' => by rw [r.inj r', Vals.inj t t']
section
variable {X : Cx} {pins : List (Addr × Obj)} {σ : St} {H : Hp} {s : Shared} {a : Addr} {xs ys : List V}
theorem SqL.of {K : PySem.W.Frag} (h : H a = some (.lst xs)) : SqL K H a xs := .inl (.inl h)
theorem SqT.of {K : PySem.W.Frag} (h : H a = some (.tup xs)) : SqT K H a xs := .inl (.inl h)
theorem Inv.list (I : Inv X pins σ H s) (h : SqL X.K H a xs) : ∃ its : List Value, Vals xs its ∧ PlainL s.heap a its.toArray ∧ xs.length ≤ sizeLine := by
  rcases h with h | ⟨o, its, n, hk, hc, hd, hs, hz, r⟩
  · obtain ⟨z, its, n, r, e⟩ := h.ok I.hok
    exact ⟨its, r, ⟨_, n, e, rfl, rfl, rfl⟩, z⟩
  · refine ⟨its.toList, r, ⟨o, n, I.kIn a o hk, hc, hd, by simpa using hs⟩, ?_⟩
    have e := r.length
    simp only [Array.length_toList] at e
    omega
theorem Inv.tuple (I : Inv X pins σ H s) (h : SqT X.K H a xs) : ∃ its : List Value, Vals xs its ∧ IsTup s.heap a its.toArray ∧ xs.length ≤ sizeLine := by
  rcases h with h | ⟨o, its, n, hk, hc, hs, hz, r⟩
  · obtain ⟨z, its, r, p⟩ := h.ok I.hok
    exact ⟨its, r, p, z⟩
  · refine ⟨its.toList, r, ⟨o, I.kIn a o hk, hc, n, by simpa using hs⟩, ?_⟩
    have e := r.length
    simp only [Array.length_toList] at e
    omega
theorem Inv.list_inj (I : Inv X pins σ H s) (h : SqL X.K H a xs) (h' : SqL X.K H a ys) : xs = ys := by
  obtain ⟨its, r, ⟨o, n, e, _, _, d⟩, _⟩ := I.list h
  obtain ⟨its', r', ⟨o', n', e', _, _, d'⟩, _⟩ := I.list h'
  rw [e] at e'; cases e'
  rw [d] at d'
  injection d' with d1 _
  have : its = its' := by simpa using congrArg Array.toList d1
  subst this
  exact r.inj r'
theorem Inv.tuple_inj (I : Inv X pins σ H s) (h : SqT X.K H a xs) (h' : SqT X.K H a ys) : xs = ys := by
  obtain ⟨its, r, ⟨o, e, _, n, d⟩, _⟩ := I.tuple h
  obtain ⟨its', r', ⟨o', e', _, n', d'⟩, _⟩ := I.tuple h'
  rw [e] at e'; cases e'
  rw [d] at d'
  injection d' with d1 _
  have : its = its' := by simpa using congrArg Array.toList d1
  subst this
  exact r.inj r'
end

/-! ### another wish about exceptions -/
abbrev Cx.wish (X : Cx) (E : Value → Shared → Prop) : Cx := { X with xe := E }
/-- no exception leaves -/
abbrev Cx.nox (X : Cx) : Cx := X.wish fun _ _ => False
theorem Cx.Ok.wish {X : Cx} (ok : X.Ok) (E : Value → Shared → Prop) : (X.wish E).Ok :=
  ⟨ok.mod, ok.kind, ok.glob, ok.blt, ok.above, ok.inj, ok.has, ok.cab, ok.hd, ok.frames, ok.stk, ok.exf, ok.bs, ok.bsz, ok.noex, ok.exfs, ok.funs, ok.frf⟩
theorem Cx.Ok.unwish {X : Cx} {E : Value → Shared → Prop} (ok : (X.wish E).Ok) : X.Ok :=
  ⟨ok.mod, ok.kind, ok.glob, ok.blt, ok.above, ok.inj, ok.has, ok.cab, ok.hd, ok.frames, ok.stk, ok.exf, ok.bs, ok.bsz, ok.noex, ok.exfs, ok.funs, ok.frf⟩
section
variable {X : Cx} {pins : List (Addr × Obj)} {σ : St} {H : Hp} {s : Shared} {E : Value → Shared → Prop}
theorem Inv.wish (I : Inv X pins σ H s) (E : Value → Shared → Prop) : Inv (X.wish E) pins σ H s := ⟨I.ok.wish E, I.os, I.bare, I.base, I.loc, I.cell, I.free, I.freeC, I.pin, I.hok, I.len⟩
theorem Inv.unwish (I : Inv (X.wish E) pins σ H s) : Inv X pins σ H s := ⟨I.ok.unwish, I.os, I.bare, I.base, I.loc, I.cell, I.free, I.freeC, I.pin, I.hok, I.len⟩
theorem SP.unwish {D : Ends} {f : Flow} {s' : Shared} (h : SP (X.wish E) pins D f s') : SP X pins D f s' := by
  cases f with
  | next => obtain ⟨σ', H', I, q⟩ := h; exact ⟨σ', H', I.unwish, q⟩
  | brk => obtain ⟨σ', H', I, q⟩ := h; exact ⟨σ', H', I.unwish, q⟩
  | cont => obtain ⟨σ', H', I, q⟩ := h; exact ⟨σ', H', I.unwish, q⟩
  | ret u => obtain ⟨v, σ', H', I, r, q⟩ := h; exact ⟨v, σ', H', I.unwish, r, q⟩
theorem PSs.nox {st : List Stmt} {t : TS} (h : PSs X.nox st t) : PSs X st t := fun pins s σ H D I hw =>
  wpAny_mono (h pins s σ H D (I.wish _) hw) (fun _ _ q => q.unwish) fun _ _ z => False.elim z
end

/-! ### blocks and small statements -/
section
variable {X : Cx} {st : Stmt} {rest : List Stmt} {t u : TS} {e : Expr} {te : TE} {pos : Pos}
def tNext : TS := fun D σ H => D.nx σ H
def tSeq (t u : TS) : TS := fun D σ H => t { D with nx := u D } σ H
theorem pss_nil : PSs X [] tNext := fun _ _ σ H _ I h => wpAny_execs_nil ⟨σ, H, I, h⟩
theorem pss_cons (h1 : PS X st t) (h2 : PSs X rest u) : PSs X (st :: rest) (tSeq t u) := by
  intro pins s σ H D I h
  refine wpAny_execs_cons (thn (h1 pins s σ H { D with nx := u D } I h) fun f s1 q => ?_)
  cases f with
  | next =>
    obtain ⟨σ', H', I', q⟩ := q
    exact h2 pins s1 σ' H' D I' q
  | ret v => exact q
  | brk => exact q
  | cont => exact q
theorem pss_one (h1 : PS X st t) : PSs X [st] t := by
  intro pins s σ H D I h
  refine wpAny_execs_cons (thn (h1 pins s σ H D I h) fun f s1 q => ?_)
  cases f with
  | next => exact wpAny_execs_nil q
  | ret v => exact q
  | brk => exact q
  | cont => exact q
/-- in a def's body nothing is shown -/
theorem Inv.quiet {pins : List (Addr × Obj)} {σ : St} {H : Hp} {s : Shared} (I : Inv X pins σ H s) : interactive X.env = false := by simp [interactive, I.ok.kind]
/-- an expression whose value is dropped -/
def tDrop (te : TE) : TS := fun D σ H => te σ H fun _ H1 => D.nx σ H1
theorem ps_expr (he : PE X e te) (hs : swapsWith e none pos.line X.env = pure false := by rfl) : PS X (.Expr e pos) (tDrop te) := by
  intro pins s σ H D I h
  exact wpAny_Expr_any (thn (he pins s σ H _ I h) fun v s1 ⟨x, H1, I1, r1, q1⟩ => ⟨σ, H1, I1, q1⟩) I.quiet hs
def tRet (te : TE) : TS := fun D σ H => te σ H D.rt
theorem ps_ret (he : PE X e te) : PS X (.Return (some e) pos) (tRet te) := by
  intro pins s σ H D I h
  exact wpAny_Return_some (thn (he pins s σ H _ I h) fun v s1 ⟨x, H1, I1, r1, q1⟩ => ⟨x, σ, H1, I1, r1, q1⟩)
def tIfS (c : TT) (t u : TS) : TS := fun D σ H => c σ H fun b H1 => if b = true then t D σ H1 else u D σ H1
theorem ps_if {c : Expr} {a b : List Stmt} {tc : TT} (hc : PT X c tc) (ha : PSs X a t) (hb : PSs X b u) : PS X (.If c a b pos) (tIfS tc t u) := by
  intro pins s σ H D I h
  refine wpAny_If (thn (hc pins s σ H _ I h) fun d s1 ⟨H1, I1, q1⟩ => ?_)
  cases d with
  | true => exact ha pins s1 σ H1 D I1 q1
  | false => exact hb pins s1 σ H1 D I1 q1
end

/-! ### targets -/
abbrev TG := V → St → Hp → (St → Hp → Prop) → Prop
def PG (X : Cx) (target : Expr) (t : TG) : Prop :=
  ∀ (pins : List (Addr × Obj)) (s : Shared) (σ : St) (H : Hp) (v : V) (u : Value) (Q : St → Hp → Prop), Inv X pins σ H s → RelV v u → t v σ H Q →
    wpAny (model X.prog X.w) X.A (assign target X.env u) (fun _ s' => ∃ σ' H', Inv X pins σ' H' s' ∧ Q σ' H') X.xe s
section
variable {X : Cx} {pos : Pos}
def gName (i : Nat) : TG := fun v σ H Q => Q (σ.set i (some v)) H
theorem pg_name {i : Nat} {x : Str} (hN : X.N.Nodup) (hi : X.N[i]? = some x) (hx : Loc X.env.scope x) (hf : X.fn x = true ∨ X.env.scope.names.lookup x = some .local := by first | exact .inl rfl | exact .inr rfl | assumption) : PG X (.Name x pos) (gName i) := by
  intro pins s σ H v u Q I r h
  exact wpAny_assign_Name (store_ok I hN hi hx r (fun s' I' => ⟨_, H, I', h⟩) hf)
/-- target = value -/
def tAsg (te : TE) (g : TG) : TS := fun D σ H => te σ H fun x H1 => g x σ H1 D.nx
/-- name = value -/
theorem ps_set {i : Nat} {x : Str} {e : Expr} {te : TE} {pos' : Pos} (hN : X.N.Nodup) (hi : X.N[i]? = some x) (hx : Loc X.env.scope x) (he : PE X e te) (hs : swapsWith e (some (.Name x pos')) pos.line X.env = pure false := by rfl) (hf : X.fn x = true ∨ X.env.scope.names.lookup x = some .local := by first | exact .inl rfl | exact .inr rfl | assumption) :
    PS X (.Assign [.Name x pos'] e pos) (tAsg te (gName i)) := by
  intro pins s σ H D I h
  refine wpAny_Assign_Name (thn (he pins s σ H _ I h) fun v s1 ⟨y, H1, I1, r1, q1⟩ => ?_) hs
  exact store_ok I1 hN hi hx r1 (fun s2 I2 => ⟨_, H1, I2, q1⟩) hf
end

/-! ### while -/
section
variable {X : Cx} {pos : Pos}
end

/-! ### what a loop or a comprehension walks -/
/-- at turn i: it yields x (the heap may grow), or it stops -/
structure It where
  go : Nat → Hp → Prop
  yld : Nat → Hp → V → Hp → Prop
  stop : Nat → Hp → Prop
/-- the iterator's own objects may turn: they are not the frame's, not pinned, younger than the entry (or a comprehension's own) -/
def FpOk (X : Cx) (pins : List (Addr × Obj)) (H : Hp) (b : Addr) : Prop :=
  H b = none ∧ b ≠ X.env.locals ∧ b ∉ X.fs ∧ (b ∈ X.ex ∨ X.s₀.heap.objs.size ≤ b) ∧ (∀ x c, X.env.cells.lookup x = some c → c ≠ b) ∧ ∀ p ∈ X.pn ++ pins, p.1 ≠ b
theorem Inv.fpOk {X : Cx} {pins : List (Addr × Obj)} {σ : St} {H H' : Hp} {s : Shared} {b : Addr} (I : Inv X pins σ H s) (hb : s.heap.objs.size ≤ b) (hn : H' b = none) : FpOk X pins H' b := by
  refine ⟨hn, Nat.ne_of_gt (Nat.lt_of_lt_of_le I.lt hb), I.nofs hb, .inr (Nat.le_trans I.sz hb), fun x c e z => ?_, fun p hp z => ?_⟩
  · obtain ⟨v, q⟩ := I.cell x c e
    exact absurd (Nat.lt_of_lt_of_le q.lt (by rw [z]; exact hb)) (Nat.lt_irrefl _)
  · exact absurd (Nat.lt_of_lt_of_le (Heap.lt_size (I.pin p hp).1) (by rw [z]; exact hb)) (Nat.lt_irrefl _)
structure Turn (P : Program) (w : World) (K : PySem.W.Frag) (tg : Expr) (J : It) (fp : List Addr) (it : Addr) (tn : Nat → Heap → Prop) : Prop where
  mem : it ∈ fp
  obj : ∀ i h, tn i h → ∀ b ∈ fp, ∃ o, h.get? b = some o ∧ ∀ v, o.data ≠ .cell v
  keep : ∀ i h h', tn i h → (∀ b ∈ fp, ∀ o, h.get? b = some o → h'.get? b = some o) → tn i h'
  item : ∀ (X : Cx), X.prog = P → X.w = w → X.K = K → X.calm = true → ∀ (i : Nat) (pins : List (Addr × Obj)) (s : Shared) (σ : St) (H : Hp) (E : Value → Shared → Prop), Inv X pins σ H s → (∀ b ∈ fp, FpOk X pins H b) → tn i s.heap → J.go i H →
    wpAny (model P w) X.A (pyNext (.ref it)) (fun r s1 => ∃ u, r = some u ∧
      wpAny (model P w) X.A (letOwnedTupleGo tg (.ref it) u) (fun _ s2 => ∃ x H', Inv X pins σ H' s2 ∧ RelV x u ∧ J.yld i H x H' ∧ tn (i + 1) s2.heap ∧ ∀ b ∈ fp, H' b = none) E s1) E s
  done : ∀ (X : Cx), X.prog = P → X.w = w → X.K = K → X.calm = true → ∀ (i : Nat) (pins : List (Addr × Obj)) (s : Shared) (σ : St) (H : Hp) (E : Value → Shared → Prop), Inv X pins σ H s → (∀ b ∈ fp, FpOk X pins H b) → tn i s.heap → J.stop i H →
    wpAny (model P w) X.A (pyNext (.ref it)) (fun r s1 => r = none ∧ Inv X pins σ H s1) E s
  self : ∀ (A : Around) (i : Nat) (s : Shared) (Q : Value → Shared → Prop) (E : Value → Shared → Prop), tn i s.heap → Q (.ref it) s → wpAny (model P w) A (pyIter (.ref it)) Q E s
abbrev TI := St → Hp → (It → Hp → Prop) → Prop
/-- an iterator has come -/
def PIE (X : Cx) (pins : List (Addr × Obj)) (σ : St) (tg : Expr) (R : It → Hp → Prop) (itv : Value) (s2 : Shared) : Prop :=
  ∃ (it : Addr) (fp : List Addr) (tn : Nat → Heap → Prop) (J : It) (H' : Hp), itv = .ref it ∧ Inv X pins σ H' s2 ∧ Turn X.prog X.w X.K tg J fp it tn ∧ tn 0 s2.heap ∧ (∀ b ∈ fp, FpOk X pins H' b) ∧ R J H'
def PI (X : Cx) (tg iter : Expr) (wi : TI) : Prop :=
  ∀ (pins : List (Addr × Obj)) (s : Shared) (σ : St) (H : Hp) (R : It → Hp → Prop), Inv X pins σ H s → wi σ H R →
    wpAny (model X.prog X.w) X.A (eval iter X.env) (fun v s1 => wpAny (model X.prog X.w) X.A (pyIter v) (PIE X pins σ tg R) X.xe s1) X.xe s

/-- the step ahead of the store is nothing for an iterator that keeps no tuple -/
theorem go_of {M : Model} {A : Around} {E : Value → Shared → Prop} {s : Shared} {tg : Expr} {it : Addr} {u : Value} {o : Obj} {n : String} {vs : Array Value} {Q : Unit → Shared → Prop} (ho : s.heap.get? it = some o) (hc : o.cls = .type n) (hd : o.data = .fields vs)
    (hn : ["enumerate", "zip", "dict_itemiterator", "dict_reverseitemiterator", "odict_iterator", "itertools.zip_longest", "itertools.pairwise"].contains n = false) (hQ : Q () s) : wpAny M A (letOwnedTupleGo tg (.ref it) u) Q E s := by
  unfold letOwnedTupleGo
  cases tg <;> first
    | exact wpAny_pure hQ
    | (cases u <;> first
        | exact wpAny_pure hQ
        | (refine wpAny_bind (wpAny_load ho ?_)
           rw [hc, hd]
           show wpAny M A (if (["enumerate", "zip", "dict_itemiterator", "dict_reverseitemiterator", "odict_iterator", "itertools.zip_longest", "itertools.pairwise"].contains n && vs[0]? == some (rawInt _)) = true then _ else _) Q E s
           rw [if_neg (by intro h; rw [hn, Bool.false_and] at h; cases h)]
           exact wpAny_pure hQ))

/-- the list at a, as it stands at each turn (a loop may append to it) -/
def Itl (K : PySem.W.Frag) (a : Addr) : It :=
  ⟨fun i H => ∃ xs x, SqL K H a xs ∧ xs[i]? = some x, fun i H x H' => H' = H ∧ ∀ xs, SqL K H a xs → xs[i]? = some x, fun i H => ∃ xs, SqL K H a xs ∧ xs.length ≤ i⟩
def Itt (K : PySem.W.Frag) (a : Addr) : It :=
  ⟨fun i H => ∃ xs x, SqT K H a xs ∧ xs[i]? = some x, fun i H x H' => H' = H ∧ ∀ xs, SqT K H a xs → xs[i]? = some x, fun i H => ∃ xs, SqT K H a xs ∧ xs.length ≤ i⟩
/-- lo, lo + 1, .. (n of them) -/
def Itr (lo : Int) (n : Nat) : It := ⟨fun i _ => i < n, fun i H x H' => H' = H ∧ x = .int (lo + i), fun i _ => n ≤ i⟩
theorem turn_list {P : Program} {w : World} {K : PySem.W.Frag} {tg : Expr} (a it : Addr) : Turn P w K tg (Itl K a) [it] it (fun i h => h.IsListIter it a i) where
  mem := by simp
  obj := fun i h st b hb => by
    have e : b = it := by simpa using hb
    subst e
    obtain ⟨o, e, c, d⟩ := st
    exact ⟨o, e, fun v z => by rw [d] at z; cases z⟩
  keep := fun i h h' st k => st.at fun o e => k it (by simp) o e
  item := by
    intro X hP hw hK hc i pins s σ H E I hf st hg
    subst hP hw hK
    obtain ⟨xs, x, hq, hx⟩ := hg
    obtain ⟨its, rv, p, hz⟩ := I.list hq
    obtain ⟨u, hu, ru⟩ := rv.get hx
    obtain ⟨f0, f1, f2, f3, f4, f5⟩ := hf it (by simp)
    refine wpAny_pyNext_list_item st p.isList (x := u) (by simpa using hu) fun h' st' sb => ?_
    have I1 : Inv X pins σ H { s with heap := h' } := I.turned (t' := s.toks) (fun b o hb e => (sb.2 b hb).trans e) f0 f1 f3 f4 f5
    obtain ⟨o, e, c, d⟩ := id st'
    exact ⟨u, rfl, go_of (s := { s with heap := h' }) e c d (by decide) ⟨x, H, I1, ru, ⟨rfl, fun ys hy => by rw [I.list_inj hy hq]; exact hx⟩, st', fun b hb => (hf b hb).1⟩⟩
  done := by
    intro X hP hw hK hc i pins s σ H E I hf st hg
    subst hP hw hK
    obtain ⟨xs, hq, hx⟩ := hg
    obtain ⟨its, rv, p, hz⟩ := I.list hq
    obtain ⟨f0, f1, f2, f3, f4, f5⟩ := hf it (by simp)
    have hl := rv.length
    exact wpAny_pyNext_list_end (I.ok.hd hc) st p.isList (by simp; omega) fun h' eb => ⟨rfl, I.turned (t' := s.toks) (fun b o hb e => eb b o hb e) f0 f1 f3 f4 f5⟩
  self := fun _ _ _ _ _ st h => wpAny_pyIter_listiter st h
theorem turn_tuple {P : Program} {w : World} {K : PySem.W.Frag} {tg : Expr} (a it : Addr) : Turn P w K tg (Itt K a) [it] it (fun i h => h.IsTupleIter it a i) where
  mem := by simp
  obj := fun i h st b hb => by
    have e : b = it := by simpa using hb
    subst e
    obtain ⟨o, e, c, d⟩ := st
    exact ⟨o, e, fun v z => by rw [d] at z; cases z⟩
  keep := fun i h h' st k => st.at fun o e => k it (by simp) o e
  item := by
    intro X hP hw hK hc i pins s σ H E I hf st hg
    subst hP hw hK
    obtain ⟨xs, x, hq, hx⟩ := hg
    obtain ⟨its, rv, p, hz⟩ := I.tuple hq
    obtain ⟨u, hu, ru⟩ := rv.get hx
    obtain ⟨f0, f1, f2, f3, f4, f5⟩ := hf it (by simp)
    refine wpAny_pyNext_tuple_item st (show s.heap.IsTuple a its.toArray from p) (x := u) (by simpa using hu) fun h' st' sb => ?_
    have I1 : Inv X pins σ H { s with heap := h' } := I.turned (t' := s.toks) (fun b o hb e => (sb.2 b hb).trans e) f0 f1 f3 f4 f5
    obtain ⟨o, e, c, d⟩ := id st'
    exact ⟨u, rfl, go_of (s := { s with heap := h' }) e c d (by decide) ⟨x, H, I1, ru, ⟨rfl, fun ys hy => by rw [I.tuple_inj hy hq]; exact hx⟩, st', fun b hb => (hf b hb).1⟩⟩
  done := by
    intro X hP hw hK hc i pins s σ H E I hf st hg
    subst hP hw hK
    obtain ⟨xs, hq, hx⟩ := hg
    obtain ⟨its, rv, p, hz⟩ := I.tuple hq
    obtain ⟨f0, f1, f2, f3, f4, f5⟩ := hf it (by simp)
    have hl := rv.length
    exact wpAny_pyNext_tuple_end (I.ok.hd hc) st (show s.heap.IsTuple a its.toArray from p) (by simp; omega) fun h' eb => ⟨rfl, I.turned (t' := s.toks) (fun b o hb e => eb b o hb e) f0 f1 f3 f4 f5⟩
  self := fun _ _ _ _ _ st h => wpAny_pyIter_tupleiter st h
theorem turn_range {P : Program} {w : World} {K : PySem.W.Frag} {tg : Expr} (it : Addr) (lo : Int) (n : Nat) : Turn P w K tg (Itr lo n) [it] it (fun i h => IsRangeIter h it (lo + (i : Nat) * 1) ((n : Int) - (i : Nat)) 1) where
  mem := by simp
  obj := fun i h st b hb => by
    have e : b = it := by simpa using hb
    subst e
    exact ⟨_, st, fun v z => by
      have z' : Data.fields _ = Data.cell v := z
      cases z'⟩
  keep := fun i h h' st k => k it (by simp) _ st
  item := by
    intro X hP hw hK hc i pins s σ H E I hf st hg
    subst hP hw hK
    obtain ⟨f0, f1, f2, f3, f4, f5⟩ := hf it (by simp)
    have W := Walks.range (prog := X.prog) (w := X.w) (I.ok.hd hc) it lo 1 n
    refine W.item i s _ _ hg st fun v h' tk hv st' kk => ?_
    obtain ⟨t, rfl⟩ := hv
    have I1 : Inv X pins σ H { s with heap := h', toks := tk } := I.turned (fun b o hb e => kk b o (by simpa using hb) e) f0 f1 f3 f4 f5
    refine ⟨_, rfl, go_of (s := { s with heap := h', toks := tk }) (n := "range_iterator") st' rfl rfl (by decide) ⟨.int (lo + i), H, I1, ⟨t, ?_⟩, ⟨rfl, rfl⟩, st', fun b hb => (hf b hb).1⟩⟩
    rw [Int.mul_one]
  done := by
    intro X hP hw hK hc i pins s σ H E I hf st hg
    subst hP hw hK
    obtain ⟨f0, f1, f2, f3, f4, f5⟩ := hf it (by simp)
    exact wpAny_pyNext_range_end (I.ok.hd hc) st (by have : n ≤ i := hg; omega) fun h' eb => ⟨rfl, I.turned (t' := s.toks) (fun b o hb e => eb b o hb e) f0 f1 f3 f4 f5⟩
  self := fun _ _ _ _ _ st h => wpAny_pyIter_rangeiter st h
end L2

namespace L2
open PySem PySem.Spec PyProof.Rows
section
variable {X : Cx} {tg : Expr}
def iList (K : PySem.W.Frag) (tl : TE) : TI := fun σ H R => tl σ H fun x H1 => ∃ a, x = .ref a ∧ (∃ xs, SqL K H1 a xs) ∧ R (Itl K a) H1
def iTup (K : PySem.W.Frag) (tl : TE) : TI := fun σ H R => tl σ H fun x H1 => ∃ a, x = .ref a ∧ (∃ xs, SqT K H1 a xs) ∧ R (Itt K a) H1
theorem pi_list {l : Expr} {tl : TE} (hl : PE X l tl) : PI X tg l (iList X.K tl) := by
  intro pins s σ H R I h
  refine thn (hl pins s σ H _ I h) fun v s1 ⟨x, H1, I1, r1, q1⟩ => ?_
  obtain ⟨a, e, ⟨xs, hq⟩, q⟩ := q1
  subst e
  cases r1
  obtain ⟨its, rv, p, hz⟩ := I1.list hq
  refine wpAny_pyIter_list p.isList ?_
  refine ⟨s1.heap.objs.size, [s1.heap.objs.size], _, _, H1, rfl, I1.kept (t' := s1.toks) fun b o e => Heap.get?_push_of_some _ e, turn_list a _, ⟨_, Heap.get?_push_size _ rfl, rfl, rfl⟩, fun b hb => ?_, q⟩
  have e : b = s1.heap.objs.size := by simpa using hb
  subst e
  exact I1.fpOk (Nat.le_refl _) (I1.hok.fresh (Nat.le_refl _))
theorem pi_tup {l : Expr} {tl : TE} (hl : PE X l tl) : PI X tg l (iTup X.K tl) := by
  intro pins s σ H R I h
  refine thn (hl pins s σ H _ I h) fun v s1 ⟨x, H1, I1, r1, q1⟩ => ?_
  obtain ⟨a, e, ⟨xs, hq⟩, q⟩ := q1
  subst e
  cases r1
  obtain ⟨its, rv, p, hz⟩ := I1.tuple hq
  refine wpAny_pyIter_tuple (show s1.heap.IsTuple a its.toArray from p) ?_
  refine ⟨s1.heap.objs.size, [s1.heap.objs.size], _, _, H1, rfl, I1.kept (t' := s1.toks) fun b o e => Heap.get?_push_of_some _ e, turn_tuple a _, ⟨_, Heap.get?_push_size _ rfl, rfl, rfl⟩, fun b hb => ?_, q⟩
  have e : b = s1.heap.objs.size := by simpa using hb
  subst e
  exact I1.fpOk (Nat.le_refl _) (I1.hok.fresh (Nat.le_refl _))
/-- a range object just made, walked -/
theorem range_it {pins : List (Addr × Obj)} {σ : St} {H : Hp} {s : Shared} {R : It → Hp → Prop} {E : Value → Shared → Prop} {lo hi : Int} {t u v : Tok} {tk : Nat} (I : Inv X pins σ H s) (h1 : -(2 ^ 62) ≤ lo) (h2 : lo < 2 ^ 62) (h3 : -(2 ^ 62) ≤ hi) (h4 : hi < 2 ^ 62)
    (q : R (Itr lo (hi - lo).toNat) H) : wpAny (model X.prog X.w) X.A (pyIter (.ref s.heap.objs.size)) (PIE X pins σ tg R) E { s with heap := s.heap.push { cls := .type "range", data := .fields #[.int lo t, .int hi u, .int 1 v] }, toks := tk } := by
  refine wpAny_pyIter_range (IsRange.new ..) (small_one h1 h2 h3 h4) ?_
  have I1 : Inv X pins σ H { s with heap := s.heap.push { cls := .type "range", data := .fields #[.int lo t, .int hi u, .int 1 v] }, toks := tk } := I.kept fun b o e => Heap.get?_push_of_some _ e
  refine ⟨(s.heap.push { cls := .type "range", data := .fields #[.int lo t, .int hi u, .int 1 v] }).objs.size, [(s.heap.push { cls := .type "range", data := .fields #[.int lo t, .int hi u, .int 1 v] }).objs.size], _, _, H, rfl,
    I1.kept (t' := tk) fun b o e => Heap.get?_push_of_some _ e, turn_range _ lo (hi - lo).toNat, ?_, fun b hb => ?_, q⟩
  · have e1 : lo + ((0 : Nat) : Int) * 1 = lo := by simp
    have e2 : (((hi - lo).toNat : Nat) : Int) - ((0 : Nat) : Int) = Builtin.Range.rangeSize lo hi 1 := by rw [rangeSize_one]; split <;> omega
    show IsRangeIter _ _ (lo + ((0 : Nat) : Int) * 1) ((((hi - lo).toNat : Nat) : Int) - ((0 : Nat) : Int)) 1
    rw [e1, e2]
    exact Heap.get?_push_size _ rfl
  · have e : b = (s.heap.push { cls := .type "range", data := .fields #[.int lo t, .int hi u, .int 1 v] }).objs.size := by simpa using hb
    subst e
    exact I1.fpOk (Nat.le_refl _) (I1.hok.fresh (Nat.le_refl _))
def iRng1 (ta : TA) : TI := fun σ H R => ta σ H fun vs H1 => ∃ j : Int, vs = [.int j] ∧ -(2 ^ 62) ≤ j ∧ j < 2 ^ 62 ∧ R (Itr 0 j.toNat) H1
theorem pi_range1 {a : Expr} {ta : TA} {p pos : Pos} (hg : Gl X "range") (hm : X.mg "range" = none) (ha : PA X [a] ta) (hs : starEach [a] X.env = [(false, eval a X.env)] := by rfl) : PI X tg (.Call (.Name "range" p) [a] [] pos) (iRng1 ta) := by
  intro pins s σ H R I h
  refine Call_ (ld_blt I hg hm boot_range (PyProof.Rows.callWith_type1 (thn (ha pos pins s σ H _ I h) fun us s1 ⟨vs, H1, I1, r1, q1⟩ => ?_) hs rfl))
  obtain ⟨j, e, q1, q2, q⟩ := q1
  subst e
  cases r1 with
  | cons r rr =>
    cases rr
    obtain ⟨t, rfl⟩ := r
    exact call_range_1 (range_it I1 (by omega) (by omega) q1 q2 (by simpa using q))

/-! ### for -/
/-- W: the invariant by the turn and a measure; N: what the body is to reach -/
def tFor (wi : TI) (g : TG) (tb : TS) : TS := fun D σ H => wi σ H fun J H1 => ∃ W : Nat → Nat → St → Hp → Prop, (∃ m, W 0 m σ H1) ∧ ∀ i m σ H, W i m σ H →
  (J.stop i H ∧ D.nx σ H) ∨ (J.go i H ∧ ∃ N : St → Hp → Prop, (∀ σ' H', N σ' H' → ∃ m', m' < m ∧ W (i + 1) m' σ' H') ∧ ∀ x H', J.yld i H x H' → g x σ H' fun σ2 H2 => tb { D with nx := N, ct := N, bk := D.nx } σ2 H2)
/-- the records at fp as they stand -/
def pinsAt (fp : List Addr) (h : Heap) : List (Addr × Obj) := fp.filterMap fun b => (h.get? b).map fun o => (b, o)
theorem mem_pinsAt {fp : List Addr} {h : Heap} {b : Addr} {o : Obj} (hb : b ∈ fp) (e : h.get? b = some o) : (b, o) ∈ pinsAt fp h := List.mem_filterMap.mpr ⟨b, hb, by rw [e]; rfl⟩
theorem of_pinsAt {fp : List Addr} {h : Heap} {p : Addr × Obj} (hp : p ∈ pinsAt fp h) : p.1 ∈ fp ∧ h.get? p.1 = some p.2 := by
  obtain ⟨b, hb, e⟩ := List.mem_filterMap.mp hp
  cases q : h.get? b with
  | none => rw [q] at e; cases e
  | some o =>
    rw [q] at e
    have e' : (b, o) = p := Option.some.inj e
    subst e'
    exact ⟨hb, q⟩
theorem Inv.pinned {pins : List (Addr × Obj)} {σ : St} {H : Hp} {s : Shared} {fp : List Addr} (I : Inv X pins σ H s) (hf : ∀ b ∈ fp, FpOk X pins H b) (ho : ∀ b ∈ fp, ∃ o, s.heap.get? b = some o ∧ ∀ v, o.data ≠ .cell v) : Inv X (pins ++ pinsAt fp s.heap) σ H s :=
  I.pins_of fun p hp => (List.mem_append.mp hp).elim (fun z => I.pin p (List.mem_append_right _ z)) fun z => by
    obtain ⟨hb, e⟩ := of_pinsAt z
    obtain ⟨f0, f1, f2, _⟩ := hf p.1 hb
    obtain ⟨o, e', d⟩ := ho p.1 hb
    rw [e] at e'; cases e'
    exact ⟨e, f0, f1, f2, d⟩
theorem Inv.unpinned {pins pl : List (Addr × Obj)} {σ : St} {H : Hp} {s : Shared} (I : Inv X (pins ++ pl) σ H s) : Inv X pins σ H s := I.pins_of fun p hp => I.pin p (List.mem_append_right _ (List.mem_append_left _ hp))
theorem ps_for {iter : Expr} {body : List Stmt} {wi : TI} {g : TG} {tb : TS} {pos : Pos} (hp : PassesOwn (model X.prog X.w) X.A X.env X.xe) (hc : X.calm = true) (hi : PI X tg iter wi) (hg : PG X tg g) (hb : PSs X body tb)
    (hs : ∀ x, foldedSetIterable iter X.env x = pure x := by intro _; rfl) : PS X (.For tg iter body [] pos) (tFor wi g tb) := by
  intro pins s σ H D I h
  refine wpAny_For (thn (hi pins s σ H _ I h) fun v s1 h1 => thn h1 fun itv s2 h2 => ?_) hs
  obtain ⟨it, fp, tn, J, H2, e, I2, T, st2, f2, W, ⟨m0, w0⟩, turn⟩ := h2
  subst e
  -- what stays true of the iterator's objects through the loop
  have stat : ∀ {H' : Hp}, (∀ b ∈ fp, H' b = none) → ∀ b ∈ fp, FpOk X pins H' b := fun hn b hb => ⟨hn b hb, (f2 b hb).2⟩
  refine codeAny_forLoop_any (fun n s' => ∃ i σ' H', Inv X pins σ' H' s' ∧ tn i s'.heap ∧ (∀ b ∈ fp, H' b = none) ∧ W i n σ' H') ?_ m0 ⟨0, σ, H2, I2, st2, fun b hb => (f2 b hb).1, w0⟩
  rintro n s3 ⟨i, σ3, H3, I3, st3, fr3, w3⟩
  rcases turn i n σ3 H3 w3 with ⟨stop, qn⟩ | ⟨go, N, hN, step⟩
  · refine wpAny_passesOwn hp (thn (T.done X rfl rfl rfl hc i pins s3 σ3 H3 X.xe I3 (stat fr3) st3 stop) fun r s4 ⟨hr, I4⟩ => ?_)
    subst hr
    exact wpAny_execs_nil ⟨σ3, H3, I4, qn⟩
  · refine wpAny_passesOwn hp (thn (T.item X rfl rfl rfl hc i pins s3 σ3 H3 X.xe I3 (stat fr3) st3 go) fun r s4 ⟨u, hr, h4⟩ => ?_)
    subst hr
    refine wpAny_passesOwn hp (thn h4 fun _ s5 ⟨x, H5, I5, r5, y5, st5, fr5⟩ => ?_)
    have I5' := I5.pinned (stat fr5) (T.obj _ _ st5)
    refine wpAny_passesOwn hp (thn (hg _ s5 σ3 H5 x u _ I5' r5 (step x H5 y5)) fun _ s6 ⟨σ6, H6, I6, q6⟩ => ?_)
    refine wpAny_passesOwn hp (thn (hb _ s6 σ6 H6 _ I6 q6) fun f s7 q7 => ?_)
    have again : ∀ {σ7 : St} {H7 : Hp}, Inv X (pins ++ pinsAt fp s5.heap) σ7 H7 s7 → N σ7 H7 → ∃ m, m < n ∧ ∃ i σ' H', Inv X pins σ' H' s7 ∧ tn i s7.heap ∧ (∀ b ∈ fp, H' b = none) ∧ W i m σ' H' := fun {σ7 H7} I7 n7 => by
      obtain ⟨m', hm, w7⟩ := hN σ7 H7 n7
      refine ⟨m', hm, i + 1, σ7, H7, I7.unpinned, T.keep _ _ _ st5 fun b hb o e => (I7.pin (b, o) (List.mem_append_right _ (List.mem_append_right _ (mem_pinsAt hb e)))).1, fun b hb => ?_, w7⟩
      obtain ⟨o, e, d⟩ := T.obj _ _ st5 b hb
      exact (I7.pin (b, o) (List.mem_append_right _ (List.mem_append_right _ (mem_pinsAt hb e)))).2.1
    cases f with
    | next => obtain ⟨σ7, H7, I7, n7⟩ := q7; exact again I7 n7
    | cont => obtain ⟨σ7, H7, I7, n7⟩ := q7; exact again I7 n7
    | brk => obtain ⟨σ7, H7, I7, q7⟩ := q7; exact ⟨σ7, H7, I7.unpinned, q7⟩
    | ret v => obtain ⟨x7, σ7, H7, I7, r7, q7⟩ := q7; exact ⟨x7, σ7, H7, I7.unpinned, r7, q7⟩
end

/-! ### the forms one uses -/
/-- over a list that the body leaves as it is -/
theorem for_list {K : PySem.W.Frag} {a : Addr} {xs : List V} {g : TG} {tb : TS} {D : Ends} {σ : St} {H : Hp} (Pv : Nat → St → Hp → Prop) (h0 : Pv 0 σ H) (hl : ∀ i σ H, i ≤ xs.length → Pv i σ H → SqL K H a xs)
    (hs : ∀ i x σ H, xs[i]? = some x → Pv i σ H → g x σ H fun σ2 H2 => tb { D with nx := Pv (i + 1), ct := Pv (i + 1), bk := D.nx } σ2 H2) (hd : ∀ σ H, Pv xs.length σ H → D.nx σ H) :
    ∃ W : Nat → Nat → St → Hp → Prop, (∃ m, W 0 m σ H) ∧ ∀ i m σ H, W i m σ H →
      ((Itl K a).stop i H ∧ D.nx σ H) ∨ ((Itl K a).go i H ∧ ∃ N : St → Hp → Prop, (∀ σ' H', N σ' H' → ∃ m', m' < m ∧ W (i + 1) m' σ' H') ∧ ∀ x H', (Itl K a).yld i H x H' → g x σ H' fun σ2 H2 => tb { D with nx := N, ct := N, bk := D.nx } σ2 H2) := by
  refine ⟨fun i m σ H => m = xs.length - i ∧ i ≤ xs.length ∧ Pv i σ H, ⟨xs.length, by simp, Nat.zero_le _, h0⟩, ?_⟩
  rintro i m σ H ⟨rfl, hi, p⟩
  have q := hl i σ H hi p
  by_cases hlt : i < xs.length
  · refine .inr ⟨⟨xs, xs[i], q, by simp [hlt]⟩, Pv (i + 1), fun σ' H' p' => ⟨xs.length - (i + 1), by omega, rfl, hlt, p'⟩, fun x H' y => ?_⟩
    obtain ⟨e, y⟩ := y
    subst e
    exact hs i x σ _ (y xs q) p
  · have e : i = xs.length := by omega
    subst e
    exact .inl ⟨⟨xs, q, Nat.le_refl _⟩, hd σ H p⟩
theorem for_tup {K : PySem.W.Frag} {a : Addr} {xs : List V} {g : TG} {tb : TS} {D : Ends} {σ : St} {H : Hp} (Pv : Nat → St → Hp → Prop) (h0 : Pv 0 σ H) (hl : ∀ i σ H, i ≤ xs.length → Pv i σ H → SqT K H a xs)
    (hs : ∀ i x σ H, xs[i]? = some x → Pv i σ H → g x σ H fun σ2 H2 => tb { D with nx := Pv (i + 1), ct := Pv (i + 1), bk := D.nx } σ2 H2) (hd : ∀ σ H, Pv xs.length σ H → D.nx σ H) :
    ∃ W : Nat → Nat → St → Hp → Prop, (∃ m, W 0 m σ H) ∧ ∀ i m σ H, W i m σ H →
      ((Itt K a).stop i H ∧ D.nx σ H) ∨ ((Itt K a).go i H ∧ ∃ N : St → Hp → Prop, (∀ σ' H', N σ' H' → ∃ m', m' < m ∧ W (i + 1) m' σ' H') ∧ ∀ x H', (Itt K a).yld i H x H' → g x σ H' fun σ2 H2 => tb { D with nx := N, ct := N, bk := D.nx } σ2 H2) := by
  refine ⟨fun i m σ H => m = xs.length - i ∧ i ≤ xs.length ∧ Pv i σ H, ⟨xs.length, by simp, Nat.zero_le _, h0⟩, ?_⟩
  rintro i m σ H ⟨rfl, hi, p⟩
  have q := hl i σ H hi p
  by_cases hlt : i < xs.length
  · refine .inr ⟨⟨xs, xs[i], q, by simp [hlt]⟩, Pv (i + 1), fun σ' H' p' => ⟨xs.length - (i + 1), by omega, rfl, hlt, p'⟩, fun x H' y => ?_⟩
    obtain ⟨e, y⟩ := y
    subst e
    exact hs i x σ _ (y xs q) p
  · have e : i = xs.length := by omega
    subst e
    exact .inl ⟨⟨xs, q, Nat.le_refl _⟩, hd σ H p⟩
theorem for_range {lo : Int} {n : Nat} {g : TG} {tb : TS} {D : Ends} {σ : St} {H : Hp} (Pv : Nat → St → Hp → Prop) (h0 : Pv 0 σ H)
    (hs : ∀ i σ H, i < n → Pv i σ H → g (.int (lo + i)) σ H fun σ2 H2 => tb { D with nx := Pv (i + 1), ct := Pv (i + 1), bk := D.nx } σ2 H2) (hd : ∀ σ H, Pv n σ H → D.nx σ H) :
    ∃ W : Nat → Nat → St → Hp → Prop, (∃ m, W 0 m σ H) ∧ ∀ i m σ H, W i m σ H →
      ((Itr lo n).stop i H ∧ D.nx σ H) ∨ ((Itr lo n).go i H ∧ ∃ N : St → Hp → Prop, (∀ σ' H', N σ' H' → ∃ m', m' < m ∧ W (i + 1) m' σ' H') ∧ ∀ x H', (Itr lo n).yld i H x H' → g x σ H' fun σ2 H2 => tb { D with nx := N, ct := N, bk := D.nx } σ2 H2) := by
  refine ⟨fun i m σ H => m = n - i ∧ i ≤ n ∧ Pv i σ H, ⟨n, by simp, Nat.zero_le _, h0⟩, ?_⟩
  rintro i m σ H ⟨rfl, hi, p⟩
  by_cases hlt : i < n
  · refine .inr ⟨hlt, Pv (i + 1), fun σ' H' p' => ⟨n - (i + 1), by omega, rfl, hlt, p'⟩, fun x H' y => ?_⟩
    obtain ⟨e, y⟩ := y
    subst e y
    exact hs i σ _ hlt p
  · have e : i = n := by omega
    subst e
    exact .inl ⟨Nat.le_refl _, hd σ H p⟩
end L2

namespace L2
open PySem PySem.Spec PyProof.Rows

abbrev R2 := V → V → Hp → VK → Prop
/-- a two-place operation on values: f is binaryOp op, inplaceOp op or compareOp op -/
def OpR (X : Cx) (f : Value → Value → Sem Value) (r : R2) : Prop :=
  ∀ (pins : List (Addr × Obj)) (s : Shared) (σ : St) (H : Hp) (x y : V) (v u : Value) (Q : VK), Inv X pins σ H s → RelV x v → RelV y u → r x y H Q →
    wpAny (model X.prog X.w) X.A (f v u) (EP X pins σ Q) X.xe s
/-- a one-place operation -/
def UnR (X : Cx) (f : Value → Sem Value) (r : V → Hp → VK → Prop) : Prop :=
  ∀ (pins : List (Addr × Obj)) (s : Shared) (σ : St) (H : Hp) (x : V) (v : Value) (Q : VK), Inv X pins σ H s → RelV x v → r x H Q →
    wpAny (model X.prog X.w) X.A (f v) (EP X pins σ Q) X.xe s
/-- a call of a value that is known (a builtin, a type) with values -/
def CallR (X : Cx) (f : Value) (r : List V → Hp → VK → Prop) : Prop :=
  ∀ (pins : List (Addr × Obj)) (s : Shared) (σ : St) (H : Hp) (xs : List V) (us : List Value) (Q : VK), Inv X pins σ H s → Vals xs us → r xs H Q →
    wpAny (model X.prog X.w) X.A (call f us) (EP X pins σ Q) X.xe s

def tOp (r : R2) (ta tb : TE) : TE := fun σ H Q => ta σ H fun x H1 => tb σ H1 fun y H2 => r x y H2 Q
def tUn (r : V → Hp → VK → Prop) (ta : TE) : TE := fun σ H Q => ta σ H fun x H1 => r x H1 Q
/-- ints in, under C, and a value out -/
def rI (C : Int → Int → Prop) (g : Int → Int → V) : R2 := fun x y H Q => ∃ i j, x = .int i ∧ y = .int j ∧ C i j ∧ Q (g i j) H
def rI0 (g : Int → Int → V) : R2 := fun x y H Q => ∃ i j, x = .int i ∧ y = .int j ∧ Q (g i j) H
def rU (g : Int → V) : V → Hp → VK → Prop := fun x H Q => ∃ i, x = .int i ∧ Q (g i) H

section
variable {X : Cx} {a b c : Expr} {ta tb tc : TE} {pos : Pos}

theorem binT (ha : PE X a ta) (hb : PE X b tb) {pins : List (Addr × Obj)} {s : Shared} {σ : St} {H : Hp} {R : V → V → Hp → Prop} (I : Inv X pins σ H s)
    (h : ta σ H fun x H1 => tb σ H1 fun y H2 => R x y H2) {Q : Value → Shared → Prop} {f : Value → Value → Sem Value}
    (hf : ∀ v u s2 x y H2, Inv X pins σ H2 s2 → RelV x v → RelV y u → R x y H2 → wpAny (model X.prog X.w) X.A (f v u) Q X.xe s2) :
    wpAny (model X.prog X.w) X.A (eval a X.env) (fun v s₁ => wpAny (model X.prog X.w) X.A (eval b X.env) (fun u s₂ => wpAny (model X.prog X.w) X.A (f v u) Q X.xe s₂) X.xe s₁) X.xe s := by
  refine thn (ha pins s σ H _ I h) fun v s1 ⟨x, H1, I1, r1, q1⟩ => ?_
  refine thn (hb pins s1 σ H1 _ I1 q1) fun u s2 ⟨y, H2, I2, r2, q2⟩ => ?_
  exact hf v u s2 x y H2 I2 r1 r2 q2

theorem pe_op {op : Operator} {r : R2} (ho : OpR X (binaryOp op) r) (ha : PE X a ta) (hb : PE X b tb) : PE X (.BinOp a op b pos) (tOp r ta tb) := by
  intro pins s σ H Q I h
  exact wpAny_BinOp (binT ha hb I h fun v u s2 x y H2 I2 rx ry q => ho pins s2 σ H2 x y v u Q I2 rx ry q)
theorem pe_un {op : UnaryOp} {r : V → Hp → VK → Prop} (ho : UnR X (unaryOp op) r) (ha : PE X a ta) : PE X (.UnaryOp op a pos) (tUn r ta) := by
  intro pins s σ H Q I h
  exact UnaryOp_ (thn (ha pins s σ H _ I h) fun v s1 ⟨x, H1, I1, r1, q1⟩ => ho pins s1 σ H1 x v Q I1 r1 q1)

/-! ### ints -/
theorem opI {f : Value → Value → Sem Value} {C : Int → Int → Prop} {g : Int → Int → Int}
    (rule : ∀ (i j : Int) (t u : Tok) (s : Shared) (Q : Value → Shared → Prop) (E : Value → Shared → Prop), C i j → Q (.int (g i j) s.toks) { s with toks := s.toks + 1 } → wpAny (model X.prog X.w) X.A (f (.int i t) (.int j u)) Q E s) :
    OpR X f (rI C fun i j => .int (g i j)) := by
  intro pins s σ H x y v u Q I rx ry h
  obtain ⟨i, j, rfl, rfl, hc, q⟩ := h
  obtain ⟨t, rfl⟩ := rx
  obtain ⟨t', rfl⟩ := ry
  exact rule i j t t' s _ _ hc ⟨.int (g i j), H, I.tok _, ⟨_, rfl⟩, q⟩
theorem opI0 {f : Value → Value → Sem Value} {g : Int → Int → Int}
    (rule : ∀ (i j : Int) (t u : Tok) (s : Shared) (Q : Value → Shared → Prop) (E : Value → Shared → Prop), Q (.int (g i j) s.toks) { s with toks := s.toks + 1 } → wpAny (model X.prog X.w) X.A (f (.int i t) (.int j u)) Q E s) :
    OpR X f (rI0 fun i j => .int (g i j)) := by
  intro pins s σ H x y v u Q I rx ry h
  obtain ⟨i, j, rfl, rfl, q⟩ := h
  obtain ⟨t, rfl⟩ := rx
  obtain ⟨t', rfl⟩ := ry
  exact rule i j t t' s _ _ ⟨.int (g i j), H, I.tok _, ⟨_, rfl⟩, q⟩
theorem opB0 {f : Value → Value → Sem Value} {g : Int → Int → Bool}
    (rule : ∀ (i j : Int) (t u : Tok) (s : Shared) (Q : Value → Shared → Prop) (E : Value → Shared → Prop), Q (.bool (g i j)) s → wpAny (model X.prog X.w) X.A (f (.int i t) (.int j u)) Q E s) :
    OpR X f (rI0 fun i j => .bl (g i j)) := by
  intro pins s σ H x y v u Q I rx ry h
  obtain ⟨i, j, rfl, rfl, q⟩ := h
  obtain ⟨t, rfl⟩ := rx
  obtain ⟨t', rfl⟩ := ry
  exact rule i j t t' s _ _ ⟨.bl (g i j), H, I, rfl, q⟩

def CDiv (i j : Int) : Prop := 0 < j ∧ j < 1073741824
def CPow (i j : Int) : Prop := 0 ≤ j ∧ j ≤ 1000000 ∧ i.natAbs < 2 ^ 64
def CMul (i j : Int) : Prop := (-(2 ^ 64) < i ∧ i < 2 ^ 64) ∨ (-(2 ^ 64) < j ∧ j < 2 ^ 64)
theorem CMul.ok {i j : Int} (h : CMul i j) : IntMulOk i j := by
  rcases h with ⟨h1, h2⟩ | ⟨h1, h2⟩
  · exact .of_left (intBits_le_64 h1 h2)
  · exact .of_right (intBits_le_64 h1 h2)

theorem op_add : OpR X (binaryOp .Add) (rI0 fun i j => .int (i + j)) := opI0 fun _ _ _ _ _ _ _ q => add_int q
theorem op_sub : OpR X (binaryOp .Sub) (rI0 fun i j => .int (i - j)) := opI0 fun _ _ _ _ _ _ _ q => sub_int q
theorem op_mul : OpR X (binaryOp .Mult) (rI CMul fun i j => .int (i * j)) := opI fun _ _ _ _ _ _ _ hc q => mul_int q hc.ok
/-- // by a positive divisor -/
theorem op_fdiv : OpR X (binaryOp .FloorDiv) (rI CDiv fun i j => .int (i / j)) := opI fun i j _ _ _ _ _ hc q => by
  have h1 : (0 : Int) < j := hc.1
  have h2 : j < 1073741824 := hc.2
  exact floordiv_int (by omega) (by rw [Int.fdiv_eq_ediv_of_nonneg i (by omega)]; exact q) (.inl (PyProof.noPylong_small (by omega)))
/-- % by a positive divisor of any size -/
theorem op_mod : OpR X (binaryOp .Mod) (rI (fun _ j => 0 < j) fun i j => .int (i % j)) := opI fun i j _ _ _ _ _ hc q => by
  have h1 : (0 : Int) < j := hc
  exact mod_int' (by omega) (by rw [Int.fmod_eq_emod_of_nonneg i (by omega)]; exact q)
theorem op_pow : OpR X (binaryOp .Pow) (rI CPow fun i j => .int (i ^ j.toNat)) := opI fun _ _ _ _ _ _ _ hc q => pow_int_small hc.1 hc.2.1 hc.2.2 q


theorem unI {f : Value → Sem Value} {g : Int → Int}
    (rule : ∀ (i : Int) (t : Tok) (s : Shared) (Q : Value → Shared → Prop) (E : Value → Shared → Prop), Q (.int (g i) s.toks) { s with toks := s.toks + 1 } → wpAny (model X.prog X.w) X.A (f (.int i t)) Q E s) :
    UnR X f (rU fun i => .int (g i)) := by
  intro pins s σ H x v Q I rx h
  obtain ⟨i, rfl, q⟩ := h
  obtain ⟨t, rfl⟩ := rx
  exact rule i t s _ _ ⟨.int (g i), H, I.tok _, ⟨_, rfl⟩, q⟩
theorem un_neg : UnR X (unaryOp .USub) (rU fun i => .int (-i)) := unI fun _ _ _ _ _ q => neg_int q

/-! ### bools among ints: n += (a < b) -/
end

/-! ### comparisons -/
/-- the scalars that == tells apart as data does -/
def scal : V → V → Bool
  | .non, .non => true | .non, .int _ => true | .int _, .non => true | .non, .bl _ => true | .bl _, .non => true | .non, .str _ => true | .str _, .non => true
  | .int _, .int _ => true | .bl _, .bl _ => true | .str _, .str _ => true | .byt _, .byt _ => true
  | .int _, .str _ => true | .str _, .int _ => true | .bl _, .str _ => true | .str _, .bl _ => true
  | _, _ => false
def rEq : R2 := fun x y H Q => scal x y = true ∧ Q (.bl (decide (x = y))) H
def rNe : R2 := fun x y H Q => scal x y = true ∧ Q (.bl (!decide (x = y))) H

theorem dec_int {i j : Int} : decide (V.int i = V.int j) = (i == j) := by
  rw [Bool.eq_iff_iff]
  simp
theorem dec_bl {i j : Bool} : decide (V.bl i = V.bl j) = (i == j) := by
  rw [Bool.eq_iff_iff]
  simp
theorem dec_str {i j : Str} : decide (V.str i = V.str j) = (i == j) := by
  rw [Bool.eq_iff_iff]
  simp
theorem dec_byt {i j : Array UInt8} : decide (V.byt i = V.byt j) = (i.toList == j.toList) := by
  rw [Bool.eq_iff_iff]
  cases i
  cases j
  simp

section
variable {X : Cx} {a b c : Expr} {ta tb tc : TE} {pos : Pos}
theorem fin_bl {pins : List (Addr × Obj)} {σ : St} {H : Hp} {s : Shared} {Q : VK} {k k' : Bool} (I : Inv X pins σ H s) (q : Q (.bl k) H) (e : k = k') : EP X pins σ Q (.bool k') s := by
  subst e
  exact ⟨.bl k, H, I, rfl, q⟩
theorem op_eq : OpR X (compareOp .Eq) rEq := by
  intro pins s σ H x y v u Q I rx ry h
  obtain ⟨hs, q⟩ := h
  cases x with
  | non =>
    cases rx
    cases y with
    | non => cases ry; exact PySem.EqNone.eq_none_none (fin_bl I q (by simp))
    | bl j => cases ry; exact PySem.EqNone.eq_none_bool (fin_bl I q (by simp))
    | int j => obtain ⟨t', rfl⟩ := ry; exact PySem.EqNone.eq_none_int (fin_bl I q (by simp))
    | str j => obtain ⟨t', rfl⟩ := ry; exact PySem.EqNone.eq_none_str (fin_bl I q (by simp))
    | _ => exact absurd (show false = true from hs) Bool.false_ne_true
  | bl i =>
    cases rx
    cases y with
    | non => cases ry; exact PySem.EqNone.eq_bool_none (fin_bl I q (by simp))
    | bl j => cases ry; exact eq_bool (fin_bl I q dec_bl)
    | str j => obtain ⟨t', rfl⟩ := ry; exact PySem.EqMixed.eq_bool_str (fin_bl I q (by simp))
    | _ => exact absurd (show false = true from hs) Bool.false_ne_true
  | int i =>
    obtain ⟨t, rfl⟩ := rx
    cases y with
    | non => cases ry; exact PySem.EqNone.eq_int_none (fin_bl I q (by simp))
    | int j => obtain ⟨t', rfl⟩ := ry; exact eq_int (fin_bl I q dec_int)
    | str j => obtain ⟨t', rfl⟩ := ry; exact PySem.EqMixed.eq_int_str (fin_bl I q (by simp))
    | _ => exact absurd (show false = true from hs) Bool.false_ne_true
  | str i =>
    obtain ⟨t, rfl⟩ := rx
    cases y with
    | non => cases ry; exact PySem.EqNone.eq_str_none (fin_bl I q (by simp))
    | bl j => cases ry; exact PySem.EqMixed.eq_str_bool (fin_bl I q (by simp))
    | int j => obtain ⟨t', rfl⟩ := ry; exact PySem.EqMixed.eq_str_int (fin_bl I q (by simp))
    | str j => obtain ⟨t', rfl⟩ := ry; exact eq_str (fin_bl I q dec_str)
    | _ => exact absurd (show false = true from hs) Bool.false_ne_true
  | byt i =>
    obtain ⟨t, rfl⟩ := rx
    cases y with
    | byt j => obtain ⟨t', rfl⟩ := ry; exact PySem.W.eq_bytes (fin_bl I q dec_byt)
    | _ => exact absurd (show false = true from hs) Bool.false_ne_true
  | _ => cases y <;> exact absurd (show false = true from hs) Bool.false_ne_true
theorem op_ne : OpR X (compareOp .NotEq) rNe := by
  intro pins s σ H x y v u Q I rx ry h
  obtain ⟨hs, q⟩ := h
  cases x with
  | non =>
    cases rx
    cases y with
    | non => cases ry; exact PySem.EqNone.ne_none_none (fin_bl I q (by simp))
    | bl j => cases ry; exact PySem.EqNone.ne_none_bool (fin_bl I q (by simp))
    | int j => obtain ⟨t', rfl⟩ := ry; exact PySem.EqNone.ne_none_int (fin_bl I q (by simp))
    | str j => obtain ⟨t', rfl⟩ := ry; exact PySem.EqNone.ne_none_str (fin_bl I q (by simp))
    | _ => exact absurd (show false = true from hs) Bool.false_ne_true
  | bl i =>
    cases rx
    cases y with
    | non => cases ry; exact PySem.EqNone.ne_bool_none (fin_bl I q (by simp))
    | bl j => cases ry; exact ne_bool (fin_bl I q (congrArg not dec_bl))
    | str j => obtain ⟨t', rfl⟩ := ry; exact PySem.EqMixed.ne_bool_str (fin_bl I q (by simp))
    | _ => exact absurd (show false = true from hs) Bool.false_ne_true
  | int i =>
    obtain ⟨t, rfl⟩ := rx
    cases y with
    | non => cases ry; exact PySem.EqNone.ne_int_none (fin_bl I q (by simp))
    | int j => obtain ⟨t', rfl⟩ := ry; exact ne_int (fin_bl I q (congrArg not dec_int))
    | str j => obtain ⟨t', rfl⟩ := ry; exact PySem.EqMixed.ne_int_str (fin_bl I q (by simp))
    | _ => exact absurd (show false = true from hs) Bool.false_ne_true
  | str i =>
    obtain ⟨t, rfl⟩ := rx
    cases y with
    | non => cases ry; exact PySem.EqNone.ne_str_none (fin_bl I q (by simp))
    | bl j => cases ry; exact PySem.EqMixed.ne_str_bool (fin_bl I q (by simp))
    | int j => obtain ⟨t', rfl⟩ := ry; exact PySem.EqMixed.ne_str_int (fin_bl I q (by simp))
    | str j => obtain ⟨t', rfl⟩ := ry; exact ne_str (fin_bl I q (congrArg not dec_str))
    | _ => exact absurd (show false = true from hs) Bool.false_ne_true
  | byt i =>
    obtain ⟨t, rfl⟩ := rx
    cases y with
    | byt j => obtain ⟨t', rfl⟩ := ry; exact PySem.W.ne_bytes (fin_bl I q (congrArg not dec_byt))
    | _ => exact absurd (show false = true from hs) Bool.false_ne_true
  | _ => cases y <;> exact absurd (show false = true from hs) Bool.false_ne_true

theorem op_lt : OpR X (compareOp .Lt) (rI0 fun i j => .bl (decide (i < j))) := opB0 fun _ _ _ _ _ _ _ q => lt_int q
theorem op_le : OpR X (compareOp .LtE) (rI0 fun i j => .bl (decide (i ≤ j))) := opB0 fun _ _ _ _ _ _ _ q => le_int q
theorem op_gt : OpR X (compareOp .Gt) (rI0 fun i j => .bl (decide (j < i))) := opB0 fun _ _ _ _ _ _ _ q => gt_int q
theorem op_ge : OpR X (compareOp .GtE) (rI0 fun i j => .bl (decide (j ≤ i))) := opB0 fun _ _ _ _ _ _ _ q => ge_int q

/-- is None, is not None: the right side a value none -/
theorem op_isN : OpR X (compareOp .Is) (fun x y H Q => y = .non ∧ Q (.bl (decide (x = .non))) H) := by
  intro pins s σ H x y v u Q I rx ry h
  obtain ⟨rfl, q⟩ := h
  cases ry
  refine is_none_gen (fin_bl I q ?_)
  cases x <;> first
    | (cases rx; rfl)
    | (obtain ⟨t, rfl⟩ := rx; rfl)
theorem op_notN : OpR X (compareOp .IsNot) (fun x y H Q => y = .non ∧ Q (.bl (!decide (x = .non))) H) := by
  intro pins s σ H x y v u Q I rx ry h
  obtain ⟨rfl, q⟩ := h
  cases ry
  refine isnot_none_gen (fin_bl I q ?_)
  cases x <;> first
    | (cases rx; rfl)
    | (obtain ⟨t, rfl⟩ := rx; rfl)


/-- two rules for one operation: by cases -/
theorem OpR.or {f : Value → Value → Sem Value} {r r' : R2} (h : OpR X f r) (h' : OpR X f r') : OpR X f (fun x y H Q => r x y H Q ∨ r' x y H Q) := by
  intro pins s σ H x y v u Q I rx ry q
  rcases q with q | q
  · exact h pins s σ H x y v u Q I rx ry q
  · exact h' pins s σ H x y v u Q I rx ry q

theorem nomark (b : Expr) {op : CmpOp} (h : op ≠ .In := by decide) (h2 : op ≠ .NotIn := by decide) : behindInMarks op b = false := by
  have e1 : (op == CmpOp.In) = false := by cases op <;> first | rfl | exact absurd rfl h
  have e2 : (op == CmpOp.NotIn) = false := by cases op <;> first | rfl | exact absurd rfl h2
  cases b <;> simp [behindInMarks, e1, e2]
/-- a comparison as a value; hm: nomark b, or (for in, not in) by with_unfolding_all rfl -/
theorem pe_cmpR {op : CmpOp} {r : R2} (ho : OpR X (compareOp op) r) (ha : PE X a ta) (hb : PE X b tb) (hm : behindInMarks op b = false) : PE X (.Compare a [op] [b] pos) (tOp r ta tb) := by
  intro pins s σ H Q I h
  exact wpAny_Compare1 (binT ha hb I h fun v u s2 x y H2 I2 rx ry q => ho pins s2 σ H2 x y v u Q I2 rx ry q) hm
/-- a reading of a value as a test -/
def tTest (t : TE) : TT := fun σ H Q => t σ H fun x H' => ∃ k, x = .bl k ∧ Q k H'
theorem pt_cmpR {op : CmpOp} {r : R2} (ho : OpR X (compareOp op) r) (ha : PE X a ta) (hb : PE X b tb) (hm : behindInMarks op b = false) : PT X (.Compare a [op] [b] pos) (tTest (tOp r ta tb)) := by
  intro pins s σ H Q I h
  refine wpAny_isTrue_Compare1 (thn (ha pins s σ H _ I h) fun v s1 ⟨x, H1, I1, r1, q1⟩ => thn (hb pins s1 σ H1 _ I1 q1) fun u s2 ⟨y, H2, I2, r2, q2⟩ =>
    thn (ho pins s2 σ H2 x y v u _ I2 r1 r2 q2) fun c s3 ⟨z, H3, I3, r3, k, e, q3⟩ => ?_) hm
  subst e
  cases r3
  exact wpAny_truthy_bool ⟨H3, I3, q3⟩

/-! ### truth -/
theorem line63 : (sizeLine : Nat) < 2 ^ 63 := by rw [sizeLine_eq]; decide

/-! ### strs and bytes -/


/-! ### scalar builtins, by CallR -/
theorem vals1 {x : V} {us : List Value} (r : Vals [x] us) : ∃ u, us = [u] ∧ RelV x u := by
  cases r with
  | cons r1 r2 => cases r2; exact ⟨_, rfl, r1⟩
end
end L2

namespace L2
open PySem PySem.Spec PyProof.Rows

/-! ### an instance, its attributes a map -/
structure ObjM (h : Heap) (x dx C : Addr) (mA : Str → Option Value) : Prop where
  obj : h.get? x = some (PySem.W.instObj C dx)
  ns : h.Ns1 dx mA
  ne : dx ≠ x

theorem lookIn_ns {h : Heap} {dx : Addr} {mA : Str → Option Value} (n : h.Ns1 dx mA) : ∃ od, h.get? dx = some od ∧ ∀ name, PySem.W.lookIn name od = some (mA name) := by
  obtain ⟨o, es, ep, ho, hd, hk, _, hm⟩ := n
  refine ⟨o, ho, fun name => ?_⟩
  have e := hm name
  unfold nsFind findBy at e
  rw [← Array.find?_toList] at e
  unfold PySem.W.lookIn
  rw [hd]
  dsimp only
  split
  · rename_i y q
    rw [q] at e
    exact congrArg some e
  · rename_i q
    rw [q] at e
    have a : es.toList.any (·.refKey) = false := by
      rw [List.any_eq_false]
      intro y hy
      obtain ⟨z, t, hkey⟩ := hk y (Array.mem_toList_iff.mp hy)
      simp [DictEntry.refKey, hkey]
    have a' : ¬ es.toList.any (·.refKey) = true := by rw [a]; exact Bool.false_ne_true
    rw [if_neg a']
    exact congrArg some e

theorem ObjM.look {h : Heap} {x dx C : Addr} {mA : Str → Option Value} (I : ObjM h x dx C mA) : ∃ od, PySem.W.InstAt h x (PySem.W.instObj C dx) C (some od) ∧ ∀ name, PySem.W.lookIn name od = some (mA name) :=
  let ⟨od, ho, hl⟩ := lookIn_ns I.ns
  ⟨od, ⟨I.obj, rfl, rfl, ho⟩, hl⟩

section
variable {prog : Program} {w : World} {A : Around} {E : Value → Shared → Prop} {s : Shared} {K : PySem.W.Frag} {x dx C f : Addr} {mA : Str → Option Value} {name : Str} {v : Value}

theorem get_map {expr : Bool} {Q : Value → Shared → Prop} (X : K.In s.heap) (I : ObjM s.heap x dx C mA) (hg : PySem.W.plainGet K C name = true) (hh : PySem.W.hasDictIn K C = true)
    (ha : PySem.W.findIn K (.ref C) name = some none) (hv : mA name = some v) (hv' : PySem.W.handedIn v = true) (h : Q v { s with toks := s.toks + 1 }) :
    wpAny (model prog w) A (getAttr (.ref x) name expr) Q E s := by
  obtain ⟨od, J, hl⟩ := I.look
  exact PySem.W.get_value X J (PySem.W.plainGet_of hg).1 (PySem.W.findObj_own hh ha rfl (by rw [hl, hv])) hv' h


theorem get_meth {pl : Sem Bool} {Q : Value × List Value → Shared → Prop} (X : K.In s.heap) (I : ObjM s.heap x dx C mA) (hg : PySem.W.plainGet K C name = true)
    (hf : PySem.W.findIn K (.ref C) name = some (some (.ref f))) (ht : PySem.W.isFn K (.ref f) = true) (hv : mA name = none) (h : Q (.ref f, [.ref x]) s) :
    wpAny (model prog w) A (getMethod (.ref x) name pl) Q E s := by
  obtain ⟨od, J, hl⟩ := I.look
  exact PySem.W.method_fn X J (PySem.W.plainGet_of hg).1 (PySem.W.plainGet_of hg).2 hf (beq_iff_eq.mp ht) (by show (PySem.W.lookIn name od).map (·.isSome) = some false; rw [hl, hv]; rfl) h

theorem set_map {ns : List Str} {Q : Unit → Shared → Prop} (X : K.In s.heap) (I : ObjM s.heap x dx C mA)
    (hs : PySem.W.findIn K (.ref C) "__setattr__" = some (some (.builtin "object.__setattr__"))) (hp : PySem.W.plainOver K C = true) (ht : PySem.W.takerIn K C name = some none) (hh : PySem.W.hasDictIn K C = true)
    (hw : PySem.Within mA ns) (hsz : ns.length ≤ sizeLine)
    (h : ∀ h', ObjM h' x dx C (fun y => if y = name then some v else mA y) → Heap.SameBut dx s.heap h' → Q () { s with heap := h', toks := s.toks + 2 }) :
    wpAny (model prog w) A (setAttr (.ref x) name v) Q E s := by
  obtain ⟨od, J, hl⟩ := I.look
  refine PySem.W.set_plain X J hs (PySem.W.osa_open (s := { s with toks := s.toks + 1 }) (r := none) X J hp ht fun b => ?_)
  obtain ⟨cd, hc, hd'⟩ := PySem.W.any_some hh
  have hx : s.heap.get? x = some ⟨.ref C, some dx, .plain, #[]⟩ := I.obj
  refine wpAny_bind (wpAny_pure (wpAny_bind (wpAny_bind (wpAny_loadPart hx (wpAny_bind (PySem.W.Looks.here (s := { s with toks := s.toks + 1 }) (PySem.W.looks_clsIn X hc) ?_))))))
  rw [hd']
  refine wpAny_pure (a := some dx) (wpAny_bind (wpAny_pure (wpAny_bind ?_)))
  refine wpAny_nsSet1 (s := { s with toks := s.toks + 1 }) I.ns fun h' hn2 hs2 => ?_
  obtain ⟨oD, esD, epD, hoD, hdD, hcD⟩ := hn2.count (PySem.Within.cons name v hw)
  refine wpAny_bind (wpAny_lookBehind hoD (by rw [hdD]; exact pastItsLine_dict (Nat.le_trans hcD (by rw [List.length_cons]; omega))) ?_)
  exact wpAny_pure (h _ ⟨(hs2.2 _ (Ne.symm I.ne)).trans I.obj, hn2, I.ne⟩ hs2)

/-- C(..): the dict at the heap's end, the instance behind it; then its __init__ -/
theorem make_map {R : Result → Shared → Prop} {vs : List Value} {kw : List (Str × Value)} (X : K.In s.heap) (hm : PySem.W.makesIn K C = true)
    (hi : PySem.W.findIn K (.ref C) "__init__" = some (some (.ref f))) (hf : PySem.W.typeIn K (.ref f) = some (.type "function"))
    (h : codeAny (model prog w) (A.under (.builtin "type.__call__" ⟨.ref C :: vs, kw⟩)) (.call (.ref f) ⟨.ref (s.heap.objs.size + 1) :: vs, kw⟩) (PySem.W.InitBack (s.heap.objs.size + 1) R)
      { s with heap := (s.heap.push PySem.W.emptyDict).push (PySem.W.instObj C s.heap.objs.size) }) :
    codeAny (model prog w) A (.call (.ref C) ⟨vs, kw⟩) R s := by
  obtain ⟨hh, g, d, t, os⟩ := s
  exact PySem.W.make_core (PySem.W.makes_of X hm) (PySem.W.looks_findIn X hi) (fun self => PySem.W.bind_fn X self hf) (.inl rfl) h
/-- C() where there is no __init__ but object's -/
theorem make_map0 {R : Result → Shared → Prop} (X : K.In s.heap) (hm : PySem.W.makesIn K C = true)
    (hi : PySem.W.findIn K (.ref C) "__init__" = some (some (.builtin "object.__init__")))
    (hb : ∀ self, PySem.W.Looks (model prog w) s.heap (bindSpecial (.builtin "object.__init__") self) (.builtin "object.__init__", [self]))
    (h : codeAny (model prog w) (A.under (.builtin "type.__call__" ⟨[.ref C], []⟩)) (.call (.builtin "object.__init__") ⟨[.ref (s.heap.objs.size + 1)], []⟩) (PySem.W.InitBack (s.heap.objs.size + 1) R)
      { s with heap := (s.heap.push PySem.W.emptyDict).push (PySem.W.instObj C s.heap.objs.size) }) :
    codeAny (model prog w) A (.call (.ref C) ⟨[], []⟩) R s := by
  obtain ⟨hh, g, d, t, os⟩ := s
  exact PySem.W.make_core (PySem.W.makes_of X hm) (PySem.W.looks_findIn X hi) hb (.inr ⟨rfl, rfl⟩) h
end

/-! ### the attributes as a list of pairs -/
def putF (f : Str) (v : V) : List (Str × V) → List (Str × V)
  | [] => [(f, v)]
  | (g, x) :: r => if g = f then (g, v) :: r else (g, x) :: putF f v r
theorem lookup_putF (f g : Str) (v : V) : ∀ fs : List (Str × V), (putF f v fs).lookup g = if g = f then some v else fs.lookup g
  | [] => by
    show List.lookup g [(f, v)] = _
    by_cases h : g = f
    · have hb : (g == f) = true := beq_iff_eq.mpr h
      simp only [List.lookup, hb, if_pos h]
    · have hb : (g == f) = false := beq_eq_false_iff_ne.mpr h
      simp only [List.lookup, hb, if_neg h]
  | (k, x) :: r => by
    have ih := lookup_putF f g v r
    rw [show putF f v ((k, x) :: r) = (if k = f then (k, v) :: r else (k, x) :: putF f v r) from rfl]
    by_cases hk : k = f
    · rw [if_pos hk]
      by_cases h : g = k
      · have hb : (g == k) = true := beq_iff_eq.mpr h
        simp only [List.lookup, hb, if_pos (h.trans hk)]
      · have hb : (g == k) = false := beq_eq_false_iff_ne.mpr h
        simp only [List.lookup, hb, if_neg (fun e : g = f => h (e.trans hk.symm))]
    · rw [if_neg hk]
      by_cases h : g = k
      · have hb : (g == k) = true := beq_iff_eq.mpr h
        simp only [List.lookup, hb, if_neg (fun e : g = f => hk (h.symm.trans e))]
      · have hb : (g == k) = false := beq_eq_false_iff_ne.mpr h
        simp only [List.lookup, hb]
        exact ih
theorem keys_putF (f : Str) (v : V) : ∀ fs : List (Str × V), f ∈ (putF f v fs).map (·.1) ∧ ∀ g, g ∈ fs.map (·.1) → g ∈ (putF f v fs).map (·.1)
  | [] => ⟨by simp [putF], fun g h => by simp at h⟩
  | (k, x) :: r => by
    obtain ⟨i1, i2⟩ := keys_putF f v r
    rw [show putF f v ((k, x) :: r) = (if k = f then (k, v) :: r else (k, x) :: putF f v r) from rfl]
    by_cases hk : k = f
    · rw [if_pos hk]
      subst hk
      exact ⟨by simp, fun g h => by simpa using h⟩
    · rw [if_neg hk]
      refine ⟨?_, fun g h => ?_⟩
      · rw [List.map_cons]
        exact List.mem_cons_of_mem _ i1
      · rw [List.map_cons] at h ⊢
        rcases List.mem_cons.mp h with e | e
        · exact List.mem_cons.mpr (.inl e)
        · exact List.mem_cons_of_mem _ (i2 g e)
theorem length_putF (f : Str) (v : V) : ∀ fs : List (Str × V), (putF f v fs).length ≤ fs.length + 1
  | [] => by simp [putF]
  | (k, x) :: r => by
    have ih := length_putF f v r
    rw [show putF f v ((k, x) :: r) = (if k = f then (k, v) :: r else (k, x) :: putF f v r) from rfl]
    by_cases hk : k = f
    · rw [if_pos hk, List.length_cons, List.length_cons]; omega
    · rw [if_neg hk, List.length_cons, List.length_cons]; omega

theorem RelO.some_of {v : V} {o : Option Value} (r : RelO (some v) o) : ∃ u, o = some u ∧ RelV v u := by
  cases o with
  | none => exact (show False from r).elim
  | some u => exact ⟨u, rfl, r⟩
theorem RelO.none_of {o : Option Value} (r : RelO none o) : o = none := by
  cases o with
  | none => rfl
  | some u => exact (show False from r).elim
theorem handed_of {v : V} {u : Value} (r : RelV v u) : PySem.W.handedIn u = true := by
  cases v with
  | non => cases (show u = Value.none from r); rfl
  | bl b => cases (show u = Value.bool b from r); rfl
  | int i => obtain ⟨t, e⟩ := (show ∃ t, u = Value.int i t from r); cases e; rfl
  | str x => obtain ⟨t, e⟩ := (show ∃ t, u = Value.str x t from r); cases e; rfl
  | byt b => obtain ⟨t, e⟩ := (show ∃ t, u = Value.bytes b t from r); cases e; rfl
  | flt b => obtain ⟨t, e⟩ := (show ∃ t, u = Value.float b t from r); cases e; rfl
  | ref a => cases (show u = Value.ref a from r); rfl
  | ty n => cases (show u = Value.type n from r); rfl

section
variable {P : Program} {w : World} {H H' : Hp} {h h' : Heap} {a C dx : Addr} {fs fs' : List (Str × V)}
theorem ins_get (hok : HOk P w H h) (e : H a = some (.ins C dx fs)) : ∃ mA, ObjM h a dx C mA ∧ (∀ f, RelO (fs.lookup f) (mA f)) ∧ PySem.Within mA (fs.map (·.1)) ∧ fs.length ≤ 1000 ∧ H dx = some (.own a) := by
  obtain ⟨d, z, ne, ob, mA, n, r, q⟩ := (show ObjOk P w H h a (.ins C dx fs) from hok a _ e)
  exact ⟨mA, ⟨ob, n, ne⟩, r, q, z, d⟩
end

/-! ### what of the text a class must have -/
structure Cls (K : PySem.W.Frag) (C : Addr) : Prop where
  pg : PySem.W.plainGet K C Str.empty = true
  hd : PySem.W.hasDictIn K C = true
  po : PySem.W.plainOver K C = true
  sa : PySem.W.findIn K (.ref C) "__setattr__" = some (some (.builtin "object.__setattr__"))
theorem Cls.get {K : PySem.W.Frag} {C : Addr} (c : Cls K C) (f : Str) : PySem.W.plainGet K C f = true := c.pg
/-- no class of it has the name -/
def NoAttr (K : PySem.W.Frag) (C : Addr) (f : Str) : Prop := PySem.W.findIn K (.ref C) f = some none
theorem NoAttr.taker {K : PySem.W.Frag} {C : Addr} {f : Str} (n : NoAttr K C f) : PySem.W.takerIn K C f = some none := by
  unfold PySem.W.takerIn
  rw [show PySem.W.findIn K (.ref C) f = some none from n]
  rfl
/-- a method: a plain def of the class or of one above it -/
structure Meth (K : PySem.W.Frag) (C : Addr) (m : Str) (f : Addr) : Prop where
  at_ : PySem.W.findIn K (.ref C) m = some (some (.ref f))
  fn : PySem.W.isFn K (.ref f) = true
  kp : PySem.W.keepIn K (.ref f) = true

section
variable {X : Cx} {pins : List (Addr × Obj)} {σ : St} {H : Hp} {s : Shared} {a C dx : Addr} {fs : List (Str × V)} {f : Str} {v : V} {A : Around} {E : Value → Shared → Prop}

theorem getattr_ok {b : Bool} {Q : Value → Shared → Prop} (I : Inv X pins σ H s) (e : H a = some (.ins C dx fs)) (c : Cls X.K C) (n : NoAttr X.K C f) (l : fs.lookup f = some v)
    (h : ∀ u s', Inv X pins σ H s' → RelV v u → Q u s') : wpAny (model X.prog X.w) A (getAttr (.ref a) f b) Q E s := by
  obtain ⟨mA, O, r, _, _, _⟩ := ins_get I.hok e
  obtain ⟨u, hu, ru⟩ := RelO.some_of (v := v) (o := mA f) (by rw [← l]; exact r f)
  exact get_map I.kIn O (c.get f) c.hd n hu (handed_of ru) (h u _ (I.tok _) ru)


theorem getmeth_ok {m : Str} {g : Addr} {pl : Sem Bool} {Q : Value × List Value → Shared → Prop} (I : Inv X pins σ H s) (e : H a = some (.ins C dx fs)) (c : Cls X.K C) (k : Meth X.K C m g) (l : fs.lookup m = none)
    (h : Q (.ref g, [.ref a]) s) : wpAny (model X.prog X.w) A (getMethod (.ref a) m pl) Q E s := by
  obtain ⟨mA, O, r, _, _, _⟩ := ins_get I.hok e
  have hn : mA m = none := RelO.none_of (by rw [← l]; exact r m)
  exact get_meth I.kIn O (c.get m) k.at_ k.fn hn h

theorem setattr_ok {y : V} {u : Value} {Q : Unit → Shared → Prop} (I : Inv X pins σ H s) (e : H a = some (.ins C dx fs)) (c : Cls X.K C) (n : NoAttr X.K C f) (hl : fs.length < 1000) (ry : RelV y u)
    (h : ∀ s', Inv X pins σ (upd H a (.ins C dx (putF f y fs))) s' → Q () s') : wpAny (model X.prog X.w) A (setAttr (.ref a) f u) Q E s := by
  obtain ⟨mA, O, r, wi, _, ho⟩ := ins_get I.hok e
  have hz : (fs.map (·.1)).length ≤ sizeLine := by rw [List.length_map, sizeLine_eq]; omega
  refine set_map I.kIn O c.sa c.po n.taker c.hd wi hz fun h' O' sb => h _ ?_
  have hd : ∃ o, h'.get? dx = some o := let ⟨o, _, _, e', _⟩ := O'.ns; ⟨o, e'⟩
  refine I.write (x := a) (e := dx) (by rw [e]; exact True.intro) (.inr ho) (fun b q hb z => (sb.2 b hb).trans z) hd ?_
  refine ⟨by rw [upd_ne O.ne]; exact ho, ?_, O.ne, O'.obj, _, O'.ns, fun g => ?_, fun g hg => ?_⟩
  · have := length_putF f y fs; omega
  · show RelO ((putF f y fs).lookup g) (if g = f then some u else mA g)
    rw [lookup_putF]
    by_cases q : g = f
    · rw [if_pos q, if_pos q]; exact ry
    · rw [if_neg q, if_neg q]; exact r g
  · by_cases q : g = f
    · rw [q]; exact (keys_putF f y fs).1
    · refine (keys_putF f y fs).2 g (wi g fun z => hg ?_)
      show (if g = f then some u else mA g) = none
      rw [if_neg q]; exact z

/-- a new instance, tracked, without attributes -/
theorem Inv.made (I : Inv X pins σ H s) : Inv X pins σ (upd (upd H s.heap.objs.size (.own (s.heap.objs.size + 1))) (s.heap.objs.size + 1) (.ins C s.heap.objs.size []))
    { s with heap := (s.heap.push PySem.W.emptyDict).push (PySem.W.instObj C s.heap.objs.size) } := by
  have e1 : (s.heap.push PySem.W.emptyDict).get? s.heap.objs.size = some PySem.W.emptyDict := Heap.get?_push_size s.heap rfl
  have e2 : ((s.heap.push PySem.W.emptyDict).push (PySem.W.instObj C s.heap.objs.size)).get? (s.heap.objs.size + 1) = some (PySem.W.instObj C s.heap.objs.size) := by
    have := Heap.get?_push_size (s.heap.push PySem.W.emptyDict) (o := PySem.W.instObj C s.heap.objs.size) rfl
    rwa [Heap.size_push] at this
  have e3 : (s.heap.push PySem.W.emptyDict).Ns s.heap.objs.size (fun _ => none) := ⟨PySem.W.emptyDict, #[], _, e1, rfl, (fun e he => absurd he (by simp)), fun _ => rfl⟩
  have I1 := I.laid (a := s.heap.objs.size) (o := .own (s.heap.objs.size + 1)) (h' := s.heap.push PySem.W.emptyDict) (t' := s.toks) (fun b u q => Heap.get?_push_of_some _ q) (Nat.le_refl _) ⟨_, e1⟩
  refine I1.laid (a := s.heap.objs.size + 1) (o := .ins C s.heap.objs.size []) (t' := s.toks) (fun b u q => Heap.get?_push_of_some _ q) (Nat.le_of_eq (Heap.size_push _ _)) ?_
  have ne : s.heap.objs.size ≠ s.heap.objs.size + 1 := Nat.ne_of_lt (Nat.lt_succ_self _)
  refine ⟨by rw [upd_ne ne, upd_same], Nat.zero_le _, ne, e2, fun _ => none, (Heap.Ns1.of_empty e3).at fun o q => Heap.get?_push_of_some _ q, fun _ => True.intro, fun y hy => absurd rfl hy⟩

/-- e.f where nothing but the object is asked: through attributeBase (super) and the last hold -/
theorem attr_of {prog : Program} {w : World} {env : Env} {e : Expr} {f : Str} {pos : Pos} {s : Shared} {Q : Value → Shared → Prop} (hb : attributeBase e f env (eval e env) = eval e env)
    (h : wpAny (model prog w) A (eval e env) (fun o s₁ => wpAny (model prog w) A (getAttr o f true) Q E s₁) E s) : wpAny (model prog w) A (eval (.Attribute e f pos) env) Q E s :=
  Attribute_any_ h (by rw [arm_eval_Attribute, hb])
end

/-! ### readings and rules -/
/-- e.f, an attribute of the instance -/
def tFld (K : PySem.W.Frag) (ta : TE) (f : Str) : TE := fun σ H Q => ta σ H fun x H1 => ∃ a C dx fs v, x = .ref a ∧ H1 a = some (.ins C dx fs) ∧ Cls K C ∧ NoAttr K C f ∧ fs.lookup f = some v ∧ Q v H1
/-- e.f = value -/
def sFld (K : PySem.W.Frag) (ta tv : TE) (f : Str) : TS := fun D σ H => tv σ H fun y H1 => ta σ H1 fun x H2 => ∃ a C dx fs, x = .ref a ∧ H2 a = some (.ins C dx fs) ∧ Cls K C ∧ NoAttr K C f ∧ fs.length < 1000 ∧
  D.nx σ (upd H2 a (.ins C dx (putF f y fs)))

section
variable {X : Cx} {o e value : Expr} {f : Str} {pos pos' tpos : Pos} {ta tv : TE}
theorem pe_fld (he : PE X e ta) (hb : attributeBase e f X.env (eval e X.env) = eval e X.env) : PE X (.Attribute e f pos) (tFld X.K ta f) := by
  intro pins s σ H Q I h
  refine attr_of hb (thn (he pins s σ H _ I h) fun u s1 ⟨x, H1, I1, rx, a, C, dx, fs, v, ex, ea, c, n, l, q⟩ => ?_)
  subst ex
  obtain rfl : u = Value.ref a := rx
  exact getattr_ok I1 ea c n l fun u' s2 I2 ru => ⟨v, H1, I2, ru, q⟩
theorem ps_fld (ha : PE X o ta) (hv : PE X value tv) (hs : swapsWith value (some (.Attribute o f pos')) pos.line X.env = pure false) : PS X (.Assign [.Attribute o f pos'] value pos) (sFld X.K ta tv f) := by
  intro pins s σ H D I h
  refine plainObj_wpAny_Assign_Attribute (thn (hv pins s σ H _ I h) fun u s1 ⟨y, H1, I1, ry, q⟩ => thn (ha pins s1 σ H1 _ I1 q) fun ov s2 ⟨x, H2, I2, rx, a, C, dx, fs, ex, ea, c, n, l, q2⟩ => ?_) hs
  subst ex
  obtain rfl : ov = Value.ref a := rx
  exact setattr_ok I2 ea c n l ry fun s3 I3 => ⟨σ, _, I3, q2⟩

end

/-! ### isinstance -/
section
variable {X : Cx} {pins : List (Addr × Obj)} {σ : St} {H : Hp} {s : Shared} {A : Around} {E : Value → Shared → Prop} {Q : Value → Shared → Prop} {c : Value} {b : Bool}
/-- the type of a value, as the fragment's deciders take it; for an instance its class -/
inductive TyOf (K : PySem.W.Frag) (H : Hp) : V → Value → Prop where
  | non : TyOf K H .non (.type "NoneType")
  | bl (x : Bool) : TyOf K H (.bl x) (.type "bool")
  | int (i : Int) : TyOf K H (.int i) (.type "int")
  | str (x : Str) : TyOf K H (.str x) (.type "str")
  | flt (x : UInt64) : TyOf K H (.flt x) (.type "float")
  | lst {a : Addr} {xs : List V} (e : H a = some (.lst xs)) : TyOf K H (.ref a) (.type "list")
  | frz {a : Addr} {o : Obj} {xs : List V} (e : H a = some (.frz o (.lst xs))) : TyOf K H (.ref a) (.type "list")
  | tup {a : Addr} {xs : List V} (e : H a = some (.tup xs)) : TyOf K H (.ref a) (.type "tuple")
  | dK {a : Addr} {kvs : List (Key × V)} (e : H a = some (.dK kvs)) : TyOf K H (.ref a) (.type "dict")
  | dT {a : Addr} {kvs : List (List Key × V)} (e : H a = some (.dT kvs)) : TyOf K H (.ref a) (.type "dict")
  | ins {a C dx : Addr} {fs : List (Str × V)} (e : H a = some (.ins C dx fs)) (cl : Cls K C) (ha : PySem.W.findIn K (.ref C) "__class__" = some (some (.builtin "object.__class__")))
      (hn : PySem.W.specialIn K (.builtin "object.__class__") "__get__" = some (some (.builtin "getset_descriptor.__get__"))) (htk : PySem.W.takesIn K (.builtin "object.__class__") = some true)
      (hm : PySem.W.mroIn K C (.type "object") = some true) : TyOf K H (.ref a) (.ref C)
/-- isinstance(x, c) for one class c, a built-in or an own one: kitOne's answer -/
theorem isinst_ok {x : V} {u t : Value} (I : Inv X pins σ H s) (rx : RelV x u) (ty : TyOf X.K H x t) (e : PySem.W.kitOne X.K t c = some b) (h : ∀ tk, Q (.bool b) { s with toks := tk }) :
    wpAny (model X.prog X.w) A (call (.builtin "isinstance") [u, c]) Q E s := by
  cases ty with
  | non => cases (show u = Value.none from rx); exact PySem.W.kia_one PySem.W.kitx_none I.kIn True.intro e (fun z => nomatch z) h
  | bl y => cases (show u = Value.bool y from rx); exact PySem.W.kia_one PySem.W.kitx_bool I.kIn True.intro e (fun z => nomatch z) h
  | int i => obtain ⟨t, q⟩ := (show ∃ t, u = Value.int i t from rx); cases q; exact PySem.W.kia_one PySem.W.kitx_int I.kIn True.intro e (fun z => nomatch z) h
  | str y => obtain ⟨t, q⟩ := (show ∃ t, u = Value.str y t from rx); cases q; exact PySem.W.kia_one PySem.W.kitx_str I.kIn True.intro e (fun z => nomatch z) h
  | flt y => obtain ⟨t, q⟩ := (show ∃ t, u = Value.float y t from rx); cases q; exact PySem.W.kia_one PySem.W.kitx_float I.kIn True.intro e (fun z => nomatch z) h
  | @lst a xs ea =>
    cases (show u = Value.ref a from rx)
    obtain ⟨_, _, n, _, h1⟩ := (show ObjOk X.prog X.w H s.heap a (.lst xs) from I.hok a _ ea)
    exact PySem.W.kia_one PySem.W.kitx_list I.kIn ⟨_, h1, rfl⟩ e (fun z => nomatch z) h
  | @frz a ob xs ea =>
    cases (show u = Value.ref a from rx)
    obtain ⟨_, _, _, n, _, h1⟩ := (show ObjOk X.prog X.w H s.heap a (.frz ob (.lst xs)) from I.hok a _ ea)
    exact PySem.W.kia_one PySem.W.kitx_list I.kIn ⟨_, h1, rfl⟩ e (fun z => nomatch z) h
  | @tup a xs ea =>
    cases (show u = Value.ref a from rx)
    obtain ⟨_, _, _, p⟩ := (show ObjOk X.prog X.w H s.heap a (.tup xs) from I.hok a _ ea)
    obtain ⟨o, h1, h2, _⟩ := p
    exact PySem.W.kia_one PySem.W.kitx_tuple I.kIn ⟨o, h1, h2⟩ e (fun z => nomatch z) h
  | @dK a kvs ea =>
    cases (show u = Value.ref a from rx)
    obtain ⟨_, _, vs, _, p⟩ := (show ObjOk X.prog X.w H s.heap a (.dK kvs) from I.hok a _ ea)
    obtain ⟨o, es, ep, h1, h2, _⟩ := p
    exact PySem.W.kia_one PySem.W.kitx_dict I.kIn ⟨o, h1, h2.1⟩ e (fun z => nomatch z) h
  | @dT a kvs ea =>
    cases (show u = Value.ref a from rx)
    obtain ⟨_, _, xs, _, o, es, ep, h1, h2, _⟩ := (show ObjOk X.prog X.w H s.heap a (.dT kvs) from I.hok a _ ea)
    exact PySem.W.kia_one PySem.W.kitx_dict I.kIn ⟨o, h1, h2.1⟩ e (fun z => nomatch z) h
  | @ins a C dx fs ea cl ha hn htk hm =>
    cases (show u = Value.ref a from rx)
    obtain ⟨mA, O, _⟩ := ins_get I.hok ea
    obtain ⟨od, J, _⟩ := O.look
    exact PySem.W.kia_one (PySem.W.kitx_own (cl.get _) cl.hd ha hn htk hm) I.kIn J e (fun z => nomatch z) h
end
end L2

namespace L2
open PySem PySem.Spec PyProof.Rows

/-! ### room -/
structure Room (k : Nat) (A : Around) : Prop where
  hd : A.handled = none
  dp : A.depth + 3 * k + 5 < recursionLimit
  un : A.units + 16 * k + 200 < cLine
theorem Room.mono {j k : Nat} {A : Around} (r : Room k A) (h : j ≤ k) : Room j A := ⟨r.hd, by have := r.dp; omega, by have := r.un; omega⟩
theorem Room.deeper {k : Nat} {A : Around} (r : Room (k + 1) A) (env : Env) : Room k (A.deeper env) :=
  ⟨r.hd, by have := r.dp; show A.depth + 1 + 3 * k + 5 < _; omega, by have := r.un; show A.units + 3 + 16 * k + 200 < _; omega⟩
theorem make_depth {A : Around} {C : Addr} {us : List Value} {kw : List (Str × Value)} : (A.under (.builtin "type.__call__" ⟨.ref C :: us, kw⟩)).depth = A.depth + 1 := by
  first | rfl | simp [Around.under, Code.weight, Code.isCreation, Code.isGuard, Code.isCaller, Code.frames, Code.isFrame, guardIds]
theorem make_units {A : Around} {C : Addr} {us : List Value} {kw : List (Str × Value)} : (A.under (.builtin "type.__call__" ⟨.ref C :: us, kw⟩)).units = A.units + 1 := by
  first | rfl | simp [Around.under, Code.cUnits, Code.frames, Code.isFrame]
theorem Room.make {k : Nat} {A : Around} (r : Room (k + 1) A) (C : Addr) (us : List Value) (kw : List (Str × Value)) : Room k (A.under (.builtin "type.__call__" ⟨.ref C :: us, kw⟩)) :=
  ⟨r.hd, by have := r.dp; rw [make_depth]; omega, by have := r.un; rw [make_units]; omega⟩
theorem Room.depth {k : Nat} {A : Around} (r : Room k A) : A.depth < recursionLimit := by have := r.dp; omega
theorem Room.units {k : Nat} {A : Around} (r : Room k A) : A.units + 64 < cLine := by have := r.un; omega

/-! ### argument lists and displays -/
def tNil : TA := fun _ H Q => Q [] H
def tCons (ta : TE) (tr : TA) : TA := fun σ H Q => ta σ H fun x H1 => tr σ H1 fun xs H2 => Q (x :: xs) H2
section
variable {X : Cx} {e : Expr} {es : List Expr} {te : TE} {t : TA} {pos : Pos}
theorem pa_nil : PA X [] tNil := fun _ _ _ _ H Q I h => Calls.spliced_nil ⟨[], H, I, .nil, h⟩
theorem pa_cons (ha : PE X e te) (hr : PA X es t) (hs : starEach (e :: es) X.env = (false, eval e X.env) :: starEach es X.env := by rfl) : PA X (e :: es) (tCons te t) := by
  intro pos pins s σ H Q I h
  rw [hs]
  show wpAny _ _ (spliced ((false, eval e X.env) :: backTo pos (starEach es X.env))) _ _ s
  refine Calls.spliced_cons (thn (ha pins s σ H _ I h) fun u s1 ⟨x, H1, I1, r1, q1⟩ => ?_)
  exact thn (hr pos pins s1 σ H1 _ I1 q1) fun us s2 ⟨xs, H2, I2, r2, q2⟩ => ⟨x :: xs, H2, I2, .cons r1 r2, q2⟩

/-- a tuple, a list of written items -/
def tTup (t : TA) : TE := fun σ H Q => t σ H fun xs H1 => xs.length ≤ sizeLine ∧ ∀ p, H1 p = none → Q (.ref p) (upd H1 p (.tup xs))
def tLst (t : TA) : TE := fun σ H Q => t σ H fun xs H1 => xs.length ≤ sizeLine ∧ ∀ p, H1 p = none → Q (.ref p) (upd H1 p (.lst xs))
theorem pe_tup {x1} (h : PA X es t) : PE X (.Tuple es x1 pos) (tTup t) := by
  intro pins s σ H Q I hq
  refine wpAny_Tuple_spliced (thn (h pos pins s σ H _ I hq) fun us s1 ⟨xs, H1, I1, r, z, q⟩ => ⟨by rw [← r.length]; exact z, ?_⟩)
  have hf : H1 s1.heap.objs.size = none := I1.hok.fresh (Nat.le_refl _)
  refine ⟨.ref s1.heap.objs.size, upd H1 s1.heap.objs.size (.tup xs), I1.laid (t' := s1.toks) (fun b u e => Heap.get?_push_of_some _ e) (Nat.le_refl _) ?_, rfl, q _ hf⟩
  exact ⟨z, us, r, ⟨_, Heap.get?_push_size _ rfl, rfl, _, rfl⟩⟩
theorem pe_lst (h : PA X es t) : PE X (.List es pos) (tLst t) := by
  intro pins s σ H Q I hq
  refine wpAny_List_spliced (thn (h pos pins s σ H _ I hq) fun us s1 ⟨xs, H1, I1, r, z, q⟩ => ⟨by rw [← r.length]; exact z, ?_⟩)
  have hf : H1 s1.heap.objs.size = none := I1.hok.fresh (Nat.le_refl _)
  refine ⟨.ref s1.heap.objs.size, upd H1 s1.heap.objs.size (.lst xs), I1.laid (t' := s1.toks) (fun b u e => Heap.get?_push_of_some _ e) (Nat.le_refl _) ?_, rfl, q _ hf⟩
  exact ⟨z, us, 0, r, Heap.get?_push_size _ rfl⟩
end

/-! ### what a def promises -/
/-- a def's promise: the bound arguments in the parameters' order, the heap, the wanted end, the wanted exception -/
abbrev Sp := List V → Hp → VK → XK → Prop
/-- how an exception lies behind a call (file 08 gives it): the callers' frames, abstract heap and state ahead of the call, the wish, the exception, the state -/
abbrev CXT := List Env → Hp → Shared → XK → Value → Shared → Prop

/-- the state at a call -/
structure Env0 (P : Program) (w : World) (K : PySem.W.Frag) (mg : Str → Option Value) (base : Heap) (A : Around) (outer : List Env) (s : Shared) (H : Hp) : Prop where
  frames : A.frames = some outer
  mod : Mod K mg base
  bs : ∀ b o, base.get? b = some o → s.heap.get? b = some o ∧ H b = none
  bsz : base.objs.size ≤ s.heap.objs.size
  funs : s.heap.FunFrames base outer
  frf : ∀ b ∈ frs outer, H b = none
  hok : HOk P w H s.heap
  bare : AllBare s.gens
/-- a call's end -/
def CE (outer : List Env) (P : Program) (w : World) (H : Hp) (s : Shared) (Q : VK) (u : Value) (s' : Shared) : Prop :=
  ∃ v H', s'.os = s.os ∧ AllBare s'.gens ∧ Un (frs outer) [] H H' s.heap s'.heap ∧ HOk P w H' s'.heap ∧ RelV v u ∧ Q v H'
def CR (CX : CXT) (outer : List Env) (P : Program) (w : World) (H : Hp) (s : Shared) (Q : VK) (E : XK) (r : Result) (s' : Shared) : Prop :=
  match r with
  | .ok (.ret u) => CE outer P w H s Q u s'
  | .ok _ => False
  | .error e => CX outer H s E e s'
structure FnOk (P : Program) (w : World) (K : PySem.W.Frag) (mg : Str → Option Value) (base : Heap) (CX : CXT) (k : Nat) (f : Addr) (fd : FuncData) (ps : List Str) (sp : Sp) : Prop where
  len : ∀ vs H Q E, sp vs H Q E → vs.length = ps.length
  run : ∀ (A : Around) (outer : List Env) (s : Shared) (H : Hp) (args : Args) (us : List Value) (vs : List V) (Q : VK) (E : XK), Room k A → Env0 P w K mg base A outer s H → BindsTo s fd args (ps.zip us) → Vals vs us → sp vs H Q E →
    codeAny (model P w) A (.call (.ref f) args) (CR CX outer P w H s Q E) s
/-- a weaker promise -/
theorem FnOk.imp {P : Program} {w : World} {K : PySem.W.Frag} {mg : Str → Option Value} {base : Heap} {CX : CXT} {k : Nat} {f : Addr} {fd : FuncData} {ps : List Str} {sp sp' : Sp} (F : FnOk P w K mg base CX k f fd ps sp)
    (h : ∀ vs H Q E, sp' vs H Q E → sp vs H Q E) : FnOk P w K mg base CX k f fd ps sp' :=
  ⟨fun vs H Q E q => F.len vs H Q E (h _ _ _ _ q), fun A outer s H args us vs Q E hr he hb hv hs => F.run A outer s H args us vs Q E hr he hb hv (h _ _ _ _ hs)⟩

theorem Env0.make {P : Program} {w : World} {K : PySem.W.Frag} {mg : Str → Option Value} {base : Heap} {A : Around} {outer : List Env} {s : Shared} {H : Hp} (e : Env0 P w K mg base A outer s H) (C : Addr) (us : List Value) (kw : List (Str × Value)) :
    Env0 P w K mg base (A.under (.builtin "type.__call__" ⟨.ref C :: us, kw⟩)) outer s H := ⟨by first | exact e.frames | (simpa [Around.under, Code.envs, Code.isFrame, pushEnvs] using e.frames), e.mod, e.bs, e.bsz, e.funs, e.frf, e.hok, e.bare⟩

section
variable {X : Cx} {pins : List (Addr × Obj)} {σ : St} {H : Hp} {s s' : Shared}
/-- from a body: what a callee wants -/
theorem Inv.env0 (I : Inv X pins σ H s) : Env0 X.prog X.w X.K X.mg X.base X.A X.stack s H :=
  ⟨I.ok.frames, I.ok.mod, I.bs, Nat.le_trans I.ok.bsz I.sz, I.stack, I.stkFree, I.hok, I.bare⟩
/-- behind a call -/
theorem Inv.after {Q : VK} {u : Value} (I : Inv X pins σ H s) (h : CE X.stack X.prog X.w H s Q u s') : EP X pins σ Q u s' := by
  obtain ⟨v, H', os, bare, un, hok, r, q⟩ := h
  obtain ⟨hh, g, d, t, os'⟩ := s'
  obtain rfl : os' = s.os := os
  exact ⟨v, H', I.call (h' := hh) (g' := g) (d' := d) (t' := t) (ch := []) un hok bare (fun b z => absurd z (by simp)), r, q⟩
end

/-! ### calls -/
/-- f(..): the written arguments, then the defaults dvs; E: what is wanted of an exception -/
def tCall (sp : Sp) (dvs : List V) (E : XK) (t : TA) : TE := fun σ H Q => t σ H fun vs H1 => sp (vs ++ dvs) H1 Q E
/-- o.m(..) of an instance of the class at C -/
def tMeth (C : Addr) (m : Str) (sp : Sp) (dvs : List V) (E : XK) (ta : TE) (t : TA) : TE := fun σ H Q => ta σ H fun x H1 => ∃ a dx fs, x = .ref a ∧ H1 a = some (.ins C dx fs) ∧ fs.lookup m = none ∧
  t σ H1 fun vs H2 => sp (x :: (vs ++ dvs)) H2 Q E
/-- C(..): a new instance and its dict, then __init__ -/
def tMake (C : Addr) (sp : Sp) (dvs : List V) (E : XK) (t : TA) : TE := fun σ H Q => t σ H fun vs H1 => ∀ x dx, H1 x = none → H1 dx = none → dx ≠ x →
  sp (.ref x :: (vs ++ dvs)) (upd (upd H1 dx (.own x)) x (.ins C dx [])) (fun v H2 => v = .non ∧ Q (.ref x) H2) E

/-- how the parameters are bound: us the positional arguments, kw the keywords' values by name, ds the defaults that fill up -/
def Binds (K : PySem.W.Frag) (fd : FuncData) (ps : List Str) (ds : List Value) : Prop :=
  ∀ (s : Shared) (us : List Value), K.In s.heap → (us ++ ds).length = ps.length → BindsTo s fd ⟨us, []⟩ (ps.zip (us ++ ds))
/-- every parameter is given -/
theorem Binds.all {K : PySem.W.Frag} {fd : FuncData} {ps : List Str} (h : ∀ us : List Value, us.length = ps.length → bindArgs fd ⟨us, []⟩ = pure (ps.zip us)) : Binds K fd ps [] := fun s us _ hl => by
  rw [List.append_nil] at hl ⊢
  exact .of_eq (h us hl)

/-- an exception of a callee reaches what this body wants of exceptions -/
def Passes (CX : CXT) (X : Cx) (E : XK) : Prop := ∀ (pins : List (Addr × Obj)) (σ : St) (H : Hp) (s : Shared) (e : Value) (s' : Shared), Inv X pins σ H s → CX X.stack H s E e s' → X.xe e s'

section
variable {X : Cx} {CX : CXT} {k : Nat} {f C : Addr} {fd : FuncData} {ps : List Str} {sp : Sp} {dvs : List V} {ds : List Value} {E : XK} {x m : Str} {p pos apos : Pos} {e o : Expr} {es : List Expr} {ta : TE} {t : TA}

/-- the callee runs -/
theorem run_fn {pins : List (Addr × Obj)} {σ : St} {H : Hp} {s : Shared} {Q : VK} {us : List Value} {vs : List V} (F : FnOk X.prog X.w X.K X.mg X.base CX k f fd ps sp) (hr : Room k X.A) (hb : Binds X.K fd ps ds) (hd : Vals dvs ds) (hx : Passes CX X E)
    (I : Inv X pins σ H s) (r : Vals vs us) (h : sp (vs ++ dvs) H Q E) : wpAny (model X.prog X.w) X.A (call (.ref f) us) (EP X pins σ Q) X.xe s := by
  have r2 : Vals (vs ++ dvs) (us ++ ds) := r.append hd
  have hl : (us ++ ds).length = ps.length := by rw [← r2.length]; exact F.len _ _ _ _ h
  refine wpAny_call (codeAny_mono (F.run X.A X.stack s H ⟨us, []⟩ (us ++ ds) (vs ++ dvs) Q E hr I.env0 (hb s us I.kIn hl) r2 h) fun r s' hq => ?_)
  cases r with
  | error e => exact hx pins σ H s e s' I hq
  | ok fl =>
    cases fl with
    | ret u => exact I.after hq
    | next => exact False.elim hq
    | brk => exact False.elim hq
    | cont => exact False.elim hq

theorem pe_call (F : FnOk X.prog X.w X.K X.mg X.base CX k f fd ps sp) (hr : Room k X.A) (hg : Gl X x) (hm : X.mg x = some (.ref f)) (hk : PySem.W.keepIn X.K (.ref f) = true) (hb : Binds X.K fd ps ds) (hd : Vals dvs ds) (hx : Passes CX X E)
    (ha : PA X (e :: es) t) (hdb : (x == ("__debug__" : Str)) = false := by decide) (he : starEach (e :: es) X.env = (false, eval e X.env) :: starEach es X.env := by rfl) (hpl : (backTo pos (starEach es X.env)).any (·.1) = false := by rfl) :
    PE X (.Call (.Name x p) (e :: es) [] pos) (tCall sp dvs E t) := by
  intro pins s σ H Q I h
  refine wpAny_Call_Name_kw (ld_glob I hg hm ?_ hdb)
  refine PySem.W.callWith_K (h₀ := X.base) I.ok.mod.kin hk (thn (ha pos pins s σ H _ I h) fun us s1 ⟨vs, H1, I1, r, q⟩ => ⟨I1.kIn, ?_⟩) he hpl
  exact run_fn F hr hb hd hx I1 r q

/-- o.m(e, ..) -/
theorem pe_meth {pl : Sem Bool} (he : PE X o ta) (c : Cls X.K C) (hm : Meth X.K C m f) (F : FnOk X.prog X.w X.K X.mg X.base CX k f fd ps sp) (hr : Room k X.A) (hb : Binds X.K fd ps ds) (hd : Vals dvs ds) (hx : Passes CX X E) (ha : PA X (e :: es) t)
    (hst : starEach (e :: es) X.env = (false, eval e X.env) :: starEach es X.env := by rfl) (hpl : (backTo pos (starEach es X.env)).any (·.1) = false := by rfl)
    (ht : eval (.Call (.Attribute o m apos) (e :: es) [] pos) X.env = (do
      let ov ← eval o X.env
      standAt apos.atName
      let (f, first) ← holding [ov] (getMethod ov m pl)
      callWith pos f first (backTo pos (starEach (e :: es) X.env)) (backToKw pos (keywordEach [] X.env))) := by rfl) :
    PE X (.Call (.Attribute o m apos) (e :: es) [] pos) (tMeth C m sp dvs E ta t) := by
  intro pins s σ H Q I h
  refine PySem.W.methodCall_KW (pl := pl) (thn (he pins s σ H _ I h) fun u s1 ⟨x, H1, I1, rx, a, dx, fs, ex, ea, l, q⟩ => ?_) ht
  subst ex
  obtain rfl : u = Value.ref a := rx
  refine getmeth_ok I1 ea c hm l ?_
  refine PySem.W.callWith_K (first := [.ref a]) (h₀ := X.base) I.ok.mod.kin hm.kp (thn (ha pos pins s1 σ H1 _ I1 q) fun us s2 ⟨vs, H2, I2, r, q2⟩ => ⟨I2.kIn, ?_⟩) hst hpl
  exact run_fn (us := .ref a :: us) (vs := .ref a :: vs) F hr hb hd hx I2 (.cons rfl r) q2
/-- o.m() -/
theorem pe_meth0 {pl : Sem Bool} (he : PE X o ta) (c : Cls X.K C) (hm : Meth X.K C m f) (F : FnOk X.prog X.w X.K X.mg X.base CX k f fd ps sp) (hr : Room k X.A) (hb : Binds X.K fd ps ds) (hd : Vals dvs ds) (hx : Passes CX X E)
    (ht : eval (.Call (.Attribute o m apos) [] [] pos) X.env = (do
      let ov ← eval o X.env
      standAt apos.atName
      let (f, first) ← holding [ov] (getMethod ov m pl)
      callWith pos f first (backTo pos (starEach [] X.env)) (backToKw pos (keywordEach [] X.env))) := by rfl) :
    PE X (.Call (.Attribute o m apos) [] [] pos) (tMeth C m sp dvs E ta tNil) := by
  intro pins s σ H Q I h
  refine PySem.W.methodCall_KW (pl := pl) (thn (he pins s σ H _ I h) fun u s1 ⟨x, H1, I1, rx, a, dx, fs, ex, ea, l, q⟩ => ?_) ht
  subst ex
  obtain rfl : u = Value.ref a := rx
  refine getmeth_ok I1 ea c hm l ?_
  exact PySem.W.callWith_K0 (first := [.ref a]) I1.kIn hm.kp (run_fn (us := [.ref a]) (vs := [.ref a]) F hr hb hd hx I1 (.cons rfl .nil) q)

/-- what a class must have to be made -/
structure Mk (K : PySem.W.Frag) (C f : Addr) : Prop where
  makes : PySem.W.makesIn K C = true
  init : PySem.W.findIn K (.ref C) "__init__" = some (some (.ref f))
  fn : PySem.W.isFn K (.ref f) = true
  kp : PySem.W.keepIn K (.ref C) = true

theorem run_make {pins : List (Addr × Obj)} {σ : St} {H : Hp} {s : Shared} {Q : VK} {us : List Value} {vs : List V} (M : Mk X.K C f) (F : FnOk X.prog X.w X.K X.mg X.base CX k f fd ps sp) (hr : Room (k + 1) X.A) (hb : Binds X.K fd ps ds) (hd : Vals dvs ds)
    (hx : Passes CX X E) (I : Inv X pins σ H s) (r : Vals vs us)
    (h : ∀ x dx, H x = none → H dx = none → dx ≠ x → sp (.ref x :: (vs ++ dvs)) (upd (upd H dx (.own x)) x (.ins C dx [])) (fun v H2 => v = .non ∧ Q (.ref x) H2) E) :
    wpAny (model X.prog X.w) X.A (call (.ref C) us) (EP X pins σ Q) X.xe s := by
  have hq := h (s.heap.objs.size + 1) s.heap.objs.size (I.hok.fresh (Nat.le_succ _)) (I.hok.fresh (Nat.le_refl _)) (Nat.ne_of_lt (Nat.lt_succ_self _))
  have I2 := Inv.made (C := C) I
  have r2 : Vals (V.ref (s.heap.objs.size + 1) :: (vs ++ dvs)) (Value.ref (s.heap.objs.size + 1) :: (us ++ ds)) := .cons rfl (r.append hd)
  have hl : (Value.ref (s.heap.objs.size + 1) :: us ++ ds).length = ps.length := by
    have e := r2.length
    rw [F.len _ _ _ _ hq] at e
    exact e.symm
  refine wpAny_call (make_map (f := f) I.kIn M.makes M.init (beq_iff_eq.mp M.fn) (codeAny_mono (F.run _ X.stack _ _ ⟨Value.ref (s.heap.objs.size + 1) :: us, []⟩ (Value.ref (s.heap.objs.size + 1) :: (us ++ ds)) _ _ E (hr.make C us [])
    (I2.env0.make C us []) (hb _ (Value.ref (s.heap.objs.size + 1) :: us) I2.kIn hl) r2 hq) fun r s' hq' => ?_))
  cases r with
  | error e => exact hx pins σ _ _ e s' I2 hq'
  | ok fl =>
    cases fl with
    | ret u =>
      obtain ⟨v, H', I3, rv, ev, q3⟩ := I2.after hq'
      subst ev
      exact ⟨rv, ⟨V.ref (s.heap.objs.size + 1), H', I3, rfl, q3⟩⟩
    | next => exact False.elim hq'
    | brk => exact False.elim hq'
    | cont => exact False.elim hq'
theorem pe_make (M : Mk X.K C f) (F : FnOk X.prog X.w X.K X.mg X.base CX k f fd ps sp) (hr : Room (k + 1) X.A) (hg : Gl X x) (hm : X.mg x = some (.ref C)) (hb : Binds X.K fd ps ds) (hd : Vals dvs ds) (hx : Passes CX X E)
    (ha : PA X (e :: es) t) (hdb : (x == ("__debug__" : Str)) = false := by decide) (he : starEach (e :: es) X.env = (false, eval e X.env) :: starEach es X.env := by rfl) (hpl : (backTo pos (starEach es X.env)).any (·.1) = false := by rfl) :
    PE X (.Call (.Name x p) (e :: es) [] pos) (tMake C sp dvs E t) := by
  intro pins s σ H Q I h
  refine wpAny_Call_Name_kw (ld_glob I hg hm ?_ hdb)
  refine PySem.W.callWith_K (h₀ := X.base) I.ok.mod.kin M.kp (thn (ha pos pins s σ H _ I h) fun us s1 ⟨vs, H1, I1, r, q⟩ => ⟨I1.kIn, ?_⟩) he hpl
  exact run_make M F hr hb hd hx I1 r q
end

/-! ### keywords -/
section
variable {X : Cx} {CX : CXT} {k : Nat} {f C : Addr} {fd : FuncData} {ps ks : List Str} {sp : Sp} {E : XK} {x m : Str} {p pos apos kpos : Pos} {e o : Expr} {es : List Expr} {kws : List Keyword} {te ta : TE} {t tk : TA} {nm : Option Str}

variable {g : List Value → List Value → List Value} {gV : List V → List V → List V}
end

/-! ### a def's body keeps its promise -/
/-- names: the parameters first -/
structure FnScope (N P : List Str) (sc : Scope) : Prop where
  kind : sc.kind = .function
  co : sc.isCoroutine = false
  gen : sc.isGenerator = false
  nd : N.Nodup
  pre : N.take P.length = P
  par : ∀ x ∈ P, sc.names.lookup x = some .local ∨ sc.names.lookup x = some .cell
  nofree : ∀ y ∈ sc.names, y.2 ≠ .free

theorem bindL_out {kindOf : Str → Option NameKind} {x : Str} : ∀ {binds : List (Str × Value)} {m : Str → Option Value}, (∀ v, (x, v) ∉ binds) → bindL kindOf binds m x = m x
  | [], _, _ => rfl
  | (n, v) :: r, m, h => by
    unfold bindL
    rw [bindL_out fun w hw => h w (List.mem_cons_of_mem _ hw)]
    split
    · have : x ≠ n := by rintro rfl; exact h v List.mem_cons_self
      simp [this]
    · rfl
theorem bindC_out {kindOf : Str → Option NameKind} {x : Str} : ∀ {binds : List (Str × Value)} {m : Str → Option Value}, (∀ v, (x, v) ∉ binds) → bindC kindOf binds m x = m x
  | [], _, _ => rfl
  | (n, v) :: r, m, h => by
    unfold bindC
    rw [bindC_out fun w hw => h w (List.mem_cons_of_mem _ hw)]
    split
    · rfl
    · have : x ≠ n := by rintro rfl; exact h v List.mem_cons_self
      simp [this]
theorem bindL_get {kindOf : Str → Option NameKind} {x : Str} {v : Value} : ∀ {P : List Str} {vs : List Value} {i : Nat} {m : Str → Option Value}, P.Nodup → P[i]? = some x → vs[i]? = some v → kindOf x = some .local →
    bindL kindOf (P.zip vs) m x = some v
  | [], _, _, _, _, h, _, _ => by simp at h
  | _ :: _, [], _, _, _, _, h, _ => by simp at h
  | p :: P, w :: vs, 0, m, nd, h1, h2, hk => by
    simp at h1 h2; subst h1; subst h2
    show bindL kindOf ((p, w) :: P.zip vs) m p = _
    unfold bindL
    rw [bindL_out fun v hv => (List.nodup_cons.mp nd).1 (List.of_mem_zip hv).1, if_pos hk]
    simp
  | p :: P, w :: vs, i + 1, m, nd, h1, h2, hk => by
    show bindL kindOf ((p, w) :: P.zip vs) m x = _
    unfold bindL
    exact bindL_get (i := i) (List.nodup_cons.mp nd).2 (by simpa using h1) (by simpa using h2) hk
theorem bindC_get {kindOf : Str → Option NameKind} {x : Str} {v : Value} : ∀ {P : List Str} {vs : List Value} {i : Nat} {m : Str → Option Value}, P.Nodup → P[i]? = some x → vs[i]? = some v → kindOf x ≠ some .local →
    bindC kindOf (P.zip vs) m x = some v
  | [], _, _, _, _, h, _, _ => by simp at h
  | _ :: _, [], _, _, _, _, h, _ => by simp at h
  | p :: P, w :: vs, 0, m, nd, h1, h2, hk => by
    simp at h1 h2; subst h1; subst h2
    show bindC kindOf ((p, w) :: P.zip vs) m p = _
    unfold bindC
    rw [bindC_out fun v hv => (List.nodup_cons.mp nd).1 (List.of_mem_zip hv).1, if_neg hk]
    simp
  | p :: P, w :: vs, i + 1, m, nd, h1, h2, hk => by
    show bindC kindOf ((p, w) :: P.zip vs) m x = _
    unfold bindC
    exact bindC_get (i := i) (List.nodup_cons.mp nd).2 (by simpa using h1) (by simpa using h2) hk

/-- the names' values at the entry -/
def start (N : List Str) (vs : List V) : St := vs.map some ++ List.replicate (N.length - vs.length) none

/-- the context of a def's body, at its entry; an exception leaves the frame, then lies as CX says -/
def cxOf (CX : CXT) (P : Program) (w : World) (K : PySem.W.Frag) (mg : Str → Option Value) (base : Heap) (N : List Str) (qual : Str) (scope : Scope) (f : Addr) (cd : Value) (A : Around) (outer : List Env) (s : Shared) (H : Hp) (E : XK) : Cx where
  prog := P
  w := w
  K := K
  mg := mg
  base := base
  A := A.deeper (envOfC qual scope s.heap.objs.size f cd)
  N := N
  s₀ := s
  H₀ := H
  env := envOfC qual scope s.heap.objs.size f cd
  outer := outer
  stack := envOfC qual scope s.heap.objs.size f cd :: outer
  ex := []
  calm := true
  fn := fun _ => true
  pn := []
  xe := fun e s' => wpAny (model P w) (A.deeper (envOfC qual scope s.heap.objs.size f cd)) (leaving (envOfC qual scope s.heap.objs.size f cd) e) (fun _ s'' => CX outer H s E e s'') (fun e' s'' => CX outer H s E e' s'') s'

theorem cell_has {sc : Scope} {n : Nat} {x : Str} (h : sc.names.lookup x = some .cell) : ∃ c, (cellsFrom n sc.names []).lookup x = some c := by
  have q := PySem.W.cellsFrom_some sc.names n [] (.inl h)
  exact Option.isSome_iff_exists.mp q

theorem inv_start {CX : CXT} {P : Program} {w : World} {K : PySem.W.Frag} {mg : Str → Option Value} {base : Heap} {N ps : List Str} {qual : Str} {scope : Scope} {f : Addr} {cd : Value} {A : Around} {outer : List Env} {s s1 : Shared} {H : Hp} {E : XK} {us : List Value} {vs : List V}
    (S : FnScope N ps scope) (hd : A.handled = none) (e0 : Env0 P w K mg base A outer s H) (hl : vs.length = ps.length) (r : Vals vs us)
    (x : InCallC s s.heap.objs.size (bindL (envOfC qual scope s.heap.objs.size f cd).kindOf (ps.zip us) fun _ => none) (cellsFrom (s.heap.objs.size + 1) scope.names []) (bindC (envOfC qual scope s.heap.objs.size f cd).kindOf (ps.zip us) fun _ => none) s1) :
    Inv (cxOf CX P w K mg base N qual scope f cd A outer s H E) [] (start N vs) H s1 := by
  have hpl : ps.length ≤ N.length := by have := congrArg List.length S.pre; rw [List.length_take] at this; omega
  obtain ⟨h1, tk, rfl, hk⟩ := x.done
  have noA : ∀ b : Addr, b ∉ (cxOf CX P w K mg base N qual scope f cd A outer s H E).ex := fun b z => absurd (show b ∈ ([] : List Addr) from z) (by simp)
  refine ⟨⟨e0.mod, S.kind, rfl, rfl, Nat.le_refl _, fun y z c h1 h2 => ?_, fun y hy => ?_, fun y c _ h => ?_, fun _ => hd, Around.frames_deeper e0.frames, .inr ⟨rfl, rfl⟩, fun b z => absurd z (noA b), e0.bs, e0.bsz, fun b _ _ => noA b, fun b z => absurd z (noA b), e0.funs, e0.frf⟩,
    rfl, e0.bare, Un.kept hk, ⟨_, x.toInCall.ns, fun i y v h1 h2 h3 => ?_⟩, fun y c h => ⟨_, x.cell y c h⟩, e0.hok.fresh (Nat.le_refl _), fun y c h => ?_, fun p hp => absurd (show p ∈ ([] : List (Addr × Obj)) from hp) (by simp), e0.hok.kept hk, ?_⟩
  · exact name_of_addr x.apart (PySem.mem_of_lookup h1) (PySem.mem_of_lookup h2)
  · have hy : scope.names.lookup y = some .cell ∨ scope.names.lookup y = some .free := hy
    rcases hy with hy | hy
    · exact cell_has hy
    · exact absurd rfl (S.nofree _ (PySem.mem_of_lookup hy))
  · exact Nat.le_of_lt (x.above y c (PySem.mem_of_lookup h))
  · have hi : i < vs.length := by
      unfold start at h2
      by_cases hi : i < vs.length
      · exact hi
      · rw [List.getElem?_append_right (by simpa using hi)] at h2
        rw [List.getElem?_replicate] at h2
        split at h2 <;> cases h2
    have ha : vs[i]? = some v := by
      unfold start at h2
      rw [List.getElem?_append_left (by simpa using hi), List.getElem?_map] at h2
      cases e : vs[i]? with
      | none => rw [e] at h2; cases h2
      | some a => rw [e] at h2; cases h2; rfl
    obtain ⟨u, hu, rv⟩ := r.get ha
    have hp : ps[i]? = some y := by
      rw [← S.pre, List.getElem?_take_of_lt (by omega)]; exact h1
    have ndP : ps.Nodup := by rw [← S.pre]; exact S.nd.sublist (List.take_sublist _ _)
    refine ⟨u, rv, ?_⟩
    rcases S.par y (List.mem_of_getElem? hp) with k | k
    · exact .inl ⟨k, bindL_get ndP hp hu k⟩
    · obtain ⟨c, e⟩ := cell_has (n := s.heap.objs.size + 1) k
      refine .inr ⟨.inl k, c, e, ?_⟩
      have q := x.cell y c e
      rw [bindC_get ndP hp hu (by show scope.names.lookup y ≠ _; rw [k]; decide)] at q
      exact q
  · exact e0.hok.fresh (Nat.le_of_lt (x.above y c (PySem.mem_of_lookup h)))
  · unfold start
    show _ = N.length
    rw [List.length_append, List.length_map, List.length_replicate]
    omega

/-- THE RULE: a def (or a method) of the text, by its body. The body's reading t is chosen for each entry; it is run at the parameters' values -/
theorem fn_of {CX : CXT} {P : Program} {w : World} {K : PySem.W.Frag} {mg : Str → Option Value} {base : Heap} {k : Nat} {f : Addr} {name qual : Str} {params : Arguments} {body : List Stmt} {scope : Scope} {dV kV doc pm cdv ct oc : Value} {an od : Option Addr}
    {osl : Array (Option Value)} {N ps : List Str} {sp : Sp} (lk : K.lookup f = some ⟨oc, od, .func (PySem.W.fnOf name qual params body scope dV kV doc pm an cdv ct), osl⟩) (hcd : PySem.W.codeIn K cdv qual = true) (S : FnScope N ps scope)
    (len : ∀ vs H Q E, sp vs H Q E → vs.length = ps.length)
    (hbody : ∀ (A : Around) (outer : List Env) (s : Shared) (H : Hp) (vs : List V) (Q : VK) (E : XK), Room k (A.deeper (envOfC qual scope s.heap.objs.size f cdv)) → sp vs H Q E →
      ∃ t, PSs (cxOf CX P w K mg base N qual scope f cdv A outer s H E) body t ∧ t { nx := fun _ H' => Q .non H', rt := Q } (start N vs) H) :
    FnOk P w K mg base CX (k + 1) f (PySem.W.fnOf name qual params body scope dV kV doc pm an cdv ct) ps sp := by
  refine ⟨len, fun A outer s H args us vs Q E hr e0 hb r hsp => ?_⟩
  have hl := len _ _ _ _ hsp
  have KX : K.In s.heap := e0.mod.kin.keeps fun b o e => (e0.bs b o e).1
  have lim : s.heap.NoLimit := e0.mod.nolimit.keeps fun b o e => (e0.bs b o e).1
  have hkind : ∀ y ∈ ps.zip us, scope.names.lookup y.1 = some .local ∨ (scope.names.lookup y.1 = some .cell ∧ ((cellsFrom (s.heap.objs.size + 1) scope.names []).lookup y.1).isSome = true) := fun ⟨n, v⟩ hy => by
    rcases S.par n (List.of_mem_zip hy).1 with q | q
    · exact .inl q
    · exact .inr ⟨q, PySem.W.cellsFrom_some _ _ _ (.inl q)⟩
  refine codeAny_call_function hr.depth (KX _ _ lk) rfl S.co S.gen rfl (PySem.W.codeRec_of KX hcd) (hb _ _ _ _ ?_)
  refine wpAny_newFunctionEnv_cells S.kind hkind fun env he s1 x => ?_
  subst he
  refine ⟨lim.keeps x.toInCall.keep, codeAny_func ?_⟩
  obtain ⟨t, ht, hq⟩ := hbody A outer s H vs Q E (hr.deeper _) hsp
  have I : Inv (cxOf CX P w K mg base N qual scope f cdv A outer s H E) [] (start N vs) H s1 := inv_start S hr.hd e0 hl r x
  refine wpAny_mono (ht [] s1 (start N vs) H _ I hq) (fun fl s' hs => ?_) fun e s' hs => hs
  have fin : ∀ {σ' : St} {H' : Hp} {v : V} {u : Value}, Inv (cxOf CX P w K mg base N qual scope f cdv A outer s H E) [] σ' H' s' → RelV v u → Q v H' → CE outer P w H s Q u s' :=
    fun {σ' H' v u} J rv q => ⟨v, H', J.os, J.bare, J.base, J.hok, rv, q⟩
  cases fl with
  | ret u =>
    obtain ⟨v, σ', H', J, rv, q⟩ := hs
    exact fin J rv q
  | next =>
    obtain ⟨σ', H', J, q⟩ := hs
    exact fin (v := V.non) (u := Value.none) J rfl q
  | brk =>
    obtain ⟨_, _, _, q⟩ := hs
    exact False.elim q
  | cont =>
    obtain ⟨_, _, _, q⟩ := hs
    exact False.elim q
end L2

namespace L2
open PySem PySem.Spec PyProof.Rows
section
variable {X : Cx} {x : Str} {p pos : Pos} {e : Expr} {es : List Expr} {t : TA} {id T : String} {r : List V → Hp → VK → Prop}

def tCB (r : List V → Hp → VK → Prop) (t : TA) : TE := fun σ H Q => t σ H fun vs H1 => r vs H1 Q
/-- f(e, ..), f a built-in function -/
theorem pe_callB (hc : CallR X (.builtin id) r) (hg : Gl X x) (hm : X.mg x = none) (hv : bootBuiltins x = some (.builtin id)) (ha : PA X (e :: es) t) (hn : x ≠ "__name__" := by decide) (hdb : (x == ("__debug__" : Str)) = false := by decide)
    (he : starEach (e :: es) X.env = (false, eval e X.env) :: starEach es X.env := by rfl) (hpl : (backTo pos (starEach es X.env)).any (·.1) = false := by rfl) : PE X (.Call (.Name x p) (e :: es) [] pos) (tCB r t) := by
  intro pins s σ H Q I h
  refine wpAny_Call_Name_kw (ld_blt I hg hm hv ?_ hn hdb)
  exact PyProof.Rows.callWith_builtin1 (thn (ha pos pins s σ H _ I h) fun us s1 ⟨vs, H1, I1, r1, q1⟩ => hc pins s1 σ H1 vs us Q I1 r1 q1) he hpl
/-- T(e, ..), T a built-in type -/
theorem pe_callTy (hc : CallR X (.type T) r) (hg : Gl X x) (hm : X.mg x = none) (hv : bootBuiltins x = some (.type T)) (ha : PA X (e :: es) t) (hn : x ≠ "__name__" := by decide) (hdb : (x == ("__debug__" : Str)) = false := by decide)
    (he : starEach (e :: es) X.env = (false, eval e X.env) :: starEach es X.env := by rfl) (hpl : (backTo pos (starEach es X.env)).any (·.1) = false := by rfl) : PE X (.Call (.Name x p) (e :: es) [] pos) (tCB r t) := by
  intro pins s σ H Q I h
  refine wpAny_Call_Name_kw (ld_blt I hg hm hv ?_ hn hdb)
  exact PyProof.Rows.callWith_type1 (thn (ha pos pins s σ H _ I h) fun us s1 ⟨vs, H1, I1, r1, q1⟩ => hc pins s1 σ H1 vs us Q I1 r1 q1) he hpl
end
end L2

namespace HT
open PySem PyProof.Rows



section
open PySem.SeqAt
open PySem.AutoSeq1 (wpAny_loadPart')
open PySem.MeetsSeq PySem.MeetsSeq2 PySem.MeetsSeq3

end

section
variable {prog : Program} {w : World} {A : Around} {E : Value → Shared → Prop} {s : Shared}


/-- t + u, t not empty -/
theorem cat_tup {t b : Addr} {vs ws : List Value} {Q : Value → Shared → Prop} (ht : IsTup s.heap t vs.toArray) (hb : IsTup s.heap b ws.toArray) (hv : vs ≠ [])
    (h1 : ws = [] → Q (.ref t) s) (h2 : ws ≠ [] → Q (.ref s.heap.objs.size) { s with heap := s.heap.push { cls := .type "tuple", data := .seq (vs ++ ws).toArray } })
    (hsz : vs.length + ws.length ≤ sizeLine) : wpAny (model prog w) A (binaryOp .Add (.ref t) (.ref b)) Q E s := by
  obtain ⟨⟨cls, dd, data, sl⟩, ho, hc, n, hd⟩ := id ht
  obtain ⟨⟨cls2, dd2, data2, sl2⟩, ho2, hc2, n2, hd2⟩ := id hb
  simp only at hc hd hc2 hd2
  subst hc hd hc2 hd2
  have e : vs.toArray ++ ws.toArray = (vs ++ ws).toArray := by simp
  by_cases hw : ws = []
  · exact concat_meets ⟨_, ho, rfl⟩ ⟨_, ho2, rfl⟩ noFill_tuple_add seq_tuple_add PySem.F.slot_tuple_add PySem.F.entry_tuple_add (PySem.F.args_tuple_add_2 _ _)
      (tuple_addW1 t b vs.toArray ws.toArray n n2 dd dd2 sl sl2 (by simpa using hv) (by simp [hw])) ⟨ho, ho2, h1 hw⟩
  · refine concat_meets ⟨_, ho, rfl⟩ ⟨_, ho2, rfl⟩ noFill_tuple_add seq_tuple_add PySem.F.slot_tuple_add PySem.F.entry_tuple_add (PySem.F.args_tuple_add_2 _ _)
      (tuple_addW2 t b vs.toArray ws.toArray n n2 dd dd2 sl sl2 (by simpa using hv) (by simpa using hw) (by rw [List.size_toArray, List.size_toArray]; exact hsz)) ⟨ho, ho2, ?_⟩
    rw [e]
    exact h2 hw

/-! ### t[a:b], not the whole -/
/-- a slice's bound as a place among n (d where it is left out) -/
def sIx (n d : Nat) : Option Int → Nat
  | none => d
  | some v => if v < 0 then (v + (n : Int)).toNat else min v.toNat n
theorem sIx_le (n d : Nat) (hd : d ≤ n) (o : Option Int) : sIx n d o ≤ n := by
  cases o with
  | none => exact hd
  | some v =>
    show (if v < 0 then (v + (n : Int)).toNat else min v.toNat n) ≤ n
    by_cases hv : v < 0
    · rw [if_pos hv]; omega
    · rw [if_neg hv]; exact Nat.min_le_right _ _
theorem clip_eq (v : Int) (n d : Nat) : (if v < 0 then max (v + (n : Int)) 0 else min v (n : Int)) = ((sIx n d (some v) : Nat) : Int) := by
  show (if v < 0 then max (v + (n : Int)) 0 else min v (n : Int)) = (((if v < 0 then (v + (n : Int)).toNat else min v.toNat n) : Nat) : Int)
  by_cases hv : v < 0
  · simp only [if_pos hv]; omega
  · simp only [if_neg hv]; omega
theorem adjust_gen (lo hi : Option Int) (n : Nat) : Builtin.Slice.sliceAdjust lo hi 1 (n : Int) = (((sIx n 0 lo : Nat) : Int), ((sIx n n hi : Nat) : Int)) := by
  have h1 : ¬ ((1 : Int) < 0) := by omega
  unfold Builtin.Slice.sliceAdjust
  simp only [h1, if_false]
  refine Prod.ext ?_ ?_
  · cases lo with
    | none => rfl
    | some v => exact clip_eq v n 0
  · cases hi with
    | none => rfl
    | some v => exact clip_eq v n n
theorem places_gen (i j : Nat) : Builtin.Slice.slicePlaces (i : Int) (j : Int) 1 = j - i := by
  unfold Builtin.Slice.slicePlaces
  have h1 : (1 : Int) > 0 := by omega
  simp only [h1, if_true, Int.ediv_one]
  split <;> omega
theorem slicePart_ {v : Value} {o : Option Int} {Q : Option Int → Shared → Prop} (p : IsPart v o) (h : Q o s) : wpAny (model prog w) A (Builtin.Slice.slicePartIndex v) Q E s := by
  cases p with
  | none => exact slicePart_none h
  | int i t => exact slicePart_int h
theorem sliceApplied_gen {sl : Addr} {vl vu : Value} {lo hi : Option Int} {n : Nat} {Q : Int × Int × Nat → Shared → Prop} (hs : s.heap.IsSliceOf sl vl vu .none) (pl : IsPart vl lo) (pu : IsPart vu hi)
    (h : Q (((sIx n 0 lo : Nat) : Int), 1, sIx n n hi - sIx n 0 lo) s) : wpAny (model prog w) A (Builtin.Slice.sliceApplied (.ref sl) (pure (n : Int))) Q E s := by
  obtain ⟨os, hos, hcs, hds⟩ := id hs
  unfold Builtin.Slice.sliceApplied Builtin.Slice.sliceFields
  refine wpAny_bind (wpAny_bind (wpAny_field hos hds (x := vl) rfl (wpAny_bind (wpAny_field hos hds (x := vu) rfl (wpAny_bind (wpAny_field hos hds (x := .none) rfl (wpAny_pure ?_)))))))
  refine wpAny_bind (slicePart_none ?_)
  show wpAny _ _ (if ((1 : Int) == 0) = true then _ else _) _ _ s
  rw [if_neg (by decide)]
  refine wpAny_bind (slicePart_ pl (wpAny_bind (slicePart_ pu (wpAny_bind (wpAny_pure ?_)))))
  show wpAny _ _ (match Builtin.Slice.sliceAdjust lo hi 1 (n : Int) with | (lo, hi) => pure (lo, (1 : Int), Builtin.Slice.slicePlaces lo hi 1)) _ _ s
  rw [adjust_gen lo hi n]
  show wpAny _ _ (pure (((sIx n 0 lo : Nat) : Int), (1 : Int), Builtin.Slice.slicePlaces ((sIx n 0 lo : Nat) : Int) ((sIx n n hi : Nat) : Int) 1)) _ _ s
  rw [places_gen]
  exact wpAny_pure h
theorem pick_gen (xs : Array Value) (i k : Nat) : ((List.range k).filterMap fun (m : Nat) => xs[((i : Int) + (m : Int) * 1).toNat]?).toArray = ((xs.toList.drop i).take k).toArray := by
  have e : (fun (m : Nat) => xs[((i : Int) + (m : Int) * 1).toNat]?) = fun m => xs[i + m]? := by
    funext m
    have : ((i : Int) + (m : Int) * 1).toNat = i + m := by omega
    rw [this]
  rw [e]
  have := pick_run xs i k
  rw [List.filterMap_map] at this
  have e2 : ((fun x => xs[x]?) ∘ fun x => i + x) = fun m => xs[i + m]? := rfl
  rw [e2] at this
  rw [this]

theorem getItem_tuple_cut {t sl : Addr} {items : Array Value} {vl vu : Value} {lo hi : Option Int} {Q : Value → Shared → Prop} (ht : IsTup s.heap t items) (hs : s.heap.IsSliceOf sl vl vu .none) (pl : IsPart vl lo) (pu : IsPart vu hi)
    (hw : ¬ (sIx items.size 0 lo = 0 ∧ sIx items.size items.size hi = items.size))
    (h : Q (.ref s.heap.objs.size) { s with heap := s.heap.push { cls := .type "tuple", data := .seq ((items.toList.drop (sIx items.size 0 lo)).take (sIx items.size items.size hi - sIx items.size 0 lo)).toArray } })
    (hsz : items.size ≤ sizeLine) : wpAny (model prog w) A (getItem (.ref t) (.ref sl)) Q E s := by
  have htake : sizeOk (.seq ((items.toList.drop (sIx items.size 0 lo)).take (sIx items.size items.size hi - sIx items.size 0 lo)).toArray) := by
    show ((items.toList.drop (sIx items.size 0 lo)).take (sIx items.size items.size hi - sIx items.size 0 lo)).toArray.size ≤ sizeLine
    rw [List.size_toArray, List.length_take, List.length_drop, Array.length_toList]
    omega
  have hj : sIx items.size items.size hi ≤ items.size := sIx_le _ _ (Nat.le_refl _) hi
  obtain ⟨os, hos, hcs, hds⟩ := id hs
  have hTs : s.TypeIs (.ref sl) "slice" := ⟨os, hos, hcs⟩
  unfold getItem
  try with_reducible refine wpAny_holding ?_
  first | refine wpAny_bind (wpAny_pure ?_) | skip
  refine wpAny_bind (wpAny_sequenceKey ht.typeIs (by decide) ?_)
  refine wpAny_bind (wpAny_callSpecial?_slot (name := Str.ofString "__getitem__") ht.typeIs PyProof.Rows.slot_tuple_getitem
    (wpAny_call_entry PyProof.Rows.slot_tuple_getitem ht.typeIs entry_tuple_getitem ?_ (args_tuple_getitem _ _)))
  show wpAny _ _ (Builtin.Tuple.tupleItemsOf (.ref t) >>= _) _ _ s
  refine wpAny_bind (tupleItemsOf_ ht ?_)
  refine wpAny_bind (wpAny_typeOf hTs ?_)
  rw [if_pos (by decide)]
  refine wpAny_bind (sliceApplied_gen hs pl pu ?_)
  have hno : ¬ ((((sIx items.size 0 lo : Nat) : Int) == 0 && (1 : Int) == 1 && (sIx items.size items.size hi - sIx items.size 0 lo) == items.size) = true) := by
    intro q
    rw [Bool.and_eq_true, Bool.and_eq_true] at q
    have q1 : ((sIx items.size 0 lo : Nat) : Int) = 0 := eq_of_beq q.1.1
    have q2 : sIx items.size items.size hi - sIx items.size 0 lo = items.size := eq_of_beq q.2
    exact hw ⟨by omega, by omega⟩
  show wpAny _ _ (if (((sIx items.size 0 lo : Nat) : Int) == 0 && (1 : Int) == 1 && (sIx items.size items.size hi - sIx items.size 0 lo) == items.size) = true then _ else _) _ _ s
  rw [if_neg hno, pick_gen]
  first
    | exact wpAny_bind (m := Builtin.Tuple.tupleExact _) (wpAny_newObj_type (wpAny_pure ⟨_, rfl, wpAny_pure h⟩) htake)
    | exact wpAny_bind (m := Builtin.Tuple.tupleExact _) (wpAny_newObj_type (wpAny_bind (wpAny_pure (wpAny_pure ⟨_, rfl, wpAny_pure h⟩))) htake)
    | exact wpAny_bind (wpAny_bind (m := Builtin.Tuple.tupleExact _) (wpAny_newObj_type (wpAny_pure (wpAny_pure ⟨_, rfl, wpAny_pure h⟩)) htake))
    | exact wpAny_bind (wpAny_bind (m := Builtin.Tuple.tupleExact _) (wpAny_newObj_type (wpAny_pure ⟨_, rfl, wpAny_pure h⟩) htake))
end
end HT

namespace L2
open PySem PySem.Spec PyProof.Rows

/-! ### the parts of a slice -/
abbrev TO := St → Hp → (Option Int → Hp → Prop) → Prop
/-- a slice's part (left out, or an int) -/
def PO (X : Cx) (e : Option Expr) (t : TO) : Prop :=
  ∀ (pins : List (Addr × Obj)) (s : Shared) (σ : St) (H : Hp) (Q : Option Int → Hp → Prop), Inv X pins σ H s → t σ H Q →
    wpAny (model X.prog X.w) X.A (evalPart e X.env) (fun u s' => ∃ o H', Inv X pins σ H' s' ∧ IsPart u o ∧ Q o H') X.xe s
def tNoPart : TO := fun _ H Q => Q none H
def tPart (t : TE) : TO := fun σ H Q => t σ H fun x H1 => ∃ i, x = .int i ∧ Q (some i) H1

theorem intsAre_of {ns : List Int} : ∀ {us : List Value}, Vals (ns.map V.int) us → IntsAre us ns := by
  induction ns with
  | nil => intro us r; rw [List.map_nil] at r; cases r; exact .nil
  | cons n ns ih =>
    intro us r
    rw [List.map_cons] at r
    cases r with
    | cons r1 r2 =>
      obtain ⟨t, e⟩ := r1
      subst e
      exact .cons n t (ih r2)

section
variable {X : Cx} {e : Expr} {te : TE} {lo hi : Option Expr} {tl th : TO} {pos p2 : Pos}

theorem po_none : PO X none tNoPart := by
  intro pins s σ H Q I h
  rw [evalPart_none]
  exact wpAny_pure ⟨none, H, I, .none, h⟩
theorem po_some (h : PE X e te) : PO X (some e) (tPart te) := by
  intro pins s σ H Q I hw
  rw [evalPart_some]
  refine thn (h pins s σ H _ I hw) fun u s1 ⟨x, H1, I1, r1, q1⟩ => ?_
  obtain ⟨i, rfl, q⟩ := q1
  obtain ⟨t, rfl⟩ := r1
  exact ⟨some i, H1, I1, .int i t, q⟩

/-- what a slice of a value is, by values: the slice object stands at sl -/
def SlR (X : Cx) (r : V → Option Int → Option Int → Hp → VK → Prop) : Prop :=
  ∀ (pins : List (Addr × Obj)) (s : Shared) (σ : St) (H : Hp) (x : V) (v vl vu : Value) (lo hi : Option Int) (sl : Addr) (Q : VK), Inv X pins σ H s → RelV x v → s.heap.IsSliceOf sl vl vu .none → IsPart vl lo → IsPart vu hi → r x lo hi H Q →
    ∃ T id, typeLookup (.type T) "__getitem__" = pure (some (.builtin id)) ∧ s.TypeIs v T ∧ wpAny (model X.prog X.w) X.A (getItem v (.ref sl)) (EP X pins σ Q) X.xe s
def tSl (r : V → Option Int → Option Int → Hp → VK → Prop) (te : TE) (tl th : TO) : TE := fun σ H Q => te σ H fun x H1 => tl σ H1 fun l H2 => th σ H2 fun u H3 => r x l u H3 Q
/-- a[lo:hi], any a -/
theorem pe_slice {r : V → Option Int → Option Int → Hp → VK → Prop} (hr : SlR X r) (he : PE X e te) (hl : PO X lo tl) (hu : PO X hi th) : PE X (.Subscript e (.Slice lo hi none p2) pos) (tSl r te tl th) := by
  intro pins s σ H Q I h
  refine Subscript_ (thn (he pins s σ H _ I h) fun v s1 ⟨x, H1, I1, r1, q1⟩ => ?_)
  refine wpAny_Slice (thn (hl pins s1 σ H1 _ I1 q1) fun vl s2 ⟨l, H2, I2, pl, q2⟩ => thn (hu pins s2 σ H2 _ I2 q2) fun vu s3 ⟨u, H3, I3, pu, q3⟩ => ?_)
  rw [evalPart_none]
  refine wpAny_pure ?_
  have I4 : Inv X pins σ H3 { s3 with heap := s3.heap.push { cls := .type "slice", data := .fields #[vl, vu, .none] } } := I3.kept (t' := s3.toks) fun b ob q => Heap.get?_push_of_some _ q
  obtain ⟨T, id, hT, ht, hg⟩ := hr pins { s3 with heap := s3.heap.push { cls := .type "slice", data := .fields #[vl, vu, .none] } } σ H3 x v vl vu l u s3.heap.objs.size Q I4 r1 (Heap.IsSliceOf.new ..) pl pu q3
  show wpAny (model X.prog X.w) X.A (subscriptTail e (.Slice lo hi none p2) v (.ref s3.heap.objs.size)) (EP X pins σ Q) X.xe { s3 with heap := s3.heap.push { cls := .type "slice", data := .fields #[vl, vu, .none] } }
  exact tail_any (ops := [.ref s3.heap.objs.size, v]) ht hT hg (by with_unfolding_all rfl)

/-- the items of xs[lo:hi] -/
def cutV (xs : List V) (lo hi : Option Int) : List V := (xs.drop (HT.sIx xs.length 0 lo)).take (HT.sIx xs.length xs.length hi - HT.sIx xs.length 0 lo)
theorem cutV_length (xs : List V) (lo hi : Option Int) : (cutV xs lo hi).length ≤ xs.length := by
  unfold cutV
  rw [List.length_take, List.length_drop]
  omega
/-- t[lo:hi], not the whole of it (the whole would be t itself) -/
def rSlT (K : PySem.W.Frag) : V → Option Int → Option Int → Hp → VK → Prop := fun x lo hi H Q => ∃ a xs, x = .ref a ∧ SqT K H a xs ∧
  ¬ (HT.sIx xs.length 0 lo = 0 ∧ HT.sIx xs.length xs.length hi = xs.length) ∧ ∀ p, H p = none → Q (.ref p) (upd H p (.tup (cutV xs lo hi)))
theorem sl_tup : SlR X (rSlT X.K) := by
  intro pins s σ H x v vl vu lo hi sl Q I rx hs pl pu h
  obtain ⟨a, xs, rfl, hx, hw, q⟩ := h
  cases rx
  obtain ⟨its, r, ht, hz⟩ := I.tuple hx
  have hlen : its.toArray.size = xs.length := by rw [List.size_toArray]; exact r.length.symm
  refine ⟨"tuple", _, PyProof.Rows.slot_tuple_getitem.lookup, ht.typeIs, ?_⟩
  refine HT.getItem_tuple_cut ht hs pl pu (by rw [hlen]; exact hw) ?_ (by rw [hlen]; exact hz)
  rw [hlen]
  refine ⟨.ref s.heap.objs.size, _, I.laid (t' := s.toks) (o := .tup (cutV xs lo hi)) (fun b ob q => Heap.get?_push_of_some _ q) (Nat.le_refl _) ?_, rfl, q _ (I.hok.fresh (Nat.le_refl _))⟩
  exact ⟨Nat.le_trans (cutV_length xs lo hi) hz, _, (r.drop (HT.sIx xs.length 0 lo)).take (HT.sIx xs.length xs.length hi - HT.sIx xs.length 0 lo), IsTup.new _ _⟩

/-! ### t < u, t + u -/
/-- t + u, t not empty: u empty gives t itself -/
def rCatT (K : PySem.W.Frag) : R2 := fun x y H Q => ∃ a b xs ys, x = .ref a ∧ y = .ref b ∧ SqT K H a xs ∧ SqT K H b ys ∧ xs ≠ [] ∧ xs.length + ys.length ≤ sizeLine ∧
  (ys = [] → Q (.ref a) H) ∧ (ys ≠ [] → ∀ p, H p = none → Q (.ref p) (upd H p (.tup (xs ++ ys))))
theorem Vals.nil_iff {xs : List V} {us : List Value} (r : Vals xs us) : us = [] ↔ xs = [] := by
  cases r with
  | nil => simp
  | cons _ _ => simp
theorem op_catT : OpR X (binaryOp .Add) (rCatT X.K) := by
  intro pins s σ H x y v u Q I rx ry h
  obtain ⟨a, b, xs, ys, rfl, rfl, ha, hb, hx, hz, q1, q2⟩ := h
  cases rx
  cases ry
  obtain ⟨its, r1, p1, _⟩ := I.tuple ha
  obtain ⟨its2, r2, p2, _⟩ := I.tuple hb
  refine HT.cat_tup p1 p2 (fun z => hx (r1.nil_iff.mp z)) (fun z => ⟨.ref a, H, I, rfl, q1 (r2.nil_iff.mp z)⟩) (fun z => ?_) (by rw [← r1.length, ← r2.length]; exact hz)
  refine ⟨.ref s.heap.objs.size, _, I.laid (t' := s.toks) (o := .tup (xs ++ ys)) (fun b ob q => Heap.get?_push_of_some _ q) (Nat.le_refl _) ?_, rfl, q2 (fun w => z (r2.nil_iff.mpr w)) _ (I.hok.fresh (Nat.le_refl _))⟩
  exact ⟨by rw [List.length_append]; exact hz, _, r1.append r2, IsTup.new _ _⟩
end
end L2

namespace L2
open PySem PySem.Spec PyProof.Rows

/-! ### places -/
/-- the place that an index of any sign means -/
def ixN (n : Nat) (i : Int) : Option Nat := if 0 ≤ i then (if i < n then some i.toNat else none) else if -(n : Int) ≤ i then some (i + n).toNat else none
def atI {α : Type} (xs : List α) (i : Int) : Option α := (ixN xs.length i).bind fun j => xs[j]?
theorem ixN_seq {n : Nat} {i : Int} {j : Nat} (h : ixN n i = some j) : seqIndex? i n = some j ∧ j < n ∧ -(n : Int) ≤ i ∧ i < n := by
  unfold ixN at h
  by_cases h0 : 0 ≤ i
  · rw [if_pos h0] at h
    by_cases h1 : i < n
    · rw [if_pos h1] at h
      have e : i.toNat = j := Option.some.inj h
      exact ⟨by rw [seqIndex_of h0 h1, e], by omega, by omega, h1⟩
    · rw [if_neg h1] at h; cases h
  · rw [if_neg h0] at h
    by_cases h1 : -(n : Int) ≤ i
    · rw [if_pos h1] at h
      have e : (i + n).toNat = j := Option.some.inj h
      exact ⟨by rw [seqIndex_neg (by omega) h1, e], by omega, h1, by omega⟩
    · rw [if_neg h1] at h; cases h
theorem atI_get {α : Type} {xs : List α} {i : Int} {v : α} (h : atI xs i = some v) : ∃ j, seqIndex? i xs.length = some j ∧ xs[j]? = some v ∧ j < xs.length ∧ -(xs.length : Int) ≤ i ∧ i < xs.length := by
  unfold atI at h
  cases e : ixN xs.length i with
  | none => rw [e] at h; cases h
  | some j =>
    rw [e] at h
    obtain ⟨h1, h2, h3, h4⟩ := ixN_seq e
    exact ⟨j, h1, h, h2, h3, h4⟩
theorem atI_nat {α : Type} {xs : List α} {j : Nat} {v : α} (h : xs[j]? = some v) : atI xs (j : Int) = some v := by
  have hj : j < xs.length := (List.getElem?_eq_some_iff.mp h).1
  have e : ixN xs.length (j : Int) = some j := by
    unfold ixN
    rw [if_pos (by omega), if_pos (by omega)]; simp
  unfold atI; rw [e]; exact h

/-! ### what may be subscripted -/
/-- what stands as an index of a plain subscript -/
def PlainIx (b : Expr) : Prop := ∀ o i, subscripted b false o i = operate [o, i] (getItem o i)
/-- a subscript by values -/
def IxR (X : Cx) (r : R2) : Prop :=
  ∀ (value slice : Expr) (pins : List (Addr × Obj)) (s : Shared) (σ : St) (H : Hp) (x y : V) (v u : Value) (Q : VK), Inv X pins σ H s → RelV x v → RelV y u → r x y H Q →
    subscripted slice false v u = operate [v, u] (getItem v u) → wpAny (model X.prog X.w) X.A (subscriptTail value slice v u) (EP X pins σ Q) X.xe s
/-- a call of a builtin's method by values: the receiver, the arguments -/
def MtR (X : Cx) (id : String) (r : V → List V → Hp → VK → Prop) : Prop :=
  ∀ (pins : List (Addr × Obj)) (s : Shared) (σ : St) (H : Hp) (x : V) (xs : List V) (v : Value) (us : List Value) (Q : VK), Inv X pins σ H s → RelV x v → Vals xs us → r x xs H Q →
    wpAny (model X.prog X.w) X.A (call (.builtin id) (v :: us)) (EP X pins σ Q) X.xe s
section
variable {X : Cx} {a b : Expr} {ta tb : TE} {pos : Pos}
/-- a[b] -/
theorem pe_ix {r : R2} (hr : IxR X r) (ha : PE X a ta) (hb : PE X b tb) (hs : PlainIx b) : PE X (.Subscript a b pos) (tOp r ta tb) := by
  intro pins s σ H Q I h
  exact Subscript_ (binT ha hb I h fun v u s2 x y H2 I2 rx ry q => hr a b pins s2 σ H2 x y v u Q I2 rx ry q (hs _ _))

def rIxL (K : PySem.W.Frag) : R2 := fun x y H Q => ∃ p xs i v, x = .ref p ∧ y = .int i ∧ SqL K H p xs ∧ atI xs i = some v ∧ Q v H
def rIxT (K : PySem.W.Frag) : R2 := fun x y H Q => ∃ p xs i v, x = .ref p ∧ y = .int i ∧ SqT K H p xs ∧ atI xs i = some v ∧ Q v H
theorem ix_list : IxR X (rIxL X.K) := by
  intro value slice pins s σ H x y v u Q I rx ry h hs
  obtain ⟨p, xs, i, z, rfl, rfl, hq, he, q⟩ := h
  cases rx
  obtain ⟨t, rfl⟩ := ry
  obtain ⟨its, r, pl, hz⟩ := I.list hq
  obtain ⟨j, h1, h2, h3, h4, h5⟩ := atI_get he
  obtain ⟨w, ew, rw'⟩ := r.get h2
  have hl := r.length
  have hn := line63
  have fin : EP X pins σ Q w s := ⟨z, H, I, rw', q⟩
  by_cases h0 : 0 ≤ i
  · have hj : i.toNat = j := by
      rw [seqIndex_of h0 h5] at h1
      exact Option.some.inj h1
    exact item_listR pl.isList h0 (by omega) (by rw [hj]; simpa using ew) fin hs
  · have hj : (i + (its.toArray.size : Int)).toNat = j := by
      rw [seqIndex_neg (by omega) h4] at h1
      rw [List.size_toArray, ← hl]
      exact Option.some.inj h1
    exact subscriptTail_builtinR (x := w) pl.isList.typeIs slot_list_getitem.lookup
      (wpAny_getItem_list_neg (Q := fun r s' => r = w ∧ EP X pins σ Q r s') pl.isList (by omega) (by rw [List.size_toArray] <;> omega) (by omega) (by rw [hj]; simpa using ew) ⟨rfl, fin⟩) hs
theorem ix_tup : IxR X (rIxT X.K) := by
  intro value slice pins s σ H x y v u Q I rx ry h hs
  obtain ⟨p, xs, i, z, rfl, rfl, hq, he, q⟩ := h
  cases rx
  obtain ⟨t, rfl⟩ := ry
  obtain ⟨its, r, pl, hz⟩ := I.tuple hq
  obtain ⟨j, h1, h2, h3, h4, h5⟩ := atI_get he
  obtain ⟨w, ew, rw'⟩ := r.get h2
  have hl := r.length
  have hn := line63
  have fin : EP X pins σ Q w s := ⟨z, H, I, rw', q⟩
  exact subscriptTail_builtinR (x := w) pl.typeIs slot_tuple_getitem.lookup
    (getItem_tuple (j := j) (Q := fun r s' => r = w ∧ EP X pins σ Q r s') pl (by omega) (by omega) (by rw [List.size_toArray, ← hl]; exact h1) (by simpa using ew) ⟨rfl, fin⟩) hs

/-! ### xs[i] = v, any sign -/

/-! ### slices -/
theorem slice_bounds (lo hi : Option Int) (n : Nat) : (sliceBounds lo hi none n).1 = ((HT.sIx n 0 lo : Nat) : Int) ∧ (sliceBounds lo hi none n).2.1 = ((HT.sIx n n hi : Nat) : Int) ∧ (sliceBounds lo hi none n).2.2 = 1 := by
  refine ⟨?_, ?_, rfl⟩
  · cases lo with
    | none => simp [sliceBounds, HT.sIx]
    | some i =>
      simp only [sliceBounds, HT.sIx, Option.getD_none, show (1 : Int) > 0 by decide, if_true]
      by_cases h : i < 0
      · simp only [h, if_true] <;> omega
      · simp only [h, if_false] <;> omega
  · cases hi with
    | none => simp [sliceBounds, HT.sIx]
    | some i =>
      simp only [sliceBounds, HT.sIx, Option.getD_none, show (1 : Int) > 0 by decide, if_true]
      by_cases h : i < 0
      · simp only [h, if_true] <;> omega
      · simp only [h, if_false] <;> omega
theorem slicePick_cut (its : List Value) (lo hi : Option Int) : slicePick its.toArray lo hi none = ((its.drop (HT.sIx its.length 0 lo)).take (HT.sIx its.length its.length hi - HT.sIx its.length 0 lo)).toArray := by
  obtain ⟨h1, h2, h3⟩ := slice_bounds lo hi its.toArray.size
  unfold slicePick
  rw [h1, h2, h3]
  simp only [sliceRange_one, pick_run, List.size_toArray] <;> rfl
/-- xs[lo:hi] of a list: a new list -/
def rSlL (K : PySem.W.Frag) : V → Option Int → Option Int → Hp → VK → Prop := fun x lo hi H Q => ∃ a xs, x = .ref a ∧ SqL K H a xs ∧ ∀ p, H p = none → Q (.ref p) (upd H p (.lst (cutV xs lo hi)))
theorem sl_list : SlR X (rSlL X.K) := by
  intro pins s σ H x v vl vu lo hi sl Q I rx hs pl pu h
  obtain ⟨a, xs, rfl, hx, q⟩ := h
  cases rx
  obtain ⟨its, r, ht, hz⟩ := I.list hx
  have hlen := r.length
  refine ⟨"list", _, slot_list_getitem.lookup, ht.isList.typeIs, ?_⟩
  refine wpAny_getItem_list_slice ht.isList hs pl pu .none (by simp) ?_ (by rw [List.size_toArray] <;> omega)
  rw [slicePick_cut, ← hlen]
  refine ⟨.ref s.heap.objs.size, _, I.laid (t' := s.toks) (o := .lst (cutV xs lo hi)) (fun b ob q => Heap.get?_push_of_some _ q) (Nat.le_refl _) ?_, rfl, q _ (I.hok.fresh (Nat.le_refl _))⟩
  exact ⟨Nat.le_trans (cutV_length xs lo hi) hz, _, 0, (r.drop (HT.sIx xs.length 0 lo)).take (HT.sIx xs.length xs.length hi - HT.sIx xs.length 0 lo), Heap.get?_push_size _ rfl⟩

/-! ### in, not in: flat items -/

/-! ### len, list(x), tuple(x) of any list or tuple that is read -/
theorem call_len_seq : CallR X (.builtin "len") (fun xs H Q => ∃ p ys, xs = [.ref p] ∧ (SqL X.K H p ys ∨ SqT X.K H p ys) ∧ Q (.int ys.length) H) := by
  intro pins s σ H xs us Q I r h
  obtain ⟨p, ys, rfl, hq, q⟩ := h
  obtain ⟨u, rfl, rx⟩ := vals1 r
  cases rx
  have hn := line63
  rcases hq with hq | hq
  · obtain ⟨its, r', pl, hz⟩ := I.list hq
    have hlen := r'.length
    exact Calls.call_len_list pl.isList (by simp only [List.size_toArray] <;> omega) ⟨.int ys.length, H, I.tok _, ⟨s.toks + 1, by rw [List.size_toArray, hlen]⟩, q⟩
  · obtain ⟨its, r', pl, hz⟩ := I.tuple hq
    have hlen := r'.length
    exact len_tuple pl (by simp only [List.size_toArray] <;> omega) ⟨.int ys.length, H, I.tok _, ⟨s.toks + 1, by rw [List.size_toArray, hlen]⟩, q⟩
theorem call_tuple_of : CallR X (.type "tuple") (fun xs H Q => ∃ p ys, xs = [.ref p] ∧ ((SqL X.K H p ys ∧ ∀ l, H l = none → Q (.ref l) (upd H l (.tup ys))) ∨ (SqT X.K H p ys ∧ Q (.ref p) H))) := by
  intro pins s σ H xs us Q I r h
  obtain ⟨p, ys, rfl, h⟩ := h
  obtain ⟨u, rfl, rx⟩ := vals1 r
  cases rx
  rcases h with ⟨hq, q⟩ | ⟨hq, q⟩
  · obtain ⟨its, r', pl, hz⟩ := I.list hq
    have hlen := r'.length
    refine call_tuple_list pl.isList (fun h' kp => ?_) (by simp only [List.size_toArray] <;> omega)
    have I1 : Inv X pins σ H { s with heap := h' } := I.kept (t' := s.toks) kp
    have I2 : Inv X pins σ (upd H h'.objs.size (.tup ys)) { s with heap := h'.push { cls := .type "tuple", data := .seq its.toArray } } :=
      I1.laid (t' := s.toks) (fun b o e => Heap.get?_push_of_some _ e) (Nat.le_refl _) (show ObjOk X.prog X.w _ _ _ (.tup ys) from ⟨hz, its, r', IsTup.new _ _⟩)
    exact ⟨.ref h'.objs.size, _, I2, rfl, q _ (I1.hok.fresh (Nat.le_refl _))⟩
  · obtain ⟨its, r', pl, hz⟩ := I.tuple hq
    exact call_tuple_same pl ⟨.ref p, H, I, rfl, q⟩

/-! ### the call of a builtin's method: o.m(..) -/
/-- the value is of that builtin type -/
def tyV (K : PySem.W.Frag) (T : String) (x : V) (H : Hp) : Prop := match x with
  | .str _ => T = "str"
  | .int _ => T = "int"
  | .ref p => (T = "list" ∧ ∃ xs, SqL K H p xs) ∨ (T = "tuple" ∧ ∃ o, K.lookup p = some o ∧ o.cls = .type "tuple" ∧ o.dict = none) ∨
      (T = "dict" ∧ ((∃ kvs, H p = some (.dK kvs)) ∨ ∃ kvs, H p = some (.dT kvs))) ∨ (T = "set" ∧ ∃ S n, H p = some (.set S n))
  | _ => False
theorem tyV_is {pins : List (Addr × Obj)} {σ : St} {H : Hp} {s : Shared} {T : String} {x : V} {v : Value} (I : Inv X pins σ H s) (r : RelV x v) (ty : tyV X.K T x H) :
    s.TypeIs v T ∧ ∀ a, v = .ref a → ∃ ob, s.heap.get? a = some ob ∧ ob.dict = none := by
  cases x with
  | str z =>
    obtain ⟨t, rfl⟩ := r
    cases (show T = "str" from ty)
    exact ⟨typeIs_str s z t, fun _ e => nomatch e⟩
  | int i =>
    obtain ⟨t, rfl⟩ := r
    cases (show T = "int" from ty)
    exact ⟨typeIs_int s i t, fun _ e => nomatch e⟩
  | ref p =>
    cases r
    rcases ty with ⟨rfl, xs, hq⟩ | ⟨rfl, o, hk, hc, hd⟩ | ⟨rfl, hk⟩ | ⟨rfl, S, n, hk⟩
    · obtain ⟨its, _, pl, _⟩ := I.list hq
      refine ⟨pl.isList.typeIs, fun a e => ?_⟩
      cases e
      obtain ⟨o, n, e, c, hd, _⟩ := pl
      exact ⟨o, e, hd⟩
    · refine ⟨⟨o, I.kIn p o hk, hc⟩, fun a e => ?_⟩
      cases e
      exact ⟨o, I.kIn _ o hk, hd⟩
    · have z : ∃ o, s.heap.get? p = some o ∧ o.ExactDict := by
        rcases hk with ⟨kvs, hk⟩ | ⟨kvs, hk⟩
        · obtain ⟨_, _, _, _, o, _, _, e, ex, _⟩ := I.hok p _ hk
          exact ⟨o, e, ex⟩
        · obtain ⟨_, _, _, _, o, _, _, e, ex, _⟩ := I.hok p _ hk
          exact ⟨o, e, ex⟩
      obtain ⟨o, e, ex⟩ := z
      refine ⟨⟨o, e, ex.1⟩, fun a e2 => ?_⟩
      cases e2
      exact ⟨o, e, ex.2.1⟩
    · obtain ⟨o, _, _, _, e, ex, _⟩ := I.hok p _ hk
      refine ⟨⟨o, e, ex.1⟩, fun a e2 => ?_⟩
      cases e2
      exact ⟨o, e, ex.2.1⟩
  | _ => exact False.elim ty
def tBM (K : PySem.W.Frag) (T : String) (r : V → List V → Hp → VK → Prop) (to : TE) (t : TA) : TE := fun σ H Q => to σ H fun x H1 => tyV K T x H1 ∧ t σ H1 fun xs H2 => r x xs H2 Q
variable {o e : Expr} {es : List Expr} {to : TE} {t : TA} {name : Str} {apos cpos : Pos} {T id : String} {r : V → List V → Hp → VK → Prop}
theorem pe_bm (pa : PlainAttrs T) (slot : Slot T name id) (hty : typeOf (.builtin id) = pure (.type "method_descriptor")) (hm : MtR X id r) (ho : PE X o to) (ha : PA X (e :: es) t)
    (hbase : attributeBase o name X.env (eval o X.env) = eval o X.env := by rfl)
    (hfew : ((backTo cpos (starEach (e :: es) X.env)).all (fun x => !x.1) && (backToKw cpos (keywordEach [] X.env)).all (fun x => x.1.isSome)
      && decide ((e :: es).length + ([] : List Keyword).length + (if ([] : List Keyword).isEmpty then 0 else 1) < 30)) = true := by rfl)
    (hline : (apos.endLine == cpos.line) = true := by rfl) (hs : starEach (e :: es) X.env = (false, eval e X.env) :: starEach es X.env := by rfl) (hplain : (backTo cpos (starEach es X.env)).any (·.1) = false := by rfl) :
    PE X (.Call (.Attribute o name apos) (e :: es) [] cpos) (tBM X.K T r to t) := by
  intro pins s σ H Q I h
  refine wpAny_Call_method_late hbase hfew hline rfl (thn (ho pins s σ H _ I h) fun v s1 ⟨x, H1, I1, r1, ty, q1⟩ => ?_)
  obtain ⟨h1, h2⟩ := tyV_is I1 r1 ty
  refine ⟨T, id, pa, slot, hty, h1, h2, ?_⟩
  have hA := ha cpos pins s1 σ H1 _ I1 q1
  rw [hs] at hA ⊢
  refine Calls.callWith_builtin (by show (false || (backTo cpos (starEach es X.env)).any (·.1)) = false; rw [hplain] <;> rfl) (Calls.evalArgs_plain ?_)
  exact thn hA fun us s2 ⟨vs, H2, I2, r2, q2⟩ => hm pins s2 σ H2 x vs v us Q I2 r1 r2 q2
/- xs.append(e), list.index on a module's tuple .. are MtR facts of 06m -/
end
end L2

namespace L2
open PySem PySem.Spec PyProof.Rows

def MtM (X : Cx) (id : String) (r : V → List V → Hp → VK → Prop) : Prop :=
  ∀ (pins : List (Addr × Obj)) (s : Shared) (σ : St) (H : Hp) (x : V) (xs : List V) (v : Value) (us : List Value) (Q : VK), Inv X pins σ H s → RelV x v → Vals xs us → r x xs H Q →
    wpAny (model X.prog X.w) X.A (call (.builtin id) (v :: us)) (EP X pins σ Q) X.xe s

/-! ### lists of values -/
theorem Vals.one : ∀ {x : V} {us : List Value}, Vals [x] us → ∃ u, us = [u] ∧ RelV x u
  | _, _, .cons r .nil => ⟨_, rfl, r⟩
theorem Vals.two : ∀ {x y : V} {us : List Value}, Vals [x, y] us → ∃ u v, us = [u, v] ∧ RelV x u ∧ RelV y v
  | _, _, _, .cons r (.cons q .nil) => ⟨_, _, rfl, r, q⟩

section
variable {X : Cx} {pins : List (Addr × Obj)} {σ : St} {H : Hp} {s : Shared} {l b : Addr} {xs ys zs : List V}

/-! ### the two steps: a tracked list is rewritten, a new list is laid -/
theorem Inv.lset {its its' : List Value} {n : Nat} {f : Array Value → Array Value} {t' : Nat} (I : Inv X pins σ H s) (hH : H l = some (.lst xs))
    (e : s.heap.get? l = some { cls := .type "list", data := .seq its.toArray n }) (hf : f its.toArray = its'.toArray) (hv : Vals ys its') (hz : ys.length ≤ sizeLine) :
    Inv X pins σ (upd H l (.lst ys)) { s with heap := s.heap.update l (Obj.mapSeq f), toks := t' } := by
  have q := PySem.IsL.update e f
  rw [hf] at q
  refine I.write (x := l) (e := l) (by rw [hH]; exact trivial) (.inl rfl) (fun b' u hb hu => (Heap.get?_update_other s.heap (Obj.mapSeq f) (Ne.symm hb)).trans hu) ⟨_, q⟩ ?_
  exact ⟨hz, its', _, hv, q⟩
theorem Inv.lnew {its : List Value} {t' : Nat} (I : Inv X pins σ H s) (hv : Vals ys its) (hz : ys.length ≤ sizeLine) :
    Inv X pins σ (upd H s.heap.objs.size (.lst ys)) { s with heap := s.heap.push { cls := .type "list", data := .seq its.toArray }, toks := t' } :=
  I.laid (fun _ _ q => Heap.get?_push_of_some _ q) (Nat.le_refl _) ⟨hz, its, 0, hv, Heap.get?_push_size _ rfl⟩
theorem Inv.fresh (I : Inv X pins σ H s) : H s.heap.objs.size = none := I.hok.fresh (Nat.le_refl _)
theorem Inv.lstM (I : Inv X pins σ H s) (hH : H l = some (.lst xs)) : xs.length ≤ sizeLine ∧ ∃ (its : List Value) (n : Nat), Vals xs its ∧ xs.length = its.length ∧ s.heap.get? l = some { cls := .type "list", data := .seq its.toArray n } := by
  obtain ⟨z, its, n, r, e⟩ := I.hok l _ hH
  exact ⟨z, its, n, r, r.length, e⟩

end

section
variable {X : Cx}

/-! ### methods -/
def rAppend : V → List V → Hp → VK → Prop := fun x vs H Q => ∃ l xs y, x = .ref l ∧ vs = [y] ∧ H l = some (.lst xs) ∧ xs.length < sizeLine ∧ Q .non (upd H l (.lst (xs ++ [y])))
theorem mt_append : MtM X "list.append" rAppend := by
  intro pins s σ H x vs v us Q I rx rv h
  obtain ⟨l, xs, y, rfl, rfl, hH, hz, q⟩ := h
  cases rx
  obtain ⟨u, rfl, ru⟩ := rv.one
  obtain ⟨z, its, n, r, hl, e⟩ := I.lstM hH
  refine call_meets F.slot_list_append ⟨_, e, rfl⟩ F.entry_list_append (F.args_list_append_2 _ _) (PySem.list_append l its.toArray n u (by rw [List.size_toArray]; omega)) ⟨e, ?_⟩
  refine ⟨.non, _, I.lset (its' := its ++ [u]) hH e (by simp) (r.append (.cons ru .nil)) ?_, rfl, q⟩
  rw [List.length_append, List.length_singleton]
  omega






/-! ### list + list, list += list, list * int -/
def rCat : R2 := fun x y H Q => ∃ l b xs zs, x = .ref l ∧ y = .ref b ∧ H l = some (.lst xs) ∧ H b = some (.lst zs) ∧ xs.length + zs.length ≤ sizeLine ∧ ∀ p, H p = none → Q (.ref p) (upd H p (.lst (xs ++ zs)))
theorem op_cat : OpR X (binaryOp .Add) rCat := by
  intro pins s σ H x y v u Q I rx ry h
  obtain ⟨l, b, xs, zs, rfl, rfl, hH, hB, hz, q⟩ := h
  cases rx
  cases ry
  obtain ⟨z, its, n, r, hl, e⟩ := I.lstM hH
  obtain ⟨z2, its2, n2, r2, hl2, e2⟩ := I.lstM hB
  refine PySem.P.add_list e e2 ?_ (by rw [List.size_toArray, List.size_toArray]; omega)
  have ea : its.toArray ++ its2.toArray = (its ++ its2).toArray := by simp
  rw [ea]
  exact ⟨.ref _, _, I.lnew (t' := s.toks) (r.append r2) (by rw [List.length_append]; omega), rfl, q _ I.fresh⟩

/-! ### del xs[i] -/
end

/-! ### xs[a:b] = ys -/
section
variable {prog : Program} {w : World} {A : Around} {E : Value → Shared → Prop} {s : Shared}
end

section
variable {X : Cx}
end
end L2

namespace Att
open PySem PySem.W PySem.Calls PyProof.Rows

/-! ### the script -/
theorem ints_of_wellAll {P : Params} {h : Heap} : ∀ (ns : List Int) (vs : List Value), WellAll P h vs (ns.map WData.int) → IntsAre vs ns := by
  intro ns
  induction ns with
  | nil =>
    intro vs w
    rw [List.map_nil] at w
    cases w
    exact .nil
  | cons n ns ih =>
    intro vs w
    rw [List.map_cons] at w
    cases w with
    | cons a b =>
      cases a
      exact .cons _ _ (ih _ b)

theorem script_of {l : OpenLaw} {n : Nat} (hn : l.most = some n) {P : Params} {h : Heap} {args : List WData} {vals : List Value}
    (hpre : l.row.toRowW.claim.pre args = true) (hwl : WellAll P h vals args) :
    ∃ a vs ns, vals = [Value.ref a] ∧ args = [WData.list (ns.map WData.int)] ∧ h.get? a = some { cls := .type "list", data := .seq vs.toArray } ∧ IntsAre vs ns ∧ ns.length ≤ n := by
  have hsh : WShape.hasAll [] args [.list .int] = true := (pre_splitW hpre).1
  have hc : l.pre.holds [] { args := args } = true := (pre_splitW hpre).2
  obtain ⟨d, r, rfl, h1, h2⟩ := hasAllW_cons hsh
  obtain rfl := hasAllW_nil h2
  obtain ⟨xs, rfl, h3⟩ := hasW_list h1
  obtain ⟨ns, rfl⟩ := items_int h3
  have hlen : ns.length ≤ n := by
    unfold OpenLaw.pre at hc
    have h4 : (WTm.not (.lt (.lit (.int (n : Int))) (.len (.arg 0)))).holds [] { args := [.list (ns.map .int)] } = true := by
      have h4 := (holds_andW hc).1
      rw [hn] at h4
      exact h4
    have h5 := condW_of h4 (w_not (w_lt w_lit (w_len_list (w_arg rfl))))
    rw [List.length_map] at h5
    refine Nat.le_of_not_lt fun q => ?_
    have q' : (n : Int) < ((ns.length : Nat) : Int) := by omega
    first
      | (rw [decide_eq_true q'] at h5; exact absurd h5 (by decide))
      | (simp at h5; omega)
  cases hwl with
  | cons w1 w2 =>
    cases w2
    cases w1 with
    | list ho hall => exact ⟨_, _, ns, rfl, rfl, ho, ints_of_wellAll ns _ hall, hlen⟩

theorem post_true (l : OpenLaw) (args : List WData) : l.row.toRowW.claim.post args (.bool true) args = true :=
  postW_of (r := l.row.toRowW) (X := (true == true))
    (show WShape.has [] (.bool true) .bool = true by first | rfl | decide | simp [WShape.has, WShape.arms, WShape.armsAll])
    (show (WTm.eq .res (.lit (.bool true))).value [] { args := args, res := some (.bool true), after := args } = some (.bool (true == true)) from w_eq_bool (w_res rfl) w_lit) rfl

/-! ### the attachment: holds_open's last premise (the goal 'hc' behind k_head) from a wpAny of the law's body -/

/-- the same from a codeAny of the CALL (for a layer whose function contracts speak of calls) -/
theorem attach_call {l : OpenLaw} {n : Nat} {q : Program} {loose : List Str} {XP : (Str → Option Value) → Heap → Prop} {YP : World → Heap → Prop} {d : DefRec}
    (hn : l.most = some n) (hdf : d.params.defaults = [])
    (call : ∀ (w : World) (s₀ s₁ : Shared) (mg mb : Str → Option Value) (fa : Addr) (o : Obj) (pm cd doc : Value) (a : Addr) (vs : List Value) (ns : List Int),
      Ground q loose [] XP w s₀ mg mb s₁.heap → YP w s₁.heap →
      s₁.heap.get? fa = some o → o.data = .func (docDef d.name d.params d.body d.scope pm cd doc) → s₁.heap.CodeRec cd d.name → mg d.name = some (.ref fa) →
      s₁.heap.get? a = some { cls := .type "list", data := .seq vs.toArray } → IntsAre vs ns → ns.length ≤ n → s₁.gens = #[] →
      codeAny (model l.prog w) callerA (.call (.ref fa) ⟨[.ref a], []⟩) (fun r s' => r = .ok (.ret (.bool true)) ∧ OldK s₁.heap s'.heap ∧ s'.os = s₁.os ∧ AllBare s'.gens) s₁) :
    WalkO q loose XP YP l.row.toRowW d [] (fun f vs => PySem.call f vs) := by
  intro w s₀ s₁ mg mb G Y fa o pm cd doc dV kV ho hd hcd hD hmg hg args vals as hpre hlay hrd hwl hlo
  obtain rfl : dV = .none := Dflts.none hD hdf
  obtain rfl : kV = .none := Dflts.noKw hD
  obtain ⟨a, vs, ns, rfl, rfl, hobj, hints, hlen⟩ := script_of hn hpre hwl
  refine enter_call (codeAny_mono (call w s₀ s₁ mg mb fa o pm cd doc a vs ns G Y ho (fd_plain hd) hcd hmg hobj hints hlen hg) fun r s' hq => ?_)
  obtain ⟨rfl, h2, h3, h4⟩ := hq
  exact ⟨.inl ⟨.bool true, .bool true, [], rfl, fun _ => rfl, .bool true, post_true l _, fun _ => ⟨List.Pairwise.nil, fun _ hm => (nomatch hm)⟩⟩, h2, h3, h4⟩


/-! ### rules over ANY heap (no ledger) from facts about the written part K: the library's own take a ledger (News) for what they write -/
section
variable {prog : Program} {w : World} {A : Around} {E : Value → Shared → Prop} {s : Shared} {K : Frag}





/-! the whole heap as the ledger: makes every rule that writes through a ledger a rule over any heap -/

end
end Att

namespace L2
open PySem PySem.Spec PyProof.Rows

theorem vals_ints : ∀ {vs : List Value} {ns : List Int}, IntsAre vs ns → Vals (ns.map V.int) vs
  | _, _, .nil => .nil
  | _, _, .cons n t h => .cons ⟨t, rfl⟩ (vals_ints h)

/-- nothing is tracked but the script, known to the object (or it is an object of the module) -/
def Only (H : Hp) : Prop := ∀ b, H b = none ∨ ∃ o xs, H b = some (.frz o (.lst xs))

/-- THE HEAD: the law's promise, at the heap behind the top. F, the promise of the law's def, may use that base is part of the heap (so K.In base, base.Ns mainGlobals mg stand in Mod) -/
theorem law_call {P : Program} {w : World} {K : PySem.W.Frag} {mg mb : Str → Option Value} {CX : CXT} {k : Nat} {fa a : Addr} {fd : FuncData} {x : Str} {sp : Sp} {s₁ : Shared} {vs : List Value} {ns : List Int}
    (KX : K.In s₁.heap) (hns : s₁.heap.Ns mainGlobals mg) (hb : s₁.heap.Ns builtinsNs mb) (hbb : ∀ x : Str, x ≠ "__name__" → mb x = bootBuiltins x) (hlim : s₁.heap.NoLimit) (hg : s₁.gens = #[])
    (ha : s₁.heap.get? a = some { cls := .type "list", data := .seq vs.toArray }) (hi : IntsAre vs ns) (hl : ns.length ≤ sizeLine) (hr : Room k callerA)
    (F : ∀ base : Heap, K.In base → base.Ns mainGlobals mg → FnOk P w K mg base CX k fa fd [x] sp) (hbind : ∀ (s : Shared) (u : Value), BindsTo s fd ⟨[u], []⟩ [(x, u)])
    (hsp : ∀ H : Hp, Only H → SqL K H a (ns.map V.int) → sp [.ref a] H (fun v _ => v = .bl true) fun _ _ _ => False)
    (hCX : ∀ H e s', CX [] H s₁ (fun _ _ _ => False) e s' → False) :
    codeAny (model P w) callerA (.call (.ref fa) ⟨[.ref a], []⟩) (fun r s' => r = .ok (.ret (.bool true)) ∧ OldK s₁.heap s'.heap ∧ s'.os = s₁.os ∧ AllBare s'.gens) s₁ := by
  have rv := vals_ints hi
  have lenV := hi.length
  -- from an abstract heap in which nothing but the script may be tracked
  have core : ∀ H : Hp, Only H → SqL K H a (ns.map V.int) → HOk P w H s₁.heap → (∀ b, H b ≠ none → b = a) → (H a ≠ none → K.lookup a = none) →
      codeAny (model P w) callerA (.call (.ref fa) ⟨[.ref a], []⟩) (fun r s' => r = .ok (.ret (.bool true)) ∧ OldK s₁.heap s'.heap ∧ s'.os = s₁.os ∧ AllBare s'.gens) s₁ := by
    intro H hO hS hok hA hK
    have base_of : ∀ {b : Addr} {o : Obj}, s₁.heap.get? b = some o → H b = none → (hidT s₁.heap H).get? b = some o := fun e n => hidT_get e n
    have noA : ∀ {b : Addr} {o : Obj} {es : Array DictEntry} {ep : Nat}, s₁.heap.get? b = some o → o.data = .dict es ep → H b = none := fun {b o es ep} e d => by
      cases q : H b with
      | none => rfl
      | some u =>
        have e' : b = a := hA b (by rw [q]; simp)
        subst e'
        rw [ha] at e; cases e
        have d' : Data.seq vs.toArray _ = Data.dict es ep := d
        cases d'
    have nsK : ∀ {b : Addr} {m : Str → Option Value}, s₁.heap.Ns b m → (hidT s₁.heap H).Ns b m := fun {b m} ⟨o, es, ep, e, d, r⟩ => ⟨o, es, ep, base_of e (noA e d), d, r⟩
    have hKb : K.In (hidT s₁.heap H) := fun b o e => base_of (KX b o e) (by
      cases q : H b with
      | none => rfl
      | some u =>
        have e' : b = a := hA b (by rw [q]; simp)
        subst e'
        rw [hK (by rw [q]; simp)] at e; cases e)
    have hM : Mod K mg (hidT s₁.heap H) := ⟨hKb, nsK hns, ⟨mb, nsK hb, hbb⟩, let ⟨mc, h1, h2⟩ := hlim; ⟨mc, nsK h1, h2⟩⟩
    have e0 : Env0 P w K mg (hidT s₁.heap H) callerA [] s₁ H := ⟨rfl, hM, fun b o e => of_hidT e, Nat.le_of_eq (hidT_size _ _), trivial, fun b hb => absurd (show b ∈ ([] : List Addr) from hb) (by simp), hok, .of_eq hg⟩
    refine codeAny_mono ((F _ hKb (nsK hns)).run callerA [] s₁ H ⟨[.ref a], []⟩ [.ref a] [.ref a] _ _ hr e0 (hbind s₁ (.ref a)) (.cons rfl .nil) (hsp H hO hS)) fun r s' h => ?_
    cases r with
    | error e => exact (hCX H e s' h).elim
    | ok fl =>
      cases fl with
      | next => exact False.elim h
      | brk => exact False.elim h
      | cont => exact False.elim h
      | ret u =>
        obtain ⟨v, H', os, bare, un, hok', r', q⟩ := h
        have q' : v = .bl true := q
        subst q'
        obtain rfl : u = Value.bool true := r'
        refine ⟨rfl, OldK.of_keep fun b o e => ?_, os, bare⟩
        cases q : H b with
        | none => exact un.keep b o e q (by intro z; exact absurd (show b ∈ ([] : List Addr) from z) (by simp)) (by simp)
        | some u =>
          rcases hO b with z | ⟨ob, xs, z⟩
          · rw [q] at z; cases z
          · have z2 := un.frzs b ob _ z
            obtain ⟨e1, _⟩ := hok b _ z
            obtain ⟨e2, _⟩ := hok' b _ z2
            rw [e] at e1; cases e1
            exact e2
  cases hk : K.lookup a with
  | some o =>
    -- the script is one of the module's own objects
    have e := KX a o hk
    rw [ha] at e
    cases e
    refine core (fun _ => none) (fun _ => .inl rfl) (.inr ⟨_, vs.toArray, _, hk, rfl, rfl, rfl, by rw [List.size_toArray, lenV]; exact hl, by simpa using rv⟩) (fun b u z => by have z' : (none : Option HO) = some u := z; cases z') (fun b z => absurd rfl z) fun z => absurd rfl z
  | none =>
    refine core (fun b => if b = a then some (.frz { cls := .type "list", data := .seq vs.toArray } (.lst (ns.map V.int))) else none) (fun b => ?_) (.inl (.inr ⟨{ cls := .type "list", data := .seq vs.toArray }, if_pos rfl⟩)) (fun b u z => ?_) (fun b z => ?_) fun _ => hk
    · by_cases hb : b = a
      · exact .inr ⟨_, _, if_pos hb⟩
      · exact .inl (if_neg hb)
    · by_cases hb : b = a
      · have z' := (if_pos hb).symm.trans z
        cases z'
        subst hb
        exact ⟨ha, by rw [List.length_map]; exact hl, vs, _, rv, ha⟩
      · have z' := (if_neg hb).symm.trans z
        cases z'
    · by_cases hb : b = a
      · exact hb
      · exact absurd (if_neg hb) z
end L2

namespace L2
open PySem PySem.Spec PyProof.Rows

abbrev KOf {K : PySem.W.Frag} {h : Heap} (_ : K.In h) : PySem.W.Frag := K

/-- the goal that k_head leaves (case hc), from the law's promise. F gives the function object fd (K's own) once, then the promise over every base -/
theorem walk_of {l : PySem.W.OpenLaw} {n k : Nat} {q : Program} {loose : List Str} {XP : (Str → Option Value) → Heap → Prop} {YP : World → Heap → Prop} {d : DefRec} {K : Params → PySem.W.Frag} {CX : World → CXT} {sp : World → Sp} {x : Str}
    (hn : l.most = some n) (hn2 : n ≤ sizeLine) (hdf : d.params.defaults = []) (hr : Room k callerA)
    (hY : ∀ (w : World) (h : Heap), YP w h → (K w.params).In h)
    (F : ∀ (w : World) (mg : Str → Option Value) (fa : Addr) (h : Heap), (K w.params).In h → h.Ns mainGlobals mg → mg d.name = some (.ref fa) →
      ∃ fd : FuncData, (∀ (s : Shared) (u : Value), BindsTo s fd ⟨[u], []⟩ [(x, u)]) ∧
        ∀ base : Heap, (K w.params).In base → base.Ns mainGlobals mg → FnOk l.prog w (K w.params) mg base (CX w) k fa fd [x] (sp w))
    (hsp : ∀ (w : World) (H : Hp) (a : Addr) (ns : List Int), ns.length ≤ n → Only H → SqL (K w.params) H a (ns.map V.int) → sp w [.ref a] H (fun v _ => v = .bl true) fun _ _ _ => False)
    (hCX : ∀ (w : World) (H : Hp) (s : Shared) (e : Value) (s' : Shared), CX w [] H s (fun _ _ _ => False) e s' → False) :
    PySem.W.WalkO q loose XP YP l.row.toRowW d [] (fun f vs => PySem.call f vs) := by
  refine Att.attach_call hn hdf fun w s₀ s₁ mg mb fa o pm cd doc a vs ns G Y ho hd hcd hmg hobj hints hlen hg => ?_
  have KX := hY w _ Y
  obtain ⟨fd, hb, hF⟩ := F w mg fa _ KX G.T.g hmg
  exact law_call KX G.T.g G.T.b G.T.builtins G.T.nolimit hg hobj hints (Nat.le_trans hlen hn2) hr hF hb (fun H hO hS => hsp w H a ns hlen hO hS) fun H e s' => hCX w H s₁ e s'
end L2

/- THE LAST THEOREM (shape; LID, My.* are yours):
   My.Adr: a structure of the addresses that your layer names (classes, functions); My.Txt K t: a structure (Prop) of the equations over K;
   My.txt_mk : {K} {implicit addresses ..} (e1 : nsIn K mainGlobals "law" = some (some (.ref f))) (e2 : K.lookup f = some ⟨oc, od, .func (fnOf "law" "law" params body scope dV kV doc pm an cdv ct), sl⟩) (e3 : codeIn K cdv "law" = true) .. : ∃ t, My.Txt K t

set_option maxRecDepth 100000 in
set_option maxHeartbeats 0 in
theorem PySem.Challenge.cw_LID_holds : PySem.Challenge.rw_LID.Holds := by
  w_on; o_law; k_head; (case hw => w_witness2)
  k_fill
  refine L2.walk_of (l := PySem.Challenge.rw_LID) (n := 63) (k := 40) (x := "script") (CX := fun w => ..) (sp := fun _ => My.sp_law) rfl (by decide) rfl ⟨rfl, by decide, by decide⟩ (fun w h Y => PySem.W.kIn_of Y) ?F ?S ?C
  case F =>
    intro w mg fa h KX G hmg
    have T : ∃ t, My.Txt (L2.KOf KX) t := by
      dsimp only [L2.KOf]                          -- K must stand as «<heap const> w.params» for k_is
      refine' My.txt_mk ?e1 ?e2 ?e3 ..
      (case e1 => PySem.W.k_is)                    -- in the order: a name -> its address -> its object -> its parts
      (case e2 => PySem.W.k_is)
      ..
    obtain ⟨t, T⟩ := T
    have e0 := hmg.symm.trans (PySem.W.mg_of KX G T.law)
    cases e0                                       -- fa is the law's own address
    exact ⟨_, fun s u => .of_eq rfl, fun base kb nb => My.law_fn T kb nb⟩     -- if «.of_eq rfl» comes too early: refine' ⟨_, ?b, fun base kb nb => My.law_fn T kb nb⟩; exact fun s u => .of_eq rfl
  case S => exact fun w H a ns hl hO hS => ..
  case C => exact ..
(the tactic k_is has no namespace: write k_is) -/

/-! SHORT WORDS over the layer: a def of the text, its body, what a loop and a test want. -/
namespace L2
open PySem PySem.Spec PyProof.Rows

/-! ### the text by places -/
def defArgs (s : Stmt) : Arguments := match s with
  | .FunctionDef _ a _ _ _ _ _ _ _ _ => a
  | _ => { posonlyargs := [], args := [], vararg := none, kwonlyargs := [], kw_defaults := [], kwarg := none, defaults := [] }
def defBody (s : Stmt) : List Stmt := match s with
  | .FunctionDef _ _ b _ _ _ _ _ _ _ => b
  | _ => []
def defScope (s : Stmt) : Scope := match s with
  | .FunctionDef _ _ _ _ _ _ sc _ _ _ => sc
  | _ => { kind := .function, names := [], isGenerator := false, isCoroutine := false }

/-! ### no exception leaves a def -/
abbrev CX0 : CXT := fun _ _ _ _ _ _ => False
abbrev E0 : XK := fun _ _ _ => False
theorem pass0 {X : Cx} : Passes CX0 X E0 := fun _ _ _ _ _ _ _ h => h.elim

/-! ### a def (or method) of the text as it stands behind the top -/
structure Fun (K : PySem.W.Frag) (x qual : Str) (st : Stmt) (f : Addr) (fd : FuncData) : Prop where
  ex : ∃ (oc : Value) (od : Option Addr) (kV doc pm : Value) (an : Option Addr) (cdv ct : Value) (osl : Array (Option Value)),
    fd = PySem.W.fnOf x qual (defArgs st) (defBody st) (defScope st) .none kV doc pm an cdv ct ∧ K.lookup f = some ⟨oc, od, .func fd, osl⟩ ∧ PySem.W.codeIn K cdv qual = true
  kp : PySem.W.keepIn K (.ref f) = true
section
variable {P : Program} {w : World} {K : PySem.W.Frag} {mg : Str → Option Value} {base : Heap}
/-- THE RULE for a def: its body as a term of rules, and the reading of that term -/
theorem Fun.ok {x qual : Str} {st : Stmt} {f : Addr} {fd : FuncData} {N ps : List Str} {k : Nat} {sp : Sp} (F : Fun K x qual st f fd) (S : FnScope N ps (defScope st)) (len : ∀ vs H Q E, sp vs H Q E → vs.length = ps.length)
    (hbody : ∀ (cdv : Value) (A : Around) (outer : List Env) (s : Shared) (H : Hp) (vs : List V) (Q : VK) (E : XK), Room k (A.deeper (envOfC qual (defScope st) s.heap.objs.size f cdv)) → sp vs H Q E →
      ∃ t, PSs (cxOf CX0 P w K mg base N qual (defScope st) f cdv A outer s H E).nox (defBody st) t ∧ t { nx := fun _ H' => Q .non H', rt := Q } (start N vs) H) : FnOk P w K mg base CX0 (k + 1) f fd ps sp := by
  obtain ⟨oc, od, kV, doc, pm, an, cdv, ct, osl, rfl, lk, hcd⟩ := F.ex
  refine fn_of lk hcd S len fun A outer s H vs Q E hr hsp => ?_
  obtain ⟨t, h, q⟩ := hbody cdv A outer s H vs Q E hr hsp
  exact ⟨t, h.nox, q⟩
/-- how its arguments bind (no defaults): h is «fun _ _ _ _ _ _ us hl => match us, hl with | [_, _], _ => rfl», one _ a parameter -/
theorem Fun.binds {x qual : Str} {st : Stmt} {f : Addr} {fd : FuncData} {ps : List Str} (F : Fun K x qual st f fd)
    (h : ∀ (kV doc pm : Value) (an : Option Addr) (cdv ct : Value) (us : List Value), us.length = ps.length → bindArgs (PySem.W.fnOf x qual (defArgs st) (defBody st) (defScope st) .none kV doc pm an cdv ct) ⟨us, []⟩ = pure (ps.zip us)) : Binds K fd ps [] := by
  obtain ⟨oc, od, kV, doc, pm, an, cdv, ct, osl, rfl, lk, hcd⟩ := F.ex
  exact .all (h kV doc pm an cdv ct)
theorem fun_mk {x qual : Str} {st : Stmt} {f : Addr} {oc : Value} {od an : Option Addr} {osl : Array (Option Value)} {kV doc pm cdv ct : Value} (l : K.lookup f = some ⟨oc, od, .func (PySem.W.fnOf x qual (defArgs st) (defBody st) (defScope st) .none kV doc pm an cdv ct), osl⟩)
    (c : PySem.W.codeIn K cdv qual = true) (k : PySem.W.keepIn K (.ref f) = true) : Fun K x qual st f (PySem.W.fnOf x qual (defArgs st) (defBody st) (defScope st) .none kV doc pm an cdv ct) := ⟨⟨oc, od, kV, doc, pm, an, cdv, ct, osl, rfl, l, c⟩, k⟩
end
theorem small1000 {n : Nat} (h : n ≤ 1000) : n < sizeLine := Nat.lt_of_le_of_lt h (by decide)

/-! ### expressions in short: the name that stands in the i-th slot -/
section
variable {X : Cx}
theorem pv (i : Nat) {x : Str} {pos : Pos} (hN : X.N[i]? = some x := by rfl) (hv : Vis X.env.scope x := by first | exact Or.inl rfl | exact Or.inr (Or.inl rfl) | exact Or.inr (Or.inr rfl)) (hd : (x == ("__debug__" : Str)) = false := by decide)
    (hcd : (x == ("__classdict__" : Str)) = false := by decide) : PE X (.Name x pos) (tVar i) := pe_var hN hv hd hcd
end

/-! ### tests -/
theorem iteF {A B : Prop} (h : B) : if false = true then A else B := by
  rw [if_neg Bool.false_ne_true]
  exact h
theorem iteT {A B : Prop} (h : A) : if true = true then A else B := by
  rw [if_pos rfl]
  exact h
theorem ite2 {c A B : Prop} [Decidable c] (h1 : c → A) (h2 : ¬ c → B) : if c then A else B := by
  by_cases h : c
  · rw [if_pos h]
    exact h1 h
  · rw [if_neg h]
    exact h2 h
theorem iteNS {c A B : Prop} [Decidable c] (hc : c) (h : B) : if (!decide c) = true then A else B := by
  rw [decide_eq_true hc]
  exact iteF h

/-! ### heaps -/
/-- all that was tracked is as it was -/
def Same (H H' : Hp) : Prop := ∀ b o, H b = some o → H' b = some o
theorem Same.refl (H : Hp) : Same H H := fun _ _ h => h
theorem Same.trans {H H1 H2 : Hp} (a : Same H H1) (b : Same H1 H2) : Same H H2 := fun c o h => b c o (a c o h)
theorem Same.free {H H' : Hp} (e : Same H H') {l : Addr} (h : H' l = Option.none) : H l = Option.none := by
  cases q : H l with
  | none => rfl
  | some o =>
    rw [e l o q] at h
    cases h
theorem Same.seq {K : PySem.W.Frag} {H H' : Hp} {a : Addr} {xs : List V} (e : Same H H') (h : SqL K H a xs) : SqL K H' a xs := by
  rcases h with (h | ⟨o, h⟩) | h
  · exact .inl (.inl (e _ _ h))
  · exact .inl (.inr ⟨o, e _ _ h⟩)
  · exact .inr h

end L2

set_option Elab.async false
set_option linter.all false
set_option maxRecDepth 100000
set_option maxHeartbeats 4000000
/-! MORE RULES: a list comprehension (one clause, at most one test). -/
namespace L2
open PySem PySem.Spec PyProof.Rows

theorem of_pure {α β : Type} {M : Model} {A : Around} {a : α} {t : Sem β} {Q : α → Shared → Prop} {E : Value → Shared → Prop} {Q' : β → Shared → Prop} {E' : Value → Shared → Prop} {s : Shared}
    (h : wpAny M A (pure a) Q E s) (k : Q a s → wpAny M A t Q' E' s) : wpAny M A t Q' E' s := fun Γ p hΓ => k (h Γ p hΓ) Γ p hΓ

/-- the cells that a block draws from around it -/
def clGo (env : Env) : List (Str × NameKind) → List (Str × Addr) → List (Str × Addr)
  | [], cs => cs
  | (n, k) :: r, cs => clGo env r (if k == .free then (n, (env.cells.lookup n).getD 0) :: cs else cs)
def clOf (scope : Scope) (env : Env) : List (Str × Addr) := clGo env scope.names []

theorem clGo_forIn (env : Env) : ∀ (names : List (Str × NameKind)) (cs : List (Str × Addr)), (∀ y ∈ names, y.2 = .free → ∃ c, env.cells.lookup y.1 = some c) →
    (forIn names cs (fun (y : Str × NameKind) (r : List (Str × Addr)) => (if (y.2 == NameKind.free) = true then (do let a ← cellOf env y.1; pure (ForInStep.yield ((y.1, a) :: r))) else pure (ForInStep.yield r) : Sem (ForInStep (List (Str × Addr)))))) = (pure (clGo env names cs) : Sem (List (Str × Addr)))
  | [], cs, _ => rfl
  | (n, k) :: r, cs, h => by
    have ih := fun cs' => clGo_forIn env r cs' fun y hy => h y (List.mem_cons_of_mem _ hy)
    rw [List.forIn_cons]
    by_cases hk : (k == NameKind.free) = true
    · obtain ⟨c, hc⟩ := h (n, k) List.mem_cons_self (by simpa using hk)
      have hc' : env.cells.lookup n = some c := hc
      have e : cellOf env n = pure c := by unfold cellOf; rw [hc']
      show ((if (k == NameKind.free) = true then (do let a ← cellOf env n; pure (ForInStep.yield ((n, a) :: cs))) else pure (ForInStep.yield cs) : Sem (ForInStep (List (Str × Addr)))) >>= _) = _
      rw [if_pos hk, e]
      show (forIn r ((n, c) :: cs) _ : Sem (List (Str × Addr))) = pure (clGo env r (if (k == NameKind.free) = true then (n, (env.cells.lookup n).getD 0) :: cs else cs))
      rw [if_pos hk, hc']
      exact ih _
    · show ((if (k == NameKind.free) = true then (do let a ← cellOf env n; pure (ForInStep.yield ((n, a) :: cs))) else pure (ForInStep.yield cs) : Sem (ForInStep (List (Str × Addr)))) >>= _) = _
      rw [if_neg hk]
      show (forIn r cs _ : Sem (List (Str × Addr))) = pure (clGo env r (if (k == NameKind.free) = true then (n, (env.cells.lookup n).getD 0) :: cs else cs))
      rw [if_neg hk]
      exact ih _
theorem closure_is {scope : Scope} {env : Env} (h : ∀ y ∈ scope.names, y.2 = .free → ∃ c, env.cells.lookup y.1 = some c) : closureFor scope env = pure (clOf scope env) := by
  have q := clGo_forIn env scope.names [] h
  unfold closureFor
  show ((forIn scope.names ([] : List (Str × Addr)) _ : Sem (List (Str × Addr))) >>= fun r => pure r) = _
  have e : ∀ (m : Sem (List (Str × Addr))) , m = pure (clOf scope env) → (m >>= fun r => pure r) = pure (clOf scope env) := fun m hm => by rw [hm]; rfl
  apply e
  rw [← show (pure (clGo env scope.names []) : Sem (List (Str × Addr))) = pure (clOf scope env) from rfl, ← q]

theorem clGo_sub {env : Env} {y : Str} {c : Addr} : ∀ (names : List (Str × NameKind)) (cs : List (Str × Addr)), (∀ z ∈ names, z.2 = .free → ∃ c, env.cells.lookup z.1 = some c) → (∀ c, cs.lookup y = some c → env.cells.lookup y = some c) →
    (clGo env names cs).lookup y = some c → env.cells.lookup y = some c
  | [], cs, _, hc, e => hc c e
  | (n, k) :: r, cs, h, hc, e => by
    refine clGo_sub r _ (fun z hz => h z (List.mem_cons_of_mem _ hz)) ?_ e
    intro c' e'
    by_cases hk : (k == NameKind.free) = true
    · rw [if_pos hk] at e'
      obtain ⟨d, hd⟩ := h (n, k) List.mem_cons_self (by simpa using hk)
      have hd' : env.cells.lookup n = some d := hd
      rw [List.lookup_cons] at e'
      by_cases hy : (y == n) = true
      · rw [hy] at e'
        have : y = n := by simpa using hy
        subst this
        rw [hd'] at e' ⊢
        exact e'
      · have hy' : (y == n) = false := by simpa using hy
        rw [hy'] at e'
        exact hc c' e'
    · rw [if_neg hk] at e'
      exact hc c' e'
theorem clGo_has {env : Env} {y : Str} : ∀ (names : List (Str × NameKind)) (cs : List (Str × Addr)), ((∃ c, cs.lookup y = some c) ∨ (y, NameKind.free) ∈ names) → ∃ c, (clGo env names cs).lookup y = some c
  | [], cs, h => by
    rcases h with h | h
    · exact h
    · exact absurd h (by simp)
  | (n, k) :: r, cs, h => by
    refine clGo_has r _ ?_
    rcases h with ⟨c, h⟩ | h
    · refine .inl ?_
      by_cases hk : (k == NameKind.free) = true
      · rw [if_pos hk, List.lookup_cons]
        by_cases hy : (y == n) = true
        · rw [hy]; exact ⟨_, rfl⟩
        · have hy' : (y == n) = false := by simpa using hy
          rw [hy']; exact ⟨c, h⟩
      · rw [if_neg hk]; exact ⟨c, h⟩
    · rcases List.mem_cons.mp h with h | h
      · refine .inl ?_
        cases h
        rw [if_pos (by rfl), List.lookup_cons]
        rw [show (y == y) = true by simp]
        exact ⟨_, rfl⟩
      · exact .inr h

theorem lookup_relabel {scope : Scope} {env : Env} {y : Str} : (relabel scope env).names.lookup y = (scope.names.lookup y).map fun k => if (k == NameKind.free && env.scope.kind == .function && env.kindOf y == some .cell) then NameKind.cell else k := by
  show List.lookup y (scope.names.map _) = _
  induction scope.names with
  | nil => rfl
  | cons a r ih =>
    obtain ⟨n, k⟩ := a
    rw [List.map_cons]
    by_cases hy : (y == n) = true
    · have : y = n := by simpa using hy
      subst this
      by_cases hc : (k == NameKind.free && env.scope.kind == .function && env.kindOf y == some .cell) = true
      · dsimp only
        rw [if_pos hc, List.lookup_cons, List.lookup_cons, hy]
        dsimp only [Option.map]
        rw [if_pos hc]
      · dsimp only
        rw [if_neg hc, List.lookup_cons, List.lookup_cons, hy]
        dsimp only [Option.map]
        rw [if_neg hc]
    · have hy' : (y == n) = false := by simpa using hy
      by_cases hc : (k == NameKind.free && env.scope.kind == .function && env.kindOf n == some .cell) = true
      · dsimp only
        rw [if_pos hc, List.lookup_cons, List.lookup_cons, hy']
        exact ih
      · dsimp only
        rw [if_neg hc, List.lookup_cons, List.lookup_cons, hy']
        exact ih

/-- what a comprehension's scope must be beside the body's -/
structure CompScope (N : List Str) (osc : Scope) (x : Str) (sc : Scope) : Prop where
  kind : sc.kind = .function
  nocell : ∀ y ∈ sc.names, y.2 ≠ .cell
  names : ∀ y ∈ sc.names, y.2 = .local → sc.names.lookup y.1 = some .local
  here : sc.names.lookup x = some .local
  nd : (x :: N).Nodup
  free : ∀ y ∈ sc.names, y.2 = .free → osc.names.lookup y.1 = some .cell ∨ osc.names.lookup y.1 = some .free
  own : ∀ y ∈ sc.names, y.2 = .local → y.1 = x ∨ y.1 ∉ N

def cxComp (X : Cx) (x : Str) (sc : Scope) (fp : List Addr) (s3 : Shared) (H3 : Hp) : Cx where
  prog := X.prog
  w := X.w
  K := X.K
  mg := X.mg
  base := X.base
  A := X.A
  N := x :: X.N
  s₀ := s3
  H₀ := H3
  env := compEnvC sc (clOf sc X.env) s3.heap.objs.size X.env
  outer := X.stack
  stack := X.stack
  ex := fp
  calm := X.calm
  fn := fun _ => false
  pn := []
  xe := fun _ _ => False

section
variable {X : Cx} {x : Str} {sc : Scope} {fp : List Addr} {s3 : Shared} {H3 : Hp} {pins : List (Addr × Obj)} {σ : St}

theorem CompScope.cells (S : CompScope X.N X.env.scope x sc) (ok : X.Ok) : ∀ y ∈ sc.names, y.2 = .free → ∃ c, X.env.cells.lookup y.1 = some c := fun y hy hk => ok.has y.1 (S.free y hy hk)
theorem CompScope.sub (S : CompScope X.N X.env.scope x sc) (ok : X.Ok) {y : Str} {c : Addr} (e : (clOf sc X.env).lookup y = some c) : X.env.cells.lookup y = some c :=
  clGo_sub sc.names [] (S.cells ok) (fun c h => by cases h) e
theorem CompScope.isFree (S : CompScope X.N X.env.scope x sc) {y : Str} (h : (relabel sc X.env).names.lookup y = some .cell ∨ (relabel sc X.env).names.lookup y = some .free) : (y, NameKind.free) ∈ sc.names := by
  rw [lookup_relabel] at h
  cases e : sc.names.lookup y with
  | none => rw [e] at h; rcases h with h | h <;> cases h
  | some k =>
    rw [e] at h
    have hm := PySem.mem_of_lookup e
    cases k with
    | free => exact hm
    | cell => exact absurd rfl (S.nocell _ hm)
    | _ =>
      exfalso
      rcases h with h | h
      all_goals (simp at h)

theorem FpOk.nobase (ok : X.Ok) {b : Addr} {H : Hp} (f : FpOk X pins H b) {o : Obj} : X.base.get? b = some o → False := fun e => by
  rcases f.2.2.2.1 with z | z
  · exact ok.noex b o e z
  · exact absurd (Nat.lt_of_lt_of_le (Heap.lt_size e) (Nat.le_trans ok.bsz z)) (Nat.lt_irrefl _)

theorem ok_comp (S : CompScope X.N X.env.scope x sc) (I : Inv X pins σ H3 s3) (hf : ∀ b ∈ fp, FpOk X pins H3 b) (hl : ∀ b ∈ fp, b < s3.heap.objs.size) : (cxComp X x sc fp s3 H3).Ok where
  mod := I.ok.mod
  kind := S.kind
  glob := I.ok.glob
  blt := I.ok.blt
  above := Nat.le_refl _
  inj := fun y z c h1 h2 => I.ok.inj y z c (S.sub I.ok h1) (S.sub I.ok h2)
  has := fun y h => clGo_has sc.names [] (.inr (S.isFree h))
  cab := fun y c h => by cases h
  hd := I.ok.hd
  frames := I.ok.frames
  stk := .inl rfl
  exf := fun b hb => ⟨Nat.ne_of_lt (hl b hb), fun y c e => (hf b hb).2.2.2.2.1 y c (S.sub I.ok e)⟩
  bs := I.bs
  bsz := Nat.le_trans I.ok.bsz I.sz
  noex := fun b o e hb => FpOk.nobase I.ok (hf b hb) e
  exfs := fun b hb hs => by
    rcases List.mem_cons.mp (I.stkSub b hs) with z | z
    · exact (hf b hb).2.1 z
    · exact (hf b hb).2.2.1 z
  funs := I.stack
  frf := I.stkFree

theorem inv_comp {h4 : Heap} {tk : Nat} (S : CompScope X.N X.env.scope x sc) (I : Inv X pins σ H3 s3) (hf : ∀ b ∈ fp, FpOk X pins H3 b) (hl : ∀ b ∈ fp, b < s3.heap.objs.size)
    (hk : ∀ b o, s3.heap.get? b = some o → h4.get? b = some o) {m : Str → Option Value} (hn : h4.Ns s3.heap.objs.size m) :
    Inv (cxComp X x sc fp s3 H3) [] (none :: σ) H3 { s3 with heap := h4, toks := tk } := by
  refine ⟨ok_comp S I hf hl, rfl, I.bare, Un.kept hk, ⟨m, hn, fun i y v h1 h2 h3 => ?_⟩, fun y c e => ?_, I.fresh, fun y c e => I.freeC y c (S.sub I.ok e), fun p hp => absurd (show p ∈ ([] : List (Addr × Obj)) from hp) (by simp), I.hok.kept hk, by show σ.length + 1 = X.N.length + 1; rw [I.len]⟩
  · cases i with
    | zero => exact absurd (Option.some.inj h2) (by simp)
    | succ i =>
      have h1' : X.N[i]? = some y := h1
      have h2' : σ[i]? = some (some v) := h2
      have hyN : y ∈ X.N := List.mem_of_getElem? h1'
      have hfree : (y, NameKind.free) ∈ sc.names := by
        rcases h3 with h3 | h3 | h3
        · exfalso
          have h3' : (relabel sc X.env).names.lookup y = some .local := h3
          rw [lookup_relabel] at h3'
          cases e : sc.names.lookup y with
          | none => rw [e] at h3'; cases h3'
          | some k =>
            rw [e] at h3'
            have hm := PySem.mem_of_lookup e
            cases k with
            | «local» =>
              rcases S.own _ hm rfl with z | z
              · have z' : y = x := z
                exact (List.nodup_cons.mp S.nd).1 (z' ▸ hyN)
              · exact z hyN
            | _ =>
              revert h3'
              simp
              try (split <;> simp)
        · exact S.isFree (.inl h3)
        · exact S.isFree (.inr h3)
      have hk0 := S.free _ hfree rfl
      obtain ⟨m0, hn0, hl0⟩ := I.loc
      obtain ⟨u, r, l⟩ := hl0 i y v h1' h2' (hk0.elim (fun z => .inr (.inl z)) (fun z => .inr (.inr z)))
      refine ⟨u, r, .inr ?_⟩
      have hv : (cxComp X x sc fp s3 H3).env.kindOf y = some .cell ∨ (cxComp X x sc fp s3 H3).env.kindOf y = some .free := by
        rcases h3 with h3 | h3 | h3
        · exfalso
          have h3' : (relabel sc X.env).names.lookup y = some .local := h3
          rw [lookup_relabel] at h3'
          cases e : sc.names.lookup y with
          | none => rw [e] at h3'; cases h3'
          | some k =>
            rw [e] at h3'
            have hm := PySem.mem_of_lookup e
            cases k with
            | «local» =>
              rcases S.own _ hm rfl with z | z
              · have z' : y = x := z
                exact (List.nodup_cons.mp S.nd).1 (z' ▸ hyN)
              · exact z hyN
            | _ =>
              revert h3'
              simp
              try (split <;> simp)
        · exact .inl h3
        · exact .inr h3
      refine ⟨hv, ?_⟩
      obtain ⟨c, hc⟩ := clGo_has (env := X.env) (y := y) sc.names [] (.inr hfree)
      refine ⟨c, hc, ?_⟩
      have hc' := S.sub I.ok hc
      rcases l with ⟨hk1, _⟩ | ⟨_, c2, e2, z2⟩
      · exfalso
        have hk1' : X.env.scope.names.lookup y = some .local := hk1
        have hk0' : X.env.scope.names.lookup y = some .cell ∨ X.env.scope.names.lookup y = some .free := hk0
        rw [hk1'] at hk0'
        rcases hk0' with z | z <;> cases z
      · rw [hc'] at e2; cases e2
        exact z2.keeps hk
  · obtain ⟨v, z⟩ := I.cell y c (S.sub I.ok e)
    exact ⟨v, z.keeps hk⟩
end
end L2

set_option Elab.async false
set_option linter.all false
set_option maxRecDepth 100000
set_option maxHeartbeats 4000000
namespace L2
open PySem PySem.Spec PyProof.Rows

/-- the tests of a comprehension's clause -/
def PIf (X : Cx) (ifs : List Expr) (t : TT) : Prop :=
  ∀ (pins : List (Addr × Obj)) (s : Shared) (σ : St) (H : Hp) (Q : Bool → Hp → Prop), Inv X pins σ H s → t σ H Q →
    wpAny (model X.prog X.w) X.A (forIn ifs true fun d b => if b = true then do let z ← isTrue d X.env (eval d X.env); pure (ForInStep.yield z) else pure (ForInStep.yield b)) (TP X pins σ Q) X.xe s
def tYes : TT := fun _ H Q => Q true H
theorem pif_nil {X : Cx} : PIf X [] tYes := fun pins s σ H Q I h => wpAny_tests_nil ⟨H, I, h⟩
theorem pif_one {X : Cx} {c : Expr} {t : TT} (h : PT X c t) : PIf X [c] t := fun pins s σ H Q I q => wpAny_tests_one (h pins s σ H Q I q)

/-- a comprehension: the list at p grows; W: turn, measure, what the list holds, heap -/
def tComp (wi : TI) (tc : TT) (te : TE) : TE := fun σ H Q => wi σ H fun J H1 => ∀ p, H1 p = none →
  ∃ W : Nat → Nat → List V → Hp → Prop, (∃ m, W 0 m [] (upd H1 p (.lst []))) ∧ ∀ i m ys H, W i m ys H →
    (J.stop i H ∧ Q (.ref p) H) ∨ (J.go i H ∧ ∀ x H', J.yld i H x H' → tc (some x :: σ) H' fun b H2 =>
      if b = true then te (some x :: σ) H2 fun v H3 => H3 p = some (.lst ys) ∧ ys.length < sizeLine ∧ ∃ m', m' < m ∧ W (i + 1) m' (ys ++ [v]) (upd H3 p (.lst (ys ++ [v])))
      else ∃ m', m' < m ∧ W (i + 1) m' ys H2)

section
variable {X : Cx} {x : Str} {sc : Scope} {px pos : Pos} {elt iter : Expr} {ifs : List Expr} {wi : TI} {tc : TT} {te : TE}

/-- from the block back to the body -/
theorem Inv.back {fp : List Addr} {s3 s' : Shared} {H3 H' : Hp} {pins : List (Addr × Obj)} {σ σ' : St} {pl : List (Addr × Obj)} {h' : Heap} (I : Inv X pins σ H3 s3) (hf : ∀ b ∈ fp, FpOk X pins H3 b)
    (J : Inv (cxComp X x sc fp s3 H3) pl σ' H' s') (hs : Heap.SameBut s3.heap.objs.size s'.heap h') : Inv X pins σ H' { s' with heap := h' } := by
  have I1 : Inv X pins σ H' s' := I.call' (ch := fp) J.os J.base J.hok J.bare fun b hb => ⟨(hf b hb).2.2.2.1, (hf b hb).2.1, (hf b hb).2.2.2.2.1, (hf b hb).2.2.2.2.2⟩
  refine I1.turned (t' := s'.toks) (it := s3.heap.objs.size) (fun b o hb e => (hs.2 b hb).trans e) J.free ?_ (.inr I.sz) ?_ ?_
  · exact Nat.ne_of_gt I.lt
  · intro y c e z
    obtain ⟨v, q⟩ := I.cell y c e
    exact absurd q.lt (by rw [z]; exact Nat.lt_irrefl _)
  · intro p hp z
    exact absurd (Heap.lt_size (I.pin p hp).1) (by rw [z]; exact Nat.lt_irrefl _)

theorem comp_core {pins : List (Addr × Obj)} {σ : St} {s2 : Shared} {H2 : Hp} {it : Addr} {fp : List Addr} {tn : Nat → Heap → Prop} {J : It} {Q : VK} {E : Value → Shared → Prop} {RR : Value → Addr → Result → Shared → Prop}
    (S : CompScope X.N X.env.scope x sc) (hc : X.calm = true) (hif : ∀ fp s3 H3, PIf (cxComp X x sc fp s3 H3) ifs tc) (he : ∀ fp s3 H3, PE (cxComp X x sc fp s3 H3) elt te)
    (I2 : Inv X pins σ H2 s2) (T : Turn X.prog X.w X.K (.Name x px) J fp it tn) (st2 : tn 0 s2.heap) (f2 : ∀ b ∈ fp, FpOk X pins H2 b)
    (h : ∀ p, H2 p = none → ∃ W : Nat → Nat → List V → Hp → Prop, (∃ m, W 0 m [] (upd H2 p (.lst []))) ∧ ∀ i m ys H, W i m ys H →
      (J.stop i H ∧ Q (.ref p) H) ∨ (J.go i H ∧ ∀ x H', J.yld i H x H' → tc (some x :: σ) H' fun b H2 =>
        if b = true then te (some x :: σ) H2 fun v H3 => H3 p = some (.lst ys) ∧ ys.length < sizeLine ∧ ∃ m', m' < m ∧ W (i + 1) m' (ys ++ [v]) (upd H3 p (.lst (ys ++ [v])))
        else ∃ m', m' < m ∧ W (i + 1) m' ys H2))
    (hRR : ∀ (s3 : Shared) (H3 : Hp) (s' : Shared) (σ' : St) (H' : Hp), Inv X pins σ H3 s3 → (∀ b ∈ fp, FpOk X pins H3 b) → Inv (cxComp X x sc fp s3 H3) [] σ' H' s' → Q (.ref s2.heap.objs.size) H' → RR (.ref s2.heap.objs.size) s3.heap.objs.size (.ok .next) s') :
    wpAny (model X.prog X.w) X.A (newList []) (fun acc s₃ => wpAny (model X.prog X.w) X.A (newFunctionEnv sc X.env.globals (clOf sc X.env) [] X.env.qual none .none (some X.env)) (fun cenv s₄ =>
      codeAny (model X.prog X.w) X.A (.compStart (.ListComp elt [⟨.Name x px, iter, ifs, 0⟩] sc pos) 0 (.ref it) acc { cenv with scope := relabel sc X.env }) (RR acc cenv.locals) s₄) E s₃) E s2 := by
  obtain ⟨W, ⟨m0, w0⟩, turn⟩ := h s2.heap.objs.size I2.fresh
  refine wpAny_newList ?_
  have I3 : Inv X pins σ (upd H2 s2.heap.objs.size (.lst [])) { s2 with heap := s2.heap.push { cls := .type "list", data := .seq ([] : List Value).toArray } } := I2.lnew (ys := []) (t' := s2.toks) .nil (Nat.zero_le _)
  have fpl : ∀ b ∈ fp, b < s2.heap.objs.size := fun b hb => by
    obtain ⟨o, e, _⟩ := T.obj _ _ st2 b hb
    exact Heap.lt_size e
  have f3 : ∀ b ∈ fp, FpOk X pins (upd H2 s2.heap.objs.size (.lst [])) b := fun b hb => ⟨by rw [upd_ne (Nat.ne_of_lt (fpl b hb))]; exact (f2 b hb).1, (f2 b hb).2⟩
  have st3 : tn 0 (s2.heap.push { cls := .type "list", data := .seq ([] : List Value).toArray }) := T.keep _ _ _ st2 fun b _ o e => Heap.get?_push_of_some _ e
  generalize hs3 : ({ s2 with heap := s2.heap.push { cls := .type "list", data := .seq ([] : List Value).toArray } } : Shared) = s3 at *
  have st3' : tn 0 s3.heap := by rw [← hs3]; exact st3
  have fpl3 : ∀ b ∈ fp, b < s3.heap.objs.size := fun b hb => by
    obtain ⟨o, e, _⟩ := T.obj _ _ st3' b hb
    exact Heap.lt_size e
  refine wpAny_newFunctionEnv S.nocell (by intro y hy; simp at hy) (fun h₁ hns₁ hsb₁ => ?_) S.kind
  have keep4 : ∀ b o, s3.heap.get? b = some o → h₁.get? b = some o := fun b o e => (hsb₁.2 b (Nat.ne_of_lt (Heap.lt_size e))).trans (Heap.get?_push_of_some _ e)
  have I4 := inv_comp (fp := fp) (tk := s3.toks + ([] : List (Str × Value)).length) S I3 f3 fpl3 keep4 hns₁
  have st4 : tn 0 h₁ := T.keep _ _ _ st3' fun b _ o e => keep4 b o e
  generalize hs4 : ({ s3 with heap := h₁, toks := s3.toks + ([] : List (Str × Value)).length } : Shared) = s4 at *
  have st4' : tn 0 s4.heap := by rw [← hs4]; exact st4
  generalize hH3 : upd H2 s2.heap.objs.size (.lst []) = H3 at *
  have stat : ∀ {H' : Hp}, (∀ b ∈ fp, H' b = none) → ∀ b ∈ fp, FpOk (cxComp X x sc fp s3 H3) [] H' b := fun hn b hb =>
    ⟨hn b hb, Nat.ne_of_lt (fpl3 b hb), I4.ok.exfs b hb, .inl hb, fun y c e => (f3 b hb).2.2.2.2.1 y c (S.sub I3.ok e), fun p hp => absurd (show p ∈ ([] : List (Addr × Obj)) from hp) (by simp)⟩
  have loop : codeAny (model X.prog X.w) X.A (.compLoop (.ListComp elt [⟨.Name x px, iter, ifs, 0⟩] sc pos) 0 (.ref it) (.ref s2.heap.objs.size) (cxComp X x sc fp s3 H3).env) (RR (.ref s2.heap.objs.size) s3.heap.objs.size) s4 := by
    refine codeAny_compLoop_tests (fun n s' => ∃ i o ys H', Inv (cxComp X x sc fp s3 H3) [] (o :: σ) H' s' ∧ tn i s'.heap ∧ (∀ b ∈ fp, H' b = none) ∧ W i n ys H') ?_ m0 ⟨0, none, [], H3, I4, st4', fun b hb => (f3 b hb).1, w0⟩
    rintro n s5 ⟨i, o, ys, H5, I5, st5, fr5, w5⟩
    rcases turn i n ys H5 w5 with ⟨stop, q⟩ | ⟨go, step⟩
    · refine wpAny_mono (T.done (cxComp X x sc fp s3 H3) rfl rfl rfl hc i [] s5 (o :: σ) H5 (fun _ _ => False) I5 (stat fr5) st5 stop) (fun r s6 ⟨hr, I6⟩ => ?_) fun _ _ z => z.elim
      subst hr
      exact hRR s3 H3 s6 _ H5 I3 f3 I6 q
    · refine wpAny_mono (T.item (cxComp X x sc fp s3 H3) rfl rfl rfl hc i [] s5 (o :: σ) H5 (fun _ _ => False) I5 (stat fr5) st5 go) (fun r s6 ⟨u, hr, h6⟩ => ?_) fun _ _ z => z.elim
      subst hr
      refine of_pure (a := ()) h6 fun ⟨xv, H6, I6, r6, y6, st6, fr6⟩ => ?_
      have I6' := I6.pinned (stat fr6) (T.obj _ _ st6)
      have hx : (relabel sc X.env).names.lookup x = some .local := lookup_relabel_local S.here
      refine wpAny_mono (pg_name (X := cxComp X x sc fp s3 H3) (i := 0) (pos := px) S.nd rfl (.inl hx) (.inr hx) _ s6 (o :: σ) H6 xv u (fun σ' H' => σ' = some xv :: σ ∧ H' = H6) I6' r6 ⟨rfl, rfl⟩) (fun _ s7 ⟨σ7, H7, I7, e7, e7'⟩ => ?_) fun _ _ z => z.elim
      subst e7 e7'
      have again : ∀ {H' : Hp} {s' : Shared} {ys' : List V}, Inv (cxComp X x sc fp s3 H3) ([] ++ pinsAt fp s6.heap) (some xv :: σ) H' s' → (∃ m', m' < n ∧ W (i + 1) m' ys' H') →
          ∃ m, m < n ∧ ∃ i o ys H', Inv (cxComp X x sc fp s3 H3) [] (o :: σ) H' s' ∧ tn i s'.heap ∧ (∀ b ∈ fp, H' b = none) ∧ W i m ys H' := fun {H' s' ys'} I' ⟨m', hm, w'⟩ => by
        refine ⟨m', hm, i + 1, some xv, ys', H', I'.unpinned, T.keep _ _ _ st6 fun b hb ob e => (I'.pin (b, ob) (List.mem_append_right _ (List.mem_append_right _ (mem_pinsAt hb e)))).1, fun b hb => ?_, w'⟩
        obtain ⟨ob, e, d⟩ := T.obj _ _ st6 b hb
        exact (I'.pin (b, ob) (List.mem_append_right _ (List.mem_append_right _ (mem_pinsAt hb e)))).2.1
      refine wpAny_mono (hif fp s3 H3 _ s7 _ H7 _ I7 (step xv H7 y6)) (fun ok s8 ⟨H8, I8, q8⟩ => ?_) fun _ _ z => z.elim
      cases ok with
      | false =>
        rw [if_neg Bool.false_ne_true] at q8 ⊢
        exact again I8 q8
      | true =>
        rw [if_pos rfl] at q8 ⊢
        refine wpAny_mono (he fp s3 H3 _ s8 _ H8 _ I8 q8) (fun v s9 ⟨y, H9, I9, r9, hp, hz, q9⟩ => ?_) fun _ _ z => z.elim
        refine wpAny_mono (mt_append (X := cxComp X x sc fp s3 H3) _ s9 _ H9 (.ref s2.heap.objs.size) [y] (.ref s2.heap.objs.size) [v] (fun _ H' => H' = upd H9 s2.heap.objs.size (.lst (ys ++ [y]))) I9 rfl (.cons r9 .nil) ⟨_, ys, y, rfl, rfl, hp, hz, rfl⟩) (fun _ s10 ⟨_, H10, I10, _, e10⟩ => ?_) fun _ _ z => z.elim
        subst e10
        exact again I10 q9
  exact codeAny_compStart_list loop (T.self _ 0 _ _ _ st4' loop)

/-- [elt for x in iter if ..] as a value -/
theorem pe_comp (S : CompScope X.N X.env.scope x sc) (hc : X.calm = true) (hi : PI X (.Name x px) iter wi) (hif : ∀ fp s3 H3, PIf (cxComp X x sc fp s3 H3) ifs tc) (he : ∀ fp s3 H3, PE (cxComp X x sc fp s3 H3) elt te)
    (hs : ∀ x, foldedSetIterable iter X.env x = pure x := by intro _; rfl) : PE X (.ListComp elt [⟨.Name x px, iter, ifs, 0⟩] sc pos) (tComp wi tc te) := by
  intro pins s σ H Q I h
  rw [eval_ListComp]
  refine wpAny_comprehension_free (use := none) (cl := clOf sc X.env) rfl hs (closure_is (S.cells I.ok)) S.kind S.names (thn (hi pins s σ H _ I h) fun v s1 h1 => thn h1 fun itv s2 h2 => ?_)
  obtain ⟨it, fp, tn, J, H2, e, I2, T, st2, f2, q2⟩ := h2
  subst e
  refine comp_core (RR := fun acc C => compPost (model X.prog X.w) X.A X.xe none (EP X pins σ Q) acc C) (Q := Q) S hc hif he I2 T st2 f2 q2 ?_
  intro s3 H3 s' σ' H' I3 f3 J' q'
  obtain ⟨m, hn, _⟩ := J'.loc
  exact ⟨m, hn, fun h' hs' => ⟨.ref s2.heap.objs.size, H', I3.back f3 J' hs', rfl, q'⟩⟩


/-! ### the forms one uses: the block keeps all that was, the i-th item becomes some v with F i v -/
end
end L2

set_option Elab.async false
set_option linter.all false
set_option maxRecDepth 100000
set_option maxHeartbeats 4000000
namespace L2
open PySem PySem.Spec PyProof.Rows

/-! ### data, all the way down -/
mutual
def Dt (K : PySem.W.Frag) (H : Hp) : PyData → V → Prop
  | .none, v => v = .non
  | .bool b, v => v = .bl b
  | .int i, v => v = .int i
  | .str x, v => v = .str x ∧ PyData.strOk x = true
  | .list ds, v => ∃ a xs, v = .ref a ∧ SqL K H a xs ∧ DtAll K H ds xs
  | .tuple ds, v => ∃ a xs, v = .ref a ∧ SqT K H a xs ∧ DtAll K H ds xs
  | .dict _, _ => False
def DtAll (K : PySem.W.Frag) (H : Hp) : List PyData → List V → Prop
  | [], xs => xs = []
  | d :: ds, xs => ∃ v r, xs = v :: r ∧ Dt K H d v ∧ DtAll K H ds r
end
section
variable {K : PySem.W.Frag} {H H' : Hp}
mutual
theorem Dt.lay : ∀ {d : PyData} {v : V}, Dt K H d v → d.canLay0 = true
  | .none, _, _ => rfl
  | .bool _, _, _ => rfl
  | .int _, _, _ => rfl
  | .str x, _, h => by
    rw [Dt] at h
    exact h.2
  | .list ds, _, h => by
    rw [Dt] at h
    obtain ⟨a, xs, _, _, h⟩ := h
    rw [PyData.canLay0]
    exact DtAll.lay h
  | .tuple ds, _, h => by
    rw [Dt] at h
    obtain ⟨a, xs, _, _, h⟩ := h
    rw [PyData.canLay0]
    exact DtAll.lay h
  | .dict _, _, h => by
    rw [Dt] at h
    exact h.elim
theorem DtAll.lay : ∀ {ds : List PyData} {xs : List V}, DtAll K H ds xs → PyData.canLayAll0 ds = true
  | [], _, _ => by rw [PyData.canLayAll0]
  | d :: ds, _, h => by
    rw [DtAll] at h
    obtain ⟨v, r, _, h1, h2⟩ := h
    rw [PyData.canLayAll0, Dt.lay h1, DtAll.lay h2]
    rfl
end
theorem Same.sqL {a : Addr} {xs : List V} (e : Same H H') (h : SqL K H a xs) : SqL K H' a xs := e.seq h
theorem Same.sqT {a : Addr} {xs : List V} (e : Same H H') (h : SqT K H a xs) : SqT K H' a xs := by
  rcases h with (h | ⟨o, h⟩) | h
  · exact .inl (.inl (e _ _ h))
  · exact .inl (.inr ⟨o, e _ _ h⟩)
  · exact .inr h
mutual
theorem Dt.same (e : Same H H') : ∀ {d : PyData} {v : V}, Dt K H d v → Dt K H' d v
  | .none, _, h => by rw [Dt] at h ⊢; exact h
  | .bool _, _, h => by rw [Dt] at h ⊢; exact h
  | .int _, _, h => by rw [Dt] at h ⊢; exact h
  | .str x, _, h => by rw [Dt] at h ⊢; exact h
  | .list ds, _, h => by
    rw [Dt] at h ⊢
    obtain ⟨a, xs, h1, h2, h⟩ := h
    exact ⟨a, xs, h1, e.sqL h2, DtAll.same e h⟩
  | .tuple ds, _, h => by
    rw [Dt] at h ⊢
    obtain ⟨a, xs, h1, h2, h⟩ := h
    exact ⟨a, xs, h1, e.sqT h2, DtAll.same e h⟩
  | .dict _, _, h => by
    rw [Dt] at h
    exact h.elim
theorem DtAll.same (e : Same H H') : ∀ {ds : List PyData} {xs : List V}, DtAll K H ds xs → DtAll K H' ds xs
  | [], _, h => by rw [DtAll] at h ⊢; exact h
  | d :: ds, _, h => by
    rw [DtAll] at h ⊢
    obtain ⟨v, r, h0, h1, h2⟩ := h
    exact ⟨v, r, h0, Dt.same e h1, DtAll.same e h2⟩
end
theorem DtAll.nil : DtAll K H [] [] := by rw [DtAll]
theorem DtAll.cons {d : PyData} {ds : List PyData} {v : V} {r : List V} (h1 : Dt K H d v) (h2 : DtAll K H ds r) : DtAll K H (d :: ds) (v :: r) := by rw [DtAll]; exact ⟨v, r, rfl, h1, h2⟩
theorem Dt.int {i : Int} : Dt K H (.int i) (.int i) := by rw [Dt]
theorem Dt.str {x : Str} (h : PyData.strOk x = true) : Dt K H (.str x) (.str x) := by rw [Dt]; exact ⟨rfl, h⟩
theorem Dt.tup {a : Addr} {xs : List V} {ds : List PyData} (h : SqT K H a xs) (q : DtAll K H ds xs) : Dt K H (.tuple ds) (.ref a) := by rw [Dt]; exact ⟨a, xs, rfl, h, q⟩
theorem DtAll.ints : ∀ (ns : List Int), DtAll K H (ns.map PyData.int) (ns.map V.int)
  | [] => DtAll.nil
  | n :: ns => DtAll.cons Dt.int (DtAll.ints ns)
end

section
variable {X : Cx} {pins : List (Addr × Obj)} {σ : St} {H : Hp} {s : Shared}
mutual
theorem Dt.reads (I : Inv X pins σ H s) : ∀ {d : PyData} {v : V} {u : Value}, Dt X.K H d v → RelV v u → ∃ as, Reads s.heap u d as
  | .none, _, _, h, r => by rw [Dt] at h; subst h; cases r; exact ⟨[], .none⟩
  | .bool b, _, _, h, r => by rw [Dt] at h; subst h; cases r; exact ⟨[], .bool b⟩
  | .int i, _, _, h, r => by rw [Dt] at h; subst h; obtain ⟨t, rfl⟩ := r; exact ⟨[], .int i t⟩
  | .str x, _, _, h, r => by
    rw [Dt] at h
    obtain ⟨h, _⟩ := h
    subst h
    obtain ⟨t, rfl⟩ := r
    exact ⟨[], .str x t⟩
  | .list ds, _, _, h, r => by
    rw [Dt] at h
    obtain ⟨a, xs, h1, h2, h⟩ := h
    subst h1
    cases r
    obtain ⟨its, rv, ⟨o, n, e, hc, _, hd⟩, _⟩ := I.list h2
    obtain ⟨as, q⟩ := DtAll.reads I h rv
    exact ⟨_, .list e hc hd (by simpa using q)⟩
  | .tuple ds, _, _, h, r => by
    rw [Dt] at h
    obtain ⟨a, xs, h1, h2, h⟩ := h
    subst h1
    cases r
    obtain ⟨its, rv, ⟨o, e, hc, n, hd⟩, _⟩ := I.tuple h2
    obtain ⟨as, q⟩ := DtAll.reads I h rv
    exact ⟨_, .tuple e hc hd (by simpa using q)⟩
  | .dict _, _, _, h, _ => by
    rw [Dt] at h
    exact h.elim
theorem DtAll.reads (I : Inv X pins σ H s) : ∀ {ds : List PyData} {xs : List V} {us : List Value}, DtAll X.K H ds xs → Vals xs us → ∃ as, ReadsAll s.heap us ds as
  | [], _, _, h, r => by rw [DtAll] at h; subst h; cases r; exact ⟨[], .nil⟩
  | d :: ds, _, _, h, r => by
    rw [DtAll] at h
    obtain ⟨v, r', h0, h1, h2⟩ := h
    subst h0
    cases r with
    | cons ra rb =>
      obtain ⟨as, q1⟩ := Dt.reads I h1 ra
      obtain ⟨bs, q2⟩ := DtAll.reads I h2 rb
      exact ⟨_, .cons q1 q2⟩
end
end

section
variable {X : Cx}
/-- == and != of data -/
def rEqD (K : PySem.W.Frag) : R2 := fun x y H Q => ∃ d e, Dt K H d x ∧ Dt K H e y ∧ d.depth ≤ 60 ∧ Q (.bl (PyData.eqv d e)) H
theorem op_eqD {k : Nat} (hr : Room k X.A) : OpR X (compareOp .Eq) (rEqD X.K) := by
  intro pins s σ H x y v u Q I rx ry h
  obtain ⟨d, e, h1, h2, hd, q⟩ := h
  obtain ⟨as, r1⟩ := Dt.reads I h1 rx
  obtain ⟨bs, r2⟩ := Dt.reads I h2 ry
  have hu := hr.units
  exact SeqAt.compareEq_reads r1 r2 h1.lay h2.lay (by have : min d.depth e.depth ≤ d.depth := Nat.min_le_left _ _; omega) ⟨.bl _, H, I, rfl, q⟩

/-- isinstance(x, T), T a built-in type -/
theorem call_isT : CallR X (.builtin "isinstance") (fun xs H Q => ∃ x n t b, xs = [x, .ty n] ∧ TyOf X.K H x t ∧ PySem.W.kitOne X.K t (.type n) = some b ∧ Q (.bl b) H) := by
  intro pins s σ H xs us Q I rv h
  obtain ⟨x, n, t, b, rfl, ht, hk, q⟩ := h
  obtain ⟨u, v, rfl, ru, rv'⟩ := rv.two
  cases rv'
  exact isinst_ok I ru ht hk fun tk => ⟨.bl b, H, I.tok tk, rfl, q⟩

/-- sum(xs) of a list of ints -/
theorem call_sumL (hc : X.calm = true) : CallR X (.builtin "sum") (fun xs H Q => ∃ (p : Addr) (ns : List Int), xs = [.ref p] ∧ SqL X.K H p (ns.map V.int) ∧ Q (.int ns.sum) H) := by
  intro pins s σ H xs us Q I rv h
  obtain ⟨p, ns, rfl, hq, q⟩ := h
  obtain ⟨u, rfl, ru⟩ := rv.one
  cases ru
  obtain ⟨its, r, pl, hz⟩ := I.list hq
  have hi : IntsAre its ns := intsAre_of r
  obtain ⟨xs, e⟩ := hi.allInts.items
  have hl : s.heap.IsList p (intItems xs) := by rw [← e]; exact pl.isList
  refine sum_intListG (I.ok.hd hc) hl fun h' tk t' hk => ?_
  refine ⟨.int ns.sum, H, I.kept hk, ⟨t', ?_⟩, q⟩
  rw [preSum_eq, List.take_of_length_le (by simp)]
  have e2 := nums_intItems xs
  rw [← e, show its.toArray.toList = its from rfl, hi.numsOf] at e2
  rw [e2]
end
end L2

set_option Elab.async false
set_option linter.all false
set_option maxRecDepth 100000
set_option maxHeartbeats 4000000
namespace L2
open PySem PySem.Spec PyProof.Rows

/-! ### a cut between two statements -/

/-! ### a comprehension's scope, by a look -/
def compCheck (N : List Str) (osc : Scope) (x : Str) (sc : Scope) : Bool :=
  (match sc.kind with | .function => true | _ => false) && sc.names.all (fun y => match y.2 with | .cell => false | _ => true)
  && sc.names.all (fun y => match y.2 with | .local => (match sc.names.lookup y.1 with | some .local => true | _ => false) | _ => true)
  && (match sc.names.lookup x with | some .local => true | _ => false) && N.all (fun y => !(y == x))
  && sc.names.all (fun y => match y.2 with | .free => (match osc.names.lookup y.1 with | some .cell => true | some .free => true | _ => false) | _ => true)
  && sc.names.all (fun y => match y.2 with | .local => (y.1 == x || N.all (fun z => !(z == y.1))) | _ => true)
theorem CompScope.of {N : List Str} {osc : Scope} {x : Str} {sc : Scope} (hN : N.Nodup) (h : compCheck N osc x sc = true) : CompScope N osc x sc := by
  unfold compCheck at h
  simp only [Bool.and_eq_true, List.all_eq_true] at h
  obtain ⟨⟨⟨⟨⟨⟨h1, h2⟩, h3⟩, h4⟩, h5⟩, h6⟩, h7⟩ := h
  refine ⟨?_, fun y hy e => ?_, fun y hy e => ?_, ?_, List.nodup_cons.mpr ⟨fun hx => ?_, hN⟩, fun y hy e => ?_, fun y hy e => ?_⟩
  · revert h1; cases sc.kind <;> simp
  · have := h2 y hy; rw [e] at this; exact absurd this (by simp)
  · have := h3 y hy; rw [e] at this
    revert this
    cases sc.names.lookup y.1 with
    | none => simp
    | some k => cases k <;> simp
  · revert h4
    cases sc.names.lookup x with
    | none => simp
    | some k => cases k <;> simp
  · have := h5 x hx; simp at this
  · have := h6 y hy; rw [e] at this
    revert this
    cases osc.names.lookup y.1 with
    | none => simp
    | some k => cases k <;> simp
  · have := h7 y hy; rw [e] at this
    simp only [Bool.or_eq_true, List.all_eq_true] at this
    rcases this with z | z
    · exact .inl (by simpa using z)
    · refine .inr fun q => ?_
      have := z _ q
      simp at this

/-! ### a def of the text, in one fact -/
structure Def (P : Program) (w : World) (K : PySem.W.Frag) (mg : Str → Option Value) (base : Heap) (CX : CXT) (x : Str) (k : Nat) (ps : List Str) (sp : Sp) : Prop where
  ex : ∃ f fd, FnOk P w K mg base CX k f fd ps sp ∧ Binds K fd ps [] ∧ PySem.W.keepIn K (.ref f) = true ∧ mg x = some (.ref f)
theorem Def.imp {P : Program} {w : World} {K : PySem.W.Frag} {mg : Str → Option Value} {base : Heap} {CX : CXT} {x : Str} {k : Nat} {ps : List Str} {sp sp' : Sp} (F : Def P w K mg base CX x k ps sp) (h : ∀ vs H Q E, sp' vs H Q E → sp vs H Q E) : Def P w K mg base CX x k ps sp' := by
  obtain ⟨f, fd, G, r⟩ := F.ex
  exact ⟨f, fd, G.imp h, r⟩
theorem pe_def {X : Cx} {CX : CXT} {k : Nat} {x : Str} {ps : List Str} {sp : Sp} {E : XK} {e : Expr} {es : List Expr} {t : TA} {p pos : Pos} (F : Def X.prog X.w X.K X.mg X.base CX x k ps sp) (hr : Room k X.A) (hg : Gl X x) (hx : Passes CX X E)
    (ha : PA X (e :: es) t) (hdb : (x == ("__debug__" : Str)) = false := by decide) (he : starEach (e :: es) X.env = (false, eval e X.env) :: starEach es X.env := by rfl) (hpl : (backTo pos (starEach es X.env)).any (·.1) = false := by rfl) :
    PE X (.Call (.Name x p) (e :: es) [] pos) (tCall sp [] E t) := by
  obtain ⟨f, fd, G, b, kp, m⟩ := F.ex
  exact pe_call G hr hg m kp b .nil hx ha hdb he hpl

/-! ### is, between bools -/
theorem op_isNotB {X : Cx} : OpR X (compareOp .IsNot) (fun x y H Q => ∃ b c, x = .bl b ∧ y = .bl c ∧ Q (.bl (b != c)) H) := by
  intro pins s σ H x y v u Q I rx ry h
  obtain ⟨b, c, rfl, rfl, q⟩ := h
  cases rx
  cases ry
  exact isnot_bool ⟨.bl _, H, I, rfl, q⟩

/-! ### isinstance, for the readings -/
def IsT (K : PySem.W.Frag) (H : Hp) (xs : List V) (b : Bool) : Prop := ∃ x n t, xs = [x, .ty n] ∧ TyOf K H x t ∧ PySem.W.kitOne K t (.type n) = some b
theorem call_isTy {X : Cx} : CallR X (.builtin "isinstance") (fun xs H Q => ∃ b, IsT X.K H xs b ∧ Q (.bl b) H) := by
  intro pins s σ H xs us Q I rv h
  obtain ⟨b, ⟨x, n, t, e, ht, hk⟩, q⟩ := h
  exact call_isT pins s σ H xs us Q I rv ⟨x, n, t, b, e, ht, hk, q⟩
section
variable {K : PySem.W.Frag} {H : Hp}
theorem isT_int_int {i : Int} : IsT K H [.int i, .ty "int"] true := ⟨_, _, _, rfl, .int i, rfl⟩
theorem isT_int_bool {i : Int} : IsT K H [.int i, .ty "bool"] false := ⟨_, _, _, rfl, .int i, rfl⟩
theorem isT_tup {a : Addr} {xs : List V} (h : H a = some (.tup xs)) : IsT K H [.ref a, .ty "tuple"] true := ⟨_, _, _, rfl, .tup h, rfl⟩
end
/-! ### one statement at a time -/
theorem seq_step {t u : TS} {D : Ends} {σ : St} {H : Hp} (h : ∀ U, U = u D → t { D with nx := U } σ H) : tSeq t u D σ H := h _ rfl
/-! ### small facts for the readings -/
@[simp] theorem cxComp_K {X : Cx} {x : Str} {sc : Scope} {fp : List Addr} {s3 : Shared} {H3 : Hp} : (cxComp X x sc fp s3 H3).K = X.K := rfl
theorem sz (n : Nat) (h : n ≤ 1000 := by omega) : n ≤ sizeLine := Nat.le_of_lt (small1000 h)
theorem again {n i : Nat} {P : Prop} (h : i < n) (p : P) : ∃ m', m' < n - i ∧ m' = n - (i + 1) ∧ i + 1 ≤ n ∧ P := ⟨_, by omega, rfl, h, p⟩
theorem same_new {H : Hp} {p : Addr} (h : H p = none) (o : HO) : Same H (upd H p o) := fun b u q => by rw [upd_ne (ne_of_none q h)]; exact q
theorem atI_int {ns : List Int} {k : Int} (h0 : 0 ≤ k) (h1 : k < ns.length) : atI (ns.map V.int) k = some (.int (ns.getD k.toNat 0)) := by
  have hk : k.toNat < ns.length := by omega
  have e : k = ((k.toNat : Nat) : Int) := by omega
  have q : atI (ns.map V.int) ((k.toNat : Nat) : Int) = some (.int (ns.getD k.toNat 0)) := atI_nat (by rw [List.getElem?_map, List.getElem?_eq_getElem hk, List.getD_eq_getElem?_getD, List.getElem?_eq_getElem hk]; rfl)
  rw [← e] at q
  exact q

/-! ### comprehensions: the forms one uses -/
theorem comp_listN {K : PySem.W.Frag} {a p : Addr} {xs : List V} {tc : TT} {te : TE} {σ : St} {H : Hp} {Z : Hp → Prop} (Pv : Nat → List V → Hp → Prop) (h0 : Pv 0 [] (upd H p (.lst []))) (hl : ∀ i ys H, i ≤ xs.length → Pv i ys H → SqL K H a xs)
    (hs : ∀ i x ys H, xs[i]? = some x → Pv i ys H → tc (some x :: σ) H fun b H2 =>
      if b = true then te (some x :: σ) H2 fun v H3 => H3 p = some (.lst ys) ∧ ys.length < sizeLine ∧ ∃ m', m' < xs.length - i ∧ m' = xs.length - (i + 1) ∧ i + 1 ≤ xs.length ∧ Pv (i + 1) (ys ++ [v]) (upd H3 p (.lst (ys ++ [v]))) else ∃ m', m' < xs.length - i ∧ m' = xs.length - (i + 1) ∧ i + 1 ≤ xs.length ∧ Pv (i + 1) ys H2)
    (hd : ∀ ys H, Pv xs.length ys H → Z H) :
    ∃ W : Nat → Nat → List V → Hp → Prop, (∃ m, W 0 m [] (upd H p (.lst []))) ∧ ∀ i m ys H, W i m ys H →
      ((Itl K a).stop i H ∧ Z H) ∨ ((Itl K a).go i H ∧ ∀ x H', (Itl K a).yld i H x H' → tc (some x :: σ) H' fun b H2 =>
        if b = true then te (some x :: σ) H2 fun v H3 => H3 p = some (.lst ys) ∧ ys.length < sizeLine ∧ ∃ m', m' < m ∧ W (i + 1) m' (ys ++ [v]) (upd H3 p (.lst (ys ++ [v])))
        else ∃ m', m' < m ∧ W (i + 1) m' ys H2) := by
  refine ⟨fun i m ys H => m = xs.length - i ∧ i ≤ xs.length ∧ Pv i ys H, ⟨xs.length, by simp, Nat.zero_le _, h0⟩, ?_⟩
  rintro i m ys H ⟨rfl, hi, pv⟩
  have q := hl i ys H hi pv
  by_cases hlt : i < xs.length
  · refine .inr ⟨⟨xs, xs[i], q, by simp [hlt]⟩, fun x H' y => ?_⟩
    obtain ⟨e, y⟩ := y
    subst e
    exact hs i x ys _ (y xs q) pv
  · have e : i = xs.length := by omega
    subst e
    exact .inl ⟨⟨xs, q, Nat.le_refl _⟩, hd ys H pv⟩
theorem comp_rangeN {lo : Int} {n : Nat} {p : Addr} {tc : TT} {te : TE} {σ : St} {H : Hp} {Z : Hp → Prop} (Pv : Nat → List V → Hp → Prop) (h0 : Pv 0 [] (upd H p (.lst [])))
    (hs : ∀ i ys H, i < n → Pv i ys H → tc (some (.int (lo + i)) :: σ) H fun b H2 =>
      if b = true then te (some (.int (lo + i)) :: σ) H2 fun v H3 => H3 p = some (.lst ys) ∧ ys.length < sizeLine ∧ ∃ m', m' < n - i ∧ m' = n - (i + 1) ∧ i + 1 ≤ n ∧ Pv (i + 1) (ys ++ [v]) (upd H3 p (.lst (ys ++ [v]))) else ∃ m', m' < n - i ∧ m' = n - (i + 1) ∧ i + 1 ≤ n ∧ Pv (i + 1) ys H2)
    (hd : ∀ ys H, Pv n ys H → Z H) :
    ∃ W : Nat → Nat → List V → Hp → Prop, (∃ m, W 0 m [] (upd H p (.lst []))) ∧ ∀ i m ys H, W i m ys H →
      ((Itr lo n).stop i H ∧ Z H) ∨ ((Itr lo n).go i H ∧ ∀ x H', (Itr lo n).yld i H x H' → tc (some x :: σ) H' fun b H2 =>
        if b = true then te (some x :: σ) H2 fun v H3 => H3 p = some (.lst ys) ∧ ys.length < sizeLine ∧ ∃ m', m' < m ∧ W (i + 1) m' (ys ++ [v]) (upd H3 p (.lst (ys ++ [v])))
        else ∃ m', m' < m ∧ W (i + 1) m' ys H2) := by
  refine ⟨fun i m ys H => m = n - i ∧ i ≤ n ∧ Pv i ys H, ⟨n, by simp, Nat.zero_le _, h0⟩, ?_⟩
  rintro i m ys H ⟨rfl, hi, pv⟩
  by_cases hlt : i < n
  · refine .inr ⟨hlt, fun x H' y => ?_⟩
    obtain ⟨e, y⟩ := y
    subst e y
    exact hs i ys _ hlt pv
  · have e : i = n := by omega
    subst e
    exact .inl ⟨Nat.le_refl _, hd ys H pv⟩
end L2

set_option Elab.async false
set_option linter.all false
set_option maxRecDepth 100000
set_option maxHeartbeats 4000000
namespace L2
open PySem PySem.Spec PyProof.Rows

/-! ### range(i, j, k) as a value, and list of it -/
section
variable {X : Cx}
end
/-! ### the same rules with K named (within a comprehension) -/
section
variable {X : Cx} {K : PySem.W.Frag} {tg : Expr}
theorem ix_listK (h : X.K = K) : IxR X (rIxL K) := by subst h; exact ix_list
theorem ix_tupK (h : X.K = K) : IxR X (rIxT K) := by subst h; exact ix_tup
theorem sl_listK (h : X.K = K) : SlR X (rSlL K) := by subst h; exact sl_list
theorem sl_tupK (h : X.K = K) : SlR X (rSlT K) := by subst h; exact sl_tup
theorem op_eqDK {k : Nat} (hr : Room k X.A) (h : X.K = K) : OpR X (compareOp .Eq) (rEqD K) := by subst h; exact op_eqD hr
theorem call_lenK (h : X.K = K) : CallR X (.builtin "len") (fun xs H Q => ∃ p ys, xs = [.ref p] ∧ (SqL K H p ys ∨ SqT K H p ys) ∧ Q (.int ys.length) H) := by subst h; exact call_len_seq
theorem call_isTyK (h : X.K = K) : CallR X (.builtin "isinstance") (fun xs H Q => ∃ b, IsT K H xs b ∧ Q (.bl b) H) := by subst h; exact call_isTy
theorem call_sumLK (hc : X.calm = true) (h : X.K = K) : CallR X (.builtin "sum") (fun xs H Q => ∃ (p : Addr) (ns : List Int), xs = [.ref p] ∧ SqL K H p (ns.map V.int) ∧ Q (.int ns.sum) H) := by subst h; exact call_sumL hc
theorem call_tuple_ofK (h : X.K = K) : CallR X (.type "tuple") (fun xs H Q => ∃ p ys, xs = [.ref p] ∧ ((SqL K H p ys ∧ ∀ l, H l = none → Q (.ref l) (upd H l (.tup ys))) ∨ (SqT K H p ys ∧ Q (.ref p) H))) := by subst h; exact call_tuple_of
theorem pi_listK {l : Expr} {tl : TE} (h : X.K = K) (hl : PE X l tl) : PI X tg l (iList K tl) := by subst h; exact pi_list hl
theorem pi_tupK {l : Expr} {tl : TE} (h : X.K = K) (hl : PE X l tl) : PI X tg l (iTup K tl) := by subst h; exact pi_tup hl
end
end L2

set_option Elab.async false
set_option linter.all false
set_option maxRecDepth 100000
set_option maxHeartbeats 4000000
/-! MORE RULES: an own error class raised in a def, passed on by a def, caught. -/
namespace L2
open PySem PySem.Spec PyProof.Rows



section
variable {P : Program} {w : World} {outer : List Env} {H H' : Hp} {s : Shared} {x C t : Addr} {B h h' : Heap}
end

section
variable {CX : CXT} {P : Program} {w : World} {K : PySem.W.Frag} {mg : Str → Option Value} {base : Heap} {N : List Str} {qual : Str} {scope : Scope} {f : Addr} {cd : Value} {A : Around} {outer : List Env} {s₀ : Shared} {H₀ : Hp} {E : XK}


end
end L2

set_option Elab.async false
set_option linter.all false
set_option maxRecDepth 100000
set_option maxHeartbeats 4000000
namespace L2
open PySem PySem.Spec PyProof.Rows



section
variable {X : Cx} {x : Str} {np cpos pos : Pos} {e : Expr} {te : TE} {C : Addr} {E : XK}
end

/-! ### a def that may raise -/
section
variable {P : Program} {w : World} {K : PySem.W.Frag} {mg : Str → Option Value} {base : Heap}
end

/-! ### try: f(..) except C: suite -/
section
variable {X : Cx}


end
end L2

set_option Elab.async false
set_option linter.all false
set_option maxRecDepth 100000
set_option maxHeartbeats 4000000
namespace L2
open PySem PySem.Spec PyProof.Rows

/-! ### __class__ of an error of an own class, and isinstance -/
/-- what the fragment says of an own error class whose attributes are looked up in the built-in way -/
structure ExcL (K : PySem.W.Frag) (C : Addr) : Prop where
  ga : PySem.W.findIn K (.ref C) "__getattribute__" = some (some (.builtin "BaseException.__getattribute__"))
  hk : PySem.W.findIn K (.ref C) "__getattr__" = some none
  ca : PySem.W.findIn K (.ref C) "__class__" = some (some (.builtin "object.__class__"))
  gt : PySem.W.specialIn K (.builtin "object.__class__") "__get__" = some (some (.builtin "getset_descriptor.__get__"))
  tk : PySem.W.takesIn K (.builtin "object.__class__") = some true
  ob : PySem.W.mroIn K C (.type "object") = some true
  be : PySem.W.mroIn K C (.type "BaseException") = some true


section
variable {prog : Program} {w : World} {A : Around} {E : Value → Shared → Prop} {K : PySem.W.Frag} {x C : Addr}
end


/-! ### except C as e -/
section
variable {X : Cx} {pins : List (Addr × Obj)} {σ : St} {H : Hp} {s : Shared}

end
end L2

set_option Elab.async false
set_option linter.all false
set_option maxRecDepth 100000
set_option maxHeartbeats 4000000
/-! TABLES: a list of lists of numbers and None, each line an object of its own. -/
namespace L2
open PySem PySem.Spec PyProof.Rows
abbrev Ent := Option Int
def eV : Ent → V
  | none => .non
  | some i => .int i
abbrev Tbl := List (List Ent)
def LineAt (H : Hp) (b : Addr) (r : List Ent) : Prop := H b = some (.lst (r.map eV))
/-- the table t at a, its lines at bs -/
structure TabAt (H : Hp) (a : Addr) (bs : List Addr) (t : Tbl) : Prop where
  at_ : H a = some (.lst (bs.map V.ref))
  nd : bs.Nodup
  ne : a ∉ bs
  lines : Paired (LineAt H) bs t
theorem paired_len {α β : Type} {R : α → β → Prop} : ∀ {xs : List α} {ys : List β}, Paired R xs ys → xs.length = ys.length
  | _, _, .nil => rfl
  | _, _, .cons _ t => by simp [paired_len t]
theorem paired_get' {α β : Type} {R : α → β → Prop} : ∀ {xs : List α} {ys : List β} {i : Nat} {x : α}, Paired R xs ys → xs[i]? = some x → ∃ y, ys[i]? = some y ∧ R x y
  | _, _, _, _, .nil, e => by simp at e
  | _, _, 0, _, .cons r _, e => by cases e; exact ⟨_, rfl, r⟩
  | _, _, i + 1, _, .cons _ t, e => by
    obtain ⟨x, e1, r⟩ := paired_get' t (by simpa using e)
    exact ⟨x, by simpa using e1, r⟩
section
variable {H H' : Hp} {a b : Addr} {bs : List Addr} {t : Tbl} {r : List Ent} {f g : Nat} {e : Ent}
theorem TabAt.len (T : TabAt H a bs t) : bs.length = t.length := paired_len T.lines
end
/-! ### as data: == of tables -/
section
variable {K : PySem.W.Frag} {H : Hp}
end
end L2

/-! Tables over forms, whatever the program: numbers or none (none: no bound). Linking through the forms one by one, halving, the last step: a closed table. No kit needed. -/
set_option linter.all false
namespace Oct
abbrev E := Option Int
def leE : E → E → Prop
  | _, none => True
  | none, some _ => False
  | some a, some b => a ≤ b
def hlf : E → E
  | none => none
  | some a => some (a / 2)
abbrev Tb := Nat → Nat → E
theorem leE_trans {a b c : E} (h : leE a b) (k : leE b c) : leE a c := by cases a <;> cases b <;> cases c <;> simp_all [leE] <;> omega



/-! ### halving, and the last step -/
/-- half of [f][f], rounded down -/
def hv (t : Tb) (f : Nat) : E := hlf (t f f)

/-! ### the greatest: what the closing comes to, told without its steps -/
def Le (c t : Tb) (N : Nat) : Prop := ∀ f g, f < N → g < N → leE (c f g) (t f g)
theorem Le.trans {a b c : Tb} {N : Nat} (h : Le a b N) (k : Le b c N) : Le a c N := fun f g hf hg => leE_trans (h f g hf hg) (k f g hf hg)
/-! ### points -/

/-! ### a point is made name by name: no lower end that the names so far leave is above an upper one -/
/-! ### the same for any set of names -/
/-! ### each entry is met -/
/-! ### a name held at a number; three forms -/
/-! ### the whole of it: the shape of a table that is alike either way, 0 at each [f][flip f] -/

/-! ### the shape of a list of sides, as a function of tables -/
def neg0 : E → Bool
  | some z => decide (z < 0)
  | none => false
def Agree (a b : Tb) (N : Nat) : Prop := ∀ f g, f < N → g < N → a f g = b f g
/-- two tables under which the same good tables lie have the same shape -/
inductive SameO (N : Nat) : Option Tb → Option Tb → Prop
  | none : SameO N none none
  | some {a b : Tb} : Agree a b N → SameO N (some a) (some b)
theorem Agree.symm {a b : Tb} {N : Nat} (h : Agree a b N) : Agree b a N := fun f g hf hg => (h f g hf hg).symm
/-! ### tables as lists -/
def ln (N : Nat) (r : Nat → E) : List E := (List.range N).map r
def rows (i N : Nat) (c : Tb) : List (List E) := (List.range i).map fun f => ln N (c f)
abbrev toT (N : Nat) (c : Tb) : List (List E) := rows N N c
/-! ### a name held at a number; a point name by name -/
/-! ### one side more; other sides of the same shape -/
end Oct

set_option Elab.async false
set_option linter.all false
set_option maxRecDepth 100000
set_option maxHeartbeats 4000000
/-! enumerate and zip of lists; a pair of names as a comprehension's target. -/
namespace L2
open PySem PySem.Spec PyProof.Rows
section
variable {X : Cx} {pins : List (Addr × Obj)} {σ : St} {H : Hp} {s : Shared} {h' : Heap}
end

/-! ### enumerate(xs) -/

/-! ### zip(xs, ys) -/
structure Z5 (z TI TO i1 i2 : Addr) : Prop where
  TIz : TI ≠ z
  TOz : TO ≠ z
  i1z : i1 ≠ z
  i2z : i2 ≠ z
  TITO : TI ≠ TO
  TIi1 : TI ≠ i1
  TIi2 : TI ≠ i2
  TOi1 : TO ≠ i1
  TOi2 : TO ≠ i2
  i12 : i1 ≠ i2

/-! ### the forms one uses -/

/-! ### the turn of a comprehension's loop, whatever the target -/
theorem compLoop_any {prog : Program} {w : World} {A : Around} {s : Shared} {elt iter target : Expr} {scope : Scope} {pos : Pos} {it acc : Value} {env : Env} {R : Result → Shared → Prop} (I : Nat → Shared → Prop)
    (turn : ∀ n s, I n s → wpAny (model prog w) A (pyNext it) (fun r s₁ => match r with
      | none => R (.ok .next) s₁
      | some v => wpAny (model prog w) A (letOwnedTupleGo target it v) (fun _ s₁' => wpAny (model prog w) A (assign target env v) (fun _ s₂ =>
          wpAny (model prog w) A (eval elt env) (fun x s₄ =>
              wpAny (model prog w) A (call (.builtin "list.append") [acc, x]) (fun _ s₅ => ∃ m, m < n ∧ I m s₅) (notedBy (model prog w) A env fun e s' => R (.error e) s') s₄) (notedBy (model prog w) A env fun e s' => R (.error e) s') s₂)
          (notedBy (model prog w) A env fun e s' => R (.error e) s') s₁') (notedBy (model prog w) A env fun e s' => R (.error e) s') s₁) (notedBy (model prog w) A env fun e s' => R (.error e) s') s)
    (n : Nat) (h : I n s) : codeAny (model prog w) A (.compLoop (.ListComp elt [⟨target, iter, [], 0⟩] scope pos) 0 it acc env) R s := by
  refine codeAny_loop rfl I (fun n s hI => ?_) n h
  show wpAny _ A ((compTurn (.ListComp elt [⟨target, iter, [], 0⟩] scope pos) 0 it acc env).onRaise (fun x => do noteFrame x env; theTreesLotGoes x)) _ _ s
  refine wpAny_noted ?_
  rw [compTurn_list]
  refine wpAny_bind (wpAny_standAt (wpAny_bind (wpAny_mono (turn n s hI) (fun r s₁ h₁ => ?_) fun _ _ h' => h')))
  cases r with
  | none => exact wpAny_pure h₁
  | some v =>
    refine wpAny_bind (wpAny_mono h₁ (fun _ s₁' h₁' => ?_) fun _ _ h' => h')
    refine wpAny_bind (wpAny_mono h₁' (fun _ s₂ h₂ => wpAny_bind (wpAny_mono (wpAny_tests_nil (Q := fun ok s₃ => ok = true ∧ s₃ = s₂) ⟨rfl, rfl⟩) (fun ok s₃ h₃ => ?_) fun _ _ h' => h')) fun _ _ h' => h')
    obtain ⟨rfl, rfl⟩ := h₃
    exact wpAny_bind (wpAny_bind (wpAny_mono h₂ (fun x s₄ h₄ => wpAny_bind (wpAny_mono h₄ (fun _ s₅ h₅ => wpAny_pure (wpAny_pure ⟨rfl, h₅⟩)) fun _ _ h' => h')) fun _ _ h' => h'))
/-! ### a comprehension with a pair of names; M: the names around it as the block sees them (one that it hides goes by another name) -/
structure CompScope2 (N M : List Str) (osc : Scope) (x y : Str) (sc : Scope) : Prop where
  kind : sc.kind = .function
  nocell : ∀ z ∈ sc.names, z.2 ≠ .cell
  names : ∀ z ∈ sc.names, z.2 = .local → sc.names.lookup z.1 = some .local
  here : sc.names.lookup x = some .local
  here2 : sc.names.lookup y = some .local
  nd : (x :: y :: M).Nodup
  len : M.length = N.length
  hide : ∀ (i : Nat) z, M[i]? = some z → N[i]? = some z ∨ sc.names.lookup z = none
  free : ∀ z ∈ sc.names, z.2 = .free → osc.names.lookup z.1 = some .cell ∨ osc.names.lookup z.1 = some .free
  own : ∀ z ∈ sc.names, z.2 = .local → z.1 = x ∨ z.1 = y ∨ z.1 ∉ M
section
variable {X : Cx} {M : List Str} {x y : Str} {sc : Scope} {fp : List Addr} {s3 : Shared} {H3 : Hp} {pins : List (Addr × Obj)} {σ : St}
end

section
variable {X : Cx} {M : List Str} {x y : Str} {sc : Scope} {px py tp pos : Pos} {k : Nat} {elt iter : Expr} {wi : TI} {te : TE}
end
/-! ### a comprehension with one name; M: the names around it as the block sees them (one that it hides goes by another name) -/
structure CompScope1 (N M : List Str) (osc : Scope) (x : Str) (sc : Scope) : Prop where
  kind : sc.kind = .function
  nocell : ∀ z ∈ sc.names, z.2 ≠ .cell
  names : ∀ z ∈ sc.names, z.2 = .local → sc.names.lookup z.1 = some .local
  here : sc.names.lookup x = some .local
  nd : (x :: M).Nodup
  len : M.length = N.length
  hide : ∀ (i : Nat) z, M[i]? = some z → N[i]? = some z ∨ sc.names.lookup z = none
  free : ∀ z ∈ sc.names, z.2 = .free → osc.names.lookup z.1 = some .cell ∨ osc.names.lookup z.1 = some .free
  own : ∀ z ∈ sc.names, z.2 = .local → z.1 = x ∨ z.1 ∉ M
def cxComp1 (X : Cx) (M : List Str) (x : Str) (sc : Scope) (fp : List Addr) (s3 : Shared) (H3 : Hp) : Cx where
  prog := X.prog
  w := X.w
  K := X.K
  mg := X.mg
  base := X.base
  A := X.A
  N := x :: M
  s₀ := s3
  H₀ := H3
  env := compEnvC sc (clOf sc X.env) s3.heap.objs.size X.env
  outer := X.stack
  stack := X.stack
  ex := fp
  calm := X.calm
  fn := fun _ => false
  pn := []
  xe := fun _ _ => False
section
variable {X : Cx} {M : List Str} {x : Str} {sc : Scope} {fp : List Addr} {s3 : Shared} {H3 : Hp} {pins : List (Addr × Obj)} {σ : St}
theorem CompScope1.cells (S : CompScope1 X.N M X.env.scope x sc) (ok : X.Ok) : ∀ z ∈ sc.names, z.2 = .free → ∃ c, X.env.cells.lookup z.1 = some c := fun z hz hk => ok.has z.1 (S.free z hz hk)
theorem CompScope1.sub (S : CompScope1 X.N M X.env.scope x sc) (ok : X.Ok) {z : Str} {c : Addr} (e : (clOf sc X.env).lookup z = some c) : X.env.cells.lookup z = some c :=
  clGo_sub sc.names [] (S.cells ok) (fun c h => by cases h) e
theorem CompScope1.isFree (S : CompScope1 X.N M X.env.scope x sc) {z : Str} (h : (relabel sc X.env).names.lookup z = some .cell ∨ (relabel sc X.env).names.lookup z = some .free) : (z, NameKind.free) ∈ sc.names := by
  rw [lookup_relabel] at h
  cases e : sc.names.lookup z with
  | none => rw [e] at h; rcases h with h | h <;> cases h
  | some k =>
    rw [e] at h
    have hm := PySem.mem_of_lookup e
    cases k with
    | free => exact hm
    | cell => exact absurd rfl (S.nocell _ hm)
    | _ =>
      exfalso
      rcases h with h | h
      all_goals (simp at h)
theorem CompScope1.noLocal (S : CompScope1 X.N M X.env.scope x sc) {z : Str} (hz : z ∈ M) (h : (relabel sc X.env).names.lookup z = some .local) : False := by
  rw [lookup_relabel] at h
  cases e : sc.names.lookup z with
  | none => rw [e] at h; cases h
  | some k =>
    rw [e] at h
    have hm := PySem.mem_of_lookup e
    cases k with
    | «local» =>
      have nd := List.nodup_cons.mp S.nd
      rcases S.own _ hm rfl with q | q
      · have q' : z = x := q
        exact nd.1 (q' ▸ hz)
      · exact q hz
    | _ =>
      revert h
      simp
      try (split <;> simp)
theorem ok_comp1 (S : CompScope1 X.N M X.env.scope x sc) (I : Inv X pins σ H3 s3) (hf : ∀ b ∈ fp, FpOk X pins H3 b) (hl : ∀ b ∈ fp, b < s3.heap.objs.size) : (cxComp1 X M x sc fp s3 H3).Ok where
  mod := I.ok.mod
  kind := S.kind
  glob := I.ok.glob
  blt := I.ok.blt
  above := Nat.le_refl _
  inj := fun y z c h1 h2 => I.ok.inj y z c (S.sub I.ok h1) (S.sub I.ok h2)
  has := fun y h => clGo_has sc.names [] (.inr (S.isFree h))
  cab := fun y c h => by cases h
  hd := I.ok.hd
  frames := I.ok.frames
  stk := .inl rfl
  exf := fun b hb => ⟨Nat.ne_of_lt (hl b hb), fun y c e => (hf b hb).2.2.2.2.1 y c (S.sub I.ok e)⟩
  bs := I.bs
  bsz := Nat.le_trans I.ok.bsz I.sz
  noex := fun b o e hb => FpOk.nobase I.ok (hf b hb) e
  exfs := fun b hb hs => by
    rcases List.mem_cons.mp (I.stkSub b hs) with z | z
    · exact (hf b hb).2.1 z
    · exact (hf b hb).2.2.1 z
  funs := I.stack
  frf := I.stkFree
theorem inv_comp1 {h4 : Heap} {tk : Nat} (S : CompScope1 X.N M X.env.scope x sc) (I : Inv X pins σ H3 s3) (hf : ∀ b ∈ fp, FpOk X pins H3 b) (hl : ∀ b ∈ fp, b < s3.heap.objs.size)
    (hk : ∀ b o, s3.heap.get? b = some o → h4.get? b = some o) {m : Str → Option Value} (hn : h4.Ns s3.heap.objs.size m) :
    Inv (cxComp1 X M x sc fp s3 H3) [] (none :: σ) H3 { s3 with heap := h4, toks := tk } := by
  refine ⟨ok_comp1 S I hf hl, rfl, I.bare, Un.kept hk, ⟨m, hn, fun i z v h1 h2 h3 => ?_⟩, fun z c e => ?_, I.fresh, fun z c e => I.freeC z c (S.sub I.ok e), fun p hp => absurd (show p ∈ ([] : List (Addr × Obj)) from hp) (by simp), I.hok.kept hk, by show σ.length + 1 = M.length + 1; rw [I.len, S.len]⟩
  · match i, h1, h2 with
    | 0, h1, h2 => exact absurd (Option.some.inj h2) (by simp)
    | i + 1, h1, h2 =>
      have h1m : M[i]? = some z := h1
      have h2' : σ[i]? = some (some v) := h2
      have hyN : z ∈ M := List.mem_of_getElem? h1m
      have hfree : (z, NameKind.free) ∈ sc.names := by
        rcases h3 with h3 | h3 | h3
        · exact (S.noLocal hyN h3).elim
        · exact S.isFree (.inl h3)
        · exact S.isFree (.inr h3)
      have h1' : X.N[i]? = some z := by
        rcases S.hide i z h1m with q | q
        · exact q
        · exfalso
          obtain ⟨k, hk⟩ : ∃ k, sc.names.lookup z = some k := by
            cases e : sc.names.lookup z with
            | some k => exact ⟨k, rfl⟩
            | none =>
              rw [List.lookup_eq_none_iff] at e
              exact absurd (e _ hfree) (by simp)
          rw [hk] at q; cases q
      have hk0 := S.free _ hfree rfl
      obtain ⟨m0, hn0, hl0⟩ := I.loc
      obtain ⟨u, r, l⟩ := hl0 i z v h1' h2' (hk0.elim (fun q => .inr (.inl q)) (fun q => .inr (.inr q)))
      refine ⟨u, r, .inr ?_⟩
      have hv : (cxComp1 X M x sc fp s3 H3).env.kindOf z = some .cell ∨ (cxComp1 X M x sc fp s3 H3).env.kindOf z = some .free := by
        rcases h3 with h3 | h3 | h3
        · exact (S.noLocal hyN h3).elim
        · exact .inl h3
        · exact .inr h3
      refine ⟨hv, ?_⟩
      obtain ⟨c, hc⟩ := clGo_has (env := X.env) (y := z) sc.names [] (.inr hfree)
      refine ⟨c, hc, ?_⟩
      have hc' := S.sub I.ok hc
      rcases l with ⟨hk1, _⟩ | ⟨_, c2, e2, z2⟩
      · exfalso
        have hk1' : X.env.scope.names.lookup z = some .local := hk1
        have hk0' : X.env.scope.names.lookup z = some .cell ∨ X.env.scope.names.lookup z = some .free := hk0
        rw [hk1'] at hk0'
        rcases hk0' with q | q <;> cases q
      · rw [hc'] at e2; cases e2
        exact z2.keeps hk
  · obtain ⟨v, q⟩ := I.cell z c (S.sub I.ok e)
    exact ⟨v, q.keeps hk⟩
end

def tComp1 (wi : TI) (te : TE) : TE := fun σ H Q => wi σ H fun J H1 => ∀ p, H1 p = none →
  ∃ W : Nat → Nat → List V → Hp → Prop, (∃ m, W 0 m [] (upd H1 p (.lst []))) ∧ ∀ i m ys H, W i m ys H →
    (J.stop i H ∧ Q (.ref p) H) ∨ (J.go i H ∧ ∀ u H', J.yld i H u H' → 
      te (some u :: σ) H' fun v H3 => H3 p = some (.lst ys) ∧ ys.length < sizeLine ∧ ∃ m', m' < m ∧ W (i + 1) m' (ys ++ [v]) (upd H3 p (.lst (ys ++ [v]))))
section
variable {X : Cx} {M : List Str} {x : Str} {sc : Scope} {px pos : Pos} {k : Nat} {elt iter : Expr} {wi : TI} {te : TE}
theorem comp_core1 {pins : List (Addr × Obj)} {σ : St} {s2 : Shared} {H2 : Hp} {it : Addr} {fp : List Addr} {tn : Nat → Heap → Prop} {J : It} {Q : VK} {E : Value → Shared → Prop} {RR : Value → Addr → Result → Shared → Prop}
    (S : CompScope1 X.N M X.env.scope x sc) (hc : X.calm = true) (he : ∀ fp s3 H3, PE (cxComp1 X M x sc fp s3 H3) elt te)
    (I2 : Inv X pins σ H2 s2) (T : Turn X.prog X.w X.K (.Name x px) J fp it tn) (st2 : tn 0 s2.heap) (f2 : ∀ b ∈ fp, FpOk X pins H2 b)
    (h : ∀ p, H2 p = none → ∃ W : Nat → Nat → List V → Hp → Prop, (∃ m, W 0 m [] (upd H2 p (.lst []))) ∧ ∀ i m ys H, W i m ys H →
      (J.stop i H ∧ Q (.ref p) H) ∨ (J.go i H ∧ ∀ u H', J.yld i H u H' → 
        te (some u :: σ) H' fun v H3 => H3 p = some (.lst ys) ∧ ys.length < sizeLine ∧ ∃ m', m' < m ∧ W (i + 1) m' (ys ++ [v]) (upd H3 p (.lst (ys ++ [v])))))
    (hRR : ∀ (s3 : Shared) (H3 : Hp) (s' : Shared) (σ' : St) (H' : Hp), Inv X pins σ H3 s3 → (∀ b ∈ fp, FpOk X pins H3 b) → Inv (cxComp1 X M x sc fp s3 H3) [] σ' H' s' → Q (.ref s2.heap.objs.size) H' → RR (.ref s2.heap.objs.size) s3.heap.objs.size (.ok .next) s') :
    wpAny (model X.prog X.w) X.A (newList []) (fun acc s₃ => wpAny (model X.prog X.w) X.A (newFunctionEnv sc X.env.globals (clOf sc X.env) [] X.env.qual none .none (some X.env)) (fun cenv s₄ =>
      codeAny (model X.prog X.w) X.A (.compStart (.ListComp elt [⟨(.Name x px), iter, [], 0⟩] sc pos) 0 (.ref it) acc { cenv with scope := relabel sc X.env }) (RR acc cenv.locals) s₄) E s₃) E s2 := by
  obtain ⟨W, ⟨m0, w0⟩, turn⟩ := h s2.heap.objs.size I2.fresh
  refine wpAny_newList ?_
  have I3 : Inv X pins σ (upd H2 s2.heap.objs.size (.lst [])) { s2 with heap := s2.heap.push { cls := .type "list", data := .seq ([] : List Value).toArray } } := I2.lnew (ys := []) (t' := s2.toks) .nil (Nat.zero_le _)
  have fpl : ∀ b ∈ fp, b < s2.heap.objs.size := fun b hb => by
    obtain ⟨o, e, _⟩ := T.obj _ _ st2 b hb
    exact Heap.lt_size e
  have f3 : ∀ b ∈ fp, FpOk X pins (upd H2 s2.heap.objs.size (.lst [])) b := fun b hb => ⟨by rw [upd_ne (Nat.ne_of_lt (fpl b hb))]; exact (f2 b hb).1, (f2 b hb).2⟩
  have st3 : tn 0 (s2.heap.push { cls := .type "list", data := .seq ([] : List Value).toArray }) := T.keep _ _ _ st2 fun b _ o e => Heap.get?_push_of_some _ e
  generalize hs3 : ({ s2 with heap := s2.heap.push { cls := .type "list", data := .seq ([] : List Value).toArray } } : Shared) = s3 at *
  have st3' : tn 0 s3.heap := by rw [← hs3]; exact st3
  have fpl3 : ∀ b ∈ fp, b < s3.heap.objs.size := fun b hb => by
    obtain ⟨o, e, _⟩ := T.obj _ _ st3' b hb
    exact Heap.lt_size e
  refine wpAny_newFunctionEnv S.nocell (by intro y hy; simp at hy) (fun h₁ hns₁ hsb₁ => ?_) S.kind
  have keep4 : ∀ b o, s3.heap.get? b = some o → h₁.get? b = some o := fun b o e => (hsb₁.2 b (Nat.ne_of_lt (Heap.lt_size e))).trans (Heap.get?_push_of_some _ e)
  have I4 := inv_comp1 (fp := fp) (tk := s3.toks + ([] : List (Str × Value)).length) S I3 f3 fpl3 keep4 hns₁
  have st4 : tn 0 h₁ := T.keep _ _ _ st3' fun b _ o e => keep4 b o e
  generalize hs4 : ({ s3 with heap := h₁, toks := s3.toks + ([] : List (Str × Value)).length } : Shared) = s4 at *
  have st4' : tn 0 s4.heap := by rw [← hs4]; exact st4
  generalize hH3 : upd H2 s2.heap.objs.size (.lst []) = H3 at *
  have stat : ∀ {H' : Hp}, (∀ b ∈ fp, H' b = none) → ∀ b ∈ fp, FpOk (cxComp1 X M x sc fp s3 H3) [] H' b := fun hn b hb =>
    ⟨hn b hb, Nat.ne_of_lt (fpl3 b hb), I4.ok.exfs b hb, .inl hb, fun y c e => (f3 b hb).2.2.2.2.1 y c (S.sub I3.ok e), fun p hp => absurd (show p ∈ ([] : List (Addr × Obj)) from hp) (by simp)⟩
  have loop : codeAny (model X.prog X.w) X.A (.compLoop (.ListComp elt [⟨(.Name x px), iter, [], 0⟩] sc pos) 0 (.ref it) (.ref s2.heap.objs.size) (cxComp1 X M x sc fp s3 H3).env) (RR (.ref s2.heap.objs.size) s3.heap.objs.size) s4 := by
    refine compLoop_any (fun n s' => ∃ i o ys H', Inv (cxComp1 X M x sc fp s3 H3) [] (o :: σ) H' s' ∧ tn i s'.heap ∧ (∀ b ∈ fp, H' b = none) ∧ W i n ys H') ?_ m0 ⟨0, none, [], H3, I4, st4', fun b hb => (f3 b hb).1, w0⟩
    rintro n s5 ⟨i, o, ys, H5, I5, st5, fr5, w5⟩
    rcases turn i n ys H5 w5 with ⟨stop, q⟩ | ⟨go, step⟩
    · refine wpAny_mono (T.done (cxComp1 X M x sc fp s3 H3) rfl rfl rfl hc i [] s5 (o :: σ) H5 (fun _ _ => False) I5 (stat fr5) st5 stop) (fun r s6 ⟨hr, I6⟩ => ?_) fun _ _ z => z.elim
      subst hr
      exact hRR s3 H3 s6 _ H5 I3 f3 I6 q
    · refine wpAny_mono (T.item (cxComp1 X M x sc fp s3 H3) rfl rfl rfl hc i [] s5 (o :: σ) H5 (fun _ _ => False) I5 (stat fr5) st5 go) (fun r s6 ⟨u, hr, h6⟩ => ?_) fun _ _ z => z.elim
      subst hr
      refine wpAny_mono h6 (fun _ s6' ⟨tv, H6, I6, r6, y6, st6, fr6⟩ => ?_) fun _ _ z => z.elim
      have I6' := I6.pinned (stat fr6) (T.obj _ _ st6)
      have hx : (relabel sc X.env).names.lookup x = some .local := lookup_relabel_local S.here
      have nd' : (cxComp1 X M x sc fp s3 H3).N.Nodup := S.nd
      have q6 := step tv H6 y6
      refine wpAny_mono (pg_name (X := cxComp1 X M x sc fp s3 H3) (i := 0) (pos := px) nd' rfl (.inl hx) (.inr hx) _ s6' (o :: σ) H6 tv u (fun σ' H' => σ' = some tv :: σ ∧ H' = H6) I6' r6 ⟨rfl, rfl⟩) (fun _ s7 ⟨σ7, H7, I7, e7, e7'⟩ => ?_) fun _ _ z => z.elim
      subst e7 e7'
      have again : ∀ {H' : Hp} {s' : Shared} {ys' : List V}, Inv (cxComp1 X M x sc fp s3 H3) ([] ++ pinsAt fp s6'.heap) (some tv :: σ) H' s' → (∃ m', m' < n ∧ W (i + 1) m' ys' H') →
          ∃ m, m < n ∧ ∃ i o ys H', Inv (cxComp1 X M x sc fp s3 H3) [] (o :: σ) H' s' ∧ tn i s'.heap ∧ (∀ b ∈ fp, H' b = none) ∧ W i m ys H' := fun {H' s' ys'} I' ⟨m', hm, w'⟩ => by
        refine ⟨m', hm, i + 1, some tv, ys', H', I'.unpinned, T.keep _ _ _ st6 fun b hb ob e => (I'.pin (b, ob) (List.mem_append_right _ (List.mem_append_right _ (mem_pinsAt hb e)))).1, fun b hb => ?_, w'⟩
        obtain ⟨ob, e, d⟩ := T.obj _ _ st6 b hb
        exact (I'.pin (b, ob) (List.mem_append_right _ (List.mem_append_right _ (mem_pinsAt hb e)))).2.1
      refine wpAny_mono (he fp s3 H3 _ s7 _ H7 _ I7 q6) (fun v s9 ⟨yy, H9, I9, r9, hp, hz, q9⟩ => ?_) fun _ _ z => z.elim
      refine wpAny_mono (mt_append (X := cxComp1 X M x sc fp s3 H3) _ s9 _ H9 (.ref s2.heap.objs.size) [yy] (.ref s2.heap.objs.size) [v] (fun _ H' => H' = upd H9 s2.heap.objs.size (.lst (ys ++ [yy]))) I9 rfl (.cons r9 .nil) ⟨_, ys, yy, rfl, rfl, hp, hz, rfl⟩) (fun _ s10 ⟨_, H10, I10, _, e10⟩ => ?_) fun _ _ z => z.elim
      subst e10
      exact again I10 q9
  exact codeAny_compStart_list loop (T.self _ 0 _ _ _ st4' loop)
end
def compCheck1 (N M : List Str) (osc : Scope) (x : Str) (sc : Scope) : Bool :=
  (match sc.kind with | .function => true | _ => false) && sc.names.all (fun y => match y.2 with | .cell => false | _ => true)
  && sc.names.all (fun y => match y.2 with | .local => (match sc.names.lookup y.1 with | some .local => true | _ => false) | _ => true)
  && (match sc.names.lookup x with | some .local => true | _ => false) && M.all (fun y => !(y == x))
  && sc.names.all (fun y => match y.2 with | .free => (match osc.names.lookup y.1 with | some .cell => true | some .free => true | _ => false) | _ => true)
  && sc.names.all (fun y => match y.2 with | .local => (y.1 == x || (M.all (fun z => !(z == y.1))))| _ => true)
  && decide (M.length = N.length) && (List.range M.length).all (fun i => match M[i]?, N[i]? with | some a, some b => a == b || (match sc.names.lookup a with | none => true | _ => false) | _, _ => false)
theorem CompScope1.of {N M : List Str} {osc : Scope} {x : Str} {sc : Scope} (hN : M.Nodup) (h : compCheck1 N M osc x sc = true) : CompScope1 N M osc x sc := by
  unfold compCheck1 at h
  simp only [Bool.and_eq_true, List.all_eq_true, decide_eq_true_eq] at h
  obtain ⟨⟨⟨⟨⟨⟨⟨⟨h1, h2⟩, h3⟩, h4⟩, h5⟩, h6⟩, h7⟩, h8⟩, h9⟩ := h
  refine ⟨?_, fun y hy e => ?_, fun y hy e => ?_, ?_, List.nodup_cons.mpr ⟨fun hx => by have := h5 x hx; simp at this, hN⟩, h8, fun i z hz => ?_, fun y hy e => ?_, fun y hy e => ?_⟩
  · revert h1; cases sc.kind <;> simp
  · have := h2 y hy; rw [e] at this; exact absurd this (by simp)
  · have := h3 y hy; rw [e] at this
    revert this
    cases sc.names.lookup y.1 with
    | none => simp
    | some k => cases k <;> simp
  · revert h4
    cases sc.names.lookup x with
    | none => simp
    | some k => cases k <;> simp
  · have hl := (List.getElem?_eq_some_iff.mp hz).1
    have q := h9 i (List.mem_range.mpr hl)
    have hl' : i < N.length := by rw [← h8]; exact hl
    rw [hz, List.getElem?_eq_getElem hl'] at q
    rw [List.getElem?_eq_getElem hl']
    simp only [Bool.or_eq_true, beq_iff_eq] at q
    rcases q with q | q
    · exact .inl (by rw [q])
    · refine .inr ?_
      revert q
      cases sc.names.lookup z with
      | none => simp
      | some k => simp
  · have := h6 y hy; rw [e] at this
    revert this
    cases osc.names.lookup y.1 with
    | none => simp
    | some k => cases k <;> simp
  · have := h7 y hy; rw [e] at this
    simp only [Bool.or_eq_true, List.all_eq_true] at this
    rcases this with z | z
    · exact .inl (by simpa using z)
    · refine .inr fun q => ?_
      have := z _ q
      simp at this
/-! ### t + u, t empty: u itself -/
def rCat0 (K : PySem.W.Frag) : R2 := fun x y H Q => ∃ a b ys, x = .ref a ∧ y = .ref b ∧ SqT K H a [] ∧ SqT K H b ys ∧ Q (.ref b) H
theorem op_catT0 {X : Cx} : OpR X (binaryOp .Add) (rCat0 X.K) := by
  intro pins s σ H x y v u Q I rx ry h
  obtain ⟨a, b, ys, rfl, rfl, ha, hb, q⟩ := h
  cases rx
  cases ry
  obtain ⟨its, r1, p1, _⟩ := I.tuple ha
  obtain ⟨its2, r2, p2, _⟩ := I.tuple hb
  have e0 : its = [] := r1.nil_iff.mpr rfl
  subst e0
  obtain ⟨⟨c, dd, dt, sl⟩, ho, hc, n, hd⟩ := p1
  obtain ⟨⟨c2, dd2, dt2, sl2⟩, ho2, hc2, n2, hd2⟩ := p2
  replace hc : c = .type "tuple" := hc
  replace hd : dt = .seq ([] : List Value).toArray n := hd
  replace hc2 : c2 = .type "tuple" := hc2
  replace hd2 : dt2 = .seq its2.toArray n2 := hd2
  subst hc hd hc2 hd2
  exact concat_meets ⟨_, ho, rfl⟩ ⟨_, ho2, rfl⟩ noFill_tuple_add seq_tuple_add PySem.F.slot_tuple_add PySem.F.entry_tuple_add (PySem.F.args_tuple_add_2 _ _) (tuple_addW0 a b ([] : List Value).toArray its2.toArray n n2 dd dd2 sl sl2 rfl) ⟨ho, ho2, ⟨.ref b, H, I, rfl, q⟩⟩
def rCatA (K : PySem.W.Frag) : R2 := fun x y H Q => rCatT K x y H Q ∨ rCat0 K x y H Q
theorem op_catTA {X : Cx} {K : PySem.W.Frag} (h : X.K = K) : OpR X (binaryOp .Add) (rCatA K) := by subst h; exact OpR.or op_catT op_catT0
end L2

set_option Elab.async false
set_option linter.all false
set_option maxRecDepth 100000
set_option maxHeartbeats 4000000
namespace L2
open PySem PySem.Spec PyProof.Rows
/-! ### 1. the mirror: what each def is worth, over plain ints and lists -/
def worthI (ns : List Int) (f : Int) : Int := if f % 2 = 0 then ns.getD (f / 2).toNat 0 else -(ns.getD (f / 2).toNat 0)
def hashI (k seed : Int) : Int := (seed * 48271 % 65537) * (seed * 48271 % 65537 + 2 * k + 1) / 7 % 65521
def cellI (ns : List Int) (k : Int) : Int :=
  if k < ns.length then ns.getD k.toNat 0 else hashI k (if 0 < ns.length then k * 7919 + ns.getD (k % ns.length).toNat 0 % 65537 else k * 7919)
def bigI (c : Int) : Int := if c % 4 = 3 then c / 4 % (2 * 10 ^ 60 + 1) - 10 ^ 60 else c / 4 % 21 - 10
def pointI (ns : List Int) (k : Int) (n : Nat) : List Int := (List.range n).map fun (i : Nat) => bigI (cellI ns (k + (i : Int)))
theorem pointI_length (ns : List Int) (k : Int) (n : Nat) : (pointI ns k n).length = n := by simp [pointI]
theorem pointI_succ (ns : List Int) (k : Int) (n : Nat) : pointI ns k (n + 1) = pointI ns k n ++ [bigI (cellI ns (k + (n : Int)))] := by simp [pointI, List.range_succ]
theorem worthI_eq (ns : List Int) (f : Int) : ns.getD (f / 2).toNat 0 * (1 - f % 2 * 2) = worthI ns f := by
  unfold worthI
  by_cases h : f % 2 = 0
  · rw [if_pos h, h]; simp
  · have e : f % 2 = 1 := by omega
    rw [if_neg h, e]; omega
theorem eqvAll_ints : ∀ (a b : List Int), PyData.eqvAll (a.map PyData.int) (b.map PyData.int) = decide (a = b)
  | [], [] => by simp [PyData.eqvAll]
  | [], _ :: _ => by simp [PyData.eqvAll]
  | _ :: _, [] => by simp [PyData.eqvAll]
  | x :: a, y :: b => by
    rw [List.map_cons, List.map_cons, PyData.eqvAll, eqvAll_ints a b, PyData.eqv, Bool.eq_iff_iff]
    simp
theorem depth_ints : ∀ (a : List Int), PyData.depthAll (a.map PyData.int) ≤ 1
  | [] => by simp [PyData.depthAll]
  | x :: a => by
    have := depth_ints a
    simp [PyData.depthAll, PyData.depth]
    omega
/-! ### 2. the promises -/
structure Bl (mg : Str → Option Value) : Prop where
  len : mg "len" = none
  isinstance : mg "isinstance" = none
  int : mg "int" = none
  bool : mg "bool" = none
  tuple : mg "tuple" = none
  range : mg "range" = none
  list : mg "list" = none
  sum : mg "sum" = none
  str : mg "str" = none
  enumerate : mg "enumerate" = none
  zip : mg "zip" = none
  min : mg "min" = none
  max : mg "max" = none
def sp_worth (K : PySem.W.Frag) : Sp := fun vs H Q _ => ∃ (a : Addr) (ns : List Int) (f : Int), vs = [.ref a, .int f] ∧ SqT K H a (ns.map V.int) ∧ 0 ≤ f ∧ f < 2 * ns.length ∧ Q (.int (worthI ns f)) H
abbrev sp__law_worth := sp_worth
def sp__law_cell (K : PySem.W.Frag) : Sp := fun vs H Q _ => ∃ (a : Addr) (ns : List Int) (k : Int), vs = [.ref a, .int k] ∧ SqL K H a (ns.map V.int) ∧ 0 ≤ k ∧ Q (.int (cellI ns k)) H
def sp__law_whole (K : PySem.W.Frag) : Sp := fun vs H Q _ => ∃ i, vs = [.int i] ∧ Q (.bl true) H
def sp__law_big (K : PySem.W.Frag) : Sp := fun vs H Q _ => ∃ c, vs = [.int c] ∧ Q (.int (bigI c)) H
def sp__law_point (K : PySem.W.Frag) : Sp := fun vs H Q _ => ∃ (a : Addr) (ns : List Int) (k : Int) (n : Nat), vs = [.ref a, .int k, .int n] ∧ SqL K H a (ns.map V.int) ∧ 0 ≤ k ∧ n ≤ 100 ∧
  ∀ p H', H p = none → Same H H' → H' p = some (.tup ((pointI ns k n).map V.int)) → Q (.ref p) H'
def sp_law (K : PySem.W.Frag) : Sp := fun vs H Q _ => ∃ (a : Addr) (ns : List Int), vs = [.ref a] ∧ SqL K H a (ns.map V.int) ∧ ns.length ≤ 63 ∧ ∀ H', Q (.bl true) H'
def cellAt (K : PySem.W.Frag) (a : Addr) (ns : List Int) : Sp := fun vs H Q _ => ∃ k, vs = [.ref a, .int k] ∧ 0 ≤ k ∧ SqL K H a (ns.map V.int) ∧ Q (.int (cellI ns k)) H
theorem cellAt_of {K : PySem.W.Frag} {a : Addr} {ns : List Int} : ∀ vs H Q E, cellAt K a ns vs H Q E → sp__law_cell K vs H Q E := fun vs H Q E ⟨k, e, h0, hS, q⟩ => ⟨a, ns, k, e, hS, h0, q⟩
theorem count_of (c : Int) : ∃ n : Nat, 1 + c % 6 = (n : Int) ∧ 1 ≤ n ∧ n ≤ 6 := ⟨(1 + c % 6).toNat, by omega, by omega, by omega⟩
theorem pt_of (ns : List Int) (k : Int) (n : Nat) : ∃ xs : List Int, pointI ns k n = xs ∧ xs.length = n := ⟨_, rfl, pointI_length ns k n⟩
/-! ### questions -/
def gV : Option Int → V
  | none => .non
  | some g => .int g
def formsI (f : Int) : Option Int → List Int
  | none => [f]
  | some g => [f, g]
def sumI (xs : List Int) (f : Int) : Option Int → Int
  | none => worthI xs f
  | some g => worthI xs f + worthI xs g
def holdsI (w : Str) (s c : Int) : Bool := if w = Str.ofString "most" then decide (s ≤ c) else if w = Str.ofString "least" then decide (c ≤ s) else if w = Str.ofString "same" then decide (s = c) else !decide (s = c)
def InR (n : Nat) (f : Int) : Prop := 0 ≤ f ∧ f < 2 * (n : Int)
def InG (n : Nat) : Option Int → Prop
  | none => True
  | some g => InR n g
theorem sum_formsI (xs : List Int) (f : Int) (g : Option Int) : ((formsI f g).map (worthI xs)).sum = sumI xs f g := by cases g <;> simp [formsI, sumI]
theorem formsI_in {n : Nat} {f : Int} {g : Option Int} (hf : InR n f) (hg : InG n g) : ∀ h ∈ formsI f g, InR n h := by
  intro h hh
  cases g with
  | none =>
    have : h = f := by simpa [formsI] using hh
    subst this; exact hf
  | some g =>
    have : h = f ∨ h = g := by simpa [formsI] using hh
    rcases this with rfl | rfl
    · exact hf
    · exact hg
def sp_total (K : PySem.W.Frag) : Sp := fun vs H Q _ => ∃ (a b : Addr) (xs fs : List Int), vs = [.ref a, .ref b] ∧ SqT K H a (xs.map V.int) ∧ SqL K H b (fs.map V.int) ∧ (∀ f ∈ fs, InR xs.length f) ∧ fs.length ≤ 1000 ∧ ∀ H', Same H H' → Q (.int (fs.map (worthI xs)).sum) H'
def sp_sum_forms (K : PySem.W.Frag) : Sp := fun vs H Q _ => ∃ (b : Addr) (f : Int) (g : Option Int) (w : Str) (c : Int), vs = [.ref b] ∧ SqT K H b [.int f, gV g, .str w, .int c] ∧ ∀ p H', Same H H' → H' p = some (.lst ((formsI f g).map V.int)) → Q (.ref p) H'
def sp_holds (K : PySem.W.Frag) : Sp := fun vs H Q _ => ∃ (a b : Addr) (xs : List Int) (f : Int) (g : Option Int) (w : Str) (c : Int), vs = [.ref a, .ref b] ∧ SqT K H a (xs.map V.int) ∧ SqT K H b [.int f, gV g, .str w, .int c] ∧ InR xs.length f ∧ InG xs.length g ∧
  ∀ H', Same H H' → Q (.bl (holdsI w (sumI xs f g) c)) H'
/-! ### stage 2: tables, sides, points -/
abbrev Tb := Oct.Tb
theorem paired_snoc {α β : Type} {R : α → β → Prop} {a : α} {b : β} : ∀ {xs : List α} {ys : List β}, Paired R xs ys → R a b → Paired R (xs ++ [a]) (ys ++ [b])
  | _, _, .nil, r => .cons r .nil
  | _, _, .cons q t, r => .cons q (paired_snoc t r)
theorem same_over {H H' : Hp} {p : Addr} {o : HO} (h : H p = none) (s : Same H H') : Same H (upd H' p o) := fun b u q => by
  rw [upd_ne (ne_of_none q h)]; exact s b u q
structure TabNew (H H' : Hp) (p : Addr) (bs : List Addr) (t : Tbl) : Prop where
  tab : TabAt H' p bs t
  newT : H p = none
  newL : ∀ b ∈ bs, H b = none
def ShapeAt (H : Hp) (v : V) (N : Nat) : Option Tb → Prop
  | none => v = .non
  | some c => ∃ a bs, v = .ref a ∧ TabAt H a bs (Oct.toT N c)
def ShapeNew (H H' : Hp) (v : V) (N : Nat) : Option Tb → Prop
  | none => v = .non
  | some c => ∃ a bs, v = .ref a ∧ TabNew H H' a bs (Oct.toT N c)
theorem ShapeNew.at {H H' : Hp} {v : V} {N : Nat} : ∀ {o : Option Tb}, ShapeNew H H' v N o → ShapeAt H' v N o
  | none, h => h
  | some _, ⟨a, bs, e, T⟩ => ⟨a, bs, e, T.tab⟩
def belowE (e : Ent) (z : Int) : Bool := match e with
  | some x => decide (x < z)
  | none => false
/-! ### the promises of stage 2 -/
def sp_below (K : PySem.W.Frag) : Sp := fun vs H Q _ => ∃ (e : Ent) (z : Int), vs = [eV e, .int z] ∧ Q (.bl (belowE e z)) H
/-! ### a table that grows line by line, all of it new -/
def Grow (H H' : Hp) (p : Addr) (ys : List V) (t : Tbl) : Prop := ∃ bs, ys = bs.map V.ref ∧ TabNew H H' p bs t ∧ Same H H'
theorem Grow.start {H : Hp} {p : Addr} (hp : H p = none) : Grow H (upd H p (.lst [])) p [] [] :=
  ⟨[], rfl, ⟨⟨upd_same, List.nodup_nil, by simp, .nil⟩, hp, by simp⟩, same_new hp _⟩
theorem Grow.len {H H' : Hp} {p : Addr} {ys : List V} {t : Tbl} (G : Grow H H' p ys t) : ys.length = t.length := by
  obtain ⟨bs, rfl, T, _⟩ := G
  rw [List.length_map, T.tab.len]
theorem belowE_neg0 (e : Ent) : belowE e 0 = Oct.neg0 e := by cases e <;> rfl
theorem at_nat {xs : List V} {j : Nat} {v : V} (h : xs[j]? = some v) : atI xs (j : Int) = some v := atI_nat h
theorem take_succ_of {α : Type} {l : List α} {i : Nat} {x : α} (h : l[i]? = some x) : l.take (i + 1) = l.take i ++ [x] := by rw [List.take_add_one, h]; rfl
theorem at_of {fs : List Int} {i : Nat} {y : V} (hi : (fs.map V.int)[i]? = some y) : ∃ h : i < fs.length, y = .int fs[i] := by
  have hil : i < fs.length := by
    have := (List.getElem?_eq_some_iff.mp hi).1
    rwa [List.length_map] at this
  refine ⟨hil, ?_⟩
  rw [List.getElem?_map, List.getElem?_eq_getElem hil] at hi
  exact (Option.some.inj hi).symm
theorem cut_ints (ns : List Int) (lo hi : Option Int) : ∃ cs : List Int, cutV (ns.map V.int) lo hi = cs.map V.int ∧ cs.length ≤ ns.length := by
  refine ⟨(ns.drop (HT.sIx ns.length 0 lo)).take (HT.sIx ns.length ns.length hi - HT.sIx ns.length 0 lo), ?_, ?_⟩
  · simp [cutV, List.map_take, List.map_drop]
  · simp; omega
end L2

set_option Elab.async false
set_option linter.all false
set_option maxRecDepth 100000
set_option maxHeartbeats 4000000
/-! for over range(i, j, k) -/
namespace L2
open PySem PySem.Spec PyProof.Rows
end L2

/-! Forms reached in a shape; still no kit. -/
set_option linter.all false
namespace Oct
/-! ### two forms reached -/
end Oct

set_option Elab.async false
set_option linter.all false
set_option maxRecDepth 100000
set_option maxHeartbeats 4000000
/-! x in xs, xs.remove(x), xs.count(x) of ints -/
namespace L2
open PySem PySem.Spec PyProof.Rows
section
variable {X : Cx}
end
/-! ### arguments by their kind: the look at each is made once -/
section
variable {X : Cx} {es : List Expr} {te : TE} {t : TA}
theorem pa_Constant {c : Const} {k : Nat} {p : Pos} (ha : PE X (.Constant c k p) te) (hr : PA X es t) : PA X (.Constant c k p :: es) (tCons te t) := pa_cons ha hr (by rfl)
theorem pa_Name {x : Str} {p : Pos} (ha : PE X (.Name x p) te) (hr : PA X es t) : PA X (.Name x p :: es) (tCons te t) := pa_cons ha hr (by rfl)
theorem pa_BinOp {a b : Expr} {o : Operator} {p : Pos} (ha : PE X (.BinOp a o b p) te) (hr : PA X es t) : PA X (.BinOp a o b p :: es) (tCons te t) := pa_cons ha hr (by rfl)
theorem pa_Call {f : Expr} {as : List Expr} {ks : List Keyword} {p : Pos} (ha : PE X (.Call f as ks p) te) (hr : PA X es t) : PA X (.Call f as ks p :: es) (tCons te t) := pa_cons ha hr (by rfl)
theorem pa_Subscript {a b : Expr} {p : Pos} (ha : PE X (.Subscript a b p) te) (hr : PA X es t) : PA X (.Subscript a b p :: es) (tCons te t) := pa_cons ha hr (by rfl)
theorem pa_List {as : List Expr} {p : Pos} (ha : PE X (.List as p) te) (hr : PA X es t) : PA X (.List as p :: es) (tCons te t) := pa_cons ha hr (by rfl)
end
/-! ### a list of written ints, at one look -/
end L2

/-! Three forms reached, with the very number at which the third one is held; still no kit. -/
set_option linter.all false
set_option maxHeartbeats 4000000
namespace Oct
/-! ### the greatest of three -/
end Oct

set_option Elab.async false
set_option linter.all false
set_option maxRecDepth 100000
set_option maxHeartbeats 4000000
/-! min(xs, default = d) of a list of ints -/
namespace L2
open PySem PySem.Spec PyProof.Rows
section
variable {P : Program} {w : World} {A : Around} {R : Result → Shared → Prop}
end
section
variable {P : Program} {w : World} {A : Around} {s : Shared} {E : Value → Shared → Prop} {Q : Value → Shared → Prop}
end
section
variable {P : Program} {w : World} {A : Around} {R : Result → Shared → Prop}
end
section
variable {P : Program} {w : World} {A : Around} {s : Shared} {E : Value → Shared → Prop} {Q : Value → Shared → Prop}
end
/-! ### as a call with its keyword -/
section
variable {X : Cx} {K : PySem.W.Frag} {e d : Expr} {ta tk : TA} {p kp pos : Pos}
end
/-! ### lists of entries without their Nones -/
end L2

set_option Elab.async false
set_option linter.all false
set_option maxRecDepth 100000
set_option maxHeartbeats 4000000
/-! enumerate of a tuple -/
namespace L2
open PySem PySem.Spec PyProof.Rows
open Sem (wp)
open Builtin Builtin.Str
section
variable {prog : Program} {w : World} {A : Around} {E : Value → Shared → Prop} {s : Shared}
open AutoSeq1 (wpAny_loadPart')
end
end L2

set_option Elab.async false
set_option linter.all false
set_option maxRecDepth 100000
set_option maxHeartbeats 4000000
/-! return [1, 2, .., e][i]; lists of a known length -/
namespace L2
open PySem PySem.Spec PyProof.Rows
end L2

set_option Elab.async false
set_option linter.all false
set_option maxRecDepth 100000
set_option maxHeartbeats 4000000
/-! x not in a list or a tuple -/
namespace L2
open PySem PySem.Spec PyProof.Rows
end L2

set_option Elab.async false
set_option linter.all false
set_option maxRecDepth 100000
set_option maxHeartbeats 4000000
/-! own classes: methods, instances; a comprehension over a tuple -/
namespace L2
open PySem PySem.Spec PyProof.Rows
structure FDef (P : Program) (w : World) (K : PySem.W.Frag) (mg : Str → Option Value) (base : Heap) (CX : CXT) (k : Nat) (ps : List Str) (sp : Sp) (f : Addr) : Prop where
  ex : ∃ fd, FnOk P w K mg base CX k f fd ps sp ∧ Binds K fd ps []
section
variable {X : Cx} {CX : CXT} {k : Nat} {m x : Str} {ps : List Str} {sp : Sp} {E : XK} {e o : Expr} {es : List Expr} {t : TA} {ta : TE} {p pos apos : Pos} {f C : Addr} {K : PySem.W.Frag}
theorem pe_mdef {pl : Sem Bool} (F : FDef X.prog X.w X.K X.mg X.base CX k ps sp f) (c : Cls X.K C) (hm : Meth X.K C m f) (he : PE X o ta) (hr : Room k X.A) (hx : Passes CX X E) (ha : PA X (e :: es) t)
    (hst : starEach (e :: es) X.env = (false, eval e X.env) :: starEach es X.env := by rfl) (hpl : (backTo pos (starEach es X.env)).any (·.1) = false := by rfl)
    (ht : eval (.Call (.Attribute o m apos) (e :: es) [] pos) X.env = (do
      let ov ← eval o X.env
      standAt apos.atName
      let (f, first) ← holding [ov] (getMethod ov m pl)
      callWith pos f first (backTo pos (starEach (e :: es) X.env)) (backToKw pos (keywordEach [] X.env))) := by rfl) :
    PE X (.Call (.Attribute o m apos) (e :: es) [] pos) (tMeth C m sp [] E ta t) := by
  obtain ⟨fd, G, b⟩ := F.ex
  exact pe_meth (pl := pl) he c hm G hr b .nil hx ha hst hpl ht
theorem pe_mdef0 {pl : Sem Bool} (F : FDef X.prog X.w X.K X.mg X.base CX k ps sp f) (c : Cls X.K C) (hm : Meth X.K C m f) (he : PE X o ta) (hr : Room k X.A) (hx : Passes CX X E)
    (ht : eval (.Call (.Attribute o m apos) [] [] pos) X.env = (do
      let ov ← eval o X.env
      standAt apos.atName
      let (f, first) ← holding [ov] (getMethod ov m pl)
      callWith pos f first (backTo pos (starEach [] X.env)) (backToKw pos (keywordEach [] X.env))) := by rfl) :
    PE X (.Call (.Attribute o m apos) [] [] pos) (tMeth C m sp [] E ta tNil) := by
  obtain ⟨fd, G, b⟩ := F.ex
  exact pe_meth0 (pl := pl) he c hm G hr b .nil hx ht
theorem pe_cdef (F : FDef X.prog X.w X.K X.mg X.base CX k ps sp f) (M : Mk X.K C f) (hm : X.mg x = some (.ref C)) (hr : Room (k + 1) X.A) (hg : Gl X x) (hx : Passes CX X E)
    (ha : PA X (e :: es) t) (hdb : (x == ("__debug__" : Str)) = false := by decide) (he : starEach (e :: es) X.env = (false, eval e X.env) :: starEach es X.env := by rfl) (hpl : (backTo pos (starEach es X.env)).any (·.1) = false := by rfl) :
    PE X (.Call (.Name x p) (e :: es) [] pos) (tMake C sp [] E t) := by
  obtain ⟨fd, G, b⟩ := F.ex
  exact pe_make M G hr hg hm b .nil hx ha hdb he hpl
structure MkO (K : PySem.W.Frag) (C : Addr) : Prop where
  makes : PySem.W.makesIn K C = true
  init : PySem.W.findIn K (.ref C) "__init__" = some (some (.builtin "object.__init__"))
  kp : PySem.W.keepIn K (.ref C) = true
def tMakeO (C : Addr) : TE := fun _ H Q => ∀ x dx, H x = none → H dx = none → dx ≠ x → Q (.ref x) (upd (upd H dx (.own x)) x (.ins C dx []))
theorem pe_odef0 (M : MkO X.K C) (hm : X.mg x = some (.ref C)) (hg : Gl X x) (hdb : (x == ("__debug__" : Str)) = false := by decide) : PE X (.Call (.Name x p) [] [] pos) (tMakeO C) := by
  intro pins s σ H Q I h
  refine wpAny_Call_Name_kw (ld_glob I hg hm ?_ hdb)
  refine PySem.W.callWith_K0 I.kIn M.kp ?_
  have hq := h (s.heap.objs.size + 1) s.heap.objs.size (I.hok.fresh (Nat.le_succ _)) (I.hok.fresh (Nat.le_refl _)) (Nat.ne_of_lt (Nat.lt_succ_self _))
  have I2 := Inv.made (C := C) I
  refine wpAny_call (make_map0 I.kIn M.makes M.init (fun self => PySem.W.Looks.of_pure (PySem.W.oi_bind self)) ?_)
  have Y := PySem.W.makes_of (M := model X.prog X.w) I.kIn M.makes
  have e2 : ((s.heap.push PySem.W.emptyDict).push (PySem.W.instObj C s.heap.objs.size)).get? (s.heap.objs.size + 1) = some (PySem.W.instObj C s.heap.objs.size) := by
    have z := Heap.get?_push_size (s.heap.push PySem.W.emptyDict) (o := PySem.W.instObj C s.heap.objs.size) rfl
    rwa [Heap.size_push] at z
  have t1 : PySem.W.Looks (model X.prog X.w) ((s.heap.push PySem.W.emptyDict).push (PySem.W.instObj C s.heap.objs.size)) (typeOf (.ref (s.heap.objs.size + 1))) (.ref C) := (PySem.W.Looks.ld e2).andThen .now
  have t2 : PySem.W.Looks (model X.prog X.w) ((s.heap.push PySem.W.emptyDict).push (PySem.W.instObj C s.heap.objs.size)) (isInstance (.ref (s.heap.objs.size + 1)) (.type "object")) true := t1.andThen (Y.top.keeps fun b o e => Heap.get?_push_of_some _ (Heap.get?_push_of_some _ e))
  refine codeAny_call_builtin PySem.W.oi_plain PySem.W.entry_oi (PySem.W.check_slot PySem.W.oi_kind PySem.W.oi_split t2 (PySem.W.oi_args _) ?_)
  rw [PySem.W.oi_run]
  exact wpAny_pure (And.intro rfl ⟨V.ref (s.heap.objs.size + 1), _, I2, rfl, hq⟩)
theorem pe_either {e : Expr} {t1 t2 : TE} (h1 : PE X e t1) (h2 : PE X e t2) : PE X e (fun σ H Q => t1 σ H Q ∨ t2 σ H Q) := fun pins s σ H Q I h => h.elim (fun z => h1 pins s σ H Q I z) fun z => h2 pins s σ H Q I z
theorem pe_fldK (h : X.K = K) {f : Str} (he : PE X o ta) (hb : attributeBase o f X.env (eval o X.env) = eval o X.env := by rfl) : PE X (.Attribute o f pos) (tFld K ta f) := by subst h; exact pe_fld he hb
theorem ps_fldK (h : X.K = K) {f : Str} {value : Expr} {tv : TE} {pos' : Pos} (ha : PE X o ta) (hv : PE X value tv) (hs : swapsWith value (some (.Attribute o f pos')) pos.line X.env = pure false := by rfl) : PS X (.Assign [.Attribute o f pos'] value pos) (sFld K ta tv f) := by subst h; exact ps_fld ha hv hs
end
theorem comp_tupN {K : PySem.W.Frag} {a p : Addr} {xs : List V} {tc : TT} {te : TE} {σ : St} {H : Hp} {Z : Hp → Prop} (Pv : Nat → List V → Hp → Prop) (h0 : Pv 0 [] (upd H p (.lst []))) (hl : ∀ i ys H, i ≤ xs.length → Pv i ys H → SqT K H a xs)
    (hs : ∀ i x ys H, xs[i]? = some x → Pv i ys H → tc (some x :: σ) H fun b H2 =>
      if b = true then te (some x :: σ) H2 fun v H3 => H3 p = some (.lst ys) ∧ ys.length < sizeLine ∧ ∃ m', m' < xs.length - i ∧ m' = xs.length - (i + 1) ∧ i + 1 ≤ xs.length ∧ Pv (i + 1) (ys ++ [v]) (upd H3 p (.lst (ys ++ [v]))) else ∃ m', m' < xs.length - i ∧ m' = xs.length - (i + 1) ∧ i + 1 ≤ xs.length ∧ Pv (i + 1) ys H2)
    (hd : ∀ ys H, Pv xs.length ys H → Z H) :
    ∃ W : Nat → Nat → List V → Hp → Prop, (∃ m, W 0 m [] (upd H p (.lst []))) ∧ ∀ i m ys H, W i m ys H →
      ((Itt K a).stop i H ∧ Z H) ∨ ((Itt K a).go i H ∧ ∀ x H', (Itt K a).yld i H x H' → tc (some x :: σ) H' fun b H2 =>
        if b = true then te (some x :: σ) H2 fun v H3 => H3 p = some (.lst ys) ∧ ys.length < sizeLine ∧ ∃ m', m' < m ∧ W (i + 1) m' (ys ++ [v]) (upd H3 p (.lst (ys ++ [v])))
        else ∃ m', m' < m ∧ W (i + 1) m' ys H2) := by
  refine ⟨fun i m ys H => m = xs.length - i ∧ i ≤ xs.length ∧ Pv i ys H, ⟨xs.length, by simp, Nat.zero_le _, h0⟩, ?_⟩
  rintro i m ys H ⟨rfl, hi, pv⟩
  have q := hl i ys H hi pv
  by_cases hlt : i < xs.length
  · refine .inr ⟨⟨xs, xs[i], q, by simp [hlt]⟩, fun x H' y => ?_⟩
    obtain ⟨e, y⟩ := y
    subst e
    exact hs i x ys _ (y xs q) pv
  · have e : i = xs.length := by omega
    subst e
    exact .inl ⟨⟨xs, q, Nat.le_refl _⟩, hd ys H pv⟩
section
variable {X : Cx} {x : Str} {px pos : Pos} {sc : Scope} {M : List Str} {elt iter : Expr} {wi : TI} {te : TE}
theorem ps_setC1 {i : Nat} {y : Str} {py spos : Pos} (S : CompScope1 X.N M X.env.scope x sc) (hc : X.calm = true) (hi : PI X (.Name x px) iter wi) (he : ∀ fp s3 H3, PE (cxComp1 X M x sc fp s3 H3) elt te)
    (hN : X.N.Nodup) (hy : X.N[i]? = some y) (hl : Loc X.env.scope y) (hsw : swapsWith (.ListComp elt [⟨.Name x px, iter, [], 0⟩] sc pos) (some (.Name y py)) spos.line X.env = pure true)
    (hs : ∀ x, foldedSetIterable iter X.env x = pure x := by intro _; rfl) (hf : X.fn y = true ∨ X.env.scope.names.lookup y = some .local := by first | exact .inl rfl | exact .inr rfl | assumption) :
    PS X (.Assign [.Name y py] (.ListComp elt [⟨.Name x px, iter, [], 0⟩] sc pos) spos) (tAsg (tComp1 wi te) (gName i)) := by
  intro pins s σ H D I h
  rw [exec_Assign_Name_used _ _ _ _ hsw]
  refine wpAny_bind (wpAny_standAt (wpAny_bind ?_))
  show wpAny _ X.A (do let _ ← comprehension (.ListComp elt [⟨.Name x px, iter, [], 0⟩] sc pos) sc X.env _ (newList []) false (eval iter X.env) (some (assign (.Name y py) X.env))) _ _ s
  refine wpAny_bind (wpAny_mono (wpAny_comprehension_free (use := some (assign (.Name y py) X.env)) (cl := clOf sc X.env) (Q := fun _ s' => SP X pins D .next s') rfl hs (closure_is (S.cells I.ok)) S.kind S.names
    (thn (hi pins s σ H _ I h) fun v s1 h1 => thn h1 fun itv s2 h2 => ?_)) (fun _ s' hq => wpAny_pure (wpAny_pure hq)) fun _ _ e => e)
  obtain ⟨it, fp, tn, J, H2, e, I2, T, st2, f2, q2⟩ := h2
  subst e
  refine comp_core1 (RR := fun acc C => compPost (model X.prog X.w) X.A X.xe (some (assign (.Name y py) X.env)) (fun _ s' => SP X pins D .next s') acc C) (Q := fun v H' => D.nx (σ.set i (some v)) H') S hc he I2 T st2 f2 q2 ?_
  intro s3 H3 s' σ' H' I3 f3 J' q'
  obtain ⟨m, hn, _⟩ := J'.loc
  have I1 : Inv X pins σ H' s' := I3.call' (ch := fp) J'.os J'.base J'.hok J'.bare fun b hb => ⟨(f3 b hb).2.2.2.1, (f3 b hb).2.1, (f3 b hb).2.2.2.2.1, (f3 b hb).2.2.2.2.2⟩
  have cL : s3.heap.objs.size ≠ X.env.locals := Nat.ne_of_gt I3.lt
  have cC : ∀ z c, X.env.cells.lookup z = some c → c ≠ s3.heap.objs.size := fun z c e q => by
    obtain ⟨v, w⟩ := I3.cell z c e
    exact absurd w.lt (by rw [q]; exact Nat.lt_irrefl _)
  have cP : ∀ p ∈ X.pn ++ pins, p.1 ≠ s3.heap.objs.size := fun p hp z => absurd (Heap.lt_size (I3.pin p hp).1) (by rw [z]; exact Nat.lt_irrefl _)
  show wpAny _ X.A (assign (.Name y py) X.env (.ref s2.heap.objs.size)) _ _ s'
  refine wpAny_assign_Name (store_ok2 (v := .ref s2.heap.objs.size) I1 hN hy hl rfl (fun s4 I4 ⟨a, sb, ha⟩ => ?_) hf)
  have ne : s3.heap.objs.size ≠ a := by
    rcases ha with z | z
    · rw [z]; exact cL
    · exact (cC _ _ z).symm
  refine ⟨m, hn.sameBut sb ne, fun h' hs' => ⟨_, H', ?_, q'⟩⟩
  exact I4.turned (t' := s4.toks) (it := s3.heap.objs.size) (fun b o hb e => (hs'.2 b hb).trans e) J'.free cL (.inr I3.sz) cC cP
end
theorem comp_list1 {K : PySem.W.Frag} {a p : Addr} {xs : List V} {te : TE} {σ : St} {H : Hp} {Z : Hp → Prop} (Pv : Nat → List V → Hp → Prop) (h0 : Pv 0 [] (upd H p (.lst []))) (hl : ∀ i ys H, i ≤ xs.length → Pv i ys H → SqL K H a xs)
    (hs : ∀ i x ys H, xs[i]? = some x → Pv i ys H → te (some x :: σ) H fun v H3 => H3 p = some (.lst ys) ∧ ys.length < sizeLine ∧ ∃ m', m' < xs.length - i ∧ m' = xs.length - (i + 1) ∧ i + 1 ≤ xs.length ∧ Pv (i + 1) (ys ++ [v]) (upd H3 p (.lst (ys ++ [v]))))
    (hd : ∀ ys H, Pv xs.length ys H → Z H) :
    ∃ W : Nat → Nat → List V → Hp → Prop, (∃ m, W 0 m [] (upd H p (.lst []))) ∧ ∀ i m ys H, W i m ys H →
      ((Itl K a).stop i H ∧ Z H) ∨ ((Itl K a).go i H ∧ ∀ x H', (Itl K a).yld i H x H' → te (some x :: σ) H' fun v H3 => H3 p = some (.lst ys) ∧ ys.length < sizeLine ∧ ∃ m', m' < m ∧ W (i + 1) m' (ys ++ [v]) (upd H3 p (.lst (ys ++ [v])))) := by
  refine ⟨fun i m ys H => m = xs.length - i ∧ i ≤ xs.length ∧ Pv i ys H, ⟨xs.length, by simp, Nat.zero_le _, h0⟩, ?_⟩
  rintro i m ys H ⟨rfl, hi, pv⟩
  have q := hl i ys H hi pv
  by_cases hlt : i < xs.length
  · refine .inr ⟨⟨xs, xs[i], q, by simp [hlt]⟩, fun x H' y => ?_⟩
    obtain ⟨e, y⟩ := y
    subst e
    exact hs i x ys _ (y xs q) pv
  · have e : i = xs.length := by omega
    subst e
    exact .inl ⟨⟨xs, q, Nat.le_refl _⟩, hd ys H pv⟩
end L2

set_option Elab.async false
set_option linter.all false
set_option maxRecDepth 100000
set_option maxHeartbeats 4000000
namespace T
open PySem L2
def top (i : Nat) : Stmt := PySem.Challenge.pw_eightsides_k25_deeds_done.main.body.getD i (.Pass ⟨0, 0, 0, 0⟩)
def clsBody : Stmt → List Stmt
  | .ClassDef _ _ _ b _ _ _ _ _ _ _ => b
  | _ => []
abbrev s_below : Stmt := top 2
abbrev s_worth : Stmt := top 4
abbrev s_total : Stmt := top 5
abbrev s_with_number : Stmt := top 7
abbrev s_amount_at : Stmt := top 8
abbrev s_amount_forms : Stmt := top 9
abbrev s_holds : Stmt := top 11
abbrev s_sum_forms : Stmt := top 12
abbrev s_Deed_asks : Stmt := (clsBody (top 14)).getD 0 (.Pass ⟨0, 0, 0, 0⟩)
abbrev s_Go_done : Stmt := (clsBody (top 15)).getD 0 (.Pass ⟨0, 0, 0, 0⟩)
abbrev s_Keep_init : Stmt := (clsBody (top 16)).getD 0 (.Pass ⟨0, 0, 0, 0⟩)
abbrev s_Keep_done : Stmt := (clsBody (top 16)).getD 1 (.Pass ⟨0, 0, 0, 0⟩)
abbrev s_Put_init : Stmt := (clsBody (top 17)).getD 0 (.Pass ⟨0, 0, 0, 0⟩)
abbrev s_Put_done : Stmt := (clsBody (top 17)).getD 1 (.Pass ⟨0, 0, 0, 0⟩)
abbrev s_Ask_init : Stmt := (clsBody (top 18)).getD 0 (.Pass ⟨0, 0, 0, 0⟩)
abbrev s_Ask_asks : Stmt := (clsBody (top 18)).getD 1 (.Pass ⟨0, 0, 0, 0⟩)
abbrev s_Ask_done : Stmt := (clsBody (top 18)).getD 2 (.Pass ⟨0, 0, 0, 0⟩)
abbrev s_Ask_between_ends : Stmt := (clsBody (top 18)).getD 3 (.Pass ⟨0, 0, 0, 0⟩)
abbrev s__law_cell : Stmt := top 20
abbrev s__law_whole : Stmt := top 21
abbrev s__law_big : Stmt := top 22
abbrev s__law_point : Stmt := top 23
abbrev s__law_worth : Stmt := top 24
abbrev s__law_sum : Stmt := top 25
abbrev s__law_point_like : Stmt := top 26
abbrev s__law_holds : Stmt := top 27
abbrev s__law_question : Stmt := top 28
abbrev s__law_change : Stmt := top 29
abbrev s__law_ask : Stmt := top 30
abbrev s__law_deed : Stmt := top 31
abbrev s__law_made : Stmt := top 32
abbrev s__law_step : Stmt := top 33
abbrev s__law_alike : Stmt := top 34
abbrev s__law_drawn : Stmt := top 35
abbrev s_law : Stmt := top 36
structure Kl (K : PySem.W.Frag) (mg : Str → Option Value) (Z_Go Z_Keep Z_Put Z_Ask f_Deed_asks f_Go_done f_Keep_init f_Keep_done f_Put_init f_Put_done f_Ask_init f_Ask_asks f_Ask_done f_Ask_between_ends : Addr) : Prop where
  cl_Go : Cls K Z_Go
  cl_Keep : Cls K Z_Keep
  cl_Put : Cls K Z_Put
  cl_Ask : Cls K Z_Ask
  me_Go_done : Meth K Z_Go "done" f_Go_done
  me_Keep_done : Meth K Z_Keep "done" f_Keep_done
  me_Put_done : Meth K Z_Put "done" f_Put_done
  me_Ask_done : Meth K Z_Ask "done" f_Ask_done
  me_Go_asks : Meth K Z_Go "asks" f_Deed_asks
  me_Keep_asks : Meth K Z_Keep "asks" f_Deed_asks
  me_Put_asks : Meth K Z_Put "asks" f_Deed_asks
  me_Ask_asks : Meth K Z_Ask "asks" f_Ask_asks
  me_Ask_between_ends : Meth K Z_Ask "between_ends" f_Ask_between_ends
  mk_Go : MkO K Z_Go
  mk_Keep : Mk K Z_Keep f_Keep_init
  mk_Put : Mk K Z_Put f_Put_init
  mk_Ask : Mk K Z_Ask f_Ask_init
  mg_Go : mg "Go" = some (.ref Z_Go)
  mg_Keep : mg "Keep" = some (.ref Z_Keep)
  mg_Put : mg "Put" = some (.ref Z_Put)
  mg_Ask : mg "Ask" = some (.ref Z_Ask)
  n_Keep_question : NoAttr K Z_Keep "question"
  n_Put_k : NoAttr K Z_Put "k"
  n_Put_amount : NoAttr K Z_Put "amount"
  n_Ask_k : NoAttr K Z_Ask "k"
  n_Ask_low : NoAttr K Z_Ask "low"
  n_Ask_high : NoAttr K Z_Ask "high"

abbrev fK (a : V) : List (Str × V) := putF "question" a []
abbrev fP (k a : V) : List (Str × V) := putF "amount" a (putF "k" k [])
abbrev fA (k lo hi : V) : List (Str × V) := putF "high" hi (putF "low" lo (putF "k" k []))
theorem lkK (a : V) : (fK a).lookup ("question" : Str) = some a := by rw [lookup_putF, if_pos rfl]
theorem lkPa (k a : V) : (fP k a).lookup ("amount" : Str) = some a := by rw [lookup_putF, if_pos rfl]
theorem lkPk (k a : V) : (fP k a).lookup ("k" : Str) = some k := by rw [lookup_putF, if_neg (by decide +kernel), lookup_putF, if_pos rfl]
theorem lkAh (k lo hi : V) : (fA k lo hi).lookup ("high" : Str) = some hi := by rw [lookup_putF, if_pos rfl]
theorem lkAl (k lo hi : V) : (fA k lo hi).lookup ("low" : Str) = some lo := by rw [lookup_putF, if_neg (by decide +kernel), lookup_putF, if_pos rfl]
theorem lkAk (k lo hi : V) : (fA k lo hi).lookup ("k" : Str) = some k := by rw [lookup_putF, if_neg (by decide +kernel), lookup_putF, if_neg (by decide +kernel), lookup_putF, if_pos rfl]
def offM (m : Str) : Prop := m ≠ "question" ∧ m ≠ "amount" ∧ m ≠ "k" ∧ m ≠ "low" ∧ m ≠ "high"
theorem off_done : offM "done" := ⟨by decide +kernel, by decide +kernel, by decide +kernel, by decide +kernel, by decide +kernel⟩
theorem off_asks : offM "asks" := ⟨by decide +kernel, by decide +kernel, by decide +kernel, by decide +kernel, by decide +kernel⟩
theorem off_between : offM "between_ends" := ⟨by decide +kernel, by decide +kernel, by decide +kernel, by decide +kernel, by decide +kernel⟩
theorem noK {m : Str} (h : offM m) (a : V) : (fK a).lookup m = none := by rw [lookup_putF, if_neg h.1]; rfl
theorem noP {m : Str} (h : offM m) (k a : V) : (fP k a).lookup m = none := by rw [lookup_putF, if_neg h.2.1, lookup_putF, if_neg h.2.2.1]; rfl
theorem noA {m : Str} (h : offM m) (k lo hi : V) : (fA k lo hi).lookup m = none := by rw [lookup_putF, if_neg h.2.2.2.2, lookup_putF, if_neg h.2.2.2.1, lookup_putF, if_neg h.2.2.1]; rfl
inductive Dd where
  | go
  | keep (f : Int) (g : Option Int) (w : Str) (c : Int)
  | put (k : Nat) (f g : Option Int) (c : Int)
  | ask (k : Nat) (lo hi : Ent)
def InD (n : Nat) : Dd → Prop
  | .go => True
  | .keep f g _ _ => InR n f ∧ InG n g
  | .put k f g _ => k < n ∧ InG n f ∧ InG n g
  | .ask k _ _ => k < n
def optL : Option Int → List Int
  | none => []
  | some f => [f]
def fsO (f g : Option Int) : List Int := optL f ++ optL g
theorem fsO_in {n : Nat} {f g : Option Int} (hf : InG n f) (hg : InG n g) : ∀ h ∈ fsO f g, InR n h := by
  intro h hh
  unfold fsO at hh
  cases f <;> cases g <;> simp [optL] at hh
  · rw [hh]; exact hg
  · rw [hh]; exact hf
  · rcases hh with e | e <;> rw [e]
    · exact hf
    · exact hg
theorem fsO_len (f g : Option Int) : (fsO f g).length ≤ 2 := by unfold fsO; cases f <;> cases g <;> simp [optL]
def capHi : Ent → Int → Int
  | some h, z => if h < z then h else z
  | none, z => z
def clampI : Ent → Ent → Int → Int
  | some l, hi, z => if z < l then l else capHi hi z
  | none, hi, z => capHi hi z
theorem clamp_no {lo hi : Ent} {z : Int} (h : ∀ l, lo = some l → ¬ z < l) : clampI lo hi z = capHi hi z := by
  cases lo with
  | none => rfl
  | some l => show (if z < l then l else capHi hi z) = _; rw [if_neg (h l rfl)]
theorem clamp_lo {l : Int} {hi : Ent} {z : Int} (h : z < l) : clampI (some l) hi z = l := by show (if z < l then l else capHi hi z) = _; rw [if_pos h]
theorem cap_hi {y z : Int} (h : y < z) : capHi (some y) z = y := by show (if y < z then y else z) = _; rw [if_pos h]
theorem cap_no {y z : Int} (h : ¬ y < z) : capHi (some y) z = z := by show (if y < z then y else z) = _; rw [if_neg h]
def amtI (xs : List Int) (f g : Option Int) (c : Int) : Int := ((fsO f g).map (worthI xs)).sum + c
def stepI (xs : List Int) (num : Int) : Dd → Option (List Int)
  | .go => some xs
  | .keep f g w c => if holdsI w (sumI xs f g) c = true then some xs else none
  | .put k f g c => some (xs.set k (amtI xs f g c))
  | .ask k lo hi => some (xs.set k (clampI lo hi num))
def PtO (H : Hp) (r : V) : Option (List Int) → Prop
  | none => r = .non
  | some ys => ∃ p, r = .ref p ∧ H p = some (.tup (ys.map V.int))
theorem PtO.same {H H' : Hp} (s : Same H H') {r : V} : ∀ {o : Option (List Int)}, PtO H r o → PtO H' r o
  | none, h => h
  | some _, ⟨p, e, h⟩ => ⟨p, e, s _ _ h⟩
def DeedAt (Z_Go Z_Keep Z_Put Z_Ask : Addr) (H : Hp) (v : V) : Dd → Prop
  | .go => ∃ x dx, v = .ref x ∧ H x = some (.ins Z_Go dx [])
  | .keep f g w c => ∃ x dx qa, v = .ref x ∧ H x = some (.ins Z_Keep dx (fK (.ref qa))) ∧ H qa = some (.tup [.int f, gV g, .str w, .int c])
  | .put k f g c => ∃ x dx aa, v = .ref x ∧ H x = some (.ins Z_Put dx (fP (.int k) (.ref aa))) ∧ H aa = some (.tup [gV f, gV g, .int c])
  | .ask k lo hi => ∃ x dx, v = .ref x ∧ H x = some (.ins Z_Ask dx (fA (.int k) (eV lo) (eV hi)))
theorem DeedAt.same {Z_Go Z_Keep Z_Put Z_Ask : Addr} {H H' : Hp} (s : Same H H') {v : V} : ∀ {D : Dd}, DeedAt Z_Go Z_Keep Z_Put Z_Ask H v D → DeedAt Z_Go Z_Keep Z_Put Z_Ask H' v D
  | .go, ⟨x, dx, e, h⟩ => ⟨x, dx, e, s _ _ h⟩
  | .keep _ _ _ _, ⟨x, dx, qa, e, h, h2⟩ => ⟨x, dx, qa, e, s _ _ h, s _ _ h2⟩
  | .put _ _ _ _, ⟨x, dx, aa, e, h, h2⟩ => ⟨x, dx, aa, e, s _ _ h, s _ _ h2⟩
  | .ask _ _ _, ⟨x, dx, e, h⟩ => ⟨x, dx, e, s _ _ h⟩
def DrawnAt (H : Hp) (v : V) : Dd → Prop
  | .go => ∃ t, v = .ref t ∧ H t = some (.tup [.str "go"])
  | .keep f g w c => ∃ t qa, v = .ref t ∧ H t = some (.tup [.str "keep", .ref qa]) ∧ H qa = some (.tup [.int f, gV g, .str w, .int c])
  | .put k f g c => ∃ t aa, v = .ref t ∧ H t = some (.tup [.str "put", .int k, .ref aa]) ∧ H aa = some (.tup [gV f, gV g, .int c])
  | .ask k lo hi => ∃ t, v = .ref t ∧ H t = some (.tup [.str "ask", .int k, eV lo, eV hi])
theorem DrawnAt.same {H H' : Hp} (s : Same H H') {v : V} : ∀ {D : Dd}, DrawnAt H v D → DrawnAt H' v D
  | .go, ⟨x, e, h⟩ => ⟨x, e, s _ _ h⟩
  | .keep _ _ _ _, ⟨x, qa, e, h, h2⟩ => ⟨x, qa, e, s _ _ h, s _ _ h2⟩
  | .put _ _ _ _, ⟨x, aa, e, h, h2⟩ => ⟨x, aa, e, s _ _ h, s _ _ h2⟩
  | .ask _ _ _, ⟨x, e, h⟩ => ⟨x, e, s _ _ h⟩
/-- all but one address stays -/
def SameX (p : Addr) (H H' : Hp) : Prop := ∀ b u, b ≠ p → H b = some u → H' b = some u
theorem drawnX {p : Addr} {H H' : Hp} {ws : List V} (hp : H p = some (.lst ws)) (s : SameX p H H') {v : V} : ∀ {D : Dd}, DrawnAt H v D → DrawnAt H' v D := by
  have k : ∀ b xs, H b = some (.tup xs) → H' b = some (.tup xs) := fun b xs h => s b _ (ne_of h hp (by intro z; cases z)) h
  intro D
  cases D with
  | go => exact fun ⟨x, e, h⟩ => ⟨x, e, k _ _ h⟩
  | keep f g w c => exact fun ⟨x, qa, e, h, h2⟩ => ⟨x, qa, e, k _ _ h, k _ _ h2⟩
  | put i f g c => exact fun ⟨x, aa, e, h, h2⟩ => ⟨x, aa, e, k _ _ h, k _ _ h2⟩
  | ask i lo hi => exact fun ⟨x, e, h⟩ => ⟨x, e, k _ _ h⟩
theorem deedX {Z_Go Z_Keep Z_Put Z_Ask p : Addr} {H H' : Hp} {ws : List V} (hp : H p = some (.lst ws)) (s : SameX p H H') {v : V} : ∀ {D : Dd}, DeedAt Z_Go Z_Keep Z_Put Z_Ask H v D → DeedAt Z_Go Z_Keep Z_Put Z_Ask H' v D := by
  have k : ∀ b xs, H b = some (.tup xs) → H' b = some (.tup xs) := fun b xs h => s b _ (ne_of h hp (by intro z; cases z)) h
  have k2 : ∀ b C dx fs, H b = some (.ins C dx fs) → H' b = some (.ins C dx fs) := fun b C dx fs h => s b _ (ne_of h hp (by intro z; cases z)) h
  intro D
  cases D with
  | go => exact fun ⟨x, dx, e, h⟩ => ⟨x, dx, e, k2 _ _ _ _ h⟩
  | keep f g w c => exact fun ⟨x, dx, qa, e, h, h2⟩ => ⟨x, dx, qa, e, k2 _ _ _ _ h, k _ _ h2⟩
  | put i f g c => exact fun ⟨x, dx, aa, e, h, h2⟩ => ⟨x, dx, aa, e, k2 _ _ _ _ h, k _ _ h2⟩
  | ask i lo hi => exact fun ⟨x, dx, e, h⟩ => ⟨x, dx, e, k2 _ _ _ _ h⟩
theorem sameX_upd {p : Addr} {H : Hp} {o : HO} : SameX p H (upd H p o) := fun b u ne h => by rw [upd_ne ne]; exact h
theorem sIx_some {n i d : Nat} (h : i ≤ n) : HT.sIx n d (some (i : Int)) = i := by
  simp only [HT.sIx]
  split <;> omega
theorem cut_take {xs : List Int} {k : Nat} (h : k ≤ xs.length) : cutV (xs.map V.int) none (some (k : Int)) = (xs.take k).map V.int := by
  unfold cutV
  rw [List.length_map, sIx_some h]
  simp [HT.sIx, List.map_take]
theorem cut_drop {xs : List Int} {k : Nat} (h : k ≤ xs.length) : cutV (xs.map V.int) (some (k : Int)) none = (xs.drop k).map V.int := by
  unfold cutV
  rw [List.length_map, sIx_some h]
  simp [HT.sIx, List.map_drop, List.take_of_length_le]
theorem set_parts {xs : List Int} {k : Nat} {z : Int} (h : k < xs.length) : (xs.set k z).map V.int = ((xs.take k).map V.int ++ [V.int z]) ++ (xs.drop (k + 1)).map V.int := by
  rw [List.set_eq_take_append_cons_drop, if_pos h]
  simp

def sp_with_number (K : PySem.W.Frag) : Sp := fun vs H Q _ => ∃ (a : Addr) (xs : List Int) (k : Nat) (z : Int), vs = [.ref a, .int k, .int z] ∧ SqT K H a (xs.map V.int) ∧ k < xs.length ∧ xs.length ≤ 100 ∧
  ∀ p H', Same H H' → H' p = some (.tup ((xs.set k z).map V.int)) → Q (.ref p) H'

def sp_amount_forms (K : PySem.W.Frag) : Sp := fun vs H Q _ => ∃ (b : Addr) (f g : Option Int) (c : Int), vs = [.ref b] ∧ SqT K H b [gV f, gV g, .int c] ∧ ∀ p H', Same H H' → H' p = some (.lst ((fsO f g).map V.int)) → Q (.ref p) H'
def sp_amount_at (K : PySem.W.Frag) : Sp := fun vs H Q _ => ∃ (a b : Addr) (xs : List Int) (f g : Option Int) (c : Int), vs = [.ref a, .ref b] ∧ SqT K H a (xs.map V.int) ∧ SqT K H b [gV f, gV g, .int c] ∧ InG xs.length f ∧ InG xs.length g ∧ ∀ H', Same H H' → Q (.int (amtI xs f g c)) H'
def sp_Deed_asks (K : PySem.W.Frag) : Sp := fun vs H Q _ => ∃ x, vs = [x] ∧ Q (.bl false) H
def sp_Ask_asks (K : PySem.W.Frag) : Sp := fun vs H Q _ => ∃ x, vs = [x] ∧ Q (.bl true) H
def sp_Go_done (K : PySem.W.Frag) : Sp := fun vs H Q _ => ∃ x p z, vs = [x, p, z] ∧ Q p H
def sp_Keep_init (K : PySem.W.Frag) (Z : Addr) : Sp := fun vs H Q _ => ∃ (x dx : Addr) (v : V), vs = [.ref x, v] ∧ H x = some (.ins Z dx []) ∧ Q .non (upd H x (.ins Z dx (fK v)))
def sp_Put_init (K : PySem.W.Frag) (Z : Addr) : Sp := fun vs H Q _ => ∃ (x dx : Addr) (v u : V), vs = [.ref x, v, u] ∧ H x = some (.ins Z dx []) ∧ Q .non (upd (upd H x (.ins Z dx (putF "k" v []))) x (.ins Z dx (fP v u)))
def sp_Ask_init (K : PySem.W.Frag) (Z : Addr) : Sp := fun vs H Q _ => ∃ (x dx : Addr) (v u t : V), vs = [.ref x, v, u, t] ∧ H x = some (.ins Z dx []) ∧ Q .non (upd (upd (upd H x (.ins Z dx (putF "k" v []))) x (.ins Z dx (putF "low" u (putF "k" v [])))) x (.ins Z dx (fA v u t)))
def sp_Keep_done (K : PySem.W.Frag) (Z : Addr) : Sp := fun vs H Q _ => ∃ (x dx qa pt : Addr) (xs : List Int) (f : Int) (g : Option Int) (w : Str) (c : Int) (z : V), vs = [.ref x, .ref pt, z] ∧ H x = some (.ins Z dx (fK (.ref qa))) ∧ H qa = some (.tup [.int f, gV g, .str w, .int c]) ∧ H pt = some (.tup (xs.map V.int)) ∧ InR xs.length f ∧ InG xs.length g ∧
  ∀ H', Same H H' → Q (if holdsI w (sumI xs f g) c = true then .ref pt else .non) H'
def sp_Put_done (K : PySem.W.Frag) (Z : Addr) : Sp := fun vs H Q _ => ∃ (x dx aa pt : Addr) (xs : List Int) (k : Nat) (f g : Option Int) (c : Int) (z : V), vs = [.ref x, .ref pt, z] ∧ H x = some (.ins Z dx (fP (.int k) (.ref aa))) ∧ H aa = some (.tup [gV f, gV g, .int c]) ∧ H pt = some (.tup (xs.map V.int)) ∧ k < xs.length ∧ xs.length ≤ 100 ∧ InG xs.length f ∧ InG xs.length g ∧
  ∀ p H', Same H H' → H' p = some (.tup ((xs.set k (amtI xs f g c)).map V.int)) → Q (.ref p) H'
def sp_Ask_between_ends (K : PySem.W.Frag) (Z : Addr) : Sp := fun vs H Q _ => ∃ (x dx : Addr) (k : V) (lo hi : Ent) (z : Int), vs = [.ref x, .int z] ∧ H x = some (.ins Z dx (fA k (eV lo) (eV hi))) ∧ Q (.int (clampI lo hi z)) H
def sp_Ask_done (K : PySem.W.Frag) (Z : Addr) : Sp := fun vs H Q _ => ∃ (x dx pt : Addr) (xs : List Int) (k : Nat) (lo hi : Ent) (z : Int), vs = [.ref x, .ref pt, .int z] ∧ H x = some (.ins Z dx (fA (.int k) (eV lo) (eV hi))) ∧ H pt = some (.tup (xs.map V.int)) ∧ k < xs.length ∧ xs.length ≤ 100 ∧
  ∀ p H', Same H H' → H' p = some (.tup ((xs.set k (clampI lo hi z)).map V.int)) → Q (.ref p) H'
def sp__law_point_like (K : PySem.W.Frag) : Sp := fun vs H Q _ => ∃ (a : Addr) (xs : List Int) (n : Nat), vs = [.ref a, .int n] ∧ H a = some (.tup (xs.map V.int)) ∧ xs.length = n ∧ Q (.bl true) H
def sp__law_sum (K : PySem.W.Frag) : Sp := fun vs H Q _ => ∃ (a b : Addr) (xs fs : List Int), vs = [.ref a, .ref b] ∧ SqT K H a (xs.map V.int) ∧ SqL K H b (fs.map V.int) ∧ (∀ f ∈ fs, InR xs.length f) ∧ Q (.int (fs.map (worthI xs)).sum) H
def sp__law_holds (K : PySem.W.Frag) : Sp := fun vs H Q _ => ∃ (a b : Addr) (xs : List Int) (f : Int) (g : Option Int) (w : Str) (c : Int), vs = [.ref a, .ref b] ∧ SqT K H a (xs.map V.int) ∧ SqT K H b [.int f, gV g, .str w, .int c] ∧ InR xs.length f ∧ InG xs.length g ∧ Q (.bl (holdsI w (sumI xs f g) c)) H
def sp__law_question (K : PySem.W.Frag) : Sp := fun vs H Q _ => ∃ (c o : Int) (w : Int) (pt : Addr) (xs : List Int) (n : Nat), vs = [.int c, .int o, .int w, .ref pt] ∧ SqT K H pt (xs.map V.int) ∧ xs.length = n ∧ 1 ≤ n ∧ n ≤ 6 ∧ ∀ p f g wd cc H', Same H H' → H' p = some (.tup [.int f, gV g, .str wd, .int cc]) → InR n f → InG n g → Q (.ref p) H'
def sp__law_change (K : PySem.W.Frag) : Sp := fun vs H Q _ => ∃ (c : Int) (n : Nat), vs = [.int c, .int n] ∧ 1 ≤ n ∧ n ≤ 6 ∧ ∀ p f g H', Same H H' → H' p = some (.tup [gV f, gV g]) → InG n f → InG n g → Q (.ref p) H'
def sp__law_ask (K : PySem.W.Frag) : Sp := fun vs H Q _ => ∃ (k : Nat) (c o : Int), vs = [.int k, .int c, .int o] ∧ ∀ p lo hi H', Same H H' → H' p = some (.tup [.str "ask", .int k, eV lo, eV hi]) → Q (.ref p) H'
def sp__law_deed (K : PySem.W.Frag) : Sp := fun vs H Q _ => ∃ (kd c o : Int) (pt : Addr) (xs : List Int) (n : Nat), vs = [.int kd, .int c, .int o, .ref pt] ∧ SqT K H pt (xs.map V.int) ∧ xs.length = n ∧ 1 ≤ n ∧ n ≤ 6 ∧ ∀ v D H', Same H H' → DrawnAt H' v D → InD n D → Q v H'
def sp__law_made (K : PySem.W.Frag) (Z_Go Z_Keep Z_Put Z_Ask : Addr) : Sp := fun vs H Q _ => ∃ (v : V) (D : Dd), vs = [v] ∧ DrawnAt H v D ∧ ∀ u H', Same H H' → DeedAt Z_Go Z_Keep Z_Put Z_Ask H' u D → Q u H'
def sp__law_step (K : PySem.W.Frag) : Sp := fun vs H Q _ => ∃ (v : V) (D : Dd) (pt : Addr) (xs : List Int) (num : Int), vs = [v, .ref pt, .int num] ∧ DrawnAt H v D ∧ H pt = some (.tup (xs.map V.int)) ∧ InD xs.length D ∧ xs.length ≤ 100 ∧ ∀ r H', Same H H' → PtO H' r (stepI xs num D) → Q r H'
def sp__law_alike (K : PySem.W.Frag) : Sp := fun vs H Q _ => ∃ (r u : V) (o : Option (List Int)), vs = [r, u] ∧ PtO H r o ∧ PtO H u o ∧ Q (.bl true) H
def sp__law_drawn (K : PySem.W.Frag) : Sp := fun vs H Q _ => ∃ (a pt : Addr) (ns xs : List Int) (n : Nat), vs = [.ref a, .ref pt] ∧ SqL K H a (ns.map V.int) ∧ SqT K H pt (xs.map V.int) ∧ xs.length = n ∧ 1 ≤ n ∧ n ≤ 6 ∧ ∀ p ys Ds H', Same H H' → H p = none → H' p = some (.lst ys) → Paired (DrawnAt H') ys Ds → (∀ D ∈ Ds, InD n D) → Ds.length = 8 → Q (.ref p) H'
theorem strT (a : Str) : decide (V.str a = V.str a) = true := decide_eq_true rfl
theorem strF {a b : Str} (h : a ≠ b) : decide (V.str a = V.str b) = false := decide_eq_false fun e => h (V.str.inj e)
theorem ne_gk : ("go" : Str) ≠ "keep" := by decide +kernel
theorem ne_gp : ("go" : Str) ≠ "put" := by decide +kernel
theorem ne_ga : ("go" : Str) ≠ "ask" := by decide +kernel
theorem ne_kg : ("keep" : Str) ≠ "go" := by decide +kernel
theorem ne_ka : ("keep" : Str) ≠ "ask" := by decide +kernel
theorem ne_pg : ("put" : Str) ≠ "go" := by decide +kernel
theorem ne_pk : ("put" : Str) ≠ "keep" := by decide +kernel
theorem ne_pa : ("put" : Str) ≠ "ask" := by decide +kernel
theorem ne_ag : ("ask" : Str) ≠ "go" := by decide +kernel
theorem ne_ak : ("ask" : Str) ≠ "keep" := by decide +kernel
theorem ne_ap : ("ask" : Str) ≠ "put" := by decide +kernel
theorem modF (c : Int) {n : Nat} (h : 1 ≤ n) : ∃ f : Int, c % (2 * (n : Int)) = f ∧ InR n f := ⟨_, rfl, Int.emod_nonneg _ (by omega), Int.emod_lt_of_pos _ (by omega)⟩
theorem mod_ltD (c : Int) {n : Nat} (h : 1 ≤ n) : ∃ f : Nat, c % (n : Int) = (f : Int) ∧ f < n :=
  ⟨(c % (n : Int)).toNat, by have := Int.emod_nonneg c (b := (n : Int)) (by omega); omega, by have := Int.emod_nonneg c (b := (n : Int)) (by omega); have := Int.emod_lt_of_pos c (b := (n : Int)) (by omega); omega⟩
theorem pickW (c : Int) : ∃ w : Str, atI ([.str "most", .str "least", .str "same", .str "unlike"] : List V) (c % 4) = some (.str w) := by
  have : c % 4 = 0 ∨ c % 4 = 1 ∨ c % 4 = 2 ∨ c % 4 = 3 := by omega
  rcases this with h | h | h | h <;> rw [h] <;> exact ⟨_, rfl⟩
theorem pick3d (c : Int) {a b d : Int} : ∃ z : Int, atI ([.int a, .int b, .int d] : List V) (c % 3) = some (.int z) := by
  have : c % 3 = 0 ∨ c % 3 = 1 ∨ c % 3 = 2 := by omega
  rcases this with h | h | h <;> rw [h] <;> exact ⟨_, rfl⟩
theorem two_low (v u : V) : (putF "low" u (putF "k" v [])).length = 2 := by
  show (if ("k" : Str) = "low" then [(("k" : Str), u)] else (("k" : Str), v) :: putF "low" u []).length = 2
  rw [if_neg (by decide +kernel)]
  rfl
theorem us1 {α : Type} : ∀ {us : List α}, us.length = 1 → ∃ b0, us = [b0]
  | [b0], _ => ⟨b0, rfl⟩
theorem us2 {α : Type} : ∀ {us : List α}, us.length = 2 → ∃ b0 b1, us = [b0, b1]
  | [b0, b1], _ => ⟨b0, b1, rfl⟩
theorem us3 {α : Type} : ∀ {us : List α}, us.length = 3 → ∃ b0 b1 b2, us = [b0, b1, b2]
  | [b0, b1, b2], _ => ⟨b0, b1, b2, rfl⟩
theorem us4 {α : Type} : ∀ {us : List α}, us.length = 4 → ∃ b0 b1 b2 b3, us = [b0, b1, b2, b3]
  | [b0, b1, b2, b3], _ => ⟨b0, b1, b2, b3, rfl⟩
section
variable {P : Program} {w : World} {K : PySem.W.Frag} {mg : Str → Option Value} {base : Heap}
theorem sc_below : FnScope ["entry", "number"] ["entry", "number"] (defScope s_below) := ⟨rfl, rfl, rfl, by decide +kernel, rfl, by decide +kernel, by decide +kernel⟩
theorem ok_below {f : Addr} {fd : FuncData} (F : Fun K "below" "below" s_below f fd) (m : mg "below" = some (.ref f)) (B : Bl mg) {Z_Go Z_Keep Z_Put Z_Ask f_Deed_asks f_Go_done f_Keep_init f_Keep_done f_Put_init f_Put_done f_Ask_init f_Ask_asks f_Ask_done f_Ask_between_ends : Addr} (T : Kl K mg Z_Go Z_Keep Z_Put Z_Ask f_Deed_asks f_Go_done f_Keep_init f_Keep_done f_Put_init f_Put_done f_Ask_init f_Ask_asks f_Ask_done f_Ask_between_ends)  : Def P w K mg base CX0 "below" 1 ["entry", "number"] (sp_below K) := by
  refine ⟨f, fd, F.ok sc_below (fun vs H Q E h => ?_) (fun cdv A outer s H vs Q E hr h => ?_), F.binds (ps := ["entry", "number"]) fun _ _ _ _ _ _ us hl => (by obtain ⟨b0, b1, rfl⟩ := us2 hl; rfl), F.kp, m⟩
  · obtain ⟨e, z, rfl, _⟩ := h
    rfl
  obtain ⟨e, z, rfl, q⟩ := h
  refine ⟨_, (pss_one (ps_ret (pe_and (pe_cmpR op_notN (pv 0) pe_non (nomark _)) (pe_one (pe_cmpR op_lt (pv 0) (pv 1) (nomark _)))))), ?_⟩
  cases e with
  | none => simp [tSeq, tNext, tIfS, tRet, tAsg, gName, tTest, tOp, tUn, tVar, tC, rI, rI0, rU, rEq, rNe, scal, L2.start, tCall, tCB, tNil, tCons, tTup, tLst, tNot, tAnd, tOr, tAndV, tOrV, tNotV, tIf, tDrop, CDiv, tB, rIxT, rIxL, tSl, tPart, tNoPart, tYes, CPow, eV]; exact q
  | some x => simp [tSeq, tNext, tIfS, tRet, tAsg, gName, tTest, tOp, tUn, tVar, tC, rI, rI0, rU, rEq, rNe, scal, L2.start, tCall, tCB, tNil, tCons, tTup, tLst, tNot, tAnd, tOr, tAndV, tOrV, tNotV, tIf, tDrop, CDiv, tB, rIxT, rIxL, tSl, tPart, tNoPart, tYes, CPow, eV]; exact q
theorem sc_worth : FnScope ["point", "f", "number"] ["point", "f"] (defScope s_worth) := ⟨rfl, rfl, rfl, by decide +kernel, rfl, by decide +kernel, by decide +kernel⟩
theorem ok_worth {f : Addr} {fd : FuncData} (F : Fun K "worth" "worth" s_worth f fd) (m : mg "worth" = some (.ref f)) (B : Bl mg) {Z_Go Z_Keep Z_Put Z_Ask f_Deed_asks f_Go_done f_Keep_init f_Keep_done f_Put_init f_Put_done f_Ask_init f_Ask_asks f_Ask_done f_Ask_between_ends : Addr} (T : Kl K mg Z_Go Z_Keep Z_Put Z_Ask f_Deed_asks f_Go_done f_Keep_init f_Keep_done f_Put_init f_Put_done f_Ask_init f_Ask_asks f_Ask_done f_Ask_between_ends)  : Def P w K mg base CX0 "worth" 1 ["point", "f"] (sp_worth K) := by
  refine ⟨f, fd, F.ok sc_worth (fun vs H Q E h => ?_) (fun cdv A outer s H vs Q E hr h => ?_), F.binds (ps := ["point", "f"]) fun _ _ _ _ _ _ us hl => (by obtain ⟨b0, b1, rfl⟩ := us2 hl; rfl), F.kp, m⟩
  · obtain ⟨a, ns, f, rfl, _⟩ := h
    rfl
  obtain ⟨a, ns, f, rfl, hS, h0, h1, q⟩ := h
  refine ⟨_, (@pss_cons _ _ _ _ _ (ps_set (i := 2) sc_worth.nd rfl (by first | exact Or.inl rfl | exact Or.inr rfl) (pe_ix (ix_tupK (K := K) rfl) (pv 0) (pe_op op_fdiv (pv 1) pe_int) (fun _ _ => rfl)))
    (@pss_cons _ _ _ _ _ (ps_if (pt_cmpR op_eq (pe_op op_mod (pv 1) pe_int) pe_int (nomark _)) (pss_one (ps_ret (pv 2))) pss_nil)
    (pss_one (ps_ret (pe_un un_neg (pv 2)))))), ?_⟩
  simp [tSeq, tNext, tIfS, tRet, tAsg, gName, tTest, tOp, tUn, tVar, tC, rI, rI0, rU, rEq, rNe, scal, L2.start, tCall, tCB, tNil, tCons, tTup, tLst, tNot, tAnd, tOr, tAndV, tOrV, tNotV, tIf, tDrop, CDiv, tB, rIxT, rIxL, tSl, tPart, tNoPart, tYes, CPow]
  refine ⟨_, hS, _, atI_int (by omega) (by omega), ?_⟩
  simp
  unfold worthI at q
  split at q
  · rw [if_pos ‹_›]; exact q
  · rw [if_neg ‹_›]; exact q
theorem sc_total : FnScope ["point", "forms"] ["point", "forms"] (defScope s_total) := ⟨rfl, rfl, rfl, by decide +kernel, rfl, by decide +kernel, by decide +kernel⟩
theorem ok_total {f : Addr} {fd : FuncData} (F : Fun K "total" "total" s_total f fd) (m : mg "total" = some (.ref f)) (B : Bl mg) {Z_Go Z_Keep Z_Put Z_Ask f_Deed_asks f_Go_done f_Keep_init f_Keep_done f_Put_init f_Put_done f_Ask_init f_Ask_asks f_Ask_done f_Ask_between_ends : Addr} (T : Kl K mg Z_Go Z_Keep Z_Put Z_Ask f_Deed_asks f_Go_done f_Keep_init f_Keep_done f_Put_init f_Put_done f_Ask_init f_Ask_asks f_Ask_done f_Ask_between_ends) (D_worth : Def P w K mg base CX0 "worth" 1 ["point", "f"] (sp_worth K)) : Def P w K mg base CX0 "total" 2 ["point", "forms"] (sp_total K) := by
  refine ⟨f, fd, F.ok sc_total (fun vs H Q E h => ?_) (fun cdv A outer s H vs Q E hr h => ?_), F.binds (ps := ["point", "forms"]) fun _ _ _ _ _ _ us hl => (by obtain ⟨b0, b1, rfl⟩ := us2 hl; rfl), F.kp, m⟩
  · obtain ⟨a, b, xs, fs, rfl, _⟩ := h
    rfl
  obtain ⟨a, b, xs, fs, rfl, hP, hF, hin, hz, q⟩ := h
  refine ⟨_, (pss_one (ps_ret (pe_callB (call_sumLK (K := K) rfl rfl) (by rfl) B.sum (by decide +kernel) (pa_cons (pe_comp (CompScope.of sc_total.nd (by rfl)) rfl (pi_listK (K := K) rfl (pv 1)) (fun _ _ _ => pif_nil) (fun _ _ _ => (pe_def D_worth (hr.mono (by decide)) (by rfl) pass0 (pa_Name (pv 1) (pa_Name (pv 0) pa_nil))))) pa_nil)))), ?_⟩
  refine ⟨_, rfl, b, rfl, ⟨_, hF⟩, fun p hp => comp_listN (K := K) (a := b) (xs := fs.map V.int) (fun i ys H' => ys = ((fs.take i).map (worthI xs)).map V.int ∧ H' p = some (.lst ys) ∧ Same H H') ⟨by simp, upd_same, same_new hp _⟩ (fun i ys H' _ ⟨_, _, sm⟩ => sm.seq hF) ?_ ?_⟩
  · rintro i y ys H' hi ⟨rfl, hp', sm⟩
    have hil : i < fs.length := by
      have := (List.getElem?_eq_some_iff.mp hi).1
      rwa [List.length_map] at this
    have ey : y = .int fs[i] := by
      rw [List.getElem?_map, List.getElem?_eq_getElem hil] at hi
      exact (Option.some.inj hi).symm
    subst ey
    have hr' := hin _ (List.getElem_mem hil)
    simp [tSeq, tNext, tIfS, tRet, tAsg, gName, tTest, tOp, tUn, tVar, tC, rI, rI0, rU, rEq, rNe, scal, L2.start, tCall, tCB, tNil, tCons, tTup, tLst, tNot, tAnd, tOr, tAndV, tOrV, tNotV, tIf, tDrop, CDiv, tB, rIxT, rIxL, tSl, tPart, tNoPart, tYes, CPow, sp_worth]
    refine ⟨_, _, _, ⟨rfl, rfl⟩, sm.sqT hP, hr'.1, hr'.2, by simpa using hp', ?_, ?_⟩
    · exact Nat.lt_of_le_of_lt (Nat.min_le_left _ _) (small1000 (by omega))
    · refine ⟨fs.length - (i + 1), by omega, rfl, by omega, ?_, ?_, fun c o e => ?_⟩
      · rw [List.take_add_one, List.getElem?_map, List.getElem?_eq_getElem hil]; simp
      · rw [upd_same]
      · rw [upd_ne (fun z => by subst z; rw [hp] at e; cases e)]
        exact sm c o e
  · rintro ys H' ⟨rfl, hp', sm⟩
    rw [List.length_map, List.take_length] at hp'
    exact ⟨p, fs.map (worthI xs), rfl, SqL.of hp', q H' sm⟩
theorem sc_with_number : FnScope ["point", "k", "number"] ["point", "k", "number"] (defScope s_with_number) := ⟨rfl, rfl, rfl, by decide +kernel, rfl, by decide +kernel, by decide +kernel⟩
theorem ok_with_number {f : Addr} {fd : FuncData} (F : Fun K "with_number" "with_number" s_with_number f fd) (m : mg "with_number" = some (.ref f)) (B : Bl mg) {Z_Go Z_Keep Z_Put Z_Ask f_Deed_asks f_Go_done f_Keep_init f_Keep_done f_Put_init f_Put_done f_Ask_init f_Ask_asks f_Ask_done f_Ask_between_ends : Addr} (T : Kl K mg Z_Go Z_Keep Z_Put Z_Ask f_Deed_asks f_Go_done f_Keep_init f_Keep_done f_Put_init f_Put_done f_Ask_init f_Ask_asks f_Ask_done f_Ask_between_ends)  : Def P w K mg base CX0 "with_number" 1 ["point", "k", "number"] (sp_with_number K) := by
  refine ⟨f, fd, F.ok sc_with_number (fun vs H Q E h => ?_) (fun cdv A outer s H vs Q E hr h => ?_), F.binds (ps := ["point", "k", "number"]) fun _ _ _ _ _ _ us hl => (by obtain ⟨b0, b1, b2, rfl⟩ := us3 hl; rfl), F.kp, m⟩
  · obtain ⟨a, xs, k, z, rfl, _⟩ := h
    rfl
  obtain ⟨a, xs, k, z, rfl, hA, hk, l100, q⟩ := h
  refine ⟨_, (pss_one (ps_ret (pe_op (op_catTA (K := K) rfl) (pe_op (op_catTA (K := K) rfl) (pe_slice (sl_tupK (K := K) rfl) (pv 0) po_none (po_some (pv 1))) (pe_tup (pa_Name (pv 2) pa_nil))) (pe_slice (sl_tupK (K := K) rfl) (pv 0) (po_some (pe_op op_add (pv 1) pe_int)) po_none)))), ?_⟩
  have small : ∀ {m : Nat}, m ≤ 1000 → m ≤ sizeLine := fun h => Nat.le_of_lt (small1000 h)
  refine ⟨_, rfl, _, rfl, (k : Int), rfl, a, _, rfl, hA, ?_, fun p1 hp1 => ?_⟩
  · rw [List.length_map, sIx_some (by omega)]
    omega
  have s1 := same_new hp1 (.tup (cutV (xs.map V.int) none (some (k : Int))))
  have e1 : upd H p1 (.tup (cutV (xs.map V.int) none (some (k : Int)))) p1 = some (.tup ((xs.take k).map V.int)) := by rw [upd_same, cut_take (by omega)]
  refine ⟨_, rfl, sz 1, fun p2 hp2 => ?_⟩
  have s2 := same_new hp2 (.tup [.int z])
  have s12 := s1.trans s2
  by_cases h0 : k = 0
  · have e0 : (xs.take k).map V.int = [] := by rw [h0]; rfl
    rw [e0] at e1
    refine .inr ⟨p1, p2, _, rfl, rfl, SqT.of (s2 _ _ e1), SqT.of upd_same, ?_⟩
    have e2 : upd (upd H p1 (.tup (cutV (xs.map V.int) none (some (k : Int))))) p2 (.tup [.int z]) p2 = some (.tup ((xs.take k).map V.int ++ [.int z])) := by rw [upd_same, e0]; rfl
    have ez : cutV (xs.map V.int) (some ((k : Int) + 1)) none = (xs.drop (k + 1)).map V.int := cut_drop (k := k + 1) (by omega)
    refine ⟨_, rfl, _, rfl, _, _, rfl, rfl, _, rfl, a, _, rfl, s12.sqT hA, ?_, fun p3 hp3 => ?_⟩
    · rw [List.length_map, show ((k : Int) + 1) = ((k + 1 : Nat) : Int) from rfl, sIx_some (by omega)]
      omega
    rw [ez]
    have s3 := same_new hp3 (.tup ((xs.drop (k + 1)).map V.int))
    refine .inl ⟨_, p3, _, _, rfl, rfl, SqT.of (s3 _ _ e2), SqT.of upd_same, by simp, small (by simp; omega), fun e => ?_, fun _ p4 hp4 => ?_⟩
    · have es : (xs.set k z).map V.int = (xs.take k).map V.int ++ [V.int z] := by rw [set_parts hk, e, List.append_nil]
      refine q _ _ (s12.trans s3) ?_
      rw [es]
      exact s3 _ _ e2
    · refine q _ _ ((s12.trans s3).trans (same_new hp4 _)) ?_
      rw [upd_same, set_parts hk]
  · refine .inl ⟨p1, p2, _, _, rfl, rfl, SqT.of (s2 _ _ e1), SqT.of upd_same, (by intro z; have := congrArg List.length z; rw [List.length_map, List.length_take, List.length_nil] at this; omega), small (by simp; omega), fun e => (by cases e), fun _ pp hpp => ?_⟩
    have s13 := s12.trans (same_new hpp (.tup ((xs.take k).map V.int ++ [.int z])))
    have e2 : upd (upd (upd H p1 (.tup (cutV (xs.map V.int) none (some (k : Int))))) p2 (.tup [.int z])) pp (.tup ((xs.take k).map V.int ++ [.int z])) pp = some (.tup ((xs.take k).map V.int ++ [.int z])) := upd_same
    have ez : cutV (xs.map V.int) (some ((k : Int) + 1)) none = (xs.drop (k + 1)).map V.int := cut_drop (k := k + 1) (by omega)
    refine ⟨_, rfl, _, rfl, _, _, rfl, rfl, _, rfl, a, _, rfl, s13.sqT hA, ?_, fun p3 hp3 => ?_⟩
    · rw [List.length_map, show ((k : Int) + 1) = ((k + 1 : Nat) : Int) from rfl, sIx_some (by omega)]
      omega
    rw [ez]
    have s3 := same_new hp3 (.tup ((xs.drop (k + 1)).map V.int))
    refine .inl ⟨_, p3, _, _, rfl, rfl, SqT.of (s3 _ _ e2), SqT.of upd_same, by simp, small (by simp; omega), fun e => ?_, fun _ p4 hp4 => ?_⟩
    · have es : (xs.set k z).map V.int = (xs.take k).map V.int ++ [V.int z] := by rw [set_parts hk, e, List.append_nil]
      refine q _ _ (s13.trans s3) ?_
      rw [es]
      exact s3 _ _ e2
    · refine q _ _ ((s13.trans s3).trans (same_new hp4 _)) ?_
      rw [upd_same, set_parts hk]
theorem sc_amount_at : FnScope ["point", "amount"] ["point", "amount"] (defScope s_amount_at) := ⟨rfl, rfl, rfl, by decide +kernel, rfl, by decide +kernel, by decide +kernel⟩
theorem ok_amount_at {f : Addr} {fd : FuncData} (F : Fun K "amount_at" "amount_at" s_amount_at f fd) (m : mg "amount_at" = some (.ref f)) (B : Bl mg) {Z_Go Z_Keep Z_Put Z_Ask f_Deed_asks f_Go_done f_Keep_init f_Keep_done f_Put_init f_Put_done f_Ask_init f_Ask_asks f_Ask_done f_Ask_between_ends : Addr} (T : Kl K mg Z_Go Z_Keep Z_Put Z_Ask f_Deed_asks f_Go_done f_Keep_init f_Keep_done f_Put_init f_Put_done f_Ask_init f_Ask_asks f_Ask_done f_Ask_between_ends) (D_total : Def P w K mg base CX0 "total" 2 ["point", "forms"] (sp_total K)) (D_amount_forms : Def P w K mg base CX0 "amount_forms" 1 ["amount"] (sp_amount_forms K)) : Def P w K mg base CX0 "amount_at" 3 ["point", "amount"] (sp_amount_at K) := by
  refine ⟨f, fd, F.ok sc_amount_at (fun vs H Q E h => ?_) (fun cdv A outer s H vs Q E hr h => ?_), F.binds (ps := ["point", "amount"]) fun _ _ _ _ _ _ us hl => (by obtain ⟨b0, b1, rfl⟩ := us2 hl; rfl), F.kp, m⟩
  · obtain ⟨a, b, xs, f, g, c, rfl, _⟩ := h
    rfl
  obtain ⟨a, b, xs, f, g, c, rfl, hA, hB, hf, hg, q⟩ := h
  refine ⟨_, (pss_one (ps_ret (pe_op op_add (pe_def D_total (hr.mono (by decide)) (by rfl) pass0 (pa_Name (pv 0) (pa_Call (pe_def D_amount_forms (hr.mono (by decide)) (by rfl) pass0 (pa_Name (pv 1) pa_nil)) pa_nil))) (pe_ix (ix_tupK (K := K) rfl) (pv 1) pe_int (fun _ _ => rfl))))), ?_⟩
  refine ⟨_, rfl, _, rfl, b, f, g, c, rfl, hB, fun p H1 sm1 e1 => ?_⟩
  have l2 := fsO_len f g
  refine ⟨a, p, xs, fsO f g, rfl, sm1.sqT hA, SqL.of e1, fsO_in hf hg, by omega, fun H2 sm2 => ?_⟩
  have s2 := sm1.trans sm2
  exact ⟨_, rfl, b, _, 2, _, rfl, rfl, s2.sqT hB, rfl, _, _, rfl, rfl, q H2 s2⟩
theorem sc_amount_forms : FnScope ["amount"] ["amount"] (defScope s_amount_forms) := ⟨rfl, rfl, rfl, by decide +kernel, rfl, by decide +kernel, by decide +kernel⟩
theorem ok_amount_forms {f : Addr} {fd : FuncData} (F : Fun K "amount_forms" "amount_forms" s_amount_forms f fd) (m : mg "amount_forms" = some (.ref f)) (B : Bl mg) {Z_Go Z_Keep Z_Put Z_Ask f_Deed_asks f_Go_done f_Keep_init f_Keep_done f_Put_init f_Put_done f_Ask_init f_Ask_asks f_Ask_done f_Ask_between_ends : Addr} (T : Kl K mg Z_Go Z_Keep Z_Put Z_Ask f_Deed_asks f_Go_done f_Keep_init f_Keep_done f_Put_init f_Put_done f_Ask_init f_Ask_asks f_Ask_done f_Ask_between_ends)  : Def P w K mg base CX0 "amount_forms" 1 ["amount"] (sp_amount_forms K) := by
  refine ⟨f, fd, F.ok sc_amount_forms (fun vs H Q E h => ?_) (fun cdv A outer s H vs Q E hr h => ?_), F.binds (ps := ["amount"]) fun _ _ _ _ _ _ us hl => (by obtain ⟨b0, rfl⟩ := us1 hl; rfl), F.kp, m⟩
  · obtain ⟨b, f, g, c, rfl, _⟩ := h
    rfl
  obtain ⟨b, f, g, c, rfl, hB, q⟩ := h
  refine ⟨_, (pss_one (ps_ret (pe_comp (CompScope.of sc_amount_forms.nd (by rfl)) rfl (pi_tupK (K := K) rfl (pe_slice (sl_tupK (K := K) rfl) (pv 0) po_none (po_some pe_int))) (fun _ _ _ => pif_one (pt_cmpR op_notN (pv 0) pe_non (nomark _))) (fun _ _ _ => (pv 0))))), ?_⟩
  have e0 : cutV [gV f, gV g, V.int c] none (some 2) = [gV f, gV g] := rfl
  refine ⟨_, rfl, (2 : Int), rfl, b, _, rfl, hB, (by rintro ⟨_, h⟩; cases h), fun t ht => ?_⟩
  rw [e0]
  have st := same_new ht (.tup [gV f, gV g])
  refine ⟨t, rfl, ⟨_, SqT.of upd_same⟩, fun p hp => comp_tupN (K := K) (a := t) (xs := [gV f, gV g]) (fun i ys H' => ys = ((match i with | 0 => [] | 1 => optL f | _ => fsO f g).map V.int) ∧ H' p = some (.lst ys) ∧ Same (upd H t (.tup [gV f, gV g])) H') ⟨rfl, upd_same, same_new hp _⟩ (fun i ys H' _ ⟨_, _, sm⟩ => SqT.of (sm _ _ upd_same)) ?_ ?_⟩
  · rintro i x ys H' hx ⟨rfl, hp', sm⟩
    match i, hx, hp' with
    | 0, hx, hp' =>
      cases hx
      refine ⟨_, rfl, rfl, _, rfl, ?_⟩
      cases f with
      | none =>
        refine iteF ?_
        exact again (by show 0 < 2; decide) ⟨rfl, hp', sm⟩
      | some z =>
        refine iteT ?_
        exact ⟨_, rfl, hp', small1000 (by simp), again (by show 0 < 2; decide) ⟨rfl, upd_same, same_over hp sm⟩⟩
    | 1, hx, hp' =>
      cases hx
      refine ⟨_, rfl, rfl, _, rfl, ?_⟩
      cases g with
      | none =>
        refine iteF ?_
        exact again (by show 1 < 2; decide) ⟨by simp [fsO, optL], hp', sm⟩
      | some z =>
        refine iteT ?_
        exact ⟨_, rfl, hp', small1000 (by cases f <;> simp [optL]), again (by show 1 < 2; decide) ⟨by simp [fsO, optL, gV], upd_same, same_over hp sm⟩⟩
    | i + 2, hx, _ => cases hx
  · rintro ys H' ⟨rfl, hp', sm⟩
    exact q p H' (st.trans sm) hp'
theorem sc_holds : FnScope ["point", "question", "come_to", "word", "c"] ["point", "question"] (defScope s_holds) := ⟨rfl, rfl, rfl, by decide +kernel, rfl, by decide +kernel, by decide +kernel⟩
theorem ok_holds {f : Addr} {fd : FuncData} (F : Fun K "holds" "holds" s_holds f fd) (m : mg "holds" = some (.ref f)) (B : Bl mg) {Z_Go Z_Keep Z_Put Z_Ask f_Deed_asks f_Go_done f_Keep_init f_Keep_done f_Put_init f_Put_done f_Ask_init f_Ask_asks f_Ask_done f_Ask_between_ends : Addr} (T : Kl K mg Z_Go Z_Keep Z_Put Z_Ask f_Deed_asks f_Go_done f_Keep_init f_Keep_done f_Put_init f_Put_done f_Ask_init f_Ask_asks f_Ask_done f_Ask_between_ends) (D_total : Def P w K mg base CX0 "total" 2 ["point", "forms"] (sp_total K)) (D_sum_forms : Def P w K mg base CX0 "sum_forms" 1 ["question"] (sp_sum_forms K)) : Def P w K mg base CX0 "holds" 3 ["point", "question"] (sp_holds K) := by
  refine ⟨f, fd, F.ok sc_holds (fun vs H Q E h => ?_) (fun cdv A outer s H vs Q E hr h => ?_), F.binds (ps := ["point", "question"]) fun _ _ _ _ _ _ us hl => (by obtain ⟨b0, b1, rfl⟩ := us2 hl; rfl), F.kp, m⟩
  · obtain ⟨a, b, xs, f, g, w, c, rfl, _⟩ := h
    rfl
  obtain ⟨a, b, xs, f, g, w, c, rfl, hP, hS, hf, hg, q⟩ := h
  refine ⟨_, (@pss_cons _ _ _ _ _ (ps_set (i := 2) sc_holds.nd rfl (by first | exact Or.inl rfl | exact Or.inr rfl) (pe_def D_total (hr.mono (by decide)) (by rfl) pass0 (pa_Name (pv 0) (pa_Call (pe_def D_sum_forms (hr.mono (by decide)) (by rfl) pass0 (pa_Name (pv 1) pa_nil)) pa_nil))))
    (@pss_cons _ _ _ _ _ (ps_set (i := 3) sc_holds.nd rfl (by first | exact Or.inl rfl | exact Or.inr rfl) (pe_ix (ix_tupK (K := K) rfl) (pv 1) pe_int (fun _ _ => rfl)))
    (@pss_cons _ _ _ _ _ (ps_set (i := 4) sc_holds.nd rfl (by first | exact Or.inl rfl | exact Or.inr rfl) (pe_ix (ix_tupK (K := K) rfl) (pv 1) pe_int (fun _ _ => rfl)))
    (@pss_cons _ _ _ _ _ (ps_if (pt_cmpR op_eq (pv 3) pe_str (nomark _)) (pss_one (ps_ret (pe_cmpR op_le (pv 2) (pv 4) (nomark _)))) pss_nil)
    (@pss_cons _ _ _ _ _ (ps_if (pt_cmpR op_eq (pv 3) pe_str (nomark _)) (pss_one (ps_ret (pe_cmpR op_ge (pv 2) (pv 4) (nomark _)))) pss_nil)
    (@pss_cons _ _ _ _ _ (ps_if (pt_cmpR op_eq (pv 3) pe_str (nomark _)) (pss_one (ps_ret (pe_cmpR op_eq (pv 2) (pv 4) (nomark _)))) pss_nil)
    (pss_one (ps_ret (pe_cmpR op_ne (pv 2) (pv 4) (nomark _)))))))))), ?_⟩
  refine seq_step fun U hU => ?_
  refine ⟨_, rfl, _, rfl, b, f, g, w, c, rfl, hS, fun p H1 sm1 e1 => ?_⟩
  refine ⟨a, p, xs, formsI f g, rfl, sm1.sqT hP, SqL.of e1, formsI_in hf hg, by cases g <;> simp [formsI], fun H2 sm2 => ?_⟩
  have sm := sm1.trans sm2
  have hS2 := sm.sqT hS
  have q2 := q H2 sm
  rw [sum_formsI]
  generalize sumI xs f g = tot at *
  subst hU
  simp [tSeq, tNext, tIfS, tRet, tAsg, gName, tTest, tOp, tUn, tVar, tC, rI, rI0, rU, rEq, rNe, scal, L2.start, tCall, tCB, tNil, tCons, tTup, tLst, tNot, tAnd, tOr, tAndV, tOrV, tNotV, tIf, tDrop, CDiv, tB, rIxT, rIxL, tSl, tPart, tNoPart, tYes, CPow]
  refine ⟨_, hS2, _, rfl, _, hS2, _, rfl, ?_⟩
  simp
  unfold holdsI at q2
  by_cases h1 : w = Str.ofString "most"
  · rw [if_pos h1] at q2 ⊢
    exact q2
  by_cases h2 : w = Str.ofString "least"
  · rw [if_neg h1, if_pos h2] at q2 ⊢
    exact q2
  by_cases h3 : w = Str.ofString "same"
  · rw [if_neg h1, if_neg h2, if_pos h3] at q2 ⊢
    exact q2
  · rw [if_neg h1, if_neg h2, if_neg h3] at q2 ⊢
    exact q2
theorem sc_sum_forms : FnScope ["question"] ["question"] (defScope s_sum_forms) := ⟨rfl, rfl, rfl, by decide +kernel, rfl, by decide +kernel, by decide +kernel⟩
theorem ok_sum_forms {f : Addr} {fd : FuncData} (F : Fun K "sum_forms" "sum_forms" s_sum_forms f fd) (m : mg "sum_forms" = some (.ref f)) (B : Bl mg) {Z_Go Z_Keep Z_Put Z_Ask f_Deed_asks f_Go_done f_Keep_init f_Keep_done f_Put_init f_Put_done f_Ask_init f_Ask_asks f_Ask_done f_Ask_between_ends : Addr} (T : Kl K mg Z_Go Z_Keep Z_Put Z_Ask f_Deed_asks f_Go_done f_Keep_init f_Keep_done f_Put_init f_Put_done f_Ask_init f_Ask_asks f_Ask_done f_Ask_between_ends)  : Def P w K mg base CX0 "sum_forms" 1 ["question"] (sp_sum_forms K) := by
  refine ⟨f, fd, F.ok sc_sum_forms (fun vs H Q E h => ?_) (fun cdv A outer s H vs Q E hr h => ?_), F.binds (ps := ["question"]) fun _ _ _ _ _ _ us hl => (by obtain ⟨b0, rfl⟩ := us1 hl; rfl), F.kp, m⟩
  · obtain ⟨b, f, g, w, c, rfl, _⟩ := h
    rfl
  obtain ⟨b, f, g, w, c, rfl, hS, q⟩ := h
  refine ⟨_, (@pss_cons _ _ _ _ _ (ps_if (pt_cmpR op_isN (pe_ix (ix_tupK (K := K) rfl) (pv 0) pe_int (fun _ _ => rfl)) pe_non (nomark _)) (pss_one (ps_ret (pe_lst (pa_Subscript (pe_ix (ix_tupK (K := K) rfl) (pv 0) pe_int (fun _ _ => rfl)) pa_nil)))) pss_nil)
    (pss_one (ps_ret (pe_lst (pa_Subscript (pe_ix (ix_tupK (K := K) rfl) (pv 0) pe_int (fun _ _ => rfl)) (pa_Subscript (pe_ix (ix_tupK (K := K) rfl) (pv 0) pe_int (fun _ _ => rfl)) pa_nil)))))), ?_⟩
  cases g with
  | none =>
    simp [tSeq, tNext, tIfS, tRet, tAsg, gName, tTest, tOp, tUn, tVar, tC, rI, rI0, rU, rEq, rNe, scal, L2.start, tCall, tCB, tNil, tCons, tTup, tLst, tNot, tAnd, tOr, tAndV, tOrV, tNotV, tIf, tDrop, CDiv, tB, rIxT, rIxL, tSl, tPart, tNoPart, tYes, CPow]
    refine ⟨_, hS, _, rfl, ?_⟩
    rw [if_pos (by rfl)]
    exact ⟨_, hS, _, rfl, sz 1, fun p hp => q p _ (same_new hp _) upd_same⟩
  | some g =>
    simp [tSeq, tNext, tIfS, tRet, tAsg, gName, tTest, tOp, tUn, tVar, tC, rI, rI0, rU, rEq, rNe, scal, L2.start, tCall, tCB, tNil, tCons, tTup, tLst, tNot, tAnd, tOr, tAndV, tOrV, tNotV, tIf, tDrop, CDiv, tB, rIxT, rIxL, tSl, tPart, tNoPart, tYes, CPow]
    refine ⟨_, hS, _, rfl, ?_⟩
    rw [if_neg (by simp [gV])]
    exact ⟨_, hS, _, rfl, _, hS, _, rfl, sz 2, fun p hp => q p _ (same_new hp _) upd_same⟩
theorem sc_Deed_asks : FnScope ["self"] ["self"] (defScope s_Deed_asks) := ⟨rfl, rfl, rfl, by decide +kernel, rfl, by decide +kernel, by decide +kernel⟩
theorem ok_Deed_asks {f : Addr} {fd : FuncData} (F : Fun K "asks" "Deed.asks" s_Deed_asks f fd) (B : Bl mg) {Z_Go Z_Keep Z_Put Z_Ask f_Deed_asks f_Go_done f_Keep_init f_Keep_done f_Put_init f_Put_done f_Ask_init f_Ask_asks f_Ask_done f_Ask_between_ends : Addr} (T : Kl K mg Z_Go Z_Keep Z_Put Z_Ask f_Deed_asks f_Go_done f_Keep_init f_Keep_done f_Put_init f_Put_done f_Ask_init f_Ask_asks f_Ask_done f_Ask_between_ends)  : FDef P w K mg base CX0 1 ["self"] (sp_Deed_asks K) f := by
  refine ⟨fd, F.ok sc_Deed_asks (fun vs H Q E h => ?_) (fun cdv A outer s H vs Q E hr h => ?_), F.binds (ps := ["self"]) fun _ _ _ _ _ _ us hl => (by obtain ⟨b0, rfl⟩ := us1 hl; rfl)⟩
  · obtain ⟨x, rfl, _⟩ := h
    rfl
  obtain ⟨x, rfl, q⟩ := h
  refine ⟨_, (pss_one (ps_ret pe_bl)), ?_⟩
  exact q
theorem sc_Go_done : FnScope ["self", "point", "number"] ["self", "point", "number"] (defScope s_Go_done) := ⟨rfl, rfl, rfl, by decide +kernel, rfl, by decide +kernel, by decide +kernel⟩
theorem ok_Go_done {f : Addr} {fd : FuncData} (F : Fun K "done" "Go.done" s_Go_done f fd) (B : Bl mg) {Z_Go Z_Keep Z_Put Z_Ask f_Deed_asks f_Go_done f_Keep_init f_Keep_done f_Put_init f_Put_done f_Ask_init f_Ask_asks f_Ask_done f_Ask_between_ends : Addr} (T : Kl K mg Z_Go Z_Keep Z_Put Z_Ask f_Deed_asks f_Go_done f_Keep_init f_Keep_done f_Put_init f_Put_done f_Ask_init f_Ask_asks f_Ask_done f_Ask_between_ends)  : FDef P w K mg base CX0 1 ["self", "point", "number"] (sp_Go_done K) f := by
  refine ⟨fd, F.ok sc_Go_done (fun vs H Q E h => ?_) (fun cdv A outer s H vs Q E hr h => ?_), F.binds (ps := ["self", "point", "number"]) fun _ _ _ _ _ _ us hl => (by obtain ⟨b0, b1, b2, rfl⟩ := us3 hl; rfl)⟩
  · obtain ⟨x, p, z, rfl, _⟩ := h
    rfl
  obtain ⟨x, p, z, rfl, q⟩ := h
  refine ⟨_, (pss_one (ps_ret (pv 1))), ?_⟩
  exact ⟨_, rfl, q⟩
theorem sc_Keep_init : FnScope ["self", "question"] ["self", "question"] (defScope s_Keep_init) := ⟨rfl, rfl, rfl, by decide +kernel, rfl, by decide +kernel, by decide +kernel⟩
theorem ok_Keep_init {f : Addr} {fd : FuncData} (F : Fun K "__init__" "Keep.__init__" s_Keep_init f fd) (B : Bl mg) {Z_Go Z_Keep Z_Put Z_Ask f_Deed_asks f_Go_done f_Keep_init f_Keep_done f_Put_init f_Put_done f_Ask_init f_Ask_asks f_Ask_done f_Ask_between_ends : Addr} (T : Kl K mg Z_Go Z_Keep Z_Put Z_Ask f_Deed_asks f_Go_done f_Keep_init f_Keep_done f_Put_init f_Put_done f_Ask_init f_Ask_asks f_Ask_done f_Ask_between_ends)  : FDef P w K mg base CX0 1 ["self", "question"] (sp_Keep_init K Z_Keep) f := by
  refine ⟨fd, F.ok sc_Keep_init (fun vs H Q E h => ?_) (fun cdv A outer s H vs Q E hr h => ?_), F.binds (ps := ["self", "question"]) fun _ _ _ _ _ _ us hl => (by obtain ⟨b0, b1, rfl⟩ := us2 hl; rfl)⟩
  · obtain ⟨x, dx, v, rfl, _⟩ := h
    rfl
  obtain ⟨x, dx, v, rfl, hx, q⟩ := h
  refine ⟨_, (pss_one (ps_fldK (K := K) rfl (pv 0) (pv 1))), ?_⟩
  exact ⟨_, rfl, _, rfl, x, Z_Keep, dx, [], rfl, hx, T.cl_Keep, T.n_Keep_question, (by decide), q⟩
theorem sc_Keep_done : FnScope ["self", "point", "number"] ["self", "point", "number"] (defScope s_Keep_done) := ⟨rfl, rfl, rfl, by decide +kernel, rfl, by decide +kernel, by decide +kernel⟩
theorem ok_Keep_done {f : Addr} {fd : FuncData} (F : Fun K "done" "Keep.done" s_Keep_done f fd) (B : Bl mg) {Z_Go Z_Keep Z_Put Z_Ask f_Deed_asks f_Go_done f_Keep_init f_Keep_done f_Put_init f_Put_done f_Ask_init f_Ask_asks f_Ask_done f_Ask_between_ends : Addr} (T : Kl K mg Z_Go Z_Keep Z_Put Z_Ask f_Deed_asks f_Go_done f_Keep_init f_Keep_done f_Put_init f_Put_done f_Ask_init f_Ask_asks f_Ask_done f_Ask_between_ends) (D_holds : Def P w K mg base CX0 "holds" 3 ["point", "question"] (sp_holds K)) : FDef P w K mg base CX0 4 ["self", "point", "number"] (sp_Keep_done K Z_Keep) f := by
  refine ⟨fd, F.ok sc_Keep_done (fun vs H Q E h => ?_) (fun cdv A outer s H vs Q E hr h => ?_), F.binds (ps := ["self", "point", "number"]) fun _ _ _ _ _ _ us hl => (by obtain ⟨b0, b1, b2, rfl⟩ := us3 hl; rfl)⟩
  · obtain ⟨x, dx, qa, pt, xs, f1, g1, w1, c1, z, rfl, _⟩ := h
    rfl
  obtain ⟨x, dx, qa, pt, xs, f1, g1, w1, c1, z, rfl, hx, hqa, hpt, hf, hg, q⟩ := h
  refine ⟨_, (@pss_cons _ _ _ _ _ (ps_if (pt_val (pe_def D_holds (hr.mono (by decide)) (by rfl) pass0 (pa_Name (pv 1) (pa_cons (pe_fldK (K := K) rfl (pv 0)) pa_nil)))) (pss_one (ps_ret (pv 1))) pss_nil)
    (pss_one (ps_ret pe_non))), ?_⟩
  refine seq_step fun U hU => ?_
  refine ⟨_, rfl, _, rfl, x, Z_Keep, dx, _, _, rfl, hx, T.cl_Keep, T.n_Keep_question, lkK _, pt, qa, xs, f1, g1, w1, c1, rfl, SqT.of hpt, SqT.of hqa, hf, hg, fun H1 sm1 => ?_⟩
  refine ⟨_, rfl, ?_⟩
  have q1 := q H1 sm1
  cases hh : holdsI w1 (sumI xs f1 g1) c1 with
  | true =>
    rw [hh, if_pos rfl] at q1
    refine iteT ?_
    exact ⟨_, rfl, q1⟩
  | false =>
    rw [hh, if_neg (by decide)] at q1
    refine iteF ?_
    show U _ _
    subst hU
    exact q1
theorem sc_Put_init : FnScope ["self", "k", "amount"] ["self", "k", "amount"] (defScope s_Put_init) := ⟨rfl, rfl, rfl, by decide +kernel, rfl, by decide +kernel, by decide +kernel⟩
theorem ok_Put_init {f : Addr} {fd : FuncData} (F : Fun K "__init__" "Put.__init__" s_Put_init f fd) (B : Bl mg) {Z_Go Z_Keep Z_Put Z_Ask f_Deed_asks f_Go_done f_Keep_init f_Keep_done f_Put_init f_Put_done f_Ask_init f_Ask_asks f_Ask_done f_Ask_between_ends : Addr} (T : Kl K mg Z_Go Z_Keep Z_Put Z_Ask f_Deed_asks f_Go_done f_Keep_init f_Keep_done f_Put_init f_Put_done f_Ask_init f_Ask_asks f_Ask_done f_Ask_between_ends)  : FDef P w K mg base CX0 1 ["self", "k", "amount"] (sp_Put_init K Z_Put) f := by
  refine ⟨fd, F.ok sc_Put_init (fun vs H Q E h => ?_) (fun cdv A outer s H vs Q E hr h => ?_), F.binds (ps := ["self", "k", "amount"]) fun _ _ _ _ _ _ us hl => (by obtain ⟨b0, b1, b2, rfl⟩ := us3 hl; rfl)⟩
  · obtain ⟨x, dx, v, u, rfl, _⟩ := h
    rfl
  obtain ⟨x, dx, v, u, rfl, hx, q⟩ := h
  refine ⟨_, (@pss_cons _ _ _ _ _ (ps_fldK (K := K) rfl (pv 0) (pv 1))
    (pss_one (ps_fldK (K := K) rfl (pv 0) (pv 2)))), ?_⟩
  exact ⟨_, rfl, _, rfl, x, Z_Put, dx, [], rfl, hx, T.cl_Put, T.n_Put_k, (by decide), _, rfl, _, rfl, x, Z_Put, dx, _, rfl, upd_same, T.cl_Put, T.n_Put_amount, (by show 1 < 1000; decide), q⟩
theorem sc_Put_done : FnScope ["self", "point", "number"] ["self", "point", "number"] (defScope s_Put_done) := ⟨rfl, rfl, rfl, by decide +kernel, rfl, by decide +kernel, by decide +kernel⟩
theorem ok_Put_done {f : Addr} {fd : FuncData} (F : Fun K "done" "Put.done" s_Put_done f fd) (B : Bl mg) {Z_Go Z_Keep Z_Put Z_Ask f_Deed_asks f_Go_done f_Keep_init f_Keep_done f_Put_init f_Put_done f_Ask_init f_Ask_asks f_Ask_done f_Ask_between_ends : Addr} (T : Kl K mg Z_Go Z_Keep Z_Put Z_Ask f_Deed_asks f_Go_done f_Keep_init f_Keep_done f_Put_init f_Put_done f_Ask_init f_Ask_asks f_Ask_done f_Ask_between_ends) (D_with_number : Def P w K mg base CX0 "with_number" 1 ["point", "k", "number"] (sp_with_number K)) (D_amount_at : Def P w K mg base CX0 "amount_at" 3 ["point", "amount"] (sp_amount_at K)) : FDef P w K mg base CX0 4 ["self", "point", "number"] (sp_Put_done K Z_Put) f := by
  refine ⟨fd, F.ok sc_Put_done (fun vs H Q E h => ?_) (fun cdv A outer s H vs Q E hr h => ?_), F.binds (ps := ["self", "point", "number"]) fun _ _ _ _ _ _ us hl => (by obtain ⟨b0, b1, b2, rfl⟩ := us3 hl; rfl)⟩
  · obtain ⟨x, dx, aa, pt, xs, k, f1, g1, c1, z, rfl, _⟩ := h
    rfl
  obtain ⟨x, dx, aa, pt, xs, k, f1, g1, c1, z, rfl, hx, haa, hpt, hk, l100, hf, hg, q⟩ := h
  refine ⟨_, (pss_one (ps_ret (pe_def D_with_number (hr.mono (by decide)) (by rfl) pass0 (pa_Name (pv 1) (pa_cons (pe_fldK (K := K) rfl (pv 0)) (pa_Call (pe_def D_amount_at (hr.mono (by decide)) (by rfl) pass0 (pa_Name (pv 1) (pa_cons (pe_fldK (K := K) rfl (pv 0)) pa_nil))) pa_nil)))))), ?_⟩
  refine ⟨_, rfl, _, rfl, x, Z_Put, dx, _, _, rfl, hx, T.cl_Put, T.n_Put_k, lkPk _ _, _, rfl, _, rfl, x, Z_Put, dx, _, _, rfl, hx, T.cl_Put, T.n_Put_amount, lkPa _ _, pt, aa, xs, f1, g1, c1, rfl, SqT.of hpt, SqT.of haa, hf, hg, fun H1 sm1 => ?_⟩
  exact ⟨pt, xs, k, _, rfl, SqT.of (sm1 _ _ hpt), hk, l100, fun p H2 sm2 e2 => q p H2 (sm1.trans sm2) e2⟩
theorem sc_Ask_init : FnScope ["self", "k", "low", "high"] ["self", "k", "low", "high"] (defScope s_Ask_init) := ⟨rfl, rfl, rfl, by decide +kernel, rfl, by decide +kernel, by decide +kernel⟩
theorem ok_Ask_init {f : Addr} {fd : FuncData} (F : Fun K "__init__" "Ask.__init__" s_Ask_init f fd) (B : Bl mg) {Z_Go Z_Keep Z_Put Z_Ask f_Deed_asks f_Go_done f_Keep_init f_Keep_done f_Put_init f_Put_done f_Ask_init f_Ask_asks f_Ask_done f_Ask_between_ends : Addr} (T : Kl K mg Z_Go Z_Keep Z_Put Z_Ask f_Deed_asks f_Go_done f_Keep_init f_Keep_done f_Put_init f_Put_done f_Ask_init f_Ask_asks f_Ask_done f_Ask_between_ends)  : FDef P w K mg base CX0 1 ["self", "k", "low", "high"] (sp_Ask_init K Z_Ask) f := by
  refine ⟨fd, F.ok sc_Ask_init (fun vs H Q E h => ?_) (fun cdv A outer s H vs Q E hr h => ?_), F.binds (ps := ["self", "k", "low", "high"]) fun _ _ _ _ _ _ us hl => (by obtain ⟨b0, b1, b2, b3, rfl⟩ := us4 hl; rfl)⟩
  · obtain ⟨x, dx, v, u, t, rfl, _⟩ := h
    rfl
  obtain ⟨x, dx, v, u, t, rfl, hx, q⟩ := h
  refine ⟨_, (@pss_cons _ _ _ _ _ (ps_fldK (K := K) rfl (pv 0) (pv 1))
    (@pss_cons _ _ _ _ _ (ps_fldK (K := K) rfl (pv 0) (pv 2))
    (pss_one (ps_fldK (K := K) rfl (pv 0) (pv 3))))), ?_⟩
  exact ⟨_, rfl, _, rfl, x, Z_Ask, dx, [], rfl, hx, T.cl_Ask, T.n_Ask_k, (by decide), _, rfl, _, rfl, x, Z_Ask, dx, _, rfl, upd_same, T.cl_Ask, T.n_Ask_low, (by show 1 < 1000; decide), _, rfl, _, rfl, x, Z_Ask, dx, _, rfl, upd_same, T.cl_Ask, T.n_Ask_high, (by rw [two_low]; decide), q⟩
theorem sc_Ask_asks : FnScope ["self"] ["self"] (defScope s_Ask_asks) := ⟨rfl, rfl, rfl, by decide +kernel, rfl, by decide +kernel, by decide +kernel⟩
theorem ok_Ask_asks {f : Addr} {fd : FuncData} (F : Fun K "asks" "Ask.asks" s_Ask_asks f fd) (B : Bl mg) {Z_Go Z_Keep Z_Put Z_Ask f_Deed_asks f_Go_done f_Keep_init f_Keep_done f_Put_init f_Put_done f_Ask_init f_Ask_asks f_Ask_done f_Ask_between_ends : Addr} (T : Kl K mg Z_Go Z_Keep Z_Put Z_Ask f_Deed_asks f_Go_done f_Keep_init f_Keep_done f_Put_init f_Put_done f_Ask_init f_Ask_asks f_Ask_done f_Ask_between_ends)  : FDef P w K mg base CX0 1 ["self"] (sp_Ask_asks K) f := by
  refine ⟨fd, F.ok sc_Ask_asks (fun vs H Q E h => ?_) (fun cdv A outer s H vs Q E hr h => ?_), F.binds (ps := ["self"]) fun _ _ _ _ _ _ us hl => (by obtain ⟨b0, rfl⟩ := us1 hl; rfl)⟩
  · obtain ⟨x, rfl, _⟩ := h
    rfl
  obtain ⟨x, rfl, q⟩ := h
  refine ⟨_, (pss_one (ps_ret pe_bl)), ?_⟩
  exact q
theorem sc_Ask_done : FnScope ["self", "point", "number"] ["self", "point", "number"] (defScope s_Ask_done) := ⟨rfl, rfl, rfl, by decide +kernel, rfl, by decide +kernel, by decide +kernel⟩
theorem ok_Ask_done {f : Addr} {fd : FuncData} (F : Fun K "done" "Ask.done" s_Ask_done f fd) (B : Bl mg) {Z_Go Z_Keep Z_Put Z_Ask f_Deed_asks f_Go_done f_Keep_init f_Keep_done f_Put_init f_Put_done f_Ask_init f_Ask_asks f_Ask_done f_Ask_between_ends : Addr} (T : Kl K mg Z_Go Z_Keep Z_Put Z_Ask f_Deed_asks f_Go_done f_Keep_init f_Keep_done f_Put_init f_Put_done f_Ask_init f_Ask_asks f_Ask_done f_Ask_between_ends) (D_with_number : Def P w K mg base CX0 "with_number" 1 ["point", "k", "number"] (sp_with_number K)) (D_Ask_between_ends : FDef P w K mg base CX0 2 ["self", "number"] (sp_Ask_between_ends K Z_Ask) f_Ask_between_ends) : FDef P w K mg base CX0 3 ["self", "point", "number"] (sp_Ask_done K Z_Ask) f := by
  refine ⟨fd, F.ok sc_Ask_done (fun vs H Q E h => ?_) (fun cdv A outer s H vs Q E hr h => ?_), F.binds (ps := ["self", "point", "number"]) fun _ _ _ _ _ _ us hl => (by obtain ⟨b0, b1, b2, rfl⟩ := us3 hl; rfl)⟩
  · obtain ⟨x, dx, pt, xs, k, lo, hi, z, rfl, _⟩ := h
    rfl
  obtain ⟨x, dx, pt, xs, k, lo, hi, z, rfl, hx, hpt, hk, l100, q⟩ := h
  refine ⟨_, (pss_one (ps_ret (pe_def D_with_number (hr.mono (by decide)) (by rfl) pass0 (pa_Name (pv 1) (pa_cons (pe_fldK (K := K) rfl (pv 0)) (pa_Call (pe_mdef D_Ask_between_ends T.cl_Ask T.me_Ask_between_ends (pv 0) (hr.mono (by decide)) pass0 (pa_Name (pv 2) pa_nil)) pa_nil)))))), ?_⟩
  exact ⟨_, rfl, _, rfl, x, Z_Ask, dx, _, _, rfl, hx, T.cl_Ask, T.n_Ask_k, lkAk _ _ _, _, rfl, x, dx, _, rfl, hx, noA off_between _ _ _, _, rfl, x, dx, .int k, lo, hi, z, rfl, hx, pt, xs, k, _, rfl, SqT.of hpt, hk, l100, fun p H2 sm2 e2 => q p H2 sm2 e2⟩
theorem sc_Ask_between_ends : FnScope ["self", "number"] ["self", "number"] (defScope s_Ask_between_ends) := ⟨rfl, rfl, rfl, by decide +kernel, rfl, by decide +kernel, by decide +kernel⟩
theorem ok_Ask_between_ends {f : Addr} {fd : FuncData} (F : Fun K "between_ends" "Ask.between_ends" s_Ask_between_ends f fd) (B : Bl mg) {Z_Go Z_Keep Z_Put Z_Ask f_Deed_asks f_Go_done f_Keep_init f_Keep_done f_Put_init f_Put_done f_Ask_init f_Ask_asks f_Ask_done f_Ask_between_ends : Addr} (T : Kl K mg Z_Go Z_Keep Z_Put Z_Ask f_Deed_asks f_Go_done f_Keep_init f_Keep_done f_Put_init f_Put_done f_Ask_init f_Ask_asks f_Ask_done f_Ask_between_ends) (D_below : Def P w K mg base CX0 "below" 1 ["entry", "number"] (sp_below K)) : FDef P w K mg base CX0 2 ["self", "number"] (sp_Ask_between_ends K Z_Ask) f := by
  refine ⟨fd, F.ok sc_Ask_between_ends (fun vs H Q E h => ?_) (fun cdv A outer s H vs Q E hr h => ?_), F.binds (ps := ["self", "number"]) fun _ _ _ _ _ _ us hl => (by obtain ⟨b0, b1, rfl⟩ := us2 hl; rfl)⟩
  · obtain ⟨x, dx, k, lo, hi, z, rfl, _⟩ := h
    rfl
  obtain ⟨x, dx, k, lo, hi, z, rfl, hx, q⟩ := h
  refine ⟨_, (@pss_cons _ _ _ _ _ (ps_if (pw_and (pt_cmpR op_notN (pe_fldK (K := K) rfl (pv 0)) pe_non (nomark _)) (pw_and1 (pt_cmpR op_lt (pv 1) (pe_fldK (K := K) rfl (pv 0)) (nomark _)))).pt (pss_one (ps_ret (pe_fldK (K := K) rfl (pv 0)))) pss_nil)
    (@pss_cons _ _ _ _ _ (ps_if (pt_val (pe_def D_below (hr.mono (by decide)) (by rfl) pass0 (pa_cons (pe_fldK (K := K) rfl (pv 0)) (pa_Name (pv 1) pa_nil)))) (pss_one (ps_ret (pe_fldK (K := K) rfl (pv 0)))) pss_nil)
    (pss_one (ps_ret (pv 1))))), ?_⟩
  refine seq_step fun U hU => ?_
  have rest : (∀ l, lo = some l → ¬ z < l) → U [some (.ref x), some (.int z)] H := by
    intro hno
    have eq1 := clamp_no (hi := hi) hno
    rw [eq1] at q
    subst hU
    refine seq_step fun U hU => ?_
    refine ⟨_, rfl, x, Z_Ask, dx, _, _, rfl, hx, T.cl_Ask, T.n_Ask_high, lkAh _ _ _, _, rfl, hi, z, rfl, _, rfl, ?_⟩
    cases hi with
    | none =>
      refine iteF ?_
      show U _ _
      subst hU
      exact ⟨_, rfl, q⟩
    | some y =>
      by_cases h : y < z
      · have q2 : Q (.int y) H := by rw [cap_hi h] at q; exact q
        rw [show belowE (some y) z = true from decide_eq_true h]
        refine iteT ?_
        exact ⟨_, rfl, x, Z_Ask, dx, _, _, rfl, hx, T.cl_Ask, T.n_Ask_high, lkAh _ _ _, q2⟩
      · have q2 : Q (.int z) H := by rw [cap_no h] at q; exact q
        rw [show belowE (some y) z = false from decide_eq_false h]
        refine iteF ?_
        show U _ _
        subst hU
        exact ⟨_, rfl, q2⟩
  refine ⟨_, rfl, x, Z_Ask, dx, _, _, rfl, hx, T.cl_Ask, T.n_Ask_low, lkAl _ _ _, rfl, _, rfl, ?_⟩
  cases lo with
  | none =>
    refine iteF ?_
    refine iteF ?_
    exact rest (fun l e => by cases e)
  | some l =>
    refine iteT ?_
    refine ⟨_, rfl, _, rfl, x, Z_Ask, dx, _, _, rfl, hx, T.cl_Ask, T.n_Ask_low, lkAl _ _ _, _, _, rfl, rfl, _, rfl, ?_⟩
    by_cases h : z < l
    · rw [clamp_lo h] at q
      rw [decide_eq_true h]
      refine iteT ?_
      exact ⟨_, rfl, x, Z_Ask, dx, _, _, rfl, hx, T.cl_Ask, T.n_Ask_low, lkAl _ _ _, q⟩
    · rw [decide_eq_false h]
      refine iteF ?_
      exact rest (fun l' e => by cases e; exact h)
theorem sc__law_cell : FnScope ["_law_script", "_law_k", "_law_seed", "_law_some"] ["_law_script", "_law_k"] (defScope s__law_cell) := ⟨rfl, rfl, rfl, by decide +kernel, rfl, by decide +kernel, by decide +kernel⟩
theorem ok__law_cell {f : Addr} {fd : FuncData} (F : Fun K "_law_cell" "_law_cell" s__law_cell f fd) (m : mg "_law_cell" = some (.ref f)) (B : Bl mg) {Z_Go Z_Keep Z_Put Z_Ask f_Deed_asks f_Go_done f_Keep_init f_Keep_done f_Put_init f_Put_done f_Ask_init f_Ask_asks f_Ask_done f_Ask_between_ends : Addr} (T : Kl K mg Z_Go Z_Keep Z_Put Z_Ask f_Deed_asks f_Go_done f_Keep_init f_Keep_done f_Put_init f_Put_done f_Ask_init f_Ask_asks f_Ask_done f_Ask_between_ends)  : Def P w K mg base CX0 "_law_cell" 1 ["_law_script", "_law_k"] (sp__law_cell K) := by
  refine ⟨f, fd, F.ok sc__law_cell (fun vs H Q E h => ?_) (fun cdv A outer s H vs Q E hr h => ?_), F.binds (ps := ["_law_script", "_law_k"]) fun _ _ _ _ _ _ us hl => (by obtain ⟨b0, b1, rfl⟩ := us2 hl; rfl), F.kp, m⟩
  · obtain ⟨a, ns, k, rfl, _⟩ := h
    rfl
  obtain ⟨a, ns, k, rfl, hS, h0, q⟩ := h
  refine ⟨_, (@pss_cons _ _ _ _ _ (ps_if (pt_cmpR op_lt (pv 1) (pe_callB (call_lenK (K := K) rfl) (by rfl) B.len (by decide +kernel) (pa_Name (pv 0) pa_nil)) (nomark _)) (pss_one (ps_ret (pe_ix (ix_listK (K := K) rfl) (pv 0) (pv 1) (fun _ _ => rfl)))) pss_nil)
    (@pss_cons _ _ _ _ _ (ps_set (i := 2) sc__law_cell.nd rfl (by first | exact Or.inl rfl | exact Or.inr rfl) (pe_op op_mul (pv 1) pe_int))
    (@pss_cons _ _ _ _ _ (ps_if (pt_cmpR op_gt (pe_callB (call_lenK (K := K) rfl) (by rfl) B.len (by decide +kernel) (pa_Name (pv 0) pa_nil)) pe_int (nomark _)) (pss_one (ps_set (i := 2) sc__law_cell.nd rfl (by first | exact Or.inl rfl | exact Or.inr rfl) (pe_op op_add (pv 2) (pe_op op_mod (pe_ix (ix_listK (K := K) rfl) (pv 0) (pe_op op_mod (pv 1) (pe_callB (call_lenK (K := K) rfl) (by rfl) B.len (by decide +kernel) (pa_Name (pv 0) pa_nil))) (fun _ _ => rfl)) pe_int)))) pss_nil)
    (@pss_cons _ _ _ _ _ (ps_set (i := 3) sc__law_cell.nd rfl (by first | exact Or.inl rfl | exact Or.inr rfl) (pe_op op_mod (pe_op op_mul (pv 2) pe_int) pe_int))
    (pss_one (ps_ret (pe_op op_mod (pe_op op_fdiv (pe_op op_mul (pv 3) (pe_op op_add (pe_op op_add (pv 3) (pe_op op_mul pe_int (pv 1))) pe_int)) pe_int) pe_int))))))), ?_⟩
  have hl : (ns.map V.int).length = ns.length := List.length_map _
  refine seq_step fun U hU => ?_
  refine ⟨_, rfl, _, rfl, a, _, rfl, .inl hS, _, _, rfl, rfl, _, rfl, ?_⟩
  rw [hl]
  unfold cellI at q
  refine ite2 (fun h => ?_) (fun h => ?_)
  · have c := of_decide_eq_true h
    rw [if_pos c] at q
    exact ⟨_, rfl, _, rfl, a, _, k, _, rfl, rfl, hS, atI_int h0 c, q⟩
  have c := fun z => h (decide_eq_true z)
  rw [if_neg c] at q
  show U _ _
  subst hU
  refine seq_step fun U hU => ?_
  refine ⟨_, rfl, _, _, rfl, rfl, .inr ⟨by decide, by decide⟩, ?_⟩
  show U _ _
  subst hU
  refine seq_step fun U hU => ?_
  have last : ∀ sd : Int, Q (.int (hashI k sd)) H → U [some (V.ref a), some (.int k), some (.int sd), none] H := fun sd q => by
    subst hU
    refine seq_step fun U hU => ?_
    refine ⟨_, rfl, _, _, rfl, rfl, .inr ⟨by decide, by decide⟩, _, _, rfl, rfl, (by show (0 : Int) < 65537; decide), ?_⟩
    show U _ _
    dsimp only
    subst hU
    have m1 := Int.emod_nonneg (sd * 48271) (b := 65537) (by decide)
    have m2 := Int.emod_lt_of_pos (sd * 48271) (b := 65537) (by decide)
    unfold hashI at q
    generalize sd * 48271 % 65537 = t at *
    exact ⟨_, rfl, _, rfl, _, rfl, _, _, rfl, rfl, .inl ⟨by decide, by decide⟩, _, _, rfl, rfl, _, _, rfl, rfl, _, _, rfl, rfl, .inl ⟨by show -(2 ^ 64) < t; omega, by show t < 2 ^ 64; omega⟩, _, _, rfl, rfl, ⟨by decide, by decide⟩, _, _, rfl, rfl, (by show (0 : Int) < 65521; decide), q⟩
  refine ⟨_, rfl, a, _, rfl, .inl hS, _, _, rfl, rfl, _, rfl, ?_⟩
  rw [hl]
  refine ite2 (fun d => ?_) (fun d => ?_)
  · have d' : 0 < ns.length := by have := of_decide_eq_true d; omega
    rw [if_pos d'] at q
    have m1 := Int.emod_nonneg k (b := (ns.length : Int)) (by omega)
    have m2 := Int.emod_lt_of_pos k (b := (ns.length : Int)) (by omega)
    refine ⟨_, rfl, _, rfl, _, rfl, _, rfl, a, _, rfl, .inl hS, _, _, rfl, rfl, (by show (0 : Int) < ((ns.map V.int).length : Int); rw [hl]; omega), a, _, _, _, rfl, rfl, hS, (by show atI _ (k % ((ns.map V.int).length : Int)) = _; rw [hl]; exact atI_int m1 m2), _, _, rfl, rfl, (by show (0 : Int) < 65537; decide), _, _, rfl, rfl, ?_⟩
    exact last _ q
  · have d' : ¬ 0 < ns.length := fun z => d (decide_eq_true (by omega))
    rw [if_neg d'] at q
    exact last _ q
theorem sc__law_whole : FnScope ["_law_found"] ["_law_found"] (defScope s__law_whole) := ⟨rfl, rfl, rfl, by decide +kernel, rfl, by decide +kernel, by decide +kernel⟩
theorem ok__law_whole {f : Addr} {fd : FuncData} (F : Fun K "_law_whole" "_law_whole" s__law_whole f fd) (m : mg "_law_whole" = some (.ref f)) (B : Bl mg) {Z_Go Z_Keep Z_Put Z_Ask f_Deed_asks f_Go_done f_Keep_init f_Keep_done f_Put_init f_Put_done f_Ask_init f_Ask_asks f_Ask_done f_Ask_between_ends : Addr} (T : Kl K mg Z_Go Z_Keep Z_Put Z_Ask f_Deed_asks f_Go_done f_Keep_init f_Keep_done f_Put_init f_Put_done f_Ask_init f_Ask_asks f_Ask_done f_Ask_between_ends)  : Def P w K mg base CX0 "_law_whole" 1 ["_law_found"] (sp__law_whole K) := by
  refine ⟨f, fd, F.ok sc__law_whole (fun vs H Q E h => ?_) (fun cdv A outer s H vs Q E hr h => ?_), F.binds (ps := ["_law_found"]) fun _ _ _ _ _ _ us hl => (by obtain ⟨b0, rfl⟩ := us1 hl; rfl), F.kp, m⟩
  · obtain ⟨i, rfl, _⟩ := h
    rfl
  obtain ⟨i, rfl, q⟩ := h
  refine ⟨_, (pss_one (ps_ret (pe_and (pe_callB (call_isTyK (K := K) rfl) (by rfl) B.isinstance (by decide +kernel) (pa_Name (pv 0) (pa_Name (pe_bltn (v := .ty "int") (u := .type "int") (by rfl) B.int (by decide +kernel) rfl) pa_nil))) (pe_one (pe_not (pe_callB (call_isTyK (K := K) rfl) (by rfl) B.isinstance (by decide +kernel) (pa_Name (pv 0) (pa_Name (pe_bltn (v := .ty "bool") (u := .type "bool") (by rfl) B.bool (by decide +kernel) rfl) pa_nil)))))))), ?_⟩
  simp [tSeq, tNext, tIfS, tRet, tAsg, gName, tTest, tOp, tUn, tVar, tC, rI, rI0, rU, rEq, rNe, scal, L2.start, tCall, tCB, tNil, tCons, tTup, tLst, tNot, tAnd, tOr, tAndV, tOrV, tNotV, tIf, tDrop, CDiv, tB, rIxT, rIxL, tSl, tPart, tNoPart, tYes, CPow, -Bool.exists_bool]
  exact ⟨_, isT_int_int, by simp; exact .inl ⟨isT_int_bool, q⟩⟩
theorem sc__law_big : FnScope ["_law_cell_here"] ["_law_cell_here"] (defScope s__law_big) := ⟨rfl, rfl, rfl, by decide +kernel, rfl, by decide +kernel, by decide +kernel⟩
theorem ok__law_big {f : Addr} {fd : FuncData} (F : Fun K "_law_big" "_law_big" s__law_big f fd) (m : mg "_law_big" = some (.ref f)) (B : Bl mg) {Z_Go Z_Keep Z_Put Z_Ask f_Deed_asks f_Go_done f_Keep_init f_Keep_done f_Put_init f_Put_done f_Ask_init f_Ask_asks f_Ask_done f_Ask_between_ends : Addr} (T : Kl K mg Z_Go Z_Keep Z_Put Z_Ask f_Deed_asks f_Go_done f_Keep_init f_Keep_done f_Put_init f_Put_done f_Ask_init f_Ask_asks f_Ask_done f_Ask_between_ends)  : Def P w K mg base CX0 "_law_big" 1 ["_law_cell_here"] (sp__law_big K) := by
  refine ⟨f, fd, F.ok sc__law_big (fun vs H Q E h => ?_) (fun cdv A outer s H vs Q E hr h => ?_), F.binds (ps := ["_law_cell_here"]) fun _ _ _ _ _ _ us hl => (by obtain ⟨b0, rfl⟩ := us1 hl; rfl), F.kp, m⟩
  · obtain ⟨c, rfl, _⟩ := h
    rfl
  obtain ⟨c, rfl, q⟩ := h
  refine ⟨_, (@pss_cons _ _ _ _ _ (ps_if (pt_cmpR op_eq (pe_op op_mod (pv 0) pe_int) pe_int (nomark _)) (pss_one (ps_ret (pe_op op_sub (pe_op op_mod (pe_op op_fdiv (pv 0) pe_int) (pe_op op_add (pe_op op_mul pe_int (pe_op op_pow pe_int pe_int)) pe_int)) (pe_op op_pow pe_int pe_int)))) pss_nil)
    (pss_one (ps_ret (pe_op op_sub (pe_op op_mod (pe_op op_fdiv (pv 0) pe_int) pe_int) pe_int)))), ?_⟩
  simp [tSeq, tNext, tIfS, tRet, tAsg, gName, tTest, tOp, tUn, tVar, tC, rI, rI0, rU, rEq, rNe, scal, L2.start, tCall, tCB, tNil, tCons, tTup, tLst, tNot, tAnd, tOr, tAndV, tOrV, tNotV, tIf, tDrop, CDiv, tB, rIxT, rIxL, tSl, tPart, tNoPart, tYes, CPow, CMul]
  unfold bigI at q
  split
  · rename_i d
    rw [if_pos d] at q
    exact q
  · rename_i d
    rw [if_neg d] at q
    exact q
theorem sc__law_point : FnScope ["_law_script", "_law_at", "_law_count"] ["_law_script", "_law_at", "_law_count"] (defScope s__law_point) := ⟨rfl, rfl, rfl, by decide +kernel, rfl, by decide +kernel, by decide +kernel⟩
theorem ok__law_point {f : Addr} {fd : FuncData} (F : Fun K "_law_point" "_law_point" s__law_point f fd) (m : mg "_law_point" = some (.ref f)) (B : Bl mg) {Z_Go Z_Keep Z_Put Z_Ask f_Deed_asks f_Go_done f_Keep_init f_Keep_done f_Put_init f_Put_done f_Ask_init f_Ask_asks f_Ask_done f_Ask_between_ends : Addr} (T : Kl K mg Z_Go Z_Keep Z_Put Z_Ask f_Deed_asks f_Go_done f_Keep_init f_Keep_done f_Put_init f_Put_done f_Ask_init f_Ask_asks f_Ask_done f_Ask_between_ends) (D__law_big : Def P w K mg base CX0 "_law_big" 1 ["_law_cell_here"] (sp__law_big K)) (D__law_cell : Def P w K mg base CX0 "_law_cell" 1 ["_law_script", "_law_k"] (sp__law_cell K)) : Def P w K mg base CX0 "_law_point" 2 ["_law_script", "_law_at", "_law_count"] (sp__law_point K) := by
  refine ⟨f, fd, F.ok sc__law_point (fun vs H Q E h => ?_) (fun cdv A outer s H vs Q E hr h => ?_), F.binds (ps := ["_law_script", "_law_at", "_law_count"]) fun _ _ _ _ _ _ us hl => (by obtain ⟨b0, b1, b2, rfl⟩ := us3 hl; rfl), F.kp, m⟩
  · obtain ⟨a, ns, k, n, rfl, _⟩ := h
    rfl
  obtain ⟨a, ns, k, n, rfl, hS, h0, hn, q⟩ := h
  refine ⟨_, (pss_one (ps_ret (pe_callTy (call_tuple_ofK (K := K) rfl) (by rfl) B.tuple (by decide +kernel) (pa_cons (pe_comp (CompScope.of sc__law_point.nd (by rfl)) rfl (pi_range1 (by rfl) B.range (pa_Name (pv 2) pa_nil)) (fun _ _ _ => pif_nil) (fun _ _ _ => (pe_def D__law_big (hr.mono (by decide)) (by rfl) pass0 (pa_Call (pe_def D__law_cell (hr.mono (by decide)) (by rfl) pass0 (pa_Name (pv 1) (pa_BinOp (pe_op op_add (pv 2) (pv 0)) pa_nil))) pa_nil)))) pa_nil)))), ?_⟩
  refine ⟨_, rfl, (n : Int), rfl, by omega, by omega, fun p hp => comp_rangeN (lo := 0) (n := (n : Int).toNat) (fun i ys H' => ys = (pointI ns k i).map V.int ∧ H' p = some (.lst ys) ∧ Same H H') ⟨rfl, upd_same, same_new hp _⟩ ?_ ?_⟩
  · rintro i ys H' hi ⟨rfl, hp', sm⟩
    simp [tSeq, tNext, tIfS, tRet, tAsg, gName, tTest, tOp, tUn, tVar, tC, rI, rI0, rU, rEq, rNe, scal, L2.start, tCall, tCB, tNil, tCons, tTup, tLst, tNot, tAnd, tOr, tAndV, tOrV, tNotV, tIf, tDrop, CDiv, tB, rIxT, rIxL, tSl, tPart, tNoPart, tYes, CPow, sp__law_big, sp__law_cell]
    refine ⟨_, _, _, ⟨rfl, rfl⟩, sm.seq hS, by omega, hp', ?_, again hi ⟨?_, ?_, fun b o e => ?_⟩⟩
    · rw [pointI_length]; exact Nat.lt_of_le_of_lt (Nat.le_of_lt hi) (small1000 (by omega))
    · rw [pointI_succ]; simp
    · rw [upd_same]
    · rw [upd_ne (fun z => by subst z; rw [hp] at e; cases e)]
      exact sm b o e
  · rintro ys H' ⟨rfl, hp', sm⟩
    have en : (n : Int).toNat = n := Int.toNat_natCast n
    rw [en] at hp'
    refine ⟨p, _, rfl, .inl ⟨SqL.of hp', fun l hl => q l _ (sm.free hl) (sm.trans (same_new hl _)) upd_same⟩⟩
theorem sc__law_worth : FnScope ["_law_point_here", "_law_f"] ["_law_point_here", "_law_f"] (defScope s__law_worth) := ⟨rfl, rfl, rfl, by decide +kernel, rfl, by decide +kernel, by decide +kernel⟩
theorem ok__law_worth {f : Addr} {fd : FuncData} (F : Fun K "_law_worth" "_law_worth" s__law_worth f fd) (m : mg "_law_worth" = some (.ref f)) (B : Bl mg) {Z_Go Z_Keep Z_Put Z_Ask f_Deed_asks f_Go_done f_Keep_init f_Keep_done f_Put_init f_Put_done f_Ask_init f_Ask_asks f_Ask_done f_Ask_between_ends : Addr} (T : Kl K mg Z_Go Z_Keep Z_Put Z_Ask f_Deed_asks f_Go_done f_Keep_init f_Keep_done f_Put_init f_Put_done f_Ask_init f_Ask_asks f_Ask_done f_Ask_between_ends)  : Def P w K mg base CX0 "_law_worth" 1 ["_law_point_here", "_law_f"] (sp__law_worth K) := by
  refine ⟨f, fd, F.ok sc__law_worth (fun vs H Q E h => ?_) (fun cdv A outer s H vs Q E hr h => ?_), F.binds (ps := ["_law_point_here", "_law_f"]) fun _ _ _ _ _ _ us hl => (by obtain ⟨b0, b1, rfl⟩ := us2 hl; rfl), F.kp, m⟩
  · obtain ⟨a, ns, f, rfl, _⟩ := h
    rfl
  obtain ⟨a, ns, f, rfl, hS, h0, h1, q⟩ := h
  refine ⟨_, (pss_one (ps_ret (pe_op op_mul (pe_ix (ix_tupK (K := K) rfl) (pv 0) (pe_op op_fdiv (pv 1) pe_int) (fun _ _ => rfl)) (pe_op op_sub pe_int (pe_op op_mul (pe_op op_mod (pv 1) pe_int) pe_int))))), ?_⟩
  simp [tSeq, tNext, tIfS, tRet, tAsg, gName, tTest, tOp, tUn, tVar, tC, rI, rI0, rU, rEq, rNe, scal, L2.start, tCall, tCB, tNil, tCons, tTup, tLst, tNot, tAnd, tOr, tAndV, tOrV, tNotV, tIf, tDrop, CDiv, tB, rIxT, rIxL, tSl, tPart, tNoPart, tYes, CPow, CMul]
  refine ⟨_, hS, _, atI_int (by omega) (by omega), ?_⟩
  simp
  rw [← worthI_eq] at q
  exact ⟨by omega, q⟩
theorem sc__law_sum : FnScope ["_law_point_here", "_law_forms", "_law_some", "_law_f"] ["_law_point_here", "_law_forms"] (defScope s__law_sum) := ⟨rfl, rfl, rfl, by decide +kernel, rfl, by decide +kernel, by decide +kernel⟩
theorem ok__law_sum {f : Addr} {fd : FuncData} (F : Fun K "_law_sum" "_law_sum" s__law_sum f fd) (m : mg "_law_sum" = some (.ref f)) (B : Bl mg) {Z_Go Z_Keep Z_Put Z_Ask f_Deed_asks f_Go_done f_Keep_init f_Keep_done f_Put_init f_Put_done f_Ask_init f_Ask_asks f_Ask_done f_Ask_between_ends : Addr} (T : Kl K mg Z_Go Z_Keep Z_Put Z_Ask f_Deed_asks f_Go_done f_Keep_init f_Keep_done f_Put_init f_Put_done f_Ask_init f_Ask_asks f_Ask_done f_Ask_between_ends) (D__law_worth : Def P w K mg base CX0 "_law_worth" 1 ["_law_point_here", "_law_f"] (sp__law_worth K)) : Def P w K mg base CX0 "_law_sum" 2 ["_law_point_here", "_law_forms"] (sp__law_sum K) := by
  refine ⟨f, fd, F.ok sc__law_sum (fun vs H Q E h => ?_) (fun cdv A outer s H vs Q E hr h => ?_), F.binds (ps := ["_law_point_here", "_law_forms"]) fun _ _ _ _ _ _ us hl => (by obtain ⟨b0, b1, rfl⟩ := us2 hl; rfl), F.kp, m⟩
  · obtain ⟨a, b, xs, fs, rfl, _⟩ := h
    rfl
  obtain ⟨a, b, xs, fs, rfl, hP, hB, hin, q⟩ := h
  refine ⟨_, (@pss_cons _ _ _ _ _ (ps_set (i := 2) sc__law_sum.nd rfl (by first | exact Or.inl rfl | exact Or.inr rfl) pe_int)
    (@pss_cons _ _ _ _ _ (ps_for PassesOwn.never rfl (pi_listK (K := K) rfl (pv 1)) (pg_name (i := 3) sc__law_sum.nd rfl (by first | exact Or.inl rfl | exact Or.inr rfl)) (pss_one (ps_set (i := 2) sc__law_sum.nd rfl (by first | exact Or.inl rfl | exact Or.inr rfl) (pe_op op_add (pv 2) (pe_def D__law_worth (hr.mono (by decide)) (by rfl) pass0 (pa_Name (pv 0) (pa_Name (pv 3) pa_nil)))))))
    (pss_one (ps_ret (pv 2))))), ?_⟩
  refine seq_step fun U hU => ?_
  show U _ _
  subst hU
  refine seq_step fun U hU => ?_
  refine ⟨_, rfl, b, rfl, ⟨_, hB⟩, for_list (K := K) (a := b) (xs := fs.map V.int) (fun i σ H' => ∃ x, σ = [some (.ref a), some (.ref b), some (.int ((fs.take i).map (worthI xs)).sum), x] ∧ H' = H) ⟨none, rfl, rfl⟩ (fun i σ H' _ ⟨_, _, e⟩ => by subst e; exact hB) ?_ ?_⟩
  · rintro i v σ H' hv ⟨x, rfl, rfl⟩
    obtain ⟨hi, rfl⟩ := at_of hv
    have ei : fs[i]? = some fs[i] := List.getElem?_eq_getElem hi
    have hf := hin fs[i] (List.getElem_mem hi)
    refine ⟨_, rfl, _, rfl, _, rfl, a, xs, fs[i], rfl, hP, hf.1, hf.2, _, _, rfl, rfl, ?_⟩
    refine ⟨some (.int fs[i]), ?_, rfl⟩
    have et : ((fs.take (i + 1)).map (worthI xs)).sum = ((fs.take i).map (worthI xs)).sum + worthI xs fs[i] := by
      rw [take_succ_of ei, List.map_append, List.sum_append]
      simp
    rw [et]
    rfl
  · rintro σ H' ⟨x, rfl, rfl⟩
    show U _ _
    subst hU
    rw [List.length_map, List.take_length]
    exact ⟨_, rfl, q⟩
theorem sc__law_point_like : FnScope ["_law_found", "_law_count", "_law_part"] ["_law_found", "_law_count"] (defScope s__law_point_like) := ⟨rfl, rfl, rfl, by decide +kernel, rfl, by decide +kernel, by decide +kernel⟩
theorem ok__law_point_like {f : Addr} {fd : FuncData} (F : Fun K "_law_point_like" "_law_point_like" s__law_point_like f fd) (m : mg "_law_point_like" = some (.ref f)) (B : Bl mg) {Z_Go Z_Keep Z_Put Z_Ask f_Deed_asks f_Go_done f_Keep_init f_Keep_done f_Put_init f_Put_done f_Ask_init f_Ask_asks f_Ask_done f_Ask_between_ends : Addr} (T : Kl K mg Z_Go Z_Keep Z_Put Z_Ask f_Deed_asks f_Go_done f_Keep_init f_Keep_done f_Put_init f_Put_done f_Ask_init f_Ask_asks f_Ask_done f_Ask_between_ends) (D__law_whole : Def P w K mg base CX0 "_law_whole" 1 ["_law_found"] (sp__law_whole K)) : Def P w K mg base CX0 "_law_point_like" 2 ["_law_found", "_law_count"] (sp__law_point_like K) := by
  refine ⟨f, fd, F.ok sc__law_point_like (fun vs H Q E h => ?_) (fun cdv A outer s H vs Q E hr h => ?_), F.binds (ps := ["_law_found", "_law_count"]) fun _ _ _ _ _ _ us hl => (by obtain ⟨b0, b1, rfl⟩ := us2 hl; rfl), F.kp, m⟩
  · obtain ⟨a, xs, n, rfl, _⟩ := h
    rfl
  obtain ⟨a, xs, n, rfl, hA, hl, q⟩ := h
  refine ⟨_, (@pss_cons _ _ _ _ _ (ps_if (pw_or (pt_not (pt_val (pe_callB (call_isTyK (K := K) rfl) (by rfl) B.isinstance (by decide +kernel) (pa_Name (pv 0) (pa_Name (pe_bltn (v := .ty "tuple") (u := .type "tuple") (by rfl) B.tuple (by decide +kernel) rfl) pa_nil))))) (pw_or1 (pt_cmpR op_ne (pe_callB (call_lenK (K := K) rfl) (by rfl) B.len (by decide +kernel) (pa_Name (pv 0) pa_nil)) (pv 1) (nomark _)))).pt (pss_one (ps_ret pe_bl)) pss_nil)
    (@pss_cons _ _ _ _ _ (ps_for PassesOwn.never rfl (pi_tupK (K := K) rfl (pv 0)) (pg_name (i := 2) sc__law_point_like.nd rfl (by first | exact Or.inl rfl | exact Or.inr rfl)) (pss_one (ps_if (pt_not (pt_val (pe_def D__law_whole (hr.mono (by decide)) (by rfl) pass0 (pa_Name (pv 2) pa_nil)))) (pss_one (ps_ret pe_bl)) pss_nil)))
    (pss_one (ps_ret pe_bl)))), ?_⟩
  have lx : (xs.map V.int).length = n := by rw [List.length_map, hl]
  refine seq_step fun U hU => ?_
  refine ⟨_, rfl, true, isT_tup hA, true, rfl, ?_⟩
  refine iteF ?_
  refine ⟨_, rfl, a, _, rfl, .inr (SqT.of hA), _, rfl, rfl, _, rfl, ?_⟩
  refine iteNS (by rw [lx]) ?_
  show U _ _
  subst hU
  refine seq_step fun U hU => ?_
  refine ⟨_, rfl, a, rfl, ⟨_, SqT.of hA⟩, for_tup (K := K) (a := a) (xs := xs.map V.int) (fun i σ H' => ∃ x, σ = [some (.ref a), some (.int n), x] ∧ H' = H) ⟨none, rfl, rfl⟩ (fun i σ H' _ ⟨_, _, e⟩ => by subst e; exact SqT.of hA) ?_ ?_⟩
  · rintro i v σ H' hv ⟨x, rfl, rfl⟩
    obtain ⟨hi, rfl⟩ := at_of hv
    refine ⟨_, rfl, _, rfl, true, rfl, ?_⟩
    refine iteF ?_
    exact ⟨_, rfl, rfl⟩
  · rintro σ H' ⟨x, rfl, rfl⟩
    show U _ _
    subst hU
    exact q
theorem sc__law_holds : FnScope ["_law_point_here", "_law_question_here", "_law_some"] ["_law_point_here", "_law_question_here"] (defScope s__law_holds) := ⟨rfl, rfl, rfl, by decide +kernel, rfl, by decide +kernel, by decide +kernel⟩
theorem ok__law_holds {f : Addr} {fd : FuncData} (F : Fun K "_law_holds" "_law_holds" s__law_holds f fd) (m : mg "_law_holds" = some (.ref f)) (B : Bl mg) {Z_Go Z_Keep Z_Put Z_Ask f_Deed_asks f_Go_done f_Keep_init f_Keep_done f_Put_init f_Put_done f_Ask_init f_Ask_asks f_Ask_done f_Ask_between_ends : Addr} (T : Kl K mg Z_Go Z_Keep Z_Put Z_Ask f_Deed_asks f_Go_done f_Keep_init f_Keep_done f_Put_init f_Put_done f_Ask_init f_Ask_asks f_Ask_done f_Ask_between_ends) (D__law_worth : Def P w K mg base CX0 "_law_worth" 1 ["_law_point_here", "_law_f"] (sp__law_worth K)) : Def P w K mg base CX0 "_law_holds" 2 ["_law_point_here", "_law_question_here"] (sp__law_holds K) := by
  refine ⟨f, fd, F.ok sc__law_holds (fun vs H Q E h => ?_) (fun cdv A outer s H vs Q E hr h => ?_), F.binds (ps := ["_law_point_here", "_law_question_here"]) fun _ _ _ _ _ _ us hl => (by obtain ⟨b0, b1, rfl⟩ := us2 hl; rfl), F.kp, m⟩
  · obtain ⟨a, b, xs, f1, g1, w1, c1, rfl, _⟩ := h
    rfl
  obtain ⟨a, b, xs, f1, g1, w1, c1, rfl, hP, hS, hf, hg, q⟩ := h
  refine ⟨_, (@pss_cons _ _ _ _ _ (ps_set (i := 2) sc__law_holds.nd rfl (by first | exact Or.inl rfl | exact Or.inr rfl) (pe_def D__law_worth (hr.mono (by decide)) (by rfl) pass0 (pa_Name (pv 0) (pa_Subscript (pe_ix (ix_tupK (K := K) rfl) (pv 1) pe_int (fun _ _ => rfl)) pa_nil))))
    (@pss_cons _ _ _ _ _ (ps_if (pt_cmpR op_notN (pe_ix (ix_tupK (K := K) rfl) (pv 1) pe_int (fun _ _ => rfl)) pe_non (nomark _)) (pss_one (ps_set (i := 2) sc__law_holds.nd rfl (by first | exact Or.inl rfl | exact Or.inr rfl) (pe_op op_add (pv 2) (pe_def D__law_worth (hr.mono (by decide)) (by rfl) pass0 (pa_Name (pv 0) (pa_Subscript (pe_ix (ix_tupK (K := K) rfl) (pv 1) pe_int (fun _ _ => rfl)) pa_nil)))))) pss_nil)
    (@pss_cons _ _ _ _ _ (ps_if (pt_cmpR op_eq (pe_ix (ix_tupK (K := K) rfl) (pv 1) pe_int (fun _ _ => rfl)) pe_str (nomark _)) (pss_one (ps_ret (pe_cmpR op_le (pv 2) (pe_ix (ix_tupK (K := K) rfl) (pv 1) pe_int (fun _ _ => rfl)) (nomark _)))) pss_nil)
    (@pss_cons _ _ _ _ _ (ps_if (pt_cmpR op_eq (pe_ix (ix_tupK (K := K) rfl) (pv 1) pe_int (fun _ _ => rfl)) pe_str (nomark _)) (pss_one (ps_ret (pe_cmpR op_ge (pv 2) (pe_ix (ix_tupK (K := K) rfl) (pv 1) pe_int (fun _ _ => rfl)) (nomark _)))) pss_nil)
    (pss_one (ps_ret (pe_cmpR op_eq (pe_cmpR op_eq (pv 2) (pe_ix (ix_tupK (K := K) rfl) (pv 1) pe_int (fun _ _ => rfl)) (nomark _)) (pe_cmpR op_eq (pe_ix (ix_tupK (K := K) rfl) (pv 1) pe_int (fun _ _ => rfl)) pe_str (nomark _)) (nomark _)))))))), ?_⟩
  refine seq_step fun U hU => ?_
  refine ⟨_, rfl, _, rfl, b, _, 0, _, rfl, rfl, hS, rfl, a, xs, f1, rfl, hP, hf.1, hf.2, ?_⟩
  show U _ _
  subst hU
  refine seq_step fun U hU => ?_
  have key : U [some (.ref a), some (.ref b), some (.int (sumI xs f1 g1))] H := by
    subst hU
    generalize sumI xs f1 g1 = s1 at *
    refine seq_step fun U hU => ?_
    refine ⟨_, rfl, b, _, 2, _, rfl, rfl, hS, rfl, rfl, _, rfl, ?_⟩
    unfold holdsI at q
    by_cases h1 : w1 = Str.ofString "most"
    · rw [if_pos h1] at q
      rw [show decide (V.str w1 = V.str "most") = true from decide_eq_true (by rw [h1])]
      refine iteT ?_
      exact ⟨_, rfl, _, rfl, b, _, 3, _, rfl, rfl, hS, rfl, _, _, rfl, rfl, q⟩
    rw [if_neg h1] at q
    rw [show decide (V.str w1 = V.str "most") = false from strF h1]
    refine iteF ?_
    show U _ _
    subst hU
    refine seq_step fun U hU => ?_
    refine ⟨_, rfl, b, _, 2, _, rfl, rfl, hS, rfl, rfl, _, rfl, ?_⟩
    by_cases h2 : w1 = Str.ofString "least"
    · rw [if_pos h2] at q
      rw [show decide (V.str w1 = V.str "least") = true from decide_eq_true (by rw [h2])]
      refine iteT ?_
      exact ⟨_, rfl, _, rfl, b, _, 3, _, rfl, rfl, hS, rfl, _, _, rfl, rfl, q⟩
    rw [if_neg h2] at q
    rw [show decide (V.str w1 = V.str "least") = false from strF h2]
    refine iteF ?_
    show U _ _
    subst hU
    refine ⟨_, rfl, _, rfl, b, _, 3, _, rfl, rfl, hS, rfl, rfl, _, rfl, b, _, 2, _, rfl, rfl, hS, rfl, rfl, rfl, ?_⟩
    have e1 : decide (V.int s1 = V.int c1) = decide (s1 = c1) := by by_cases h : s1 = c1 <;> simp [h]
    rw [e1]
    by_cases h3 : w1 = Str.ofString "same"
    · rw [if_pos h3] at q
      rw [show decide (V.str w1 = V.str "same") = true from decide_eq_true (by rw [h3])]
      have e2 : decide (V.bl (decide (s1 = c1)) = V.bl true) = decide (s1 = c1) := by by_cases h : s1 = c1 <;> simp [h]
      rw [e2]
      exact q
    · rw [if_neg h3] at q
      rw [show decide (V.str w1 = V.str "same") = false from strF h3]
      have e2 : decide (V.bl (decide (s1 = c1)) = V.bl false) = !decide (s1 = c1) := by by_cases h : s1 = c1 <;> simp [h]
      rw [e2]
      exact q
  refine ⟨_, rfl, b, _, 1, _, rfl, rfl, hS, rfl, rfl, _, rfl, ?_⟩
  cases g1 with
  | none =>
    refine iteF ?_
    exact key
  | some g2 =>
    refine iteT ?_
    exact ⟨_, rfl, _, rfl, _, rfl, b, _, 1, _, rfl, rfl, hS, rfl, a, xs, g2, rfl, hP, hg.1, hg.2, _, _, rfl, rfl, key⟩
theorem sc__law_question : FnScope ["_law_cell_here", "_law_other", "_law_word", "_law_point_here", "_law_f", "_law_g", "_law_number"] ["_law_cell_here", "_law_other", "_law_word", "_law_point_here"] (defScope s__law_question) := ⟨rfl, rfl, rfl, by decide +kernel, rfl, by decide +kernel, by decide +kernel⟩
theorem ok__law_question {f : Addr} {fd : FuncData} (F : Fun K "_law_question" "_law_question" s__law_question f fd) (m : mg "_law_question" = some (.ref f)) (B : Bl mg) {Z_Go Z_Keep Z_Put Z_Ask f_Deed_asks f_Go_done f_Keep_init f_Keep_done f_Put_init f_Put_done f_Ask_init f_Ask_asks f_Ask_done f_Ask_between_ends : Addr} (T : Kl K mg Z_Go Z_Keep Z_Put Z_Ask f_Deed_asks f_Go_done f_Keep_init f_Keep_done f_Put_init f_Put_done f_Ask_init f_Ask_asks f_Ask_done f_Ask_between_ends) (D__law_big : Def P w K mg base CX0 "_law_big" 1 ["_law_cell_here"] (sp__law_big K)) (D__law_sum : Def P w K mg base CX0 "_law_sum" 2 ["_law_point_here", "_law_forms"] (sp__law_sum K)) (D__law_worth : Def P w K mg base CX0 "_law_worth" 1 ["_law_point_here", "_law_f"] (sp__law_worth K)) : Def P w K mg base CX0 "_law_question" 3 ["_law_cell_here", "_law_other", "_law_word", "_law_point_here"] (sp__law_question K) := by
  refine ⟨f, fd, F.ok sc__law_question (fun vs H Q E h => ?_) (fun cdv A outer s H vs Q E hr h => ?_), F.binds (ps := ["_law_cell_here", "_law_other", "_law_word", "_law_point_here"]) fun _ _ _ _ _ _ us hl => (by obtain ⟨b0, b1, b2, b3, rfl⟩ := us4 hl; rfl), F.kp, m⟩
  · obtain ⟨c, o, w1, pt, xs, n, rfl, _⟩ := h
    rfl
  obtain ⟨c, o, w1, pt, xs, n, rfl, hP, lx, n1, n6, q⟩ := h
  refine ⟨_, (@pss_cons _ _ _ _ _ (ps_set (i := 4) sc__law_question.nd rfl (by first | exact Or.inl rfl | exact Or.inr rfl) (pe_op op_mod (pv 0) (pe_op op_mul pe_int (pe_callB (call_lenK (K := K) rfl) (by rfl) B.len (by decide +kernel) (pa_Name (pv 3) pa_nil)))))
    (@pss_cons _ _ _ _ _ (ps_set (i := 5) sc__law_question.nd rfl (by first | exact Or.inl rfl | exact Or.inr rfl) (pe_op op_mod (pe_op op_fdiv (pv 0) pe_int) (pe_op op_mul pe_int (pe_callB (call_lenK (K := K) rfl) (by rfl) B.len (by decide +kernel) (pa_Name (pv 3) pa_nil)))))
    (@pss_cons _ _ _ _ _ (ps_set (i := 6) sc__law_question.nd rfl (by first | exact Or.inl rfl | exact Or.inr rfl) (pe_op op_sub (pe_op op_add (pe_def D__law_sum (hr.mono (by decide)) (by rfl) pass0 (pa_Name (pv 3) (pa_List (pe_lst (pa_Name (pv 4) (pa_Name (pv 5) pa_nil))) pa_nil))) (pe_op op_mod (pe_op op_fdiv (pv 1) pe_int) pe_int)) pe_int))
    (@pss_cons _ _ _ _ _ (ps_if (pt_cmpR op_eq (pe_op op_mod (pe_op op_fdiv (pv 0) pe_int) pe_int) pe_int (nomark _)) (@pss_cons _ _ _ _ _ (ps_set (i := 6) sc__law_question.nd rfl (by first | exact Or.inl rfl | exact Or.inr rfl) (pe_op op_sub (pv 6) (pe_def D__law_worth (hr.mono (by decide)) (by rfl) pass0 (pa_Name (pv 3) (pa_Name (pv 5) pa_nil)))))
    (pss_one (ps_set (i := 5) sc__law_question.nd rfl (by first | exact Or.inl rfl | exact Or.inr rfl) pe_non))) pss_nil)
    (@pss_cons _ _ _ _ _ (ps_if (pt_cmpR op_eq (pe_op op_mod (pv 1) pe_int) pe_int (nomark _)) (pss_one (ps_set (i := 6) sc__law_question.nd rfl (by first | exact Or.inl rfl | exact Or.inr rfl) (pe_def D__law_big (hr.mono (by decide)) (by rfl) pass0 (pa_BinOp (pe_op op_fdiv (pv 1) pe_int) pa_nil)))) pss_nil)
    (pss_one (ps_ret (pe_tup (pa_Name (pv 4) (pa_Name (pv 5) (pa_Subscript (pe_ix (ix_listK (K := K) rfl) (pe_lst (pa_Constant pe_str (pa_Constant pe_str (pa_Constant pe_str (pa_Constant pe_str pa_nil))))) (pe_op op_mod (pv 2) pe_int) (fun _ _ => rfl)) (pa_Name (pv 6) pa_nil)))))))))))), ?_⟩
  have lx' : (xs.map V.int).length = n := by rw [List.length_map, lx]
  obtain ⟨f1, ef, hf⟩ := modF c n1
  obtain ⟨g1, eg, hg⟩ := modF (c / 8) n1
  refine seq_step fun U hU => ?_
  refine ⟨_, rfl, _, rfl, pt, _, rfl, .inr hP, _, _, rfl, rfl, .inl ⟨by decide, by decide⟩, _, _, rfl, rfl, (by show (0 : Int) < 2 * ((xs.map V.int).length : Int); omega), ?_⟩
  show U _ _
  dsimp only
  rw [lx', ef]
  subst hU
  refine seq_step fun U hU => ?_
  refine ⟨_, rfl, _, _, rfl, rfl, ⟨by decide, by decide⟩, _, rfl, pt, _, rfl, .inr hP, _, _, rfl, rfl, .inl ⟨by decide, by decide⟩, _, _, rfl, rfl, (by show (0 : Int) < 2 * ((xs.map V.int).length : Int); omega), ?_⟩
  show U _ _
  dsimp only
  rw [lx', eg]
  subst hU
  refine seq_step fun U hU => ?_
  refine ⟨_, rfl, _, rfl, _, rfl, sz 2, fun l hl => ?_⟩
  have sl := same_new hl (.lst [.int f1, .int g1])
  have hP1 := sl.sqT hP
  refine ⟨pt, l, xs, [f1, g1], rfl, hP1, SqL.of upd_same, (fun h hh => by rw [lx]; rcases List.mem_cons.mp hh with e | e; exact e ▸ hf; rw [List.mem_singleton.mp e]; exact hg), _, rfl, _, _, rfl, rfl, ⟨by decide, by decide⟩, _, _, rfl, rfl, (by show (0 : Int) < 7; decide), _, _, rfl, rfl, _, _, rfl, rfl, ?_⟩
  show U _ _
  dsimp only
  generalize (([f1, g1].map (worthI xs)).sum + o / 3 % 7 - 3) = z1
  generalize upd H l (.lst [.int f1, .int g1]) = H1 at *
  subst hU
  refine seq_step fun U hU => ?_
  have key : ∀ (g : Option Int) (z : Int), InG n g → U [some (.int c), some (.int o), some (.int w1), some (.ref pt), some (.int f1), some (gV g), some (.int z)] H1 := by
    intro g z hgg
    subst hU
    refine seq_step fun U hU => ?_
    have key2 : ∀ z : Int, U [some (.int c), some (.int o), some (.int w1), some (.ref pt), some (.int f1), some (gV g), some (.int z)] H1 := by
      intro z
      subst hU
      obtain ⟨wd, ew⟩ := pickW w1
      refine ⟨_, rfl, _, rfl, sz 4, fun l2 hl2 => ?_⟩
      have sl2 := same_new hl2 (.lst [.str "most", .str "least", .str "same", .str "unlike"])
      refine ⟨_, rfl, _, _, rfl, rfl, (by show (0 : Int) < 4; decide), l2, _, _, _, rfl, rfl, SqL.of upd_same, ew, _, rfl, sz 4, fun t ht => ?_⟩
      exact q t f1 g wd z _ ((sl.trans sl2).trans (same_new ht _)) upd_same hf hgg
    refine ⟨_, rfl, _, _, rfl, rfl, (by show (0 : Int) < 4; decide), rfl, _, rfl, ?_⟩
    refine ite2 (fun h => ?_) (fun h => key2 _)
    exact ⟨_, rfl, _, _, rfl, rfl, ⟨by decide, by decide⟩, _, rfl, key2 _⟩
  refine ⟨_, rfl, _, _, rfl, rfl, ⟨by decide, by decide⟩, _, _, rfl, rfl, (by show (0 : Int) < 3; decide), rfl, _, rfl, ?_⟩
  refine ite2 (fun h => ?_) (fun h => key (some g1) _ hg)
  refine seq_step fun U2 hU2 => ?_
  refine ⟨_, rfl, _, rfl, _, rfl, pt, xs, g1, rfl, hP1, hg.1, by rw [lx]; exact hg.2, _, _, rfl, rfl, ?_⟩
  show U2 _ _
  subst hU2
  exact key none _ trivial
theorem sc__law_change : FnScope ["_law_cell_here", "_law_count", "_law_f"] ["_law_cell_here", "_law_count"] (defScope s__law_change) := ⟨rfl, rfl, rfl, by decide +kernel, rfl, by decide +kernel, by decide +kernel⟩
theorem ok__law_change {f : Addr} {fd : FuncData} (F : Fun K "_law_change" "_law_change" s__law_change f fd) (m : mg "_law_change" = some (.ref f)) (B : Bl mg) {Z_Go Z_Keep Z_Put Z_Ask f_Deed_asks f_Go_done f_Keep_init f_Keep_done f_Put_init f_Put_done f_Ask_init f_Ask_asks f_Ask_done f_Ask_between_ends : Addr} (T : Kl K mg Z_Go Z_Keep Z_Put Z_Ask f_Deed_asks f_Go_done f_Keep_init f_Keep_done f_Put_init f_Put_done f_Ask_init f_Ask_asks f_Ask_done f_Ask_between_ends)  : Def P w K mg base CX0 "_law_change" 1 ["_law_cell_here", "_law_count"] (sp__law_change K) := by
  refine ⟨f, fd, F.ok sc__law_change (fun vs H Q E h => ?_) (fun cdv A outer s H vs Q E hr h => ?_), F.binds (ps := ["_law_cell_here", "_law_count"]) fun _ _ _ _ _ _ us hl => (by obtain ⟨b0, b1, rfl⟩ := us2 hl; rfl), F.kp, m⟩
  · obtain ⟨c, n, rfl, _⟩ := h
    rfl
  obtain ⟨c, n, rfl, n1, n6, q⟩ := h
  refine ⟨_, (@pss_cons _ _ _ _ _ (ps_set (i := 2) sc__law_change.nd rfl (by first | exact Or.inl rfl | exact Or.inr rfl) (pe_op op_mod (pe_op op_fdiv (pv 0) pe_int) (pe_op op_mul pe_int (pv 1))))
    (@pss_cons _ _ _ _ _ (ps_if (pt_cmpR op_eq (pe_op op_mod (pv 0) pe_int) pe_int (nomark _)) (pss_one (ps_ret (pe_tup (pa_Constant pe_non (pa_Constant pe_non pa_nil))))) pss_nil)
    (@pss_cons _ _ _ _ _ (ps_if (pt_cmpR op_lt (pe_op op_mod (pv 0) pe_int) pe_int (nomark _)) (pss_one (ps_ret (pe_tup (pa_Name (pv 2) (pa_Constant pe_non pa_nil))))) pss_nil)
    (pss_one (ps_ret (pe_tup (pa_Name (pv 2) (pa_BinOp (pe_op op_mod (pe_op op_add (pe_op op_fdiv (pv 0) pe_int) (pv 0)) (pe_op op_mul pe_int (pv 1))) pa_nil)))))))), ?_⟩
  obtain ⟨f1, ef, hf⟩ := modF (c / 8) n1
  obtain ⟨g1, eg, hg⟩ := modF (c / 48 + c) n1
  refine seq_step fun U hU => ?_
  refine ⟨_, rfl, _, _, rfl, rfl, ⟨by decide, by decide⟩, _, rfl, _, _, rfl, rfl, .inl ⟨by decide, by decide⟩, _, _, rfl, rfl, (by show (0 : Int) < 2 * (n : Int); omega), ?_⟩
  show U _ _
  dsimp only
  rw [ef]
  subst hU
  refine seq_step fun U hU => ?_
  refine ⟨_, rfl, _, _, rfl, rfl, (by show (0 : Int) < 8; decide), rfl, _, rfl, ?_⟩
  refine ite2 (fun h => ?_) (fun h => ?_)
  · exact ⟨sz 2, fun t ht => q t none none _ (same_new ht _) upd_same trivial trivial⟩
  show U _ _
  subst hU
  refine seq_step fun U hU => ?_
  refine ⟨_, rfl, _, _, rfl, rfl, (by show (0 : Int) < 8; decide), _, _, rfl, rfl, _, rfl, ?_⟩
  refine ite2 (fun h => ?_) (fun h => ?_)
  · exact ⟨_, rfl, sz 2, fun t ht => q t (some f1) none _ (same_new ht _) upd_same hf trivial⟩
  show U _ _
  subst hU
  refine ⟨_, rfl, _, rfl, _, _, rfl, rfl, ⟨by decide, by decide⟩, _, rfl, _, _, rfl, rfl, _, rfl, _, _, rfl, rfl, .inl ⟨by decide, by decide⟩, _, _, rfl, rfl, (by show (0 : Int) < 2 * (n : Int); omega), sz 2, fun t ht => ?_⟩
  refine q t (some f1) (some g1) _ (same_new ht _) ?_ hf hg
  rw [upd_same]
  show some (HO.tup [V.int f1, V.int ((c / 48 + c) % (2 * (n : Int)))]) = _
  rw [eg]
  rfl
theorem sc__law_ask : FnScope ["_law_k", "_law_cell_here", "_law_other", "_law_low", "_law_high"] ["_law_k", "_law_cell_here", "_law_other"] (defScope s__law_ask) := ⟨rfl, rfl, rfl, by decide +kernel, rfl, by decide +kernel, by decide +kernel⟩
theorem ok__law_ask {f : Addr} {fd : FuncData} (F : Fun K "_law_ask" "_law_ask" s__law_ask f fd) (m : mg "_law_ask" = some (.ref f)) (B : Bl mg) {Z_Go Z_Keep Z_Put Z_Ask f_Deed_asks f_Go_done f_Keep_init f_Keep_done f_Put_init f_Put_done f_Ask_init f_Ask_asks f_Ask_done f_Ask_between_ends : Addr} (T : Kl K mg Z_Go Z_Keep Z_Put Z_Ask f_Deed_asks f_Go_done f_Keep_init f_Keep_done f_Put_init f_Put_done f_Ask_init f_Ask_asks f_Ask_done f_Ask_between_ends) (D__law_big : Def P w K mg base CX0 "_law_big" 1 ["_law_cell_here"] (sp__law_big K)) : Def P w K mg base CX0 "_law_ask" 2 ["_law_k", "_law_cell_here", "_law_other"] (sp__law_ask K) := by
  refine ⟨f, fd, F.ok sc__law_ask (fun vs H Q E h => ?_) (fun cdv A outer s H vs Q E hr h => ?_), F.binds (ps := ["_law_k", "_law_cell_here", "_law_other"]) fun _ _ _ _ _ _ us hl => (by obtain ⟨b0, b1, b2, rfl⟩ := us3 hl; rfl), F.kp, m⟩
  · obtain ⟨k, c, o, rfl, _⟩ := h
    rfl
  obtain ⟨k, c, o, rfl, q⟩ := h
  refine ⟨_, (@pss_cons _ _ _ _ _ (ps_set (i := 3) sc__law_ask.nd rfl (by first | exact Or.inl rfl | exact Or.inr rfl) (pe_def D__law_big (hr.mono (by decide)) (by rfl) pass0 (pa_Name (pv 1) pa_nil)))
    (@pss_cons _ _ _ _ _ (ps_set (i := 4) sc__law_ask.nd rfl (by first | exact Or.inl rfl | exact Or.inr rfl) (pe_op op_add (pv 3) (pe_ix (ix_listK (K := K) rfl) (pe_lst (pa_BinOp (pe_op op_mod (pe_op op_fdiv (pv 2) pe_int) pe_int) (pa_Constant pe_int (pa_BinOp (pe_op op_mod (pe_op op_fdiv (pv 2) pe_int) (pe_op op_pow pe_int pe_int)) pa_nil)))) (pe_op op_mod (pe_op op_fdiv (pv 1) pe_int) pe_int) (fun _ _ => rfl))))
    (@pss_cons _ _ _ _ _ (ps_if (pt_cmpR op_eq (pe_op op_mod (pv 2) pe_int) pe_int (nomark _)) (pss_one (ps_set (i := 3) sc__law_ask.nd rfl (by first | exact Or.inl rfl | exact Or.inr rfl) pe_non)) pss_nil)
    (@pss_cons _ _ _ _ _ (ps_if (pt_cmpR op_eq (pe_op op_mod (pe_op op_fdiv (pv 2) pe_int) pe_int) pe_int (nomark _)) (pss_one (ps_set (i := 4) sc__law_ask.nd rfl (by first | exact Or.inl rfl | exact Or.inr rfl) pe_non)) pss_nil)
    (pss_one (ps_ret (pe_tup (pa_Constant pe_str (pa_Name (pv 0) (pa_Name (pv 3) (pa_Name (pv 4) pa_nil))))))))))), ?_⟩
  refine seq_step fun U hU => ?_
  refine ⟨_, rfl, _, rfl, ?_⟩
  show U _ _
  subst hU
  generalize bigI c = lw
  obtain ⟨z0, e0⟩ := pick3d (c / 5) (a := o / 9 % 7) (b := 0) (d := o / 9 % (10 : Int) ^ (30 : Int).toNat)
  refine seq_step fun U hU => ?_
  refine ⟨_, rfl, _, rfl, _, _, rfl, rfl, ⟨by decide, by decide⟩, _, _, rfl, rfl, (by show (0 : Int) < 7; decide), _, rfl, _, _, rfl, rfl, ⟨by decide, by decide⟩, _, _, rfl, rfl, ⟨by decide, by decide, by decide⟩, _, _, rfl, rfl, (by show (0 : Int) < 10 ^ 30; decide), sz 3, fun l hl => ?_⟩
  have sl := same_new hl (.lst [.int (o / 9 % 7), .int 0, .int (o / 9 % (10 : Int) ^ (30 : Int).toNat)])
  refine ⟨_, rfl, _, _, rfl, rfl, ⟨by decide, by decide⟩, _, _, rfl, rfl, (by show (0 : Int) < 3; decide), l, _, _, _, rfl, rfl, SqL.of upd_same, e0, _, _, rfl, rfl, ?_⟩
  show U _ _
  dsimp only
  generalize lw + z0 = hg
  subst hU
  refine seq_step fun U hU => ?_
  have key : ∀ lo : Ent, U [some (.int k), some (.int c), some (.int o), some (eV lo), some (.int hg)] (upd H l (.lst [.int (o / 9 % 7), .int 0, .int (o / 9 % (10 : Int) ^ (30 : Int).toNat)])) := by
    intro lo
    subst hU
    refine seq_step fun U hU => ?_
    have key2 : ∀ hi : Ent, U [some (.int k), some (.int c), some (.int o), some (eV lo), some (eV hi)] (upd H l (.lst [.int (o / 9 % 7), .int 0, .int (o / 9 % (10 : Int) ^ (30 : Int).toNat)])) := by
      intro hi
      subst hU
      exact ⟨_, rfl, _, rfl, _, rfl, sz 4, fun t ht => q t lo hi _ (sl.trans (same_new ht _)) upd_same⟩
    refine ⟨_, rfl, _, _, rfl, rfl, ⟨by decide, by decide⟩, _, _, rfl, rfl, (by show (0 : Int) < 3; decide), rfl, _, rfl, ?_⟩
    exact ite2 (fun h => key2 none) (fun h => key2 (some hg))
  refine ⟨_, rfl, _, _, rfl, rfl, (by show (0 : Int) < 3; decide), rfl, _, rfl, ?_⟩
  exact ite2 (fun h => key none) (fun h => key (some lw))
theorem sc__law_deed : FnScope ["_law_kind", "_law_cell_here", "_law_other", "_law_point_here", "_law_k"] ["_law_kind", "_law_cell_here", "_law_other", "_law_point_here"] (defScope s__law_deed) := ⟨rfl, rfl, rfl, by decide +kernel, rfl, by decide +kernel, by decide +kernel⟩
theorem ok__law_deed {f : Addr} {fd : FuncData} (F : Fun K "_law_deed" "_law_deed" s__law_deed f fd) (m : mg "_law_deed" = some (.ref f)) (B : Bl mg) {Z_Go Z_Keep Z_Put Z_Ask f_Deed_asks f_Go_done f_Keep_init f_Keep_done f_Put_init f_Put_done f_Ask_init f_Ask_asks f_Ask_done f_Ask_between_ends : Addr} (T : Kl K mg Z_Go Z_Keep Z_Put Z_Ask f_Deed_asks f_Go_done f_Keep_init f_Keep_done f_Put_init f_Put_done f_Ask_init f_Ask_asks f_Ask_done f_Ask_between_ends) (D__law_ask : Def P w K mg base CX0 "_law_ask" 2 ["_law_k", "_law_cell_here", "_law_other"] (sp__law_ask K)) (D__law_question : Def P w K mg base CX0 "_law_question" 3 ["_law_cell_here", "_law_other", "_law_word", "_law_point_here"] (sp__law_question K)) (D__law_change : Def P w K mg base CX0 "_law_change" 1 ["_law_cell_here", "_law_count"] (sp__law_change K)) (D__law_big : Def P w K mg base CX0 "_law_big" 1 ["_law_cell_here"] (sp__law_big K)) : Def P w K mg base CX0 "_law_deed" 4 ["_law_kind", "_law_cell_here", "_law_other", "_law_point_here"] (sp__law_deed K) := by
  refine ⟨f, fd, F.ok sc__law_deed (fun vs H Q E h => ?_) (fun cdv A outer s H vs Q E hr h => ?_), F.binds (ps := ["_law_kind", "_law_cell_here", "_law_other", "_law_point_here"]) fun _ _ _ _ _ _ us hl => (by obtain ⟨b0, b1, b2, b3, rfl⟩ := us4 hl; rfl), F.kp, m⟩
  · obtain ⟨kd, c, o, pt, xs, n, rfl, _⟩ := h
    rfl
  obtain ⟨kd, c, o, pt, xs, n, rfl, hP, lx, n1, n6, q⟩ := h
  refine ⟨_, (@pss_cons _ _ _ _ _ (ps_set (i := 4) sc__law_deed.nd rfl (by first | exact Or.inl rfl | exact Or.inr rfl) (pe_op op_mod (pe_op op_fdiv (pv 0) pe_int) (pe_callB (call_lenK (K := K) rfl) (by rfl) B.len (by decide +kernel) (pa_Name (pv 3) pa_nil))))
    (@pss_cons _ _ _ _ _ (ps_if (pt_cmpR op_eq (pe_op op_mod (pv 0) pe_int) pe_int (nomark _)) (pss_one (ps_ret (pe_tup (pa_Constant pe_str pa_nil)))) pss_nil)
    (@pss_cons _ _ _ _ _ (ps_if (pt_cmpR op_lt (pe_op op_mod (pv 0) pe_int) pe_int (nomark _)) (pss_one (ps_ret (pe_tup (pa_Constant pe_str (pa_Call (pe_def D__law_question (hr.mono (by decide)) (by rfl) pass0 (pa_Name (pv 1) (pa_Name (pv 2) (pa_BinOp (pe_op op_fdiv (pv 0) pe_int) (pa_Name (pv 3) pa_nil))))) pa_nil))))) pss_nil)
    (@pss_cons _ _ _ _ _ (ps_if (pt_cmpR op_lt (pe_op op_mod (pv 0) pe_int) pe_int (nomark _)) (pss_one (ps_ret (pe_tup (pa_Constant pe_str (pa_Name (pv 4) (pa_BinOp (pe_op (op_catTA (K := K) rfl) (pe_def D__law_change (hr.mono (by decide)) (by rfl) pass0 (pa_Name (pv 1) (pa_Call (pe_callB (call_lenK (K := K) rfl) (by rfl) B.len (by decide +kernel) (pa_Name (pv 3) pa_nil)) pa_nil))) (pe_tup (pa_Call (pe_def D__law_big (hr.mono (by decide)) (by rfl) pass0 (pa_Name (pv 2) pa_nil)) pa_nil))) pa_nil)))))) pss_nil)
    (pss_one (ps_ret (pe_def D__law_ask (hr.mono (by decide)) (by rfl) pass0 (pa_Name (pv 4) (pa_Name (pv 1) (pa_Name (pv 2) pa_nil)))))))))), ?_⟩
  have lx' : (xs.map V.int).length = n := by rw [List.length_map, lx]
  obtain ⟨k, ek, hk⟩ := mod_ltD (kd / 8) n1
  refine seq_step fun U hU => ?_
  refine ⟨_, rfl, _, _, rfl, rfl, ⟨by decide, by decide⟩, _, rfl, pt, _, rfl, .inr hP, _, _, rfl, rfl, (by show (0 : Int) < ((xs.map V.int).length : Int); omega), ?_⟩
  show U _ _
  dsimp only
  rw [lx', ek]
  subst hU
  refine seq_step fun U hU => ?_
  refine ⟨_, rfl, _, _, rfl, rfl, (by show (0 : Int) < 8; decide), rfl, _, rfl, ?_⟩
  refine ite2 (fun h => ?_) (fun h => ?_)
  · exact ⟨sz 1, fun t ht => q _ .go _ (same_new ht _) ⟨t, rfl, upd_same⟩ trivial⟩
  show U _ _
  subst hU
  refine seq_step fun U hU => ?_
  refine ⟨_, rfl, _, _, rfl, rfl, (by show (0 : Int) < 8; decide), _, _, rfl, rfl, _, rfl, ?_⟩
  refine ite2 (fun h => ?_) (fun h => ?_)
  · refine ⟨_, rfl, _, rfl, _, rfl, _, _, rfl, rfl, ⟨by decide, by decide⟩, _, rfl, c, o, _, pt, xs, n, rfl, hP, lx, n1, n6, fun qa f g wd cc H1 sm1 e1 hf hg => ?_⟩
    refine ⟨sz 2, fun t ht => ?_⟩
    have st := same_new ht (.tup [.str "keep", .ref qa])
    exact q (.ref t) (.keep f g wd cc) _ (sm1.trans st) ⟨t, qa, rfl, upd_same, st _ _ e1⟩ ⟨hf, hg⟩
  show U _ _
  subst hU
  refine seq_step fun U hU => ?_
  refine ⟨_, rfl, _, _, rfl, rfl, (by show (0 : Int) < 8; decide), _, _, rfl, rfl, _, rfl, ?_⟩
  refine ite2 (fun h => ?_) (fun h => ?_)
  · refine ⟨_, rfl, _, rfl, _, rfl, pt, _, rfl, .inr hP, c, n, (by rw [lx']; rfl), n1, n6, fun ca f g H1 sm1 e1 hf hg => ?_⟩
    refine ⟨_, rfl, _, rfl, sz 1, fun t1 ht1 => ?_⟩
    have s1 := same_new ht1 (.tup [.int (bigI o)])
    refine .inl ⟨ca, t1, _, _, rfl, rfl, SqT.of (s1 _ _ e1), SqT.of upd_same, by simp, sz 3, fun e => (by cases e), fun _ aa haa => ?_⟩
    have s2 := same_new haa (.tup ([gV f, gV g] ++ [.int (bigI o)]))
    refine ⟨sz 3, fun t ht => ?_⟩
    have st := same_new ht (.tup [.str "put", .int k, .ref aa])
    exact q (.ref t) (.put k f g (bigI o)) _ (((sm1.trans s1).trans s2).trans st) ⟨t, aa, rfl, upd_same, st _ _ upd_same⟩ ⟨hk, hf, hg⟩
  show U _ _
  subst hU
  exact ⟨_, rfl, _, rfl, _, rfl, k, c, o, rfl, fun t lo hi H1 sm1 e1 => q (.ref t) (.ask k lo hi) H1 sm1 ⟨t, rfl, e1⟩ hk⟩
theorem sc__law_made : FnScope ["_law_drawn_here"] ["_law_drawn_here"] (defScope s__law_made) := ⟨rfl, rfl, rfl, by decide +kernel, rfl, by decide +kernel, by decide +kernel⟩
theorem ok__law_made {f : Addr} {fd : FuncData} (F : Fun K "_law_made" "_law_made" s__law_made f fd) (m : mg "_law_made" = some (.ref f)) (B : Bl mg) {Z_Go Z_Keep Z_Put Z_Ask f_Deed_asks f_Go_done f_Keep_init f_Keep_done f_Put_init f_Put_done f_Ask_init f_Ask_asks f_Ask_done f_Ask_between_ends : Addr} (T : Kl K mg Z_Go Z_Keep Z_Put Z_Ask f_Deed_asks f_Go_done f_Keep_init f_Keep_done f_Put_init f_Put_done f_Ask_init f_Ask_asks f_Ask_done f_Ask_between_ends) (D_Keep_init : FDef P w K mg base CX0 1 ["self", "question"] (sp_Keep_init K Z_Keep) f_Keep_init) (D_Put_init : FDef P w K mg base CX0 1 ["self", "k", "amount"] (sp_Put_init K Z_Put) f_Put_init) (D_Ask_init : FDef P w K mg base CX0 1 ["self", "k", "low", "high"] (sp_Ask_init K Z_Ask) f_Ask_init) : Def P w K mg base CX0 "_law_made" 3 ["_law_drawn_here"] (sp__law_made K Z_Go Z_Keep Z_Put Z_Ask) := by
  refine ⟨f, fd, F.ok sc__law_made (fun vs H Q E h => ?_) (fun cdv A outer s H vs Q E hr h => ?_), F.binds (ps := ["_law_drawn_here"]) fun _ _ _ _ _ _ us hl => (by obtain ⟨b0, rfl⟩ := us1 hl; rfl), F.kp, m⟩
  · obtain ⟨v, D, rfl, _⟩ := h
    rfl
  obtain ⟨v, D, rfl, hD, q⟩ := h
  refine ⟨_, (@pss_cons _ _ _ _ _ (ps_if (pt_cmpR op_eq (pe_ix (ix_tupK (K := K) rfl) (pv 0) pe_int (fun _ _ => rfl)) pe_str (nomark _)) (pss_one (ps_ret (pe_cdef D_Keep_init T.mk_Keep T.mg_Keep (hr.mono (by decide)) (by rfl) pass0 (pa_Subscript (pe_ix (ix_tupK (K := K) rfl) (pv 0) pe_int (fun _ _ => rfl)) pa_nil)))) pss_nil)
    (@pss_cons _ _ _ _ _ (ps_if (pt_cmpR op_eq (pe_ix (ix_tupK (K := K) rfl) (pv 0) pe_int (fun _ _ => rfl)) pe_str (nomark _)) (pss_one (ps_ret (pe_cdef D_Put_init T.mk_Put T.mg_Put (hr.mono (by decide)) (by rfl) pass0 (pa_Subscript (pe_ix (ix_tupK (K := K) rfl) (pv 0) pe_int (fun _ _ => rfl)) (pa_Subscript (pe_ix (ix_tupK (K := K) rfl) (pv 0) pe_int (fun _ _ => rfl)) pa_nil))))) pss_nil)
    (@pss_cons _ _ _ _ _ (ps_if (pt_cmpR op_eq (pe_ix (ix_tupK (K := K) rfl) (pv 0) pe_int (fun _ _ => rfl)) pe_str (nomark _)) (pss_one (ps_ret (pe_cdef D_Ask_init T.mk_Ask T.mg_Ask (hr.mono (by decide)) (by rfl) pass0 (pa_Subscript (pe_ix (ix_tupK (K := K) rfl) (pv 0) pe_int (fun _ _ => rfl)) (pa_Subscript (pe_ix (ix_tupK (K := K) rfl) (pv 0) pe_int (fun _ _ => rfl)) (pa_Subscript (pe_ix (ix_tupK (K := K) rfl) (pv 0) pe_int (fun _ _ => rfl)) pa_nil)))))) pss_nil)
    (pss_one (ps_ret (pe_odef0 T.mk_Go T.mg_Go (by rfl))))))), ?_⟩
  cases D with
  | go =>
    obtain ⟨t, rfl, ht⟩ := hD
    have hT : SqT K H t [.str "go"] := SqT.of ht
    refine seq_step fun U hU => ?_
    refine ⟨_, rfl, t, _, 0, _, rfl, rfl, hT, rfl, rfl, _, rfl, ?_⟩
    rw [strF ne_gk]
    refine iteF ?_
    show U _ _
    subst hU
    refine seq_step fun U hU => ?_
    refine ⟨_, rfl, t, _, 0, _, rfl, rfl, hT, rfl, rfl, _, rfl, ?_⟩
    rw [strF ne_gp]
    refine iteF ?_
    show U _ _
    subst hU
    refine seq_step fun U hU => ?_
    refine ⟨_, rfl, t, _, 0, _, rfl, rfl, hT, rfl, rfl, _, rfl, ?_⟩
    rw [strF ne_ga]
    refine iteF ?_
    show U _ _
    subst hU
    exact fun x dx hx hdx ne => q (.ref x) _ (same_over hx (same_new hdx _)) ⟨x, dx, rfl, upd_same⟩
  | keep f g w c =>
    obtain ⟨t, qa, rfl, ht, hqa⟩ := hD
    have hT : SqT K H t [.str "keep", .ref qa] := SqT.of ht
    refine seq_step fun U hU => ?_
    refine ⟨_, rfl, t, _, 0, _, rfl, rfl, hT, rfl, rfl, _, rfl, ?_⟩
    rw [strT]
    refine iteT ?_
    refine ⟨_, rfl, t, _, 1, _, rfl, rfl, hT, rfl, fun x dx hx hdx ne => ?_⟩
    have S := same_over (o := .ins Z_Keep dx (fK (.ref qa))) hx (same_over (o := .ins Z_Keep dx []) hx (same_new hdx (.own x)))
    exact ⟨x, dx, .ref qa, rfl, upd_same, rfl, q (.ref x) _ S ⟨x, dx, qa, rfl, upd_same, S _ _ hqa⟩⟩
  | put k f g c =>
    obtain ⟨t, aa, rfl, ht, haa⟩ := hD
    have hT : SqT K H t [.str "put", .int k, .ref aa] := SqT.of ht
    refine seq_step fun U hU => ?_
    refine ⟨_, rfl, t, _, 0, _, rfl, rfl, hT, rfl, rfl, _, rfl, ?_⟩
    rw [strF ne_pk]
    refine iteF ?_
    show U _ _
    subst hU
    refine seq_step fun U hU => ?_
    refine ⟨_, rfl, t, _, 0, _, rfl, rfl, hT, rfl, rfl, _, rfl, ?_⟩
    rw [strT]
    refine iteT ?_
    refine ⟨_, rfl, t, _, 1, _, rfl, rfl, hT, rfl, _, rfl, t, _, 2, _, rfl, rfl, hT, rfl, fun x dx hx hdx ne => ?_⟩
    have S := same_over (o := .ins Z_Put dx (fP (.int k) (.ref aa))) hx (same_over (o := .ins Z_Put dx (putF "k" (.int k) [])) hx (same_over (o := .ins Z_Put dx []) hx (same_new hdx (.own x))))
    exact ⟨x, dx, .int k, .ref aa, rfl, upd_same, rfl, q (.ref x) _ S ⟨x, dx, aa, rfl, upd_same, S _ _ haa⟩⟩
  | ask k lo hi =>
    obtain ⟨t, rfl, ht⟩ := hD
    have hT : SqT K H t [.str "ask", .int k, eV lo, eV hi] := SqT.of ht
    refine seq_step fun U hU => ?_
    refine ⟨_, rfl, t, _, 0, _, rfl, rfl, hT, rfl, rfl, _, rfl, ?_⟩
    rw [strF ne_ak]
    refine iteF ?_
    show U _ _
    subst hU
    refine seq_step fun U hU => ?_
    refine ⟨_, rfl, t, _, 0, _, rfl, rfl, hT, rfl, rfl, _, rfl, ?_⟩
    rw [strF ne_ap]
    refine iteF ?_
    show U _ _
    subst hU
    refine seq_step fun U hU => ?_
    refine ⟨_, rfl, t, _, 0, _, rfl, rfl, hT, rfl, rfl, _, rfl, ?_⟩
    rw [strT]
    refine iteT ?_
    refine ⟨_, rfl, t, _, 1, _, rfl, rfl, hT, rfl, _, rfl, t, _, 2, _, rfl, rfl, hT, rfl, _, rfl, t, _, 3, _, rfl, rfl, hT, rfl, fun x dx hx hdx ne => ?_⟩
    have S := same_over (o := .ins Z_Ask dx (fA (.int k) (eV lo) (eV hi))) hx (same_over (o := .ins Z_Ask dx (putF "low" (eV lo) (putF "k" (.int k) []))) hx (same_over (o := .ins Z_Ask dx (putF "k" (.int k) [])) hx (same_over (o := .ins Z_Ask dx []) hx (same_new hdx (.own x)))))
    exact ⟨x, dx, .int k, eV lo, eV hi, rfl, upd_same, rfl, q (.ref x) _ S ⟨x, dx, rfl, upd_same⟩⟩
theorem sc__law_step : FnScope ["_law_drawn_here", "_law_point_here", "_law_number", "_law_k"] ["_law_drawn_here", "_law_point_here", "_law_number"] (defScope s__law_step) := ⟨rfl, rfl, rfl, by decide +kernel, rfl, by decide +kernel, by decide +kernel⟩
theorem ok__law_step {f : Addr} {fd : FuncData} (F : Fun K "_law_step" "_law_step" s__law_step f fd) (m : mg "_law_step" = some (.ref f)) (B : Bl mg) {Z_Go Z_Keep Z_Put Z_Ask f_Deed_asks f_Go_done f_Keep_init f_Keep_done f_Put_init f_Put_done f_Ask_init f_Ask_asks f_Ask_done f_Ask_between_ends : Addr} (T : Kl K mg Z_Go Z_Keep Z_Put Z_Ask f_Deed_asks f_Go_done f_Keep_init f_Keep_done f_Put_init f_Put_done f_Ask_init f_Ask_asks f_Ask_done f_Ask_between_ends) (D__law_holds : Def P w K mg base CX0 "_law_holds" 2 ["_law_point_here", "_law_question_here"] (sp__law_holds K)) (D__law_sum : Def P w K mg base CX0 "_law_sum" 2 ["_law_point_here", "_law_forms"] (sp__law_sum K)) : Def P w K mg base CX0 "_law_step" 3 ["_law_drawn_here", "_law_point_here", "_law_number"] (sp__law_step K) := by
  refine ⟨f, fd, F.ok sc__law_step (fun vs H Q E h => ?_) (fun cdv A outer s H vs Q E hr h => ?_), F.binds (ps := ["_law_drawn_here", "_law_point_here", "_law_number"]) fun _ _ _ _ _ _ us hl => (by obtain ⟨b0, b1, b2, rfl⟩ := us3 hl; rfl), F.kp, m⟩
  · obtain ⟨v, D, a, xs, num, rfl, _⟩ := h
    rfl
  obtain ⟨v, D, a, xs, num, rfl, hD, hpt, hin, l100, q⟩ := h
  refine ⟨_, (@pss_cons _ _ _ _ _ (ps_if (pt_cmpR op_eq (pe_ix (ix_tupK (K := K) rfl) (pv 0) pe_int (fun _ _ => rfl)) pe_str (nomark _)) (pss_one (ps_ret (pv 1))) pss_nil)
    (@pss_cons _ _ _ _ _ (ps_if (pt_cmpR op_eq (pe_ix (ix_tupK (K := K) rfl) (pv 0) pe_int (fun _ _ => rfl)) pe_str (nomark _)) (@pss_cons _ _ _ _ _ (ps_if (pt_val (pe_def D__law_holds (hr.mono (by decide)) (by rfl) pass0 (pa_Name (pv 1) (pa_Subscript (pe_ix (ix_tupK (K := K) rfl) (pv 0) pe_int (fun _ _ => rfl)) pa_nil)))) (pss_one (ps_ret (pv 1))) pss_nil)
    (pss_one (ps_ret pe_non))) pss_nil)
    (@pss_cons _ _ _ _ _ (ps_set (i := 3) sc__law_step.nd rfl (by first | exact Or.inl rfl | exact Or.inr rfl) (pe_ix (ix_tupK (K := K) rfl) (pv 0) pe_int (fun _ _ => rfl)))
    (@pss_cons _ _ _ _ _ (ps_if (pt_cmpR op_eq (pe_ix (ix_tupK (K := K) rfl) (pv 0) pe_int (fun _ _ => rfl)) pe_str (nomark _)) (pss_one (ps_set (i := 2) sc__law_step.nd rfl (by first | exact Or.inl rfl | exact Or.inr rfl) (pe_op op_add (pe_ix (ix_tupK (K := K) rfl) (pe_ix (ix_tupK (K := K) rfl) (pv 0) pe_int (fun _ _ => rfl)) pe_int (fun _ _ => rfl)) (pe_def D__law_sum (hr.mono (by decide)) (by rfl) pass0 (pa_Name (pv 1) (pa_cons (pe_comp (CompScope.of sc__law_step.nd (by rfl)) rfl (pi_tupK (K := K) rfl (pe_slice (sl_tupK (K := K) rfl) (pe_ix (ix_tupK (K := K) rfl) (pv 0) pe_int (fun _ _ => rfl)) po_none (po_some pe_int))) (fun _ _ _ => pif_one (pt_cmpR op_notN (pv 0) pe_non (nomark _))) (fun _ _ _ => (pv 0))) pa_nil)))))) (pss_one (ps_if (pw_and (pt_cmpR op_notN (pe_ix (ix_tupK (K := K) rfl) (pv 0) pe_int (fun _ _ => rfl)) pe_non (nomark _)) (pw_and1 (pt_cmpR op_lt (pv 2) (pe_ix (ix_tupK (K := K) rfl) (pv 0) pe_int (fun _ _ => rfl)) (nomark _)))).pt (pss_one (ps_set (i := 2) sc__law_step.nd rfl (by first | exact Or.inl rfl | exact Or.inr rfl) (pe_ix (ix_tupK (K := K) rfl) (pv 0) pe_int (fun _ _ => rfl)))) (pss_one (ps_if (pw_and (pt_cmpR op_notN (pe_ix (ix_tupK (K := K) rfl) (pv 0) pe_int (fun _ _ => rfl)) pe_non (nomark _)) (pw_and1 (pt_cmpR op_gt (pv 2) (pe_ix (ix_tupK (K := K) rfl) (pv 0) pe_int (fun _ _ => rfl)) (nomark _)))).pt (pss_one (ps_set (i := 2) sc__law_step.nd rfl (by first | exact Or.inl rfl | exact Or.inr rfl) (pe_ix (ix_tupK (K := K) rfl) (pv 0) pe_int (fun _ _ => rfl)))) pss_nil)))))
    (pss_one (ps_ret (pe_op (op_catTA (K := K) rfl) (pe_op (op_catTA (K := K) rfl) (pe_slice (sl_tupK (K := K) rfl) (pv 1) po_none (po_some (pv 3))) (pe_tup (pa_Name (pv 2) pa_nil))) (pe_slice (sl_tupK (K := K) rfl) (pv 1) (po_some (pe_op op_add (pv 3) pe_int)) po_none)))))))), ?_⟩
  cases D with
  | go =>
    obtain ⟨t, rfl, ht⟩ := hD
    have hT : SqT K H t [.str "go"] := SqT.of ht
    refine seq_step fun U hU => ?_
    refine ⟨_, rfl, t, _, 0, _, rfl, rfl, hT, rfl, rfl, _, rfl, ?_⟩
    rw [strT]
    refine iteT ?_
    exact ⟨_, rfl, q (.ref a) H (Same.refl _) ⟨a, rfl, hpt⟩⟩
  | keep f g w c =>
    obtain ⟨t, qa, rfl, ht, hqa⟩ := hD
    have hT : SqT K H t [.str "keep", .ref qa] := SqT.of ht
    refine seq_step fun U hU => ?_
    refine ⟨_, rfl, t, _, 0, _, rfl, rfl, hT, rfl, rfl, _, rfl, ?_⟩
    rw [strF ne_kg]
    refine iteF ?_
    show U _ _
    subst hU
    refine seq_step fun U hU => ?_
    refine ⟨_, rfl, t, _, 0, _, rfl, rfl, hT, rfl, rfl, _, rfl, ?_⟩
    rw [strT]
    refine iteT ?_
    refine seq_step fun U hU => ?_
    refine ⟨_, rfl, _, rfl, t, _, 1, _, rfl, rfl, hT, rfl, a, qa, xs, f, g, w, c, rfl, SqT.of hpt, SqT.of hqa, hin.1, hin.2, ?_⟩
    refine ⟨_, rfl, ?_⟩
    have q1 : ∀ r H', Same H H' → PtO H' r (if holdsI w (sumI xs f g) c = true then some xs else none) → Q r H' := q
    cases hh : holdsI w (sumI xs f g) c with
    | true =>
      rw [hh, if_pos rfl] at q1
      refine iteT ?_
      exact ⟨_, rfl, q1 (.ref a) H (Same.refl _) ⟨a, rfl, hpt⟩⟩
    | false =>
      rw [hh, if_neg (by decide)] at q1
      refine iteF ?_
      show U _ _
      subst hU
      exact q1 .non H (Same.refl _) rfl
  | put k f g c =>
    obtain ⟨t, aa, rfl, ht, haa⟩ := hD
    obtain ⟨hk, hf, hg⟩ := hin
    have hT : SqT K H t [.str "put", .int k, .ref aa] := SqT.of ht
    have hAa : SqT K H aa [gV f, gV g, .int c] := SqT.of haa
    refine seq_step fun U hU => ?_
    refine ⟨_, rfl, t, _, 0, _, rfl, rfl, hT, rfl, rfl, _, rfl, ?_⟩
    rw [strF ne_pg]
    refine iteF ?_
    show U _ _
    subst hU
    refine seq_step fun U hU => ?_
    refine ⟨_, rfl, t, _, 0, _, rfl, rfl, hT, rfl, rfl, _, rfl, ?_⟩
    rw [strF ne_pk]
    refine iteF ?_
    show U _ _
    subst hU
    refine seq_step fun U hU => ?_
    refine ⟨_, rfl, t, _, 1, _, rfl, rfl, hT, rfl, ?_⟩
    show U _ _
    subst hU
    refine seq_step fun U hU => ?_
    have fin : ∀ (z : Int) (H1 : Hp), Same H H1 → z = amtI xs f g c → U [some (.ref t), some (.ref a), some (.int z), some (.int k)] H1 := by
      intro z H1 sm1 ez
      subst hU
      have hA := sm1.sqT (SqT.of (K := K) hpt)
      have qf : ∀ p H', Same H1 H' → H' p = some (.tup ((xs.set k z).map V.int)) → Q (.ref p) H' := fun p H' s e => q (.ref p) H' (sm1.trans s) ⟨p, rfl, by rw [← ez]; exact e⟩
      have small : ∀ {m : Nat}, m ≤ 1000 → m ≤ sizeLine := fun h => Nat.le_of_lt (small1000 h)
      refine ⟨_, rfl, _, rfl, (k : Int), rfl, a, _, rfl, hA, ?_, fun p1 hp1 => ?_⟩
      · rw [List.length_map, sIx_some (by omega)]
        omega
      have s1 := same_new hp1 (.tup (cutV (xs.map V.int) none (some (k : Int))))
      have e1 : upd H1 p1 (.tup (cutV (xs.map V.int) none (some (k : Int)))) p1 = some (.tup ((xs.take k).map V.int)) := by rw [upd_same, cut_take (by omega)]
      refine ⟨_, rfl, sz 1, fun p2 hp2 => ?_⟩
      have s2 := same_new hp2 (.tup [.int z])
      have s12 := s1.trans s2
      by_cases h0 : k = 0
      · have e0 : (xs.take k).map V.int = [] := by rw [h0]; rfl
        rw [e0] at e1
        refine .inr ⟨p1, p2, _, rfl, rfl, SqT.of (s2 _ _ e1), SqT.of upd_same, ?_⟩
        have e2 : upd (upd H1 p1 (.tup (cutV (xs.map V.int) none (some (k : Int))))) p2 (.tup [.int z]) p2 = some (.tup ((xs.take k).map V.int ++ [.int z])) := by rw [upd_same, e0]; rfl
        have ez : cutV (xs.map V.int) (some ((k : Int) + 1)) none = (xs.drop (k + 1)).map V.int := cut_drop (k := k + 1) (by omega)
        refine ⟨_, rfl, _, rfl, _, _, rfl, rfl, _, rfl, a, _, rfl, s12.sqT hA, ?_, fun p3 hp3 => ?_⟩
        · rw [List.length_map, show ((k : Int) + 1) = ((k + 1 : Nat) : Int) from rfl, sIx_some (by omega)]
          omega
        rw [ez]
        have s3 := same_new hp3 (.tup ((xs.drop (k + 1)).map V.int))
        refine .inl ⟨_, p3, _, _, rfl, rfl, SqT.of (s3 _ _ e2), SqT.of upd_same, by simp, small (by simp; omega), fun e => ?_, fun _ p4 hp4 => ?_⟩
        · have es : (xs.set k z).map V.int = (xs.take k).map V.int ++ [V.int z] := by rw [set_parts hk, e, List.append_nil]
          refine qf _ _ (s12.trans s3) ?_
          rw [es]
          exact s3 _ _ e2
        · refine qf _ _ ((s12.trans s3).trans (same_new hp4 _)) ?_
          rw [upd_same, set_parts hk]
      · refine .inl ⟨p1, p2, _, _, rfl, rfl, SqT.of (s2 _ _ e1), SqT.of upd_same, (by intro z; have := congrArg List.length z; rw [List.length_map, List.length_take, List.length_nil] at this; omega), small (by simp; omega), fun e => (by cases e), fun _ pp hpp => ?_⟩
        have s13 := s12.trans (same_new hpp (.tup ((xs.take k).map V.int ++ [.int z])))
        have e2 : upd (upd (upd H1 p1 (.tup (cutV (xs.map V.int) none (some (k : Int))))) p2 (.tup [.int z])) pp (.tup ((xs.take k).map V.int ++ [.int z])) pp = some (.tup ((xs.take k).map V.int ++ [.int z])) := upd_same
        have ez : cutV (xs.map V.int) (some ((k : Int) + 1)) none = (xs.drop (k + 1)).map V.int := cut_drop (k := k + 1) (by omega)
        refine ⟨_, rfl, _, rfl, _, _, rfl, rfl, _, rfl, a, _, rfl, s13.sqT hA, ?_, fun p3 hp3 => ?_⟩
        · rw [List.length_map, show ((k : Int) + 1) = ((k + 1 : Nat) : Int) from rfl, sIx_some (by omega)]
          omega
        rw [ez]
        have s3 := same_new hp3 (.tup ((xs.drop (k + 1)).map V.int))
        refine .inl ⟨_, p3, _, _, rfl, rfl, SqT.of (s3 _ _ e2), SqT.of upd_same, by simp, small (by simp; omega), fun e => ?_, fun _ p4 hp4 => ?_⟩
        · have es : (xs.set k z).map V.int = (xs.take k).map V.int ++ [V.int z] := by rw [set_parts hk, e, List.append_nil]
          refine qf _ _ (s13.trans s3) ?_
          rw [es]
          exact s3 _ _ e2
        · refine qf _ _ ((s13.trans s3).trans (same_new hp4 _)) ?_
          rw [upd_same, set_parts hk]
    refine ⟨_, rfl, t, _, 0, _, rfl, rfl, hT, rfl, rfl, _, rfl, ?_⟩
    rw [strT]
    refine iteT ?_
    refine ⟨_, rfl, t, _, 2, _, rfl, rfl, hT, rfl, aa, _, 2, _, rfl, rfl, hAa, rfl, _, rfl, _, rfl, t, _, 2, _, rfl, rfl, hT, rfl, (2 : Int), rfl, aa, _, rfl, hAa, (by rintro ⟨_, h⟩; cases h), fun t2 ht2 => ?_⟩
    rw [show cutV [gV f, gV g, V.int c] none (some 2) = [gV f, gV g] from rfl]
    have st := same_new ht2 (.tup [gV f, gV g])
    refine ⟨t2, rfl, ⟨_, SqT.of upd_same⟩, fun p hp => comp_tupN (K := K) (a := t2) (xs := [gV f, gV g]) (fun i ys H' => ys = ((match i with | 0 => [] | 1 => optL f | _ => fsO f g).map V.int) ∧ H' p = some (.lst ys) ∧ Same (upd H t2 (.tup [gV f, gV g])) H') ⟨rfl, upd_same, same_new hp _⟩ (fun i ys H' _ ⟨_, _, sm⟩ => SqT.of (sm _ _ upd_same)) ?_ ?_⟩
    · rintro i x ys H' hx ⟨rfl, hp', sm⟩
      match i, hx, hp' with
      | 0, hx, hp' =>
        cases hx
        refine ⟨_, rfl, rfl, _, rfl, ?_⟩
        cases f with
        | none =>
          refine iteF ?_
          exact again (by show 0 < 2; decide) ⟨rfl, hp', sm⟩
        | some z =>
          refine iteT ?_
          exact ⟨_, rfl, hp', small1000 (by simp), again (by show 0 < 2; decide) ⟨rfl, upd_same, same_over hp sm⟩⟩
      | 1, hx, hp' =>
        cases hx
        refine ⟨_, rfl, rfl, _, rfl, ?_⟩
        cases g with
        | none =>
          refine iteF ?_
          exact again (by show 1 < 2; decide) ⟨by simp [fsO, optL], hp', sm⟩
        | some z =>
          refine iteT ?_
          exact ⟨_, rfl, hp', small1000 (by cases f <;> simp [optL]), again (by show 1 < 2; decide) ⟨by simp [fsO, optL, gV], upd_same, same_over hp sm⟩⟩
      | i + 2, hx, _ => cases hx
    · rintro ys H' ⟨rfl, hp', sm⟩
      have s2 := st.trans sm
      refine ⟨a, p, xs, fsO f g, rfl, s2.sqT (SqT.of hpt), SqL.of hp', fsO_in hf hg, _, _, rfl, rfl, ?_⟩
      exact fin _ H' s2 (Int.add_comm _ _)
  | ask k lo hi =>
    obtain ⟨t, rfl, ht⟩ := hD
    have hk : k < xs.length := hin
    have hT : SqT K H t [.str "ask", .int k, eV lo, eV hi] := SqT.of ht
    refine seq_step fun U hU => ?_
    refine ⟨_, rfl, t, _, 0, _, rfl, rfl, hT, rfl, rfl, _, rfl, ?_⟩
    rw [strF ne_ag]
    refine iteF ?_
    show U _ _
    subst hU
    refine seq_step fun U hU => ?_
    refine ⟨_, rfl, t, _, 0, _, rfl, rfl, hT, rfl, rfl, _, rfl, ?_⟩
    rw [strF ne_ak]
    refine iteF ?_
    show U _ _
    subst hU
    refine seq_step fun U hU => ?_
    refine ⟨_, rfl, t, _, 1, _, rfl, rfl, hT, rfl, ?_⟩
    show U _ _
    subst hU
    refine seq_step fun U hU => ?_
    have fin : ∀ (z : Int), z = clampI lo hi num → U [some (.ref t), some (.ref a), some (.int z), some (.int k)] H := by
      intro z ez
      subst hU
      have hA := SqT.of (K := K) hpt
      have qf : ∀ p H', Same H H' → H' p = some (.tup ((xs.set k z).map V.int)) → Q (.ref p) H' := fun p H' s e => q (.ref p) H' s ⟨p, rfl, by rw [← ez]; exact e⟩
      have small : ∀ {m : Nat}, m ≤ 1000 → m ≤ sizeLine := fun h => Nat.le_of_lt (small1000 h)
      refine ⟨_, rfl, _, rfl, (k : Int), rfl, a, _, rfl, hA, ?_, fun p1 hp1 => ?_⟩
      · rw [List.length_map, sIx_some (by omega)]
        omega
      have s1 := same_new hp1 (.tup (cutV (xs.map V.int) none (some (k : Int))))
      have e1 : upd H p1 (.tup (cutV (xs.map V.int) none (some (k : Int)))) p1 = some (.tup ((xs.take k).map V.int)) := by rw [upd_same, cut_take (by omega)]
      refine ⟨_, rfl, sz 1, fun p2 hp2 => ?_⟩
      have s2 := same_new hp2 (.tup [.int z])
      have s12 := s1.trans s2
      by_cases h0 : k = 0
      · have e0 : (xs.take k).map V.int = [] := by rw [h0]; rfl
        rw [e0] at e1
        refine .inr ⟨p1, p2, _, rfl, rfl, SqT.of (s2 _ _ e1), SqT.of upd_same, ?_⟩
        have e2 : upd (upd H p1 (.tup (cutV (xs.map V.int) none (some (k : Int))))) p2 (.tup [.int z]) p2 = some (.tup ((xs.take k).map V.int ++ [.int z])) := by rw [upd_same, e0]; rfl
        have ez : cutV (xs.map V.int) (some ((k : Int) + 1)) none = (xs.drop (k + 1)).map V.int := cut_drop (k := k + 1) (by omega)
        refine ⟨_, rfl, _, rfl, _, _, rfl, rfl, _, rfl, a, _, rfl, s12.sqT hA, ?_, fun p3 hp3 => ?_⟩
        · rw [List.length_map, show ((k : Int) + 1) = ((k + 1 : Nat) : Int) from rfl, sIx_some (by omega)]
          omega
        rw [ez]
        have s3 := same_new hp3 (.tup ((xs.drop (k + 1)).map V.int))
        refine .inl ⟨_, p3, _, _, rfl, rfl, SqT.of (s3 _ _ e2), SqT.of upd_same, by simp, small (by simp; omega), fun e => ?_, fun _ p4 hp4 => ?_⟩
        · have es : (xs.set k z).map V.int = (xs.take k).map V.int ++ [V.int z] := by rw [set_parts hk, e, List.append_nil]
          refine qf _ _ (s12.trans s3) ?_
          rw [es]
          exact s3 _ _ e2
        · refine qf _ _ ((s12.trans s3).trans (same_new hp4 _)) ?_
          rw [upd_same, set_parts hk]
      · refine .inl ⟨p1, p2, _, _, rfl, rfl, SqT.of (s2 _ _ e1), SqT.of upd_same, (by intro z; have := congrArg List.length z; rw [List.length_map, List.length_take, List.length_nil] at this; omega), small (by simp; omega), fun e => (by cases e), fun _ pp hpp => ?_⟩
        have s13 := s12.trans (same_new hpp (.tup ((xs.take k).map V.int ++ [.int z])))
        have e2 : upd (upd (upd H p1 (.tup (cutV (xs.map V.int) none (some (k : Int))))) p2 (.tup [.int z])) pp (.tup ((xs.take k).map V.int ++ [.int z])) pp = some (.tup ((xs.take k).map V.int ++ [.int z])) := upd_same
        have ez : cutV (xs.map V.int) (some ((k : Int) + 1)) none = (xs.drop (k + 1)).map V.int := cut_drop (k := k + 1) (by omega)
        refine ⟨_, rfl, _, rfl, _, _, rfl, rfl, _, rfl, a, _, rfl, s13.sqT hA, ?_, fun p3 hp3 => ?_⟩
        · rw [List.length_map, show ((k : Int) + 1) = ((k + 1 : Nat) : Int) from rfl, sIx_some (by omega)]
          omega
        rw [ez]
        have s3 := same_new hp3 (.tup ((xs.drop (k + 1)).map V.int))
        refine .inl ⟨_, p3, _, _, rfl, rfl, SqT.of (s3 _ _ e2), SqT.of upd_same, by simp, small (by simp; omega), fun e => ?_, fun _ p4 hp4 => ?_⟩
        · have es : (xs.set k z).map V.int = (xs.take k).map V.int ++ [V.int z] := by rw [set_parts hk, e, List.append_nil]
          refine qf _ _ (s13.trans s3) ?_
          rw [es]
          exact s3 _ _ e2
        · refine qf _ _ ((s13.trans s3).trans (same_new hp4 _)) ?_
          rw [upd_same, set_parts hk]
    refine ⟨_, rfl, t, _, 0, _, rfl, rfl, hT, rfl, rfl, _, rfl, ?_⟩
    rw [strF ne_ap]
    refine iteF ?_
    refine ⟨_, rfl, t, _, 2, _, rfl, rfl, hT, rfl, rfl, _, rfl, ?_⟩
    cases lo with
    | none =>
      refine iteF ?_
      refine iteF ?_
      refine ⟨_, rfl, t, _, 3, _, rfl, rfl, hT, rfl, rfl, _, rfl, ?_⟩
      have eno := clamp_no (lo := none) (hi := hi) (z := num) (fun l e => (by cases e))
      cases hi with
      | none =>
        refine iteF ?_
        refine iteF ?_
        exact fin num eno.symm
      | some y =>
        refine iteT ?_
        refine ⟨_, rfl, _, rfl, t, _, 3, _, rfl, rfl, hT, rfl, _, _, rfl, rfl, _, rfl, ?_⟩
        by_cases h2 : y < num
        · rw [decide_eq_true h2]
          refine iteT ?_
          exact ⟨_, rfl, t, _, 3, _, rfl, rfl, hT, rfl, fin y (by rw [eno, cap_hi h2])⟩
        · rw [decide_eq_false h2]
          refine iteF ?_
          exact fin num (by rw [eno, cap_no h2])
    | some l =>
      refine iteT ?_
      refine ⟨_, rfl, _, rfl, t, _, 2, _, rfl, rfl, hT, rfl, _, _, rfl, rfl, _, rfl, ?_⟩
      by_cases h : num < l
      · rw [decide_eq_true h]
        refine iteT ?_
        exact ⟨_, rfl, t, _, 2, _, rfl, rfl, hT, rfl, fin l (clamp_lo h).symm⟩
      · rw [decide_eq_false h]
        refine iteF ?_
        refine ⟨_, rfl, t, _, 3, _, rfl, rfl, hT, rfl, rfl, _, rfl, ?_⟩
        have eno := clamp_no (lo := some l) (hi := hi) (z := num) (fun l' e => (by cases e; exact h))
        cases hi with
        | none =>
          refine iteF ?_
          refine iteF ?_
          exact fin num eno.symm
        | some y =>
          refine iteT ?_
          refine ⟨_, rfl, _, rfl, t, _, 3, _, rfl, rfl, hT, rfl, _, _, rfl, rfl, _, rfl, ?_⟩
          by_cases h2 : y < num
          · rw [decide_eq_true h2]
            refine iteT ?_
            exact ⟨_, rfl, t, _, 3, _, rfl, rfl, hT, rfl, fin y (by rw [eno, cap_hi h2])⟩
          · rw [decide_eq_false h2]
            refine iteF ?_
            exact fin num (by rw [eno, cap_no h2])
theorem sc__law_alike : FnScope ["_law_found", "_law_due"] ["_law_found", "_law_due"] (defScope s__law_alike) := ⟨rfl, rfl, rfl, by decide +kernel, rfl, by decide +kernel, by decide +kernel⟩
theorem ok__law_alike {f : Addr} {fd : FuncData} (F : Fun K "_law_alike" "_law_alike" s__law_alike f fd) (m : mg "_law_alike" = some (.ref f)) (B : Bl mg) {Z_Go Z_Keep Z_Put Z_Ask f_Deed_asks f_Go_done f_Keep_init f_Keep_done f_Put_init f_Put_done f_Ask_init f_Ask_asks f_Ask_done f_Ask_between_ends : Addr} (T : Kl K mg Z_Go Z_Keep Z_Put Z_Ask f_Deed_asks f_Go_done f_Keep_init f_Keep_done f_Put_init f_Put_done f_Ask_init f_Ask_asks f_Ask_done f_Ask_between_ends) (D__law_point_like : Def P w K mg base CX0 "_law_point_like" 2 ["_law_found", "_law_count"] (sp__law_point_like K)) : Def P w K mg base CX0 "_law_alike" 3 ["_law_found", "_law_due"] (sp__law_alike K) := by
  refine ⟨f, fd, F.ok sc__law_alike (fun vs H Q E h => ?_) (fun cdv A outer s H vs Q E hr h => ?_), F.binds (ps := ["_law_found", "_law_due"]) fun _ _ _ _ _ _ us hl => (by obtain ⟨b0, b1, rfl⟩ := us2 hl; rfl), F.kp, m⟩
  · obtain ⟨r, u, o, rfl, _⟩ := h
    rfl
  obtain ⟨r, u, o, rfl, hr1, hu1, q⟩ := h
  refine ⟨_, (@pss_cons _ _ _ _ _ (ps_if (pt_cmpR op_isN (pv 1) pe_non (nomark _)) (pss_one (ps_ret (pe_cmpR op_isN (pv 0) pe_non (nomark _)))) pss_nil)
    (pss_one (ps_ret (pe_and (pe_def D__law_point_like (hr.mono (by decide)) (by rfl) pass0 (pa_Name (pv 0) (pa_Call (pe_callB (call_lenK (K := K) rfl) (by rfl) B.len (by decide +kernel) (pa_Name (pv 1) pa_nil)) pa_nil))) (pe_one (pe_cmpR (op_eqDK (K := K) hr rfl) (pv 0) (pv 1) (nomark _))))))), ?_⟩
  refine seq_step fun U hU => ?_
  refine ⟨_, rfl, rfl, _, rfl, ?_⟩
  cases o with
  | none =>
    cases hr1
    cases hu1
    refine iteT ?_
    exact ⟨_, rfl, rfl, q⟩
  | some ys =>
    obtain ⟨p1, rfl, h1⟩ := hr1
    obtain ⟨p2, rfl, h2⟩ := hu1
    refine iteF ?_
    show U _ _
    subst hU
    refine ⟨_, rfl, _, rfl, p2, _, rfl, .inr (SqT.of h2), p1, ys, (ys.map V.int).length, rfl, h1, by rw [List.length_map], true, rfl, ?_⟩
    refine iteT ?_
    refine ⟨_, rfl, _, rfl, .tuple (ys.map .int), .tuple (ys.map .int), .tup (SqT.of h1) (.ints ys), .tup (SqT.of h2) (.ints ys), ?_, ?_⟩
    · have := depth_ints ys
      simp only [PyData.depth]
      omega
    · rw [PyData.eqv, eqvAll_ints, decide_eq_true rfl]
      exact q
theorem sc__law_drawn : FnScope ["_law_script", "_law_point_here", "_law_drawn_here", "_law_k", "_law_kind", "_law_cell_here", "_law_other"] ["_law_script", "_law_point_here"] (defScope s__law_drawn) := ⟨rfl, rfl, rfl, by decide +kernel, rfl, by decide +kernel, by decide +kernel⟩
theorem ok__law_drawn {f : Addr} {fd : FuncData} (F : Fun K "_law_drawn" "_law_drawn" s__law_drawn f fd) (m : mg "_law_drawn" = some (.ref f)) (B : Bl mg) {Z_Go Z_Keep Z_Put Z_Ask f_Deed_asks f_Go_done f_Keep_init f_Keep_done f_Put_init f_Put_done f_Ask_init f_Ask_asks f_Ask_done f_Ask_between_ends : Addr} (T : Kl K mg Z_Go Z_Keep Z_Put Z_Ask f_Deed_asks f_Go_done f_Keep_init f_Keep_done f_Put_init f_Put_done f_Ask_init f_Ask_asks f_Ask_done f_Ask_between_ends) (D__law_cell : Def P w K mg base CX0 "_law_cell" 1 ["_law_script", "_law_k"] (sp__law_cell K)) (D__law_deed : Def P w K mg base CX0 "_law_deed" 4 ["_law_kind", "_law_cell_here", "_law_other", "_law_point_here"] (sp__law_deed K)) : Def P w K mg base CX0 "_law_drawn" 5 ["_law_script", "_law_point_here"] (sp__law_drawn K) := by
  refine ⟨f, fd, F.ok sc__law_drawn (fun vs H Q E h => ?_) (fun cdv A outer s H vs Q E hr h => ?_), F.binds (ps := ["_law_script", "_law_point_here"]) fun _ _ _ _ _ _ us hl => (by obtain ⟨b0, b1, rfl⟩ := us2 hl; rfl), F.kp, m⟩
  · obtain ⟨a, pt, ns, xs, n, rfl, _⟩ := h
    rfl
  obtain ⟨a, pt, ns, xs, n, rfl, hS, hP, lx, n1, n6, q⟩ := h
  have D__law_cell := D__law_cell.imp (cellAt_of (a := a) (ns := ns))
  refine ⟨_, (@pss_cons _ _ _ _ _ (ps_set (i := 2) sc__law_drawn.nd rfl (by first | exact Or.inl rfl | exact Or.inr rfl) (pe_lst pa_nil))
    (@pss_cons _ _ _ _ _ (ps_for PassesOwn.never rfl (pi_range1 (by rfl) B.range (pa_Constant pe_int pa_nil)) (pg_name (i := 3) sc__law_drawn.nd rfl (by first | exact Or.inl rfl | exact Or.inr rfl)) (@pss_cons _ _ _ _ _ (ps_set (i := 4) sc__law_drawn.nd rfl (by first | exact Or.inl rfl | exact Or.inr rfl) (pe_op op_add (pe_op op_mul (pe_op op_fdiv (pe_def D__law_cell (hr.mono (by decide)) (by rfl) pass0 (pa_Name (pv 0) (pa_BinOp (pe_op op_add pe_int (pe_op op_mul pe_int (pv 3))) pa_nil))) pe_int) pe_int) (pv 3)))
    (@pss_cons _ _ _ _ _ (ps_set (i := 5) sc__law_drawn.nd rfl (by first | exact Or.inl rfl | exact Or.inr rfl) (pe_def D__law_cell (hr.mono (by decide)) (by rfl) pass0 (pa_Name (pv 0) (pa_BinOp (pe_op op_add pe_int (pe_op op_mul pe_int (pv 3))) pa_nil))))
    (@pss_cons _ _ _ _ _ (ps_set (i := 6) sc__law_drawn.nd rfl (by first | exact Or.inl rfl | exact Or.inr rfl) (pe_def D__law_cell (hr.mono (by decide)) (by rfl) pass0 (pa_Name (pv 0) (pa_BinOp (pe_op op_add pe_int (pe_op op_mul pe_int (pv 3))) pa_nil))))
    (pss_one (ps_expr (pe_bm PySem.F.plainAttrs_list PySem.F.slot_list_append PySem.F.type_list_append mt_append (pv 2) (pa_Call (pe_def D__law_deed (hr.mono (by decide)) (by rfl) pass0 (pa_Name (pv 4) (pa_Name (pv 5) (pa_Name (pv 6) (pa_Name (pv 1) pa_nil))))) pa_nil))))))))
    (pss_one (ps_ret (pv 2))))), ?_⟩
  refine seq_step fun U hU => ?_
  refine ⟨sz 0, fun p hp => ?_⟩
  show U _ _
  subst hU
  refine seq_step fun U hU => ?_
  refine ⟨8, rfl, by decide, by decide, for_range (lo := 0) (n := 8) (fun i σ H' => ∃ x1 x2 x3 x4 ys Ds, σ = [some (.ref a), some (.ref pt), some (.ref p), x1, x2, x3, x4] ∧ Same H H' ∧ H' p = some (.lst ys) ∧ Paired (DrawnAt H') ys Ds ∧ (∀ D ∈ Ds, InD n D) ∧ Ds.length = i) ⟨none, none, none, none, [], [], rfl, same_new hp _, upd_same, .nil, fun D h => by simp at h, rfl⟩ ?_ ?_⟩
  · rintro i σ H1 hi ⟨x1, x2, x3, x4, ys, Ds, rfl, sm1, hp1, hPr, hIn, hl⟩
    have hS1 := sm1.seq hS
    have hP1 := sm1.sqT hP
    rw [Int.zero_add]
    refine seq_step fun U hU => ?_
    refine ⟨_, rfl, _, rfl, _, _, rfl, rfl, .inl ⟨by decide, by decide⟩, _, _, rfl, rfl, (8 + 3 * (i : Int)), rfl, by omega, hS1, _, _, rfl, rfl, ⟨by decide, by decide⟩, _, _, rfl, rfl, .inr ⟨by decide, by decide⟩, _, rfl, _, _, rfl, rfl, ?_⟩
    show U _ _
    subst hU
    refine seq_step fun U hU => ?_
    refine ⟨_, rfl, _, rfl, _, _, rfl, rfl, .inl ⟨by decide, by decide⟩, _, _, rfl, rfl, (9 + 3 * (i : Int)), rfl, by omega, hS1, ?_⟩
    show U _ _
    subst hU
    refine seq_step fun U hU => ?_
    refine ⟨_, rfl, _, rfl, _, _, rfl, rfl, .inl ⟨by decide, by decide⟩, _, _, rfl, rfl, (10 + 3 * (i : Int)), rfl, by omega, hS1, ?_⟩
    show U _ _
    subst hU
    refine ⟨_, rfl, .inl ⟨rfl, _, SqL.of hp1⟩, _, rfl, _, rfl, _, rfl, _, rfl, _, _, _, pt, xs, n, rfl, hP1, lx, n1, n6, fun v D H2 sm2 hD hInD => ?_⟩
    refine ⟨p, _, _, rfl, rfl, sm2 _ _ hp1, by rw [paired_len hPr, hl]; exact small1000 (by omega), ?_⟩
    refine ⟨_, _, _, _, ys ++ [v], Ds ++ [D], rfl, same_over hp (sm1.trans sm2), upd_same, paired_snoc (Paired.mapP hPr fun _ _ z => drawnX (sm2 _ _ hp1) sameX_upd (z.same sm2)) (drawnX (sm2 _ _ hp1) sameX_upd hD), fun E hE => ?_, by simp [hl]⟩
    rcases List.mem_append.mp hE with z | z
    · exact hIn E z
    · rw [List.mem_singleton.mp z]; exact hInD
  · rintro σ H1 ⟨x1, x2, x3, x4, ys, Ds, rfl, sm1, hp1, hPr, hIn, hl⟩
    show U _ _
    subst hU
    exact ⟨_, rfl, q p ys Ds H1 sm1 hp hp1 hPr hIn hl⟩
theorem sc_law : FnScope ["_law_script", "_law_count", "_law_point_here", "_law_drawn_here", "_law_deeds", "_law_numbers", "_law_one", "_law_number", "_law_k"] ["_law_script"] (defScope s_law) := ⟨rfl, rfl, rfl, by decide +kernel, rfl, by decide +kernel, by decide +kernel⟩
theorem ok_law_fn {f : Addr} {fd : FuncData} (F : Fun K "law" "law" s_law f fd) (m : mg "law" = some (.ref f)) (B : Bl mg) {Z_Go Z_Keep Z_Put Z_Ask f_Deed_asks f_Go_done f_Keep_init f_Keep_done f_Put_init f_Put_done f_Ask_init f_Ask_asks f_Ask_done f_Ask_between_ends : Addr} (T : Kl K mg Z_Go Z_Keep Z_Put Z_Ask f_Deed_asks f_Go_done f_Keep_init f_Keep_done f_Put_init f_Put_done f_Ask_init f_Ask_asks f_Ask_done f_Ask_between_ends) (D__law_point : Def P w K mg base CX0 "_law_point" 2 ["_law_script", "_law_at", "_law_count"] (sp__law_point K)) (D__law_drawn : Def P w K mg base CX0 "_law_drawn" 5 ["_law_script", "_law_point_here"] (sp__law_drawn K)) (D__law_made : Def P w K mg base CX0 "_law_made" 3 ["_law_drawn_here"] (sp__law_made K Z_Go Z_Keep Z_Put Z_Ask)) (D__law_big : Def P w K mg base CX0 "_law_big" 1 ["_law_cell_here"] (sp__law_big K)) (D__law_cell : Def P w K mg base CX0 "_law_cell" 1 ["_law_script", "_law_k"] (sp__law_cell K)) (D__law_alike : Def P w K mg base CX0 "_law_alike" 3 ["_law_found", "_law_due"] (sp__law_alike K)) (D_Go_done : FDef P w K mg base CX0 1 ["self", "point", "number"] (sp_Go_done K) f_Go_done) (D_Keep_done : FDef P w K mg base CX0 4 ["self", "point", "number"] (sp_Keep_done K Z_Keep) f_Keep_done) (D_Put_done : FDef P w K mg base CX0 4 ["self", "point", "number"] (sp_Put_done K Z_Put) f_Put_done) (D_Ask_done : FDef P w K mg base CX0 3 ["self", "point", "number"] (sp_Ask_done K Z_Ask) f_Ask_done) (D__law_step : Def P w K mg base CX0 "_law_step" 3 ["_law_drawn_here", "_law_point_here", "_law_number"] (sp__law_step K)) (D_Deed_asks : FDef P w K mg base CX0 1 ["self"] (sp_Deed_asks K) f_Deed_asks) (D_Ask_asks : FDef P w K mg base CX0 1 ["self"] (sp_Ask_asks K) f_Ask_asks) : FnOk P w K mg base CX0 6 f fd ["_law_script"] (sp_law K) := by
  refine F.ok sc_law (fun vs H Q E h => ?_) (fun cdv A outer s H vs Q E hr h => ?_)
  · obtain ⟨a, ns, rfl, _⟩ := h
    rfl
  obtain ⟨a, ns, rfl, hS, hlen, q⟩ := h
  have D__law_cell := D__law_cell.imp (cellAt_of (a := a) (ns := ns))
  refine ⟨_, (@pss_cons _ _ _ _ _ (ps_set (i := 1) sc_law.nd rfl (by first | exact Or.inl rfl | exact Or.inr rfl) (pe_op op_add pe_int (pe_op op_mod (pe_def D__law_cell (hr.mono (by decide)) (by rfl) pass0 (pa_Name (pv 0) (pa_Constant pe_int pa_nil))) pe_int)))
    (@pss_cons _ _ _ _ _ (ps_set (i := 2) sc_law.nd rfl (by first | exact Or.inl rfl | exact Or.inr rfl) (pe_def D__law_point (hr.mono (by decide)) (by rfl) pass0 (pa_Name (pv 0) (pa_Constant pe_int (pa_Name (pv 1) pa_nil)))))
    (@pss_cons _ _ _ _ _ (ps_set (i := 3) sc_law.nd rfl (by first | exact Or.inl rfl | exact Or.inr rfl) (pe_def D__law_drawn (hr.mono (by decide)) (by rfl) pass0 (pa_Name (pv 0) (pa_Name (pv 2) pa_nil))))
    (@pss_cons _ _ _ _ _ (ps_setC1 (i := 4) (CompScope1.of (M := ["_law_script", "_law_count", "_law_point_here", "_law_drawn_here", "_law_deeds", "_law_numbers", "?_law_one", "_law_number", "_law_k"]) (by decide +kernel) (by rfl)) rfl (pi_listK (K := K) rfl (pv 3)) (fun _ _ _ => (pe_def D__law_made (hr.mono (by decide)) (by rfl) pass0 (pa_Name (pv 0) pa_nil))) sc_law.nd rfl (by first | exact Or.inl rfl | exact Or.inr rfl) rfl)
    (@pss_cons _ _ _ _ _ (ps_set (i := 5) sc_law.nd rfl (by first | exact Or.inl rfl | exact Or.inr rfl) (pe_lst (pa_Call (pe_def D__law_big (hr.mono (by decide)) (by rfl) pass0 (pa_Call (pe_def D__law_cell (hr.mono (by decide)) (by rfl) pass0 (pa_Name (pv 0) (pa_Constant pe_int pa_nil))) pa_nil)) pa_nil)))
    (@pss_cons _ _ _ _ _ (ps_for PassesOwn.never rfl (pi_listK (K := K) rfl (pv 3)) (pg_name (i := 6) sc_law.nd rfl (by first | exact Or.inl rfl | exact Or.inr rfl)) (@pss_cons _ _ _ _ _ (ps_if (pw_and (pt_cmpR op_eq (pe_ix (ix_tupK (K := K) rfl) (pv 6) pe_int (fun _ _ => rfl)) pe_str (nomark _)) (pw_and1 (pt_cmpR op_notN (pe_ix (ix_tupK (K := K) rfl) (pv 6) pe_int (fun _ _ => rfl)) pe_non (nomark _)))).pt (pss_one (ps_expr (pe_bm PySem.F.plainAttrs_list PySem.F.slot_list_append PySem.F.type_list_append mt_append (pv 5) (pa_BinOp (pe_op op_sub (pe_op op_add (pe_ix (ix_tupK (K := K) rfl) (pv 6) pe_int (fun _ _ => rfl)) (pe_op op_mod (pe_op op_fdiv (pe_def D__law_cell (hr.mono (by decide)) (by rfl) pass0 (pa_Name (pv 0) (pa_Constant pe_int pa_nil))) pe_int) pe_int)) pe_int) pa_nil)))) pss_nil)
    (pss_one (ps_if (pw_and (pt_cmpR op_eq (pe_ix (ix_tupK (K := K) rfl) (pv 6) pe_int (fun _ _ => rfl)) pe_str (nomark _)) (pw_and1 (pt_cmpR op_notN (pe_ix (ix_tupK (K := K) rfl) (pv 6) pe_int (fun _ _ => rfl)) pe_non (nomark _)))).pt (pss_one (ps_expr (pe_bm PySem.F.plainAttrs_list PySem.F.slot_list_append PySem.F.type_list_append mt_append (pv 5) (pa_BinOp (pe_op op_sub (pe_op op_add (pe_ix (ix_tupK (K := K) rfl) (pv 6) pe_int (fun _ _ => rfl)) (pe_op op_mod (pe_op op_fdiv (pe_def D__law_cell (hr.mono (by decide)) (by rfl) pass0 (pa_Name (pv 0) (pa_Constant pe_int pa_nil))) pe_int) pe_int)) pe_int) pa_nil)))) pss_nil))))
    (@pss_cons _ _ _ _ _ (ps_for PassesOwn.never rfl (pi_listK (K := K) rfl (pe_op op_cat (pv 5) (pe_slice (sl_listK (K := K) rfl) (pv 5) po_none (po_some pe_int)))) (pg_name (i := 7) sc_law.nd rfl (by first | exact Or.inl rfl | exact Or.inr rfl)) (pss_one (ps_for PassesOwn.never rfl (pi_range1 (by rfl) B.range (pa_Call (pe_callB (call_lenK (K := K) rfl) (by rfl) B.len (by decide +kernel) (pa_Name (pv 3) pa_nil)) pa_nil)) (pg_name (i := 8) sc_law.nd rfl (by first | exact Or.inl rfl | exact Or.inr rfl)) (@pss_cons _ _ _ _ _ (ps_if (pt_not (pt_val (pe_def D__law_alike (hr.mono (by decide)) (by rfl) pass0 (pa_Call (pe_either (pe_mdef D_Go_done T.cl_Go T.me_Go_done (pe_ix (ix_listK (K := K) rfl) (pv 4) (pv 8) (fun _ _ => rfl)) (hr.mono (by decide)) pass0 (pa_Name (pv 2) (pa_Name (pv 7) pa_nil))) (pe_either (pe_mdef D_Keep_done T.cl_Keep T.me_Keep_done (pe_ix (ix_listK (K := K) rfl) (pv 4) (pv 8) (fun _ _ => rfl)) (hr.mono (by decide)) pass0 (pa_Name (pv 2) (pa_Name (pv 7) pa_nil))) (pe_either (pe_mdef D_Put_done T.cl_Put T.me_Put_done (pe_ix (ix_listK (K := K) rfl) (pv 4) (pv 8) (fun _ _ => rfl)) (hr.mono (by decide)) pass0 (pa_Name (pv 2) (pa_Name (pv 7) pa_nil))) (pe_mdef D_Ask_done T.cl_Ask T.me_Ask_done (pe_ix (ix_listK (K := K) rfl) (pv 4) (pv 8) (fun _ _ => rfl)) (hr.mono (by decide)) pass0 (pa_Name (pv 2) (pa_Name (pv 7) pa_nil)))))) (pa_Call (pe_def D__law_step (hr.mono (by decide)) (by rfl) pass0 (pa_Subscript (pe_ix (ix_listK (K := K) rfl) (pv 3) (pv 8) (fun _ _ => rfl)) (pa_Name (pv 2) (pa_Name (pv 7) pa_nil)))) pa_nil))))) (pss_one (ps_ret pe_bl)) pss_nil)
    (@pss_cons _ _ _ _ _ (ps_if (pw_and (pt_cmpR op_eq (pe_ix (ix_tupK (K := K) rfl) (pe_ix (ix_listK (K := K) rfl) (pv 3) (pv 8) (fun _ _ => rfl)) pe_int (fun _ _ => rfl)) pe_str (nomark _)) (pw_and1 (pt_cmpR op_isNotB (pe_either (pe_mdef0 D_Deed_asks T.cl_Go T.me_Go_asks (pe_ix (ix_listK (K := K) rfl) (pv 4) (pv 8) (fun _ _ => rfl)) (hr.mono (by decide)) pass0) (pe_either (pe_mdef0 D_Deed_asks T.cl_Keep T.me_Keep_asks (pe_ix (ix_listK (K := K) rfl) (pv 4) (pv 8) (fun _ _ => rfl)) (hr.mono (by decide)) pass0) (pe_either (pe_mdef0 D_Deed_asks T.cl_Put T.me_Put_asks (pe_ix (ix_listK (K := K) rfl) (pv 4) (pv 8) (fun _ _ => rfl)) (hr.mono (by decide)) pass0) (pe_mdef0 D_Ask_asks T.cl_Ask T.me_Ask_asks (pe_ix (ix_listK (K := K) rfl) (pv 4) (pv 8) (fun _ _ => rfl)) (hr.mono (by decide)) pass0)))) pe_bl (nomark _)))).pt (pss_one (ps_ret pe_bl)) pss_nil)
    (pss_one (ps_if (pw_and (pt_cmpR op_ne (pe_ix (ix_tupK (K := K) rfl) (pe_ix (ix_listK (K := K) rfl) (pv 3) (pv 8) (fun _ _ => rfl)) pe_int (fun _ _ => rfl)) pe_str (nomark _)) (pw_and1 (pt_cmpR op_isNotB (pe_either (pe_mdef0 D_Deed_asks T.cl_Go T.me_Go_asks (pe_ix (ix_listK (K := K) rfl) (pv 4) (pv 8) (fun _ _ => rfl)) (hr.mono (by decide)) pass0) (pe_either (pe_mdef0 D_Deed_asks T.cl_Keep T.me_Keep_asks (pe_ix (ix_listK (K := K) rfl) (pv 4) (pv 8) (fun _ _ => rfl)) (hr.mono (by decide)) pass0) (pe_either (pe_mdef0 D_Deed_asks T.cl_Put T.me_Put_asks (pe_ix (ix_listK (K := K) rfl) (pv 4) (pv 8) (fun _ _ => rfl)) (hr.mono (by decide)) pass0) (pe_mdef0 D_Ask_asks T.cl_Ask T.me_Ask_asks (pe_ix (ix_listK (K := K) rfl) (pv 4) (pv 8) (fun _ _ => rfl)) (hr.mono (by decide)) pass0)))) pe_bl (nomark _)))).pt (pss_one (ps_ret pe_bl)) pss_nil)))))))
    (pss_one (ps_ret pe_bl))))))))), ?_⟩
  refine seq_step fun U hU => ?_
  simp [tSeq, tNext, tIfS, tRet, tAsg, gName, tTest, tOp, tUn, tVar, tC, rI, rI0, rU, rEq, rNe, scal, L2.start, tCall, tCB, tNil, tCons, tTup, tLst, tNot, tAnd, tOr, tAndV, tOrV, tNotV, tIf, tDrop, CDiv, tB, rIxT, rIxL, tSl, tPart, tNoPart, tYes, CPow, cellAt, hS]
  obtain ⟨n, en, n1, n6⟩ := count_of (cellI ns 0)
  rw [en]
  subst hU
  refine seq_step fun U hU => ?_
  refine ⟨_, rfl, _, rfl, a, ns, 2, n, rfl, hS, by decide, by omega, fun pt H1 hpt sm1 e1 => ?_⟩
  obtain ⟨xs, ex, xl⟩ := pt_of ns 2 n
  rw [ex] at e1
  have hS1 := sm1.seq hS
  show U _ _
  subst hU
  refine seq_step fun U hU => ?_
  refine ⟨_, rfl, _, rfl, a, pt, ns, xs, n, rfl, hS1, SqT.of e1, xl, n1, n6, fun dr ys Ds H2 sm2 hdr edr pdr inD l8 => ?_⟩
  show U _ _
  subst hU
  have ly := paired_len pdr
  have hS2 := sm2.seq hS1
  have e12 := sm2 _ _ e1
  refine seq_step fun U hU => ?_
  refine ⟨_, rfl, dr, rfl, ⟨_, SqL.of edr⟩, fun p hp => comp_list1 (K := K) (a := dr) (xs := ys) (fun i zs H' => H' p = some (.lst zs) ∧ Same H2 H' ∧ Paired (DeedAt Z_Go Z_Keep Z_Put Z_Ask H') zs (Ds.take i)) ⟨upd_same, same_new hp _, .nil⟩ (fun i zs H' _ ⟨_, sm, _⟩ => SqL.of (sm _ _ edr)) ?_ ?_⟩
  · rintro i x zs H' hx ⟨hp', sm, hPz⟩
    have hlt : i < ys.length := (List.getElem?_eq_some_iff.mp hx).1
    obtain ⟨D, eD, hD⟩ := paired_get' pdr hx
    have lz := paired_len hPz
    refine ⟨_, rfl, x, D, rfl, hD.same sm, fun u H3 sm3 hu => ?_⟩
    refine ⟨sm3 _ _ hp', by rw [lz, List.length_take]; exact small1000 (by omega), again hlt ⟨upd_same, same_over hp (sm.trans sm3), ?_⟩⟩
    rw [take_succ_of eD]
    exact paired_snoc (Paired.mapP hPz fun _ _ z => deedX (sm3 _ _ hp') sameX_upd (z.same sm3)) (deedX (sm3 _ _ hp') sameX_upd hu)
  · rintro zs H3 ⟨edd, sm3, hPz⟩
    rw [ly, List.take_length] at hPz
    have lz := paired_len hPz
    show U _ _
    subst hU
    have hS3 := sm3.seq hS2
    refine seq_step fun U hU => ?_
    refine ⟨_, rfl, (1 : Int), rfl, by decide, hS3, _, rfl, sz 1, fun nb hnb => ?_⟩
    show U _ _
    subst hU
    have s4 := same_new hnb (.lst [.int (bigI (cellI ns 1))])
    have edr3 := sm3 _ _ edr
    have pdr3 : Paired (DrawnAt H3) ys Ds := Paired.mapP pdr fun _ _ z => z.same sm3
    refine seq_step fun U hU => ?_
    refine ⟨_, rfl, dr, rfl, ⟨_, SqL.of (s4 _ _ edr3)⟩, for_list (K := K) (a := dr) (xs := ys) (fun i σ H' => ∃ (x : Option V) (ms : List Int), σ = [some (.ref a), some (.int n), some (.ref pt), some (.ref dr), some (.ref p), some (.ref nb), x, none, none] ∧ Same H3 H' ∧ H' nb = some (.lst (ms.map V.int)) ∧ ms.length ≤ 1 + 2 * i) ⟨none, [bigI (cellI ns 1)], rfl, s4, upd_same, by simp⟩ (fun i σ H' _ ⟨_, _, _, sm, _⟩ => SqL.of (sm _ _ edr3)) ?_ ?_⟩
    · rintro i x σ H4 hx ⟨x1, ms, rfl, sm4, hnb4, lm⟩
      have hlt : i < ys.length := (List.getElem?_eq_some_iff.mp hx).1
      obtain ⟨D, eD, hD0⟩ := paired_get' pdr3 hx
      have hD := hD0.same sm4
      have hS4 := sm4.seq hS3
      have small : ∀ ms : List Int, ms.length ≤ 20 → (ms.map V.int).length < sizeLine := fun ms h => by rw [List.length_map]; exact small1000 (by omega)
      refine seq_step fun U hU => ?_
      cases D with
      | go =>
        obtain ⟨t, rfl, ht⟩ := hD
        have hT : SqT K H4 t [.str "go"] := SqT.of ht
        refine ⟨_, rfl, t, _, 0, _, rfl, rfl, hT, rfl, rfl, _, rfl, ?_⟩
        rw [strF ne_ga]
        refine iteF ?_
        refine iteF ?_
        show U _ _
        subst hU
        refine ⟨_, rfl, t, _, 0, _, rfl, rfl, hT, rfl, rfl, _, rfl, ?_⟩
        rw [strF ne_ga]
        refine iteF ?_
        refine iteF ?_
        exact ⟨_, ms, rfl, sm4, hnb4, by omega⟩
      | keep f g w c =>
        obtain ⟨t, qa, rfl, ht, hqa⟩ := hD
        have hT : SqT K H4 t [.str "keep", .ref qa] := SqT.of ht
        refine ⟨_, rfl, t, _, 0, _, rfl, rfl, hT, rfl, rfl, _, rfl, ?_⟩
        rw [strF ne_ka]
        refine iteF ?_
        refine iteF ?_
        show U _ _
        subst hU
        refine ⟨_, rfl, t, _, 0, _, rfl, rfl, hT, rfl, rfl, _, rfl, ?_⟩
        rw [strF ne_ka]
        refine iteF ?_
        refine iteF ?_
        exact ⟨_, ms, rfl, sm4, hnb4, by omega⟩
      | put k f g c =>
        obtain ⟨t, aa, rfl, ht, haa⟩ := hD
        have hT : SqT K H4 t [.str "put", .int k, .ref aa] := SqT.of ht
        refine ⟨_, rfl, t, _, 0, _, rfl, rfl, hT, rfl, rfl, _, rfl, ?_⟩
        rw [strF ne_pa]
        refine iteF ?_
        refine iteF ?_
        show U _ _
        subst hU
        refine ⟨_, rfl, t, _, 0, _, rfl, rfl, hT, rfl, rfl, _, rfl, ?_⟩
        rw [strF ne_pa]
        refine iteF ?_
        refine iteF ?_
        exact ⟨_, ms, rfl, sm4, hnb4, by omega⟩
      | ask k lo hi =>
        obtain ⟨t, rfl, ht⟩ := hD
        have hT : SqT K H4 t [.str "ask", .int k, eV lo, eV hi] := SqT.of ht
        have key : ∀ (H5 : Hp) (ms2 : List Int), Same H3 H5 → H5 nb = some (.lst (ms2.map V.int)) → ms2.length ≤ 2 + 2 * i → H5 t = some (.tup [.str "ask", .int k, eV lo, eV hi]) → U [some (.ref a), some (.int n), some (.ref pt), some (.ref dr), some (.ref p), some (.ref nb), some (.ref t), none, none] H5 := by
          intro H5 ms2 sm5 hnb5 lm2 ht5
          subst hU
          have hT5 : SqT K H5 t [.str "ask", .int k, eV lo, eV hi] := SqT.of ht5
          refine ⟨_, rfl, t, _, 0, _, rfl, rfl, hT5, rfl, rfl, _, rfl, ?_⟩
          rw [strT]
          refine iteT ?_
          refine ⟨_, rfl, t, _, 3, _, rfl, rfl, hT5, rfl, rfl, _, rfl, ?_⟩
          cases hi with
          | none =>
            refine iteF ?_
            exact ⟨_, ms2, rfl, sm5, hnb5, by omega⟩
          | some y =>
            refine iteT ?_
            refine ⟨_, rfl, .inl ⟨rfl, _, SqL.of hnb5⟩, _, rfl, t, _, 3, _, rfl, rfl, hT5, rfl, _, rfl, (1 : Int), rfl, by decide, sm5.seq hS3, _, _, rfl, rfl, ⟨by decide, by decide⟩, _, _, rfl, rfl, (by show (0 : Int) < 11; decide), _, _, rfl, rfl, _, _, rfl, rfl, nb, _, _, rfl, rfl, hnb5, small _ (by omega), ?_⟩
            exact ⟨_, ms2 ++ [y + cellI ns 1 / 44 % 11 - 5], rfl, same_over hnb sm5, by rw [upd_same]; simp, by simp; omega⟩
        refine ⟨_, rfl, t, _, 0, _, rfl, rfl, hT, rfl, rfl, _, rfl, ?_⟩
        rw [strT]
        refine iteT ?_
        refine ⟨_, rfl, t, _, 2, _, rfl, rfl, hT, rfl, rfl, _, rfl, ?_⟩
        cases lo with
        | none =>
          refine iteF ?_
          exact key H4 ms sm4 hnb4 (by omega) ht
        | some y =>
          refine iteT ?_
          refine ⟨_, rfl, .inl ⟨rfl, _, SqL.of hnb4⟩, _, rfl, t, _, 2, _, rfl, rfl, hT, rfl, _, rfl, (1 : Int), rfl, by decide, hS4, _, _, rfl, rfl, ⟨by decide, by decide⟩, _, _, rfl, rfl, (by show (0 : Int) < 11; decide), _, _, rfl, rfl, _, _, rfl, rfl, nb, _, _, rfl, rfl, hnb4, small _ (by omega), ?_⟩
          exact key _ (ms ++ [y + cellI ns 1 / 4 % 11 - 5]) (same_over hnb sm4) (by rw [upd_same]; simp) (by simp; omega) (by rw [upd_ne (ne_of ht hnb4 (by intro z; cases z))]; exact ht)
    · rintro σ H4 ⟨x1, ms, rfl, sm4, hnb4, lm⟩
      show U _ _
      subst hU
      have e14 := sm4 _ _ (sm3 _ _ e12)
      have edr4 := sm4 _ _ edr3
      have pdr4 : Paired (DrawnAt H4) ys Ds := Paired.mapP pdr3 fun _ _ z => z.same sm4
      have edd4 := sm4 _ _ edd
      have pdd4 : Paired (DeedAt Z_Go Z_Keep Z_Put Z_Ask H4) zs Ds := Paired.mapP hPz fun _ _ z => z.same sm4
      have lm2 : ms.length ≤ 20 := by omega
      refine seq_step fun U hU => ?_
      refine ⟨_, rfl, _, rfl, (1 : Int), rfl, nb, _, rfl, SqL.of hnb4, fun c1 hc1 => ?_⟩
      obtain ⟨cs, ecs, lcs⟩ := cut_ints ms none (some 1)
      rw [ecs]
      have s5 := same_new hc1 (.lst (cs.map V.int))
      refine ⟨nb, c1, _, _, rfl, rfl, s5 _ _ hnb4, upd_same, Nat.le_of_lt (by rw [List.length_map, List.length_map]; exact small1000 (by omega)), fun nl hnl => ?_⟩
      have s6 := s5.trans (same_new hnl (.lst (ms.map V.int ++ cs.map V.int)))
      have enl : upd (upd H4 c1 (.lst (cs.map V.int))) nl (.lst (ms.map V.int ++ cs.map V.int)) nl = some (.lst ((ms ++ cs).map V.int)) := by rw [upd_same, List.map_append]
      generalize upd (upd H4 c1 (.lst (cs.map V.int))) nl (.lst (ms.map V.int ++ cs.map V.int)) = H6 at *
      refine ⟨nl, rfl, ⟨_, SqL.of enl⟩, for_list (K := K) (a := nl) (xs := (ms ++ cs).map V.int) (fun i σ H' => ∃ x y, σ = [some (.ref a), some (.int n), some (.ref pt), some (.ref dr), some (.ref p), some (.ref nb), x1, x, y] ∧ Same H6 H') ⟨none, none, rfl, Same.refl _⟩ (fun i σ H' _ ⟨_, _, _, sm⟩ => SqL.of (sm _ _ enl)) ?_ ?_⟩
      · rintro i x σ H7 hx ⟨y1, y2, rfl, sm7⟩
        obtain ⟨hi, rfl⟩ := at_of hx
        generalize (ms ++ cs)[i] = num
        have s47 := s6.trans sm7
        refine ⟨_, rfl, dr, _, rfl, .inl (SqL.of (s47 _ _ edr4)), (ys.length : Int), rfl, by omega, by omega, for_range (lo := 0) (n := (ys.length : Int).toNat) (fun j σ H' => ∃ y, σ = [some (.ref a), some (.int n), some (.ref pt), some (.ref dr), some (.ref p), some (.ref nb), x1, some (.int num), y] ∧ Same H6 H') ⟨y2, rfl, sm7⟩ ?_ ?_⟩
        · rintro j σ H8 hj ⟨y3, rfl, sm8⟩
          rw [Int.zero_add]
          have s48 := s6.trans sm8
          have hjy : j < ys.length := by omega
          have hjD : j < Ds.length := by omega
          have hjz : j < zs.length := by omega
          obtain ⟨D, eD, hDr0⟩ := paired_get' pdr4 (List.getElem?_eq_getElem hjy)
          obtain ⟨D', eD', hDd0⟩ := paired_get' pdd4 (List.getElem?_eq_getElem hjz)
          have eDD : D' = D := by rw [eD] at eD'; cases eD'; rfl
          subst eDD
          have hIn := inD D' (List.mem_of_getElem? eD)
          have ady := at_nat (List.getElem?_eq_getElem hjy)
          have adz := at_nat (List.getElem?_eq_getElem hjz)
          generalize ys[j] = vy at *
          generalize zs[j] = vz at *
          have hDr := hDr0.same s48
          have hDd := hDd0.same s48
          have hDl8 := SqL.of (K := K) (s48 _ _ edr4)
          have hZl8 := SqL.of (K := K) (s48 _ _ edd4)
          have ept8 := s48 _ _ e14
          have askB : ∀ (D : Dd), Bool := fun D => match D with | .ask _ _ _ => true | _ => false
          refine seq_step fun U hU => ?_
          have key : ∀ H9, Same H6 H9 → U [some (.ref a), some (.int n), some (.ref pt), some (.ref dr), some (.ref p), some (.ref nb), x1, some (.int num), some (.int j)] H9 := by
            intro H9 sm9
            subst hU
            have s49 := s6.trans sm9
            have hDl := SqL.of (K := K) (s49 _ _ edr4)
            have hZl := SqL.of (K := K) (s49 _ _ edd4)
            have hDr9 := hDr0.same s49
            have hDd9 := hDd0.same s49
            cases D' with
            | go =>
              obtain ⟨t, rfl, ht⟩ := hDr9
              obtain ⟨x, dx, rfl, hx9⟩ := hDd9
              have hT : SqT K H9 t [.str "go"] := SqT.of ht
              refine seq_step fun U hU => ?_
              refine ⟨_, rfl, _, rfl, dr, _, _, _, rfl, rfl, hDl, ady, t, _, 0, _, rfl, rfl, hT, rfl, rfl, _, rfl, ?_⟩
              rw [strF ne_ga]
              refine iteF ?_
              refine iteF ?_
              show U _ _
              subst hU
              refine ⟨_, rfl, _, rfl, dr, _, _, _, rfl, rfl, hDl, ady, t, _, 0, _, rfl, rfl, hT, rfl, rfl, _, rfl, ?_⟩
              rw [strF ne_ga]
              refine iteT ?_
              refine .inl ⟨_, rfl, _, rfl, p, _, _, _, rfl, rfl, hZl, adz, x, dx, _, rfl, hx9, rfl, _, rfl, _, _, rfl, rfl, _, rfl, ?_⟩
              refine iteF ?_
              exact ⟨_, rfl, sm9⟩
            | keep f g w c =>
              obtain ⟨t, qa, rfl, ht, hqa⟩ := hDr9
              obtain ⟨x, dx, qb, rfl, hx9, hqb⟩ := hDd9
              have hT : SqT K H9 t [.str "keep", .ref qa] := SqT.of ht
              refine seq_step fun U hU => ?_
              refine ⟨_, rfl, _, rfl, dr, _, _, _, rfl, rfl, hDl, ady, t, _, 0, _, rfl, rfl, hT, rfl, rfl, _, rfl, ?_⟩
              rw [strF ne_ka]
              refine iteF ?_
              refine iteF ?_
              show U _ _
              subst hU
              refine ⟨_, rfl, _, rfl, dr, _, _, _, rfl, rfl, hDl, ady, t, _, 0, _, rfl, rfl, hT, rfl, rfl, _, rfl, ?_⟩
              rw [strF ne_ka]
              refine iteT ?_
              refine .inr (.inl ⟨_, rfl, _, rfl, p, _, _, _, rfl, rfl, hZl, adz, x, dx, _, rfl, hx9, noK off_asks _, _, rfl, _, _, rfl, rfl, _, rfl, ?_⟩)
              refine iteF ?_
              exact ⟨_, rfl, sm9⟩
            | put k f g c =>
              obtain ⟨t, aa, rfl, ht, haa⟩ := hDr9
              obtain ⟨x, dx, ab, rfl, hx9, hab⟩ := hDd9
              have hT : SqT K H9 t [.str "put", .int k, .ref aa] := SqT.of ht
              refine seq_step fun U hU => ?_
              refine ⟨_, rfl, _, rfl, dr, _, _, _, rfl, rfl, hDl, ady, t, _, 0, _, rfl, rfl, hT, rfl, rfl, _, rfl, ?_⟩
              rw [strF ne_pa]
              refine iteF ?_
              refine iteF ?_
              show U _ _
              subst hU
              refine ⟨_, rfl, _, rfl, dr, _, _, _, rfl, rfl, hDl, ady, t, _, 0, _, rfl, rfl, hT, rfl, rfl, _, rfl, ?_⟩
              rw [strF ne_pa]
              refine iteT ?_
              refine .inr (.inr (.inl ⟨_, rfl, _, rfl, p, _, _, _, rfl, rfl, hZl, adz, x, dx, _, rfl, hx9, noP off_asks _ _, _, rfl, _, _, rfl, rfl, _, rfl, ?_⟩))
              refine iteF ?_
              exact ⟨_, rfl, sm9⟩
            | ask k lo hi =>
              obtain ⟨t, rfl, ht⟩ := hDr9
              obtain ⟨x, dx, rfl, hx9⟩ := hDd9
              have hT : SqT K H9 t [.str "ask", .int k, eV lo, eV hi] := SqT.of ht
              refine seq_step fun U hU => ?_
              refine ⟨_, rfl, _, rfl, dr, _, _, _, rfl, rfl, hDl, ady, t, _, 0, _, rfl, rfl, hT, rfl, rfl, _, rfl, ?_⟩
              rw [strT]
              refine iteT ?_
              refine .inr (.inr (.inr ⟨_, rfl, _, rfl, p, _, _, _, rfl, rfl, hZl, adz, x, dx, _, rfl, hx9, noA off_asks _ _ _, _, rfl, _, _, rfl, rfl, _, rfl, ?_⟩))
              refine iteF ?_
              show U _ _
              subst hU
              refine ⟨_, rfl, _, rfl, dr, _, _, _, rfl, rfl, hDl, ady, t, _, 0, _, rfl, rfl, hT, rfl, rfl, _, rfl, ?_⟩
              rw [strT]
              refine iteF ?_
              refine iteF ?_
              exact ⟨_, rfl, sm9⟩
          have alike : ∀ (r : V) (H9 : Hp), Same H8 H9 → PtO H9 r (stepI xs num D') → ∃ v1, [some (V.ref a), some (.int n), some (.ref pt), some (.ref dr), some (.ref p), some (.ref nb), x1, some (.int num), some (.int j)][3]? = some (some v1) ∧ True := fun _ _ _ _ => ⟨_, rfl, trivial⟩
          clear alike askB
          cases hDc : D' with
          | go =>
            subst hDc
            obtain ⟨x, dx, rfl, hx8⟩ := hDd
            refine .inl ⟨_, rfl, _, rfl, p, _, _, _, rfl, rfl, hZl8, adz, x, dx, [], rfl, hx8, rfl, _, rfl, _, rfl, _, _, _, rfl, ?_⟩
            refine ⟨_, rfl, _, rfl, dr, _, _, _, rfl, rfl, SqL.of ((s48.trans (Same.refl _)) _ _ edr4), ady, _, rfl, _, rfl, vy, _, pt, xs, num, rfl, hDr.same (Same.refl _), (Same.refl _) _ _ ept8, by rw [xl]; exact hIn, by omega, fun r2 H10 sm10 hres2 => ?_⟩
            refine ⟨_, r2, some xs, rfl, PtO.same (o := some xs) sm10 ⟨pt, rfl, ept8⟩, hres2, true, rfl, ?_⟩
            refine iteF ?_
            exact key _ ((sm8.trans (Same.refl _)).trans sm10)
          | keep f g w c =>
            subst hDc
            obtain ⟨x, dx, qb, rfl, hx8, hqb⟩ := hDd
            refine .inr (.inl ⟨_, rfl, _, rfl, p, _, _, _, rfl, rfl, hZl8, adz, x, dx, _, rfl, hx8, noK off_done _, _, rfl, _, rfl, x, dx, qb, pt, xs, f, g, w, c, _, rfl, hx8, hqb, ept8, by rw [xl]; exact hIn.1, by rw [xl]; exact hIn.2, fun H9 sm9 => ?_⟩)
            have hres : PtO H9 (if holdsI w (sumI xs f g) c = true then V.ref pt else V.non) (stepI xs num (.keep f g w c)) := by
              show PtO H9 _ (if holdsI w (sumI xs f g) c = true then some xs else none)
              cases holdsI w (sumI xs f g) c with
              | true => exact ⟨pt, rfl, sm9 _ _ ept8⟩
              | false => rfl
            refine ⟨_, rfl, _, rfl, dr, _, _, _, rfl, rfl, SqL.of ((s48.trans (sm9)) _ _ edr4), ady, _, rfl, _, rfl, vy, _, pt, xs, num, rfl, hDr.same (sm9), (sm9) _ _ ept8, by rw [xl]; exact hIn, by omega, fun r2 H10 sm10 hres2 => ?_⟩
            refine ⟨_, r2, stepI xs num (.keep f g w c), rfl, PtO.same (o := stepI xs num (.keep f g w c)) sm10 hres, hres2, true, rfl, ?_⟩
            refine iteF ?_
            exact key _ ((sm8.trans (sm9)).trans sm10)
          | put k f g c =>
            subst hDc
            obtain ⟨x, dx, ab, rfl, hx8, hab⟩ := hDd
            refine .inr (.inr (.inl ⟨_, rfl, _, rfl, p, _, _, _, rfl, rfl, hZl8, adz, x, dx, _, rfl, hx8, noP off_done _ _, _, rfl, _, rfl, x, dx, ab, pt, xs, k, f, g, c, _, rfl, hx8, hab, ept8, by rw [xl]; exact hIn.1, by omega, by rw [xl]; exact hIn.2.1, by rw [xl]; exact hIn.2.2, fun pr H9 sm9 epr => ?_⟩))
            refine ⟨_, rfl, _, rfl, dr, _, _, _, rfl, rfl, SqL.of ((s48.trans (sm9)) _ _ edr4), ady, _, rfl, _, rfl, vy, _, pt, xs, num, rfl, hDr.same (sm9), (sm9) _ _ ept8, by rw [xl]; exact hIn, by omega, fun r2 H10 sm10 hres2 => ?_⟩
            refine ⟨_, r2, some (xs.set k (amtI xs f g c)), rfl, PtO.same (o := some (xs.set k (amtI xs f g c))) sm10 ⟨pr, rfl, epr⟩, hres2, true, rfl, ?_⟩
            refine iteF ?_
            exact key _ ((sm8.trans (sm9)).trans sm10)
          | ask k lo hi =>
            subst hDc
            obtain ⟨x, dx, rfl, hx8⟩ := hDd
            refine .inr (.inr (.inr ⟨_, rfl, _, rfl, p, _, _, _, rfl, rfl, hZl8, adz, x, dx, _, rfl, hx8, noA off_done _ _ _, _, rfl, _, rfl, x, dx, pt, xs, k, lo, hi, num, rfl, hx8, ept8, by rw [xl]; exact hIn, by omega, fun pr H9 sm9 epr => ?_⟩))
            refine ⟨_, rfl, _, rfl, dr, _, _, _, rfl, rfl, SqL.of ((s48.trans (sm9)) _ _ edr4), ady, _, rfl, _, rfl, vy, _, pt, xs, num, rfl, hDr.same (sm9), (sm9) _ _ ept8, by rw [xl]; exact hIn, by omega, fun r2 H10 sm10 hres2 => ?_⟩
            refine ⟨_, r2, some (xs.set k (clampI lo hi num)), rfl, PtO.same (o := some (xs.set k (clampI lo hi num))) sm10 ⟨pr, rfl, epr⟩, hres2, true, rfl, ?_⟩
            refine iteF ?_
            exact key _ ((sm8.trans (sm9)).trans sm10)
        · rintro σ H8 ⟨y3, rfl, sm8⟩
          exact ⟨_, _, rfl, sm8⟩
      · rintro σ H7 ⟨y1, y2, rfl, sm7⟩
        show U _ _
        subst hU
        exact q _
end
theorem all_mk {l : PySem.W.OpenLaw} {w : World} {K : PySem.W.Frag} {h : Heap} {mg : Str → Option Value} {fa : Addr} (X : K.In h) (G : h.Ns mainGlobals mg) (hfa : mg "law" = some (.ref fa))
    {Z_Deed : Addr} (a_Deed : PySem.W.nsIn K mainGlobals "Deed" = some (some (.ref Z_Deed)))
    {Z_Go : Addr} (a_Go : PySem.W.nsIn K mainGlobals "Go" = some (some (.ref Z_Go)))
    {Z_Keep : Addr} (a_Keep : PySem.W.nsIn K mainGlobals "Keep" = some (some (.ref Z_Keep)))
    {Z_Put : Addr} (a_Put : PySem.W.nsIn K mainGlobals "Put" = some (some (.ref Z_Put)))
    {Z_Ask : Addr} (a_Ask : PySem.W.nsIn K mainGlobals "Ask" = some (some (.ref Z_Ask)))
    {f0 : Addr} {od0 an0 : Option Addr} {sl0 : Array (Option Value)} {oc0 kV0 dc0 pm0 cd0 ct0 : Value}
    (a0 : PySem.W.nsIn K mainGlobals "below" = some (some (.ref f0))) (l0 : K.lookup f0 = some ⟨oc0, od0, .func (PySem.W.fnOf "below" "below" (defArgs s_below) (defBody s_below) (defScope s_below) .none kV0 dc0 pm0 an0 cd0 ct0), sl0⟩) (c0 : PySem.W.codeIn K cd0 "below" = true) (k0 : PySem.W.keepIn K (.ref f0) = true)
    {f1 : Addr} {od1 an1 : Option Addr} {sl1 : Array (Option Value)} {oc1 kV1 dc1 pm1 cd1 ct1 : Value}
    (a1 : PySem.W.nsIn K mainGlobals "worth" = some (some (.ref f1))) (l1 : K.lookup f1 = some ⟨oc1, od1, .func (PySem.W.fnOf "worth" "worth" (defArgs s_worth) (defBody s_worth) (defScope s_worth) .none kV1 dc1 pm1 an1 cd1 ct1), sl1⟩) (c1 : PySem.W.codeIn K cd1 "worth" = true) (k1 : PySem.W.keepIn K (.ref f1) = true)
    {f2 : Addr} {od2 an2 : Option Addr} {sl2 : Array (Option Value)} {oc2 kV2 dc2 pm2 cd2 ct2 : Value}
    (a2 : PySem.W.nsIn K mainGlobals "total" = some (some (.ref f2))) (l2 : K.lookup f2 = some ⟨oc2, od2, .func (PySem.W.fnOf "total" "total" (defArgs s_total) (defBody s_total) (defScope s_total) .none kV2 dc2 pm2 an2 cd2 ct2), sl2⟩) (c2 : PySem.W.codeIn K cd2 "total" = true) (k2 : PySem.W.keepIn K (.ref f2) = true)
    {f3 : Addr} {od3 an3 : Option Addr} {sl3 : Array (Option Value)} {oc3 kV3 dc3 pm3 cd3 ct3 : Value}
    (a3 : PySem.W.nsIn K mainGlobals "with_number" = some (some (.ref f3))) (l3 : K.lookup f3 = some ⟨oc3, od3, .func (PySem.W.fnOf "with_number" "with_number" (defArgs s_with_number) (defBody s_with_number) (defScope s_with_number) .none kV3 dc3 pm3 an3 cd3 ct3), sl3⟩) (c3 : PySem.W.codeIn K cd3 "with_number" = true) (k3 : PySem.W.keepIn K (.ref f3) = true)
    {f4 : Addr} {od4 an4 : Option Addr} {sl4 : Array (Option Value)} {oc4 kV4 dc4 pm4 cd4 ct4 : Value}
    (a4 : PySem.W.nsIn K mainGlobals "amount_at" = some (some (.ref f4))) (l4 : K.lookup f4 = some ⟨oc4, od4, .func (PySem.W.fnOf "amount_at" "amount_at" (defArgs s_amount_at) (defBody s_amount_at) (defScope s_amount_at) .none kV4 dc4 pm4 an4 cd4 ct4), sl4⟩) (c4 : PySem.W.codeIn K cd4 "amount_at" = true) (k4 : PySem.W.keepIn K (.ref f4) = true)
    {f5 : Addr} {od5 an5 : Option Addr} {sl5 : Array (Option Value)} {oc5 kV5 dc5 pm5 cd5 ct5 : Value}
    (a5 : PySem.W.nsIn K mainGlobals "amount_forms" = some (some (.ref f5))) (l5 : K.lookup f5 = some ⟨oc5, od5, .func (PySem.W.fnOf "amount_forms" "amount_forms" (defArgs s_amount_forms) (defBody s_amount_forms) (defScope s_amount_forms) .none kV5 dc5 pm5 an5 cd5 ct5), sl5⟩) (c5 : PySem.W.codeIn K cd5 "amount_forms" = true) (k5 : PySem.W.keepIn K (.ref f5) = true)
    {f6 : Addr} {od6 an6 : Option Addr} {sl6 : Array (Option Value)} {oc6 kV6 dc6 pm6 cd6 ct6 : Value}
    (a6 : PySem.W.nsIn K mainGlobals "holds" = some (some (.ref f6))) (l6 : K.lookup f6 = some ⟨oc6, od6, .func (PySem.W.fnOf "holds" "holds" (defArgs s_holds) (defBody s_holds) (defScope s_holds) .none kV6 dc6 pm6 an6 cd6 ct6), sl6⟩) (c6 : PySem.W.codeIn K cd6 "holds" = true) (k6 : PySem.W.keepIn K (.ref f6) = true)
    {f7 : Addr} {od7 an7 : Option Addr} {sl7 : Array (Option Value)} {oc7 kV7 dc7 pm7 cd7 ct7 : Value}
    (a7 : PySem.W.nsIn K mainGlobals "sum_forms" = some (some (.ref f7))) (l7 : K.lookup f7 = some ⟨oc7, od7, .func (PySem.W.fnOf "sum_forms" "sum_forms" (defArgs s_sum_forms) (defBody s_sum_forms) (defScope s_sum_forms) .none kV7 dc7 pm7 an7 cd7 ct7), sl7⟩) (c7 : PySem.W.codeIn K cd7 "sum_forms" = true) (k7 : PySem.W.keepIn K (.ref f7) = true)
    {f8 : Addr} {od8 an8 : Option Addr} {sl8 : Array (Option Value)} {oc8 kV8 dc8 pm8 cd8 ct8 : Value}
    (a8 : PySem.W.findIn K (.ref Z_Deed) "asks" = some (some (.ref f8))) (i8 : PySem.W.isFn K (.ref f8) = true) (l8 : K.lookup f8 = some ⟨oc8, od8, .func (PySem.W.fnOf "asks" "Deed.asks" (defArgs s_Deed_asks) (defBody s_Deed_asks) (defScope s_Deed_asks) .none kV8 dc8 pm8 an8 cd8 ct8), sl8⟩) (c8 : PySem.W.codeIn K cd8 "Deed.asks" = true) (k8 : PySem.W.keepIn K (.ref f8) = true)
    {f9 : Addr} {od9 an9 : Option Addr} {sl9 : Array (Option Value)} {oc9 kV9 dc9 pm9 cd9 ct9 : Value}
    (a9 : PySem.W.findIn K (.ref Z_Go) "done" = some (some (.ref f9))) (i9 : PySem.W.isFn K (.ref f9) = true) (l9 : K.lookup f9 = some ⟨oc9, od9, .func (PySem.W.fnOf "done" "Go.done" (defArgs s_Go_done) (defBody s_Go_done) (defScope s_Go_done) .none kV9 dc9 pm9 an9 cd9 ct9), sl9⟩) (c9 : PySem.W.codeIn K cd9 "Go.done" = true) (k9 : PySem.W.keepIn K (.ref f9) = true)
    {f10 : Addr} {od10 an10 : Option Addr} {sl10 : Array (Option Value)} {oc10 kV10 dc10 pm10 cd10 ct10 : Value}
    (a10 : PySem.W.findIn K (.ref Z_Keep) "__init__" = some (some (.ref f10))) (i10 : PySem.W.isFn K (.ref f10) = true) (l10 : K.lookup f10 = some ⟨oc10, od10, .func (PySem.W.fnOf "__init__" "Keep.__init__" (defArgs s_Keep_init) (defBody s_Keep_init) (defScope s_Keep_init) .none kV10 dc10 pm10 an10 cd10 ct10), sl10⟩) (c10 : PySem.W.codeIn K cd10 "Keep.__init__" = true) (k10 : PySem.W.keepIn K (.ref f10) = true)
    {f11 : Addr} {od11 an11 : Option Addr} {sl11 : Array (Option Value)} {oc11 kV11 dc11 pm11 cd11 ct11 : Value}
    (a11 : PySem.W.findIn K (.ref Z_Keep) "done" = some (some (.ref f11))) (i11 : PySem.W.isFn K (.ref f11) = true) (l11 : K.lookup f11 = some ⟨oc11, od11, .func (PySem.W.fnOf "done" "Keep.done" (defArgs s_Keep_done) (defBody s_Keep_done) (defScope s_Keep_done) .none kV11 dc11 pm11 an11 cd11 ct11), sl11⟩) (c11 : PySem.W.codeIn K cd11 "Keep.done" = true) (k11 : PySem.W.keepIn K (.ref f11) = true)
    {f12 : Addr} {od12 an12 : Option Addr} {sl12 : Array (Option Value)} {oc12 kV12 dc12 pm12 cd12 ct12 : Value}
    (a12 : PySem.W.findIn K (.ref Z_Put) "__init__" = some (some (.ref f12))) (i12 : PySem.W.isFn K (.ref f12) = true) (l12 : K.lookup f12 = some ⟨oc12, od12, .func (PySem.W.fnOf "__init__" "Put.__init__" (defArgs s_Put_init) (defBody s_Put_init) (defScope s_Put_init) .none kV12 dc12 pm12 an12 cd12 ct12), sl12⟩) (c12 : PySem.W.codeIn K cd12 "Put.__init__" = true) (k12 : PySem.W.keepIn K (.ref f12) = true)
    {f13 : Addr} {od13 an13 : Option Addr} {sl13 : Array (Option Value)} {oc13 kV13 dc13 pm13 cd13 ct13 : Value}
    (a13 : PySem.W.findIn K (.ref Z_Put) "done" = some (some (.ref f13))) (i13 : PySem.W.isFn K (.ref f13) = true) (l13 : K.lookup f13 = some ⟨oc13, od13, .func (PySem.W.fnOf "done" "Put.done" (defArgs s_Put_done) (defBody s_Put_done) (defScope s_Put_done) .none kV13 dc13 pm13 an13 cd13 ct13), sl13⟩) (c13 : PySem.W.codeIn K cd13 "Put.done" = true) (k13 : PySem.W.keepIn K (.ref f13) = true)
    {f14 : Addr} {od14 an14 : Option Addr} {sl14 : Array (Option Value)} {oc14 kV14 dc14 pm14 cd14 ct14 : Value}
    (a14 : PySem.W.findIn K (.ref Z_Ask) "__init__" = some (some (.ref f14))) (i14 : PySem.W.isFn K (.ref f14) = true) (l14 : K.lookup f14 = some ⟨oc14, od14, .func (PySem.W.fnOf "__init__" "Ask.__init__" (defArgs s_Ask_init) (defBody s_Ask_init) (defScope s_Ask_init) .none kV14 dc14 pm14 an14 cd14 ct14), sl14⟩) (c14 : PySem.W.codeIn K cd14 "Ask.__init__" = true) (k14 : PySem.W.keepIn K (.ref f14) = true)
    {f15 : Addr} {od15 an15 : Option Addr} {sl15 : Array (Option Value)} {oc15 kV15 dc15 pm15 cd15 ct15 : Value}
    (a15 : PySem.W.findIn K (.ref Z_Ask) "asks" = some (some (.ref f15))) (i15 : PySem.W.isFn K (.ref f15) = true) (l15 : K.lookup f15 = some ⟨oc15, od15, .func (PySem.W.fnOf "asks" "Ask.asks" (defArgs s_Ask_asks) (defBody s_Ask_asks) (defScope s_Ask_asks) .none kV15 dc15 pm15 an15 cd15 ct15), sl15⟩) (c15 : PySem.W.codeIn K cd15 "Ask.asks" = true) (k15 : PySem.W.keepIn K (.ref f15) = true)
    {f16 : Addr} {od16 an16 : Option Addr} {sl16 : Array (Option Value)} {oc16 kV16 dc16 pm16 cd16 ct16 : Value}
    (a16 : PySem.W.findIn K (.ref Z_Ask) "done" = some (some (.ref f16))) (i16 : PySem.W.isFn K (.ref f16) = true) (l16 : K.lookup f16 = some ⟨oc16, od16, .func (PySem.W.fnOf "done" "Ask.done" (defArgs s_Ask_done) (defBody s_Ask_done) (defScope s_Ask_done) .none kV16 dc16 pm16 an16 cd16 ct16), sl16⟩) (c16 : PySem.W.codeIn K cd16 "Ask.done" = true) (k16 : PySem.W.keepIn K (.ref f16) = true)
    {f17 : Addr} {od17 an17 : Option Addr} {sl17 : Array (Option Value)} {oc17 kV17 dc17 pm17 cd17 ct17 : Value}
    (a17 : PySem.W.findIn K (.ref Z_Ask) "between_ends" = some (some (.ref f17))) (i17 : PySem.W.isFn K (.ref f17) = true) (l17 : K.lookup f17 = some ⟨oc17, od17, .func (PySem.W.fnOf "between_ends" "Ask.between_ends" (defArgs s_Ask_between_ends) (defBody s_Ask_between_ends) (defScope s_Ask_between_ends) .none kV17 dc17 pm17 an17 cd17 ct17), sl17⟩) (c17 : PySem.W.codeIn K cd17 "Ask.between_ends" = true) (k17 : PySem.W.keepIn K (.ref f17) = true)
    {f18 : Addr} {od18 an18 : Option Addr} {sl18 : Array (Option Value)} {oc18 kV18 dc18 pm18 cd18 ct18 : Value}
    (a18 : PySem.W.nsIn K mainGlobals "_law_cell" = some (some (.ref f18))) (l18 : K.lookup f18 = some ⟨oc18, od18, .func (PySem.W.fnOf "_law_cell" "_law_cell" (defArgs s__law_cell) (defBody s__law_cell) (defScope s__law_cell) .none kV18 dc18 pm18 an18 cd18 ct18), sl18⟩) (c18 : PySem.W.codeIn K cd18 "_law_cell" = true) (k18 : PySem.W.keepIn K (.ref f18) = true)
    {f19 : Addr} {od19 an19 : Option Addr} {sl19 : Array (Option Value)} {oc19 kV19 dc19 pm19 cd19 ct19 : Value}
    (a19 : PySem.W.nsIn K mainGlobals "_law_whole" = some (some (.ref f19))) (l19 : K.lookup f19 = some ⟨oc19, od19, .func (PySem.W.fnOf "_law_whole" "_law_whole" (defArgs s__law_whole) (defBody s__law_whole) (defScope s__law_whole) .none kV19 dc19 pm19 an19 cd19 ct19), sl19⟩) (c19 : PySem.W.codeIn K cd19 "_law_whole" = true) (k19 : PySem.W.keepIn K (.ref f19) = true)
    {f20 : Addr} {od20 an20 : Option Addr} {sl20 : Array (Option Value)} {oc20 kV20 dc20 pm20 cd20 ct20 : Value}
    (a20 : PySem.W.nsIn K mainGlobals "_law_big" = some (some (.ref f20))) (l20 : K.lookup f20 = some ⟨oc20, od20, .func (PySem.W.fnOf "_law_big" "_law_big" (defArgs s__law_big) (defBody s__law_big) (defScope s__law_big) .none kV20 dc20 pm20 an20 cd20 ct20), sl20⟩) (c20 : PySem.W.codeIn K cd20 "_law_big" = true) (k20 : PySem.W.keepIn K (.ref f20) = true)
    {f21 : Addr} {od21 an21 : Option Addr} {sl21 : Array (Option Value)} {oc21 kV21 dc21 pm21 cd21 ct21 : Value}
    (a21 : PySem.W.nsIn K mainGlobals "_law_point" = some (some (.ref f21))) (l21 : K.lookup f21 = some ⟨oc21, od21, .func (PySem.W.fnOf "_law_point" "_law_point" (defArgs s__law_point) (defBody s__law_point) (defScope s__law_point) .none kV21 dc21 pm21 an21 cd21 ct21), sl21⟩) (c21 : PySem.W.codeIn K cd21 "_law_point" = true) (k21 : PySem.W.keepIn K (.ref f21) = true)
    {f22 : Addr} {od22 an22 : Option Addr} {sl22 : Array (Option Value)} {oc22 kV22 dc22 pm22 cd22 ct22 : Value}
    (a22 : PySem.W.nsIn K mainGlobals "_law_worth" = some (some (.ref f22))) (l22 : K.lookup f22 = some ⟨oc22, od22, .func (PySem.W.fnOf "_law_worth" "_law_worth" (defArgs s__law_worth) (defBody s__law_worth) (defScope s__law_worth) .none kV22 dc22 pm22 an22 cd22 ct22), sl22⟩) (c22 : PySem.W.codeIn K cd22 "_law_worth" = true) (k22 : PySem.W.keepIn K (.ref f22) = true)
    {f23 : Addr} {od23 an23 : Option Addr} {sl23 : Array (Option Value)} {oc23 kV23 dc23 pm23 cd23 ct23 : Value}
    (a23 : PySem.W.nsIn K mainGlobals "_law_sum" = some (some (.ref f23))) (l23 : K.lookup f23 = some ⟨oc23, od23, .func (PySem.W.fnOf "_law_sum" "_law_sum" (defArgs s__law_sum) (defBody s__law_sum) (defScope s__law_sum) .none kV23 dc23 pm23 an23 cd23 ct23), sl23⟩) (c23 : PySem.W.codeIn K cd23 "_law_sum" = true) (k23 : PySem.W.keepIn K (.ref f23) = true)
    {f24 : Addr} {od24 an24 : Option Addr} {sl24 : Array (Option Value)} {oc24 kV24 dc24 pm24 cd24 ct24 : Value}
    (a24 : PySem.W.nsIn K mainGlobals "_law_point_like" = some (some (.ref f24))) (l24 : K.lookup f24 = some ⟨oc24, od24, .func (PySem.W.fnOf "_law_point_like" "_law_point_like" (defArgs s__law_point_like) (defBody s__law_point_like) (defScope s__law_point_like) .none kV24 dc24 pm24 an24 cd24 ct24), sl24⟩) (c24 : PySem.W.codeIn K cd24 "_law_point_like" = true) (k24 : PySem.W.keepIn K (.ref f24) = true)
    {f25 : Addr} {od25 an25 : Option Addr} {sl25 : Array (Option Value)} {oc25 kV25 dc25 pm25 cd25 ct25 : Value}
    (a25 : PySem.W.nsIn K mainGlobals "_law_holds" = some (some (.ref f25))) (l25 : K.lookup f25 = some ⟨oc25, od25, .func (PySem.W.fnOf "_law_holds" "_law_holds" (defArgs s__law_holds) (defBody s__law_holds) (defScope s__law_holds) .none kV25 dc25 pm25 an25 cd25 ct25), sl25⟩) (c25 : PySem.W.codeIn K cd25 "_law_holds" = true) (k25 : PySem.W.keepIn K (.ref f25) = true)
    {f26 : Addr} {od26 an26 : Option Addr} {sl26 : Array (Option Value)} {oc26 kV26 dc26 pm26 cd26 ct26 : Value}
    (a26 : PySem.W.nsIn K mainGlobals "_law_question" = some (some (.ref f26))) (l26 : K.lookup f26 = some ⟨oc26, od26, .func (PySem.W.fnOf "_law_question" "_law_question" (defArgs s__law_question) (defBody s__law_question) (defScope s__law_question) .none kV26 dc26 pm26 an26 cd26 ct26), sl26⟩) (c26 : PySem.W.codeIn K cd26 "_law_question" = true) (k26 : PySem.W.keepIn K (.ref f26) = true)
    {f27 : Addr} {od27 an27 : Option Addr} {sl27 : Array (Option Value)} {oc27 kV27 dc27 pm27 cd27 ct27 : Value}
    (a27 : PySem.W.nsIn K mainGlobals "_law_change" = some (some (.ref f27))) (l27 : K.lookup f27 = some ⟨oc27, od27, .func (PySem.W.fnOf "_law_change" "_law_change" (defArgs s__law_change) (defBody s__law_change) (defScope s__law_change) .none kV27 dc27 pm27 an27 cd27 ct27), sl27⟩) (c27 : PySem.W.codeIn K cd27 "_law_change" = true) (k27 : PySem.W.keepIn K (.ref f27) = true)
    {f28 : Addr} {od28 an28 : Option Addr} {sl28 : Array (Option Value)} {oc28 kV28 dc28 pm28 cd28 ct28 : Value}
    (a28 : PySem.W.nsIn K mainGlobals "_law_ask" = some (some (.ref f28))) (l28 : K.lookup f28 = some ⟨oc28, od28, .func (PySem.W.fnOf "_law_ask" "_law_ask" (defArgs s__law_ask) (defBody s__law_ask) (defScope s__law_ask) .none kV28 dc28 pm28 an28 cd28 ct28), sl28⟩) (c28 : PySem.W.codeIn K cd28 "_law_ask" = true) (k28 : PySem.W.keepIn K (.ref f28) = true)
    {f29 : Addr} {od29 an29 : Option Addr} {sl29 : Array (Option Value)} {oc29 kV29 dc29 pm29 cd29 ct29 : Value}
    (a29 : PySem.W.nsIn K mainGlobals "_law_deed" = some (some (.ref f29))) (l29 : K.lookup f29 = some ⟨oc29, od29, .func (PySem.W.fnOf "_law_deed" "_law_deed" (defArgs s__law_deed) (defBody s__law_deed) (defScope s__law_deed) .none kV29 dc29 pm29 an29 cd29 ct29), sl29⟩) (c29 : PySem.W.codeIn K cd29 "_law_deed" = true) (k29 : PySem.W.keepIn K (.ref f29) = true)
    {f30 : Addr} {od30 an30 : Option Addr} {sl30 : Array (Option Value)} {oc30 kV30 dc30 pm30 cd30 ct30 : Value}
    (a30 : PySem.W.nsIn K mainGlobals "_law_made" = some (some (.ref f30))) (l30 : K.lookup f30 = some ⟨oc30, od30, .func (PySem.W.fnOf "_law_made" "_law_made" (defArgs s__law_made) (defBody s__law_made) (defScope s__law_made) .none kV30 dc30 pm30 an30 cd30 ct30), sl30⟩) (c30 : PySem.W.codeIn K cd30 "_law_made" = true) (k30 : PySem.W.keepIn K (.ref f30) = true)
    {f31 : Addr} {od31 an31 : Option Addr} {sl31 : Array (Option Value)} {oc31 kV31 dc31 pm31 cd31 ct31 : Value}
    (a31 : PySem.W.nsIn K mainGlobals "_law_step" = some (some (.ref f31))) (l31 : K.lookup f31 = some ⟨oc31, od31, .func (PySem.W.fnOf "_law_step" "_law_step" (defArgs s__law_step) (defBody s__law_step) (defScope s__law_step) .none kV31 dc31 pm31 an31 cd31 ct31), sl31⟩) (c31 : PySem.W.codeIn K cd31 "_law_step" = true) (k31 : PySem.W.keepIn K (.ref f31) = true)
    {f32 : Addr} {od32 an32 : Option Addr} {sl32 : Array (Option Value)} {oc32 kV32 dc32 pm32 cd32 ct32 : Value}
    (a32 : PySem.W.nsIn K mainGlobals "_law_alike" = some (some (.ref f32))) (l32 : K.lookup f32 = some ⟨oc32, od32, .func (PySem.W.fnOf "_law_alike" "_law_alike" (defArgs s__law_alike) (defBody s__law_alike) (defScope s__law_alike) .none kV32 dc32 pm32 an32 cd32 ct32), sl32⟩) (c32 : PySem.W.codeIn K cd32 "_law_alike" = true) (k32 : PySem.W.keepIn K (.ref f32) = true)
    {f33 : Addr} {od33 an33 : Option Addr} {sl33 : Array (Option Value)} {oc33 kV33 dc33 pm33 cd33 ct33 : Value}
    (a33 : PySem.W.nsIn K mainGlobals "_law_drawn" = some (some (.ref f33))) (l33 : K.lookup f33 = some ⟨oc33, od33, .func (PySem.W.fnOf "_law_drawn" "_law_drawn" (defArgs s__law_drawn) (defBody s__law_drawn) (defScope s__law_drawn) .none kV33 dc33 pm33 an33 cd33 ct33), sl33⟩) (c33 : PySem.W.codeIn K cd33 "_law_drawn" = true) (k33 : PySem.W.keepIn K (.ref f33) = true)
    {f34 : Addr} {od34 an34 : Option Addr} {sl34 : Array (Option Value)} {oc34 kV34 dc34 pm34 cd34 ct34 : Value}
    (a34 : PySem.W.nsIn K mainGlobals "law" = some (some (.ref f34))) (l34 : K.lookup f34 = some ⟨oc34, od34, .func (PySem.W.fnOf "law" "law" (defArgs s_law) (defBody s_law) (defScope s_law) .none kV34 dc34 pm34 an34 cd34 ct34), sl34⟩) (c34 : PySem.W.codeIn K cd34 "law" = true) (k34 : PySem.W.keepIn K (.ref f34) = true)
    (pg_Go : PySem.W.plainGet K Z_Go Str.empty = true)
    (hd_Go : PySem.W.hasDictIn K Z_Go = true)
    (po_Go : PySem.W.plainOver K Z_Go = true)
    (sa_Go : PySem.W.findIn K (.ref Z_Go) "__setattr__" = some (some (.builtin "object.__setattr__")))
    (mk_Go : PySem.W.makesIn K Z_Go = true)
    (kc_Go : PySem.W.keepIn K (.ref Z_Go) = true)
    (pg_Keep : PySem.W.plainGet K Z_Keep Str.empty = true)
    (hd_Keep : PySem.W.hasDictIn K Z_Keep = true)
    (po_Keep : PySem.W.plainOver K Z_Keep = true)
    (sa_Keep : PySem.W.findIn K (.ref Z_Keep) "__setattr__" = some (some (.builtin "object.__setattr__")))
    (mk_Keep : PySem.W.makesIn K Z_Keep = true)
    (kc_Keep : PySem.W.keepIn K (.ref Z_Keep) = true)
    (pg_Put : PySem.W.plainGet K Z_Put Str.empty = true)
    (hd_Put : PySem.W.hasDictIn K Z_Put = true)
    (po_Put : PySem.W.plainOver K Z_Put = true)
    (sa_Put : PySem.W.findIn K (.ref Z_Put) "__setattr__" = some (some (.builtin "object.__setattr__")))
    (mk_Put : PySem.W.makesIn K Z_Put = true)
    (kc_Put : PySem.W.keepIn K (.ref Z_Put) = true)
    (pg_Ask : PySem.W.plainGet K Z_Ask Str.empty = true)
    (hd_Ask : PySem.W.hasDictIn K Z_Ask = true)
    (po_Ask : PySem.W.plainOver K Z_Ask = true)
    (sa_Ask : PySem.W.findIn K (.ref Z_Ask) "__setattr__" = some (some (.builtin "object.__setattr__")))
    (mk_Ask : PySem.W.makesIn K Z_Ask = true)
    (kc_Ask : PySem.W.keepIn K (.ref Z_Ask) = true)
    (io_Go : PySem.W.findIn K (.ref Z_Go) "__init__" = some (some (.builtin "object.__init__")))
    (as_Go : PySem.W.findIn K (.ref Z_Go) "asks" = some (some (.ref f8)))
    (as_Keep : PySem.W.findIn K (.ref Z_Keep) "asks" = some (some (.ref f8)))
    (as_Put : PySem.W.findIn K (.ref Z_Put) "asks" = some (some (.ref f8)))
    (nf_Keep_question : PySem.W.findIn K (.ref Z_Keep) "question" = some none)
    (nf_Put_k : PySem.W.findIn K (.ref Z_Put) "k" = some none)
    (nf_Put_amount : PySem.W.findIn K (.ref Z_Put) "amount" = some none)
    (nf_Ask_k : PySem.W.findIn K (.ref Z_Ask) "k" = some none)
    (nf_Ask_low : PySem.W.findIn K (.ref Z_Ask) "low" = some none)
    (nf_Ask_high : PySem.W.findIn K (.ref Z_Ask) "high" = some none)
    (z_len : PySem.W.nsIn K mainGlobals "len" = some none)
    (z_isinstance : PySem.W.nsIn K mainGlobals "isinstance" = some none)
    (z_int : PySem.W.nsIn K mainGlobals "int" = some none)
    (z_bool : PySem.W.nsIn K mainGlobals "bool" = some none)
    (z_tuple : PySem.W.nsIn K mainGlobals "tuple" = some none)
    (z_range : PySem.W.nsIn K mainGlobals "range" = some none)
    (z_list : PySem.W.nsIn K mainGlobals "list" = some none)
    (z_sum : PySem.W.nsIn K mainGlobals "sum" = some none)
    (z_str : PySem.W.nsIn K mainGlobals "str" = some none)
    (z_enumerate : PySem.W.nsIn K mainGlobals "enumerate" = some none)
    (z_zip : PySem.W.nsIn K mainGlobals "zip" = some none)
    (z_min : PySem.W.nsIn K mainGlobals "min" = some none)
    (z_max : PySem.W.nsIn K mainGlobals "max" = some none)
    : ∃ fd : FuncData, (∀ (s : Shared) (v : Value), BindsTo s fd ⟨[v], []⟩ [("_law_script", v)]) ∧ ∀ base : Heap, K.In base → base.Ns mainGlobals mg → FnOk l.prog w K mg base CX0 6 fa fd ["_law_script"] (sp_law K) := by
  have e := hfa.symm.trans (PySem.W.mg_of X G a34)
  cases e
  have B : Bl mg := ⟨PySem.W.mg_none_of X G z_len, PySem.W.mg_none_of X G z_isinstance, PySem.W.mg_none_of X G z_int, PySem.W.mg_none_of X G z_bool, PySem.W.mg_none_of X G z_tuple, PySem.W.mg_none_of X G z_range, PySem.W.mg_none_of X G z_list, PySem.W.mg_none_of X G z_sum, PySem.W.mg_none_of X G z_str, PySem.W.mg_none_of X G z_enumerate, PySem.W.mg_none_of X G z_zip, PySem.W.mg_none_of X G z_min, PySem.W.mg_none_of X G z_max⟩
  have T := (⟨⟨pg_Go, hd_Go, po_Go, sa_Go⟩, ⟨pg_Keep, hd_Keep, po_Keep, sa_Keep⟩, ⟨pg_Put, hd_Put, po_Put, sa_Put⟩, ⟨pg_Ask, hd_Ask, po_Ask, sa_Ask⟩, ⟨a9, i9, k9⟩, ⟨a11, i11, k11⟩, ⟨a13, i13, k13⟩, ⟨a16, i16, k16⟩, ⟨as_Go, i8, k8⟩, ⟨as_Keep, i8, k8⟩, ⟨as_Put, i8, k8⟩, ⟨a15, i15, k15⟩, ⟨a17, i17, k17⟩, ⟨mk_Go, io_Go, kc_Go⟩, ⟨mk_Keep, a10, i10, kc_Keep⟩, ⟨mk_Put, a12, i12, kc_Put⟩, ⟨mk_Ask, a14, i14, kc_Ask⟩, PySem.W.mg_of X G a_Go, PySem.W.mg_of X G a_Keep, PySem.W.mg_of X G a_Put, PySem.W.mg_of X G a_Ask, nf_Keep_question, nf_Put_k, nf_Put_amount, nf_Ask_k, nf_Ask_low, nf_Ask_high⟩ : Kl K mg Z_Go Z_Keep Z_Put Z_Ask f8 f9 f10 f11 f12 f13 f14 f15 f16 f17)
  refine ⟨PySem.W.fnOf "law" "law" (defArgs s_law) (defBody s_law) (defScope s_law) .none kV34 dc34 pm34 an34 cd34 ct34, fun s v => .of_eq rfl, fun base _ _ => ?_⟩
  have E_below := ok_below (P := l.prog) (w := w) (base := base) (fun_mk (st := s_below) l0 c0 k0) (PySem.W.mg_of X G a0) B T 
  have E_worth := ok_worth (P := l.prog) (w := w) (base := base) (fun_mk (st := s_worth) l1 c1 k1) (PySem.W.mg_of X G a1) B T 
  have E_with_number := ok_with_number (P := l.prog) (w := w) (base := base) (fun_mk (st := s_with_number) l3 c3 k3) (PySem.W.mg_of X G a3) B T 
  have E_amount_forms := ok_amount_forms (P := l.prog) (w := w) (base := base) (fun_mk (st := s_amount_forms) l5 c5 k5) (PySem.W.mg_of X G a5) B T 
  have E_sum_forms := ok_sum_forms (P := l.prog) (w := w) (base := base) (fun_mk (st := s_sum_forms) l7 c7 k7) (PySem.W.mg_of X G a7) B T 
  have E_Deed_asks := ok_Deed_asks (P := l.prog) (w := w) (base := base) (fun_mk (st := s_Deed_asks) l8 c8 k8) B T 
  have E_Go_done := ok_Go_done (P := l.prog) (w := w) (base := base) (fun_mk (st := s_Go_done) l9 c9 k9) B T 
  have E_Keep_init := ok_Keep_init (P := l.prog) (w := w) (base := base) (fun_mk (st := s_Keep_init) l10 c10 k10) B T 
  have E_Put_init := ok_Put_init (P := l.prog) (w := w) (base := base) (fun_mk (st := s_Put_init) l12 c12 k12) B T 
  have E_Ask_init := ok_Ask_init (P := l.prog) (w := w) (base := base) (fun_mk (st := s_Ask_init) l14 c14 k14) B T 
  have E_Ask_asks := ok_Ask_asks (P := l.prog) (w := w) (base := base) (fun_mk (st := s_Ask_asks) l15 c15 k15) B T 
  have E__law_cell := ok__law_cell (P := l.prog) (w := w) (base := base) (fun_mk (st := s__law_cell) l18 c18 k18) (PySem.W.mg_of X G a18) B T 
  have E__law_whole := ok__law_whole (P := l.prog) (w := w) (base := base) (fun_mk (st := s__law_whole) l19 c19 k19) (PySem.W.mg_of X G a19) B T 
  have E__law_big := ok__law_big (P := l.prog) (w := w) (base := base) (fun_mk (st := s__law_big) l20 c20 k20) (PySem.W.mg_of X G a20) B T 
  have E__law_worth := ok__law_worth (P := l.prog) (w := w) (base := base) (fun_mk (st := s__law_worth) l22 c22 k22) (PySem.W.mg_of X G a22) B T 
  have E__law_change := ok__law_change (P := l.prog) (w := w) (base := base) (fun_mk (st := s__law_change) l27 c27 k27) (PySem.W.mg_of X G a27) B T 
  have E_total := ok_total (P := l.prog) (w := w) (base := base) (fun_mk (st := s_total) l2 c2 k2) (PySem.W.mg_of X G a2) B T E_worth
  have E_Ask_between_ends := ok_Ask_between_ends (P := l.prog) (w := w) (base := base) (fun_mk (st := s_Ask_between_ends) l17 c17 k17) B T E_below
  have E__law_point := ok__law_point (P := l.prog) (w := w) (base := base) (fun_mk (st := s__law_point) l21 c21 k21) (PySem.W.mg_of X G a21) B T E__law_big E__law_cell
  have E__law_sum := ok__law_sum (P := l.prog) (w := w) (base := base) (fun_mk (st := s__law_sum) l23 c23 k23) (PySem.W.mg_of X G a23) B T E__law_worth
  have E__law_point_like := ok__law_point_like (P := l.prog) (w := w) (base := base) (fun_mk (st := s__law_point_like) l24 c24 k24) (PySem.W.mg_of X G a24) B T E__law_whole
  have E__law_holds := ok__law_holds (P := l.prog) (w := w) (base := base) (fun_mk (st := s__law_holds) l25 c25 k25) (PySem.W.mg_of X G a25) B T E__law_worth
  have E__law_ask := ok__law_ask (P := l.prog) (w := w) (base := base) (fun_mk (st := s__law_ask) l28 c28 k28) (PySem.W.mg_of X G a28) B T E__law_big
  have E_amount_at := ok_amount_at (P := l.prog) (w := w) (base := base) (fun_mk (st := s_amount_at) l4 c4 k4) (PySem.W.mg_of X G a4) B T E_total E_amount_forms
  have E_holds := ok_holds (P := l.prog) (w := w) (base := base) (fun_mk (st := s_holds) l6 c6 k6) (PySem.W.mg_of X G a6) B T E_total E_sum_forms
  have E_Ask_done := ok_Ask_done (P := l.prog) (w := w) (base := base) (fun_mk (st := s_Ask_done) l16 c16 k16) B T E_with_number E_Ask_between_ends
  have E__law_question := ok__law_question (P := l.prog) (w := w) (base := base) (fun_mk (st := s__law_question) l26 c26 k26) (PySem.W.mg_of X G a26) B T E__law_big E__law_sum E__law_worth
  have E__law_made := ok__law_made (P := l.prog) (w := w) (base := base) (fun_mk (st := s__law_made) l30 c30 k30) (PySem.W.mg_of X G a30) B T E_Keep_init E_Put_init E_Ask_init
  have E__law_step := ok__law_step (P := l.prog) (w := w) (base := base) (fun_mk (st := s__law_step) l31 c31 k31) (PySem.W.mg_of X G a31) B T E__law_holds E__law_sum
  have E__law_alike := ok__law_alike (P := l.prog) (w := w) (base := base) (fun_mk (st := s__law_alike) l32 c32 k32) (PySem.W.mg_of X G a32) B T E__law_point_like
  have E_Keep_done := ok_Keep_done (P := l.prog) (w := w) (base := base) (fun_mk (st := s_Keep_done) l11 c11 k11) B T E_holds
  have E_Put_done := ok_Put_done (P := l.prog) (w := w) (base := base) (fun_mk (st := s_Put_done) l13 c13 k13) B T E_with_number E_amount_at
  have E__law_deed := ok__law_deed (P := l.prog) (w := w) (base := base) (fun_mk (st := s__law_deed) l29 c29 k29) (PySem.W.mg_of X G a29) B T E__law_ask E__law_question E__law_change E__law_big
  have E__law_drawn := ok__law_drawn (P := l.prog) (w := w) (base := base) (fun_mk (st := s__law_drawn) l33 c33 k33) (PySem.W.mg_of X G a33) B T E__law_cell E__law_deed
  exact ok_law_fn (P := l.prog) (w := w) (base := base) (fun_mk (st := s_law) l34 c34 k34) (PySem.W.mg_of X G a34) B T E__law_point E__law_drawn E__law_made E__law_big E__law_cell E__law_alike E_Go_done E_Keep_done E_Put_done E_Ask_done E__law_step E_Deed_asks E_Ask_asks
theorem walk {l : PySem.W.OpenLaw} {q : Program} {loose : List Str} {XP : (Str → Option Value) → Heap → Prop} {YP : World → Heap → Prop} {d : DefRec} {K : Params → PySem.W.Frag} (hn : l.most = some 63) (hdf : d.params.defaults = [])
    (hY : ∀ (w : World) (h : Heap), YP w h → (K w.params).In h)
    (F : ∀ (w : World) (mg : Str → Option Value) (fa : Addr) (h : Heap), (K w.params).In h → h.Ns mainGlobals mg → mg d.name = some (.ref fa) →
      ∃ fd : FuncData, (∀ (s : Shared) (u : Value), BindsTo s fd ⟨[u], []⟩ [("_law_script", u)]) ∧ ∀ base : Heap, (K w.params).In base → base.Ns mainGlobals mg → FnOk l.prog w (K w.params) mg base CX0 6 fa fd ["_law_script"] (sp_law (K w.params))) :
    PySem.W.WalkO q loose XP YP l.row.toRowW d [] (fun f vs => PySem.call f vs) :=
  L2.walk_of (n := 63) (k := 6) (x := "_law_script") (CX := fun _ => CX0) (sp := fun w => sp_law (K w.params)) hn (by decide) hdf ⟨rfl, by decide, by decide⟩ hY F (fun _ _ a ns hl _ hS => ⟨a, ns, rfl, hS, hl, fun _ => rfl⟩) fun _ _ _ _ _ z => z
end T
open PySem PySem.W PyProof.Rows
set_option maxRecDepth 100000 in
set_option maxHeartbeats 0 in
theorem PySem.Challenge.cw_eightsides_k25_deeds_done_holds : PySem.Challenge.rw_eightsides_k25_deeds_done.Holds := by
  w_on; o_law; k_head; (case hw => w_witness2)
  k_fill
  refine T.walk (l := PySem.Challenge.rw_eightsides_k25_deeds_done) rfl rfl (fun w h Y => PySem.W.kIn_of Y) ?F
  case F =>
    intro w mg fa h KX G hmg
    refine' T.all_mk KX G hmg ?a_Deed ?a_Go ?a_Keep ?a_Put ?a_Ask ?a0 ?l0 ?c0 ?k0 ?a1 ?l1 ?c1 ?k1 ?a2 ?l2 ?c2 ?k2 ?a3 ?l3 ?c3 ?k3 ?a4 ?l4 ?c4 ?k4 ?a5 ?l5 ?c5 ?k5 ?a6 ?l6 ?c6 ?k6 ?a7 ?l7 ?c7 ?k7 ?a8 ?i8 ?l8 ?c8 ?k8 ?a9 ?i9 ?l9 ?c9 ?k9 ?a10 ?i10 ?l10 ?c10 ?k10 ?a11 ?i11 ?l11 ?c11 ?k11 ?a12 ?i12 ?l12 ?c12 ?k12 ?a13 ?i13 ?l13 ?c13 ?k13 ?a14 ?i14 ?l14 ?c14 ?k14 ?a15 ?i15 ?l15 ?c15 ?k15 ?a16 ?i16 ?l16 ?c16 ?k16 ?a17 ?i17 ?l17 ?c17 ?k17 ?a18 ?l18 ?c18 ?k18 ?a19 ?l19 ?c19 ?k19 ?a20 ?l20 ?c20 ?k20 ?a21 ?l21 ?c21 ?k21 ?a22 ?l22 ?c22 ?k22 ?a23 ?l23 ?c23 ?k23 ?a24 ?l24 ?c24 ?k24 ?a25 ?l25 ?c25 ?k25 ?a26 ?l26 ?c26 ?k26 ?a27 ?l27 ?c27 ?k27 ?a28 ?l28 ?c28 ?k28 ?a29 ?l29 ?c29 ?k29 ?a30 ?l30 ?c30 ?k30 ?a31 ?l31 ?c31 ?k31 ?a32 ?l32 ?c32 ?k32 ?a33 ?l33 ?c33 ?k33 ?a34 ?l34 ?c34 ?k34 ?pg_Go ?hd_Go ?po_Go ?sa_Go ?mk_Go ?kc_Go ?pg_Keep ?hd_Keep ?po_Keep ?sa_Keep ?mk_Keep ?kc_Keep ?pg_Put ?hd_Put ?po_Put ?sa_Put ?mk_Put ?kc_Put ?pg_Ask ?hd_Ask ?po_Ask ?sa_Ask ?mk_Ask ?kc_Ask ?io_Go ?as_Go ?as_Keep ?as_Put ?nf_Keep_question ?nf_Put_k ?nf_Put_amount ?nf_Ask_k ?nf_Ask_low ?nf_Ask_high ?z_len ?z_isinstance ?z_int ?z_bool ?z_tuple ?z_range ?z_list ?z_sum ?z_str ?z_enumerate ?z_zip ?z_min ?z_max
    (case a_Deed => k_is)
    (case a_Go => k_is)
    (case a_Keep => k_is)
    (case a_Put => k_is)
    (case a_Ask => k_is)
    (case a0 => k_is); (case l0 => k_is); (case c0 => k_is); (case k0 => k_is)
    (case a1 => k_is); (case l1 => k_is); (case c1 => k_is); (case k1 => k_is)
    (case a2 => k_is); (case l2 => k_is); (case c2 => k_is); (case k2 => k_is)
    (case a3 => k_is); (case l3 => k_is); (case c3 => k_is); (case k3 => k_is)
    (case a4 => k_is); (case l4 => k_is); (case c4 => k_is); (case k4 => k_is)
    (case a5 => k_is); (case l5 => k_is); (case c5 => k_is); (case k5 => k_is)
    (case a6 => k_is); (case l6 => k_is); (case c6 => k_is); (case k6 => k_is)
    (case a7 => k_is); (case l7 => k_is); (case c7 => k_is); (case k7 => k_is)
    (case a8 => k_is); (case i8 => k_is); (case l8 => k_is); (case c8 => k_is); (case k8 => k_is)
    (case a9 => k_is); (case i9 => k_is); (case l9 => k_is); (case c9 => k_is); (case k9 => k_is)
    (case a10 => k_is); (case i10 => k_is); (case l10 => k_is); (case c10 => k_is); (case k10 => k_is)
    (case a11 => k_is); (case i11 => k_is); (case l11 => k_is); (case c11 => k_is); (case k11 => k_is)
    (case a12 => k_is); (case i12 => k_is); (case l12 => k_is); (case c12 => k_is); (case k12 => k_is)
    (case a13 => k_is); (case i13 => k_is); (case l13 => k_is); (case c13 => k_is); (case k13 => k_is)
    (case a14 => k_is); (case i14 => k_is); (case l14 => k_is); (case c14 => k_is); (case k14 => k_is)
    (case a15 => k_is); (case i15 => k_is); (case l15 => k_is); (case c15 => k_is); (case k15 => k_is)
    (case a16 => k_is); (case i16 => k_is); (case l16 => k_is); (case c16 => k_is); (case k16 => k_is)
    (case a17 => k_is); (case i17 => k_is); (case l17 => k_is); (case c17 => k_is); (case k17 => k_is)
    (case a18 => k_is); (case l18 => k_is); (case c18 => k_is); (case k18 => k_is)
    (case a19 => k_is); (case l19 => k_is); (case c19 => k_is); (case k19 => k_is)
    (case a20 => k_is); (case l20 => k_is); (case c20 => k_is); (case k20 => k_is)
    (case a21 => k_is); (case l21 => k_is); (case c21 => k_is); (case k21 => k_is)
    (case a22 => k_is); (case l22 => k_is); (case c22 => k_is); (case k22 => k_is)
    (case a23 => k_is); (case l23 => k_is); (case c23 => k_is); (case k23 => k_is)
    (case a24 => k_is); (case l24 => k_is); (case c24 => k_is); (case k24 => k_is)
    (case a25 => k_is); (case l25 => k_is); (case c25 => k_is); (case k25 => k_is)
    (case a26 => k_is); (case l26 => k_is); (case c26 => k_is); (case k26 => k_is)
    (case a27 => k_is); (case l27 => k_is); (case c27 => k_is); (case k27 => k_is)
    (case a28 => k_is); (case l28 => k_is); (case c28 => k_is); (case k28 => k_is)
    (case a29 => k_is); (case l29 => k_is); (case c29 => k_is); (case k29 => k_is)
    (case a30 => k_is); (case l30 => k_is); (case c30 => k_is); (case k30 => k_is)
    (case a31 => k_is); (case l31 => k_is); (case c31 => k_is); (case k31 => k_is)
    (case a32 => k_is); (case l32 => k_is); (case c32 => k_is); (case k32 => k_is)
    (case a33 => k_is); (case l33 => k_is); (case c33 => k_is); (case k33 => k_is)
    (case a34 => k_is); (case l34 => k_is); (case c34 => k_is); (case k34 => k_is)
    (case pg_Go => k_is)
    (case hd_Go => k_is)
    (case po_Go => k_is)
    (case sa_Go => k_is)
    (case mk_Go => k_is)
    (case kc_Go => k_is)
    (case pg_Keep => k_is)
    (case hd_Keep => k_is)
    (case po_Keep => k_is)
    (case sa_Keep => k_is)
    (case mk_Keep => k_is)
    (case kc_Keep => k_is)
    (case pg_Put => k_is)
    (case hd_Put => k_is)
    (case po_Put => k_is)
    (case sa_Put => k_is)
    (case mk_Put => k_is)
    (case kc_Put => k_is)
    (case pg_Ask => k_is)
    (case hd_Ask => k_is)
    (case po_Ask => k_is)
    (case sa_Ask => k_is)
    (case mk_Ask => k_is)
    (case kc_Ask => k_is)
    (case io_Go => k_is)
    (case as_Go => k_is)
    (case as_Keep => k_is)
    (case as_Put => k_is)
    (case nf_Keep_question => k_is)
    (case nf_Put_k => k_is)
    (case nf_Put_amount => k_is)
    (case nf_Ask_k => k_is)
    (case nf_Ask_low => k_is)
    (case nf_Ask_high => k_is)
    (case z_len => k_is); (case z_isinstance => k_is); (case z_int => k_is); (case z_bool => k_is); (case z_tuple => k_is); (case z_range => k_is); (case z_list => k_is); (case z_sum => k_is); (case z_str => k_is); (case z_enumerate => k_is); (case z_zip => k_is); (case z_min => k_is); (case z_max => k_is)
